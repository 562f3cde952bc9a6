/- Out of: X16, Lw, L35, K1. -/
import Derived.Test.YtpekpdimdelncaaGreatDoorP33
import Derived.Test.YtpekpdimdelncaaGreatDoorP16
import Derived.Test.YtpekpdimdelncaaGreatDoorP29
import Derived.Test.YtpekpdimdelncaaGreatDoorP30
set_option linter.unusedSimpArgs false
set_option linter.unusedVariables false
namespace Go.Proofs.YtpekpdimdelncaaGreatDoor
section
set_option maxRecDepth 100000
set_option maxHeartbeats 1000000
open Go.RowKit
theorem readerT_all (s:ByteArray) (pb:Nat) (hs:s.size≤200) (hpb:8≤pb):∀ n,CTT s pb n 0 89∧CTT s pb n 1 131∧CTT s pb n 2 173∧CTT s pb n 3 212:=by
 have hs':s.size≤281474976710656:=by omega
 intro n
 induction n using Nat.strongRecOn with
 |ind n ih =>
  cases n with
  |zero =>
   refine ⟨?_,?_,?_,?_⟩
   all_goals
    intro deep its i hi hd hits hfuel
    simp [Lard.nd] at hfuel
  |succ n =>
   have ih':∀ m,m≤n→_:=fun m hm=>ih m (by omega)
   exact ⟨ruleT_step s pb n hs' hpb (ih' n (Nat.le_refl _)).2.1,sumT_step s pb n hs' hpb (fun m hm=>(ih' m hm).2.2.1),termT_step s pb n hs' hpb (fun m hm=>(ih' m hm).2.2.2),factorT_step s pb n hs hpb (fun m hm=>(ih' m hm).1) (ih' n (Nat.le_refl _)).2.2.2⟩
def Lard.ruleT (l:List UInt8):Option Lard.T :=
 if 200 < l.length then none
 else match Lard.PT l (8 * l.length + 5) 0 0 0 (Lard.skip l 0) [] with
  |.ok (j,ts)=>if (Lard.tok (l.drop j)).1=0 then ts.head? else none
  |.error _=>none
def PostPT (w:World) (o:Option Lard.T) (c i:Nat) (e:Ending) (w':World):Prop :=
 (∃ q,e=.returned (.tuple #[.pointer q,.int .i64 (c:Int),.int .i64 (i:Int)])∧∀ t,o=some t→c=0∧i=0∧∃ a,q=some a∧TreeAt w' t a)∧Below w.heap.size w w'
theorem parseT_long (s:ByteArray) (w:World) (hs:200 < s.size) (hmax:s.size≤9223372036854775807):Calls Tryz.prog 54 #[.string s] w (PostPT w (Lard.ruleT s.data.toList) (Lard.check s.data.toList).1 (Lard.check s.data.toList).2):=by
 have h1:Lard.ruleT s.data.toList=none:=by rw [Lard.ruleT,if_pos (by simpa using hs)]
 have h2:Lard.check s.data.toList=(2,0):=by rw [Lard.check,if_pos (by simpa using hs)]
 rw [h1,h2]
 refine (parse_long s w hs hmax).mono ?_
 rintro e w' ⟨⟨q,rfl⟩,hB⟩
 exact ⟨⟨q,rfl,fun t ht=>by cases ht⟩,hB⟩
theorem doorT_panic (w0 w:World) (b c i:Nat) (tmps:Array Value) (t2:tmps[2]?.getD undef=.pointer (some ⟨b,0,none⟩)) (t3:tmps[3]?.getD undef=.pointer (some ⟨b + 1,0,none⟩)) (t4:tmps[4]?.getD undef=.pointer (some ⟨b + 1 + 1,0,none⟩)) (q:Option Addr) (v1 v2:Int) (hb:b + 1 + 1 < w.heap.size)
  (c0:w.cell? ⟨b,0,none⟩=some (.pointer q)) (c1:w.cell? ⟨b + 1,0,none⟩=some (.int .i64 v1)) (c2:w.cell? ⟨b + 1 + 1,0,none⟩=some (.int .i64 v2))
  (z0:w.frozen? ⟨b,0,none⟩=false) (z1:w.frozen? ⟨b + 1,0,none⟩=false) (z2:w.frozen? ⟨b + 1 + 1,0,none⟩=false) (hB:Below w0.heap.size w0 w) (hb0:w0.heap.size≤b) :
  Leaves Tryz.prog Tryz.f54 tmps (PostPT w0 none c i) [{ target:=Target.fn (Fn.func 87) #[.pointer (some ⟨b,0,none⟩),.pointer (some ⟨b + 1,0,none⟩),.pointer (some ⟨b + 1 + 1,0,none⟩)],args:=#[] }] (.panicking [{ v:=.iface 179 (.agg #[.int .i64 (c:Int),.int .i64 (i:Int)]),recovered:=false }]) w:=by
 refine leaves_cons (f:=87) (args:=#[.pointer (some ⟨b,0,none⟩),.pointer (some ⟨b + 1,0,none⟩),.pointer (some ⟨b + 1 + 1,0,none⟩)]) (by simp) (by simp [go_sem]) ?_
 refine (parse_catch b c i w (.pointer q) ⟨q,rfl⟩ v1 v2 hb c0 c1 c2 z0 z1 z2).mono ?_
 rintro e u' w' ⟨rfl,rfl,d0,d1,d2,hB'⟩
 refine ⟨.tuple #[.pointer none,.int .i64 (c:Int),.int .i64 (i:Int)],?_,⟨none,rfl,fun t ht=>by cases ht⟩,hB.trans (hB'.mono hb0)⟩
 simp [results,Tryz.results54,go_sem,t2,t3,t4,d0,d1,d2]
theorem doorT_idle (w0 w:World) (b c i:Nat) (tmps:Array Value) (t2:tmps[2]?.getD undef=.pointer (some ⟨b,0,none⟩)) (t3:tmps[3]?.getD undef=.pointer (some ⟨b + 1,0,none⟩)) (t4:tmps[4]?.getD undef=.pointer (some ⟨b + 1 + 1,0,none⟩)) (q:Addr) (t:Lard.T) (ht:TreeAt w t q)
  (c0:w.cell? ⟨b,0,none⟩=some (.pointer (some q))) (c1:w.cell? ⟨b + 1,0,none⟩=some (.int .i64 (c:Int))) (c2:w.cell? ⟨b + 1 + 1,0,none⟩=some (.int .i64 (i:Int))) (hB:Below w0.heap.size w0 w) (hc:c=0) (hi:i=0) :
  Leaves Tryz.prog Tryz.f54 tmps (PostPT w0 (some t) c i) [{ target:=Target.fn (Fn.func 87) #[.pointer (some ⟨b,0,none⟩),.pointer (some ⟨b + 1,0,none⟩),.pointer (some ⟨b + 1 + 1,0,none⟩)],args:=#[] }] .returning w:=by
 refine leaves_cons (f:=87) (args:=#[.pointer (some ⟨b,0,none⟩),.pointer (some ⟨b + 1,0,none⟩),.pointer (some ⟨b + 1 + 1,0,none⟩)]) (by simp) (by simp [go_sem]) ?_
 refine (parse_idle _ _ _ w).mono ?_
 rintro e u' w' ⟨rfl,rfl,rfl⟩
 refine ⟨.tuple #[.pointer (some q),.int .i64 (c:Int),.int .i64 (i:Int)],?_,⟨some q,rfl,fun t' ht'=>by cases ht'; exact ⟨hc,hi,q,rfl,ht⟩⟩,hB⟩
 simp [results,Tryz.results54,go_sem,t2,t3,t4,c0,c1,c2]
theorem parseT_short (s:ByteArray) (w:World) (g:G w) (hs:s.size≤200):Calls Tryz.prog 54 #[.string s] w (PostPT w (Lard.ruleT s.data.toList) (Lard.check s.data.toList).1 (Lard.check s.data.toList).2):=by
 have hmf:∀ (fn:Fn) (first cap:Array Value) (w:World),(Instr.makeFunc fn first cap).run Tryz.prog w=.ok (.func fn first cap) w:=fun _ _ _ _=>rfl
 have hB0:Below w.heap.size w (((w.alloc (Obj.cells #[Value.pointer none] 121)).alloc (Obj.cells #[Value.int IntKind.i64 0] 39)).alloc (Obj.cells #[Value.int IntKind.i64 0] 3)):=(((Below.refl _ _).alloc (Nat.le_refl _) _).alloc (by simp) _).alloc (by simp; omega) _
 have g0:=g.below hB0 g.size
 have hi0:Lard.skip s.data.toList 0≤s.size:=by have:=Lard.skip_le s.data.toList 0 (Nat.zero_le _); simpa using this
 have hck:Lard.check s.data.toList=Lard.endOf s.data.toList (Lard.P s.data.toList (8 * s.data.toList.length + 5) 0 0 0 (Lard.skip s.data.toList 0)):=by
  rw [Lard.check,if_neg (by simp; omega)]
 generalize hi0e:Lard.skip s.data.toList 0=i0 at hi0 hck
 have hru:Lard.ruleT s.data.toList=match Lard.PT s.data.toList (8 * s.data.toList.length + 5) 0 0 0 (Lard.skip s.data.toList 0) [] with
   |.ok (j,ts)=>if (Lard.tok (s.data.toList.drop j)).1=0 then ts.head? else none
   |.error _=>none:=by
  rw [Lard.ruleT,if_neg (by simp; omega)]
 rw [hi0e] at hru
 have hread:=fun pb hpb=>(readerT_all s pb hs hpb (8 * s.data.toList.length + 5)).1 0 0 i0 hi0 (by omega) (Nat.le_refl _) (by simp [Lard.nd]; omega)
 have HI0:=hide hi0e
 clear hi0e
 rw [←Lard.place_PT s.data.toList _ _ _ _ _ []] at hck
 generalize hre:Lard.PT s.data.toList (8 * s.data.toList.length + 5) 0 0 0 i0 []=r at hck hread hru
 have hrj:∀ j ts,r=.ok (j,ts)→j≤s.size:=fun j ts hj=>(PT_in rfl (hre.trans hj) hi0).2
 clear hre
 generalize Lard.check s.data.toList=ck at hck
 generalize Lard.ruleT s.data.toList=ru at hru
 have HRU:=hide hru
 clear hru
 have HCK:=hide hck
 have HREAD:=hide hread
 clear hck hread
 go_enter_defers Tryz.func54,Tryz.ntmps54
 go_wp2_with fail
 refine (tokenAt_int s 0 0 _ rfl g0 (by omega) (Nat.zero_le _)).mono ?_
 rw [HI0.out]
 rintro e w1 ⟨rfl,hb1⟩
 obtain ⟨hc,hf⟩:=bcell hb1
 have hz:w.heap.size + 1 + 1 < w1.heap.size:=by have:=hb1.size; simp at this; omega
 have hB1:Below w.heap.size w w1:=hB0.trans (hb1.mono (by simp; omega))
 have n0:w1.cell? ⟨w.heap.size,0,none⟩=some (.pointer none):=by rw [hc _ _ (by simp; omega)]; simp [go_sem]
 have n1:w1.cell? ⟨w.heap.size + 1,0,none⟩=some (.int .i64 0):=by rw [hc _ _ (by simp)]; simp [go_sem]
 have n2:w1.cell? ⟨w.heap.size + 1 + 1,0,none⟩=some (.int .i64 0):=by rw [hc _ _ (by simp)]; simp [go_sem]
 have m0:w1.frozen? ⟨w.heap.size,0,none⟩=false:=by rw [hf _ _ (by simp; omega)]; simp [go_sem]
 have m1:w1.frozen? ⟨w.heap.size + 1,0,none⟩=false:=by rw [hf _ _ (by simp)]; simp [go_sem]
 have m2:w1.frozen? ⟨w.heap.size + 1 + 1,0,none⟩=false:=by rw [hf _ _ (by simp)]; simp [go_sem]
 have hpb:8≤w1.heap.size:=by have:=g.size; omega
 have hP:∀ v,isV (s.data.toList.drop i0)=v→PAt (w1.alloc (.cells #[.string s,.int .i64 ((Lard.tok (s.data.toList.drop i0)).1:Int),.string (s.extract i0 (i0 + (Lard.tok (s.data.toList.drop i0)).2)),.int .i64 (i0:Int),v,.int .i64 0,.int .i64 0] 183)) s w1.heap.size i0 0 0:=fun v hv=>by
  subst hv; exact heap_alloc_new _ _
 have HP:=hide hP
 clear hc hf hP g0 hB0 hb1 
 have hform:=isV_form (s.data.toList.drop i0)
 unfold tokV
 generalize hv:isV (s.data.toList.drop i0)=v at hform
 have HV:=hide hv
 clear hv
 rcases hform with rfl | ⟨t,x,rfl⟩
 all_goals
  go_wp2_with fail
  refine (HREAD.out _ hpb _ ((g.below hB1 g.size).below ((Below.refl _ _).alloc (Nat.le_refl _) _) hpb) (HP.out _ HV.out)).mono ?_
  rintro e w2 hp
  have f2:=hp.1
  have hz2:w1.heap.size < w2.heap.size:=by have:=f2.size; simp at this; omega
  have hB2:Below w1.heap.size w1 w2:=⟨f2.os,f2.tape,f2.output,by omega,fun k hk=>(f2.block k (by simp; omega) (fun e=>by injection e; omega)).trans (Below.heap_alloc _ _ k hk)⟩
  have hB02:Below w.heap.size w w2:=hB1.trans (hB2.mono (by omega))
  have n0':w2.cell? ⟨w.heap.size,0,none⟩=some (.pointer none):=(hB2.cell (p:=⟨w.heap.size,0,none⟩) (by show w.heap.size < _; omega)).trans n0
  have n1':w2.cell? ⟨w.heap.size + 1,0,none⟩=some (.int .i64 0):=(hB2.cell (p:=⟨w.heap.size + 1,0,none⟩) (by show w.heap.size + 1 < _; omega)).trans n1
  have n2':w2.cell? ⟨w.heap.size + 1 + 1,0,none⟩=some (.int .i64 0):=(hB2.cell (p:=⟨w.heap.size + 1 + 1,0,none⟩) hz).trans n2
  have m0':w2.frozen? ⟨w.heap.size,0,none⟩=false:=(hB2.frozen (p:=⟨w.heap.size,0,none⟩) (by show w.heap.size < _; omega)).trans m0
  have m1':w2.frozen? ⟨w.heap.size + 1,0,none⟩=false:=(hB2.frozen (p:=⟨w.heap.size + 1,0,none⟩) (by show w.heap.size + 1 < _; omega)).trans m1
  have m2':w2.frozen? ⟨w.heap.size + 1 + 1,0,none⟩=false:=(hB2.frozen (p:=⟨w.heap.size + 1 + 1,0,none⟩) hz).trans m2
  clear n0 n1 n2 m0 m1 m2 HP HV HREAD
 all_goals rcases r with x | ⟨j,ts⟩
 all_goals try
   obtain ⟨_,rfl⟩:=PostT.err hp
   have hck:ck=x:=HCK.out
   have hru:ru=none:=HRU.out
   subst hck
   subst hru
   exact doorT_panic w w2 w.heap.size ck.1 ck.2 _ rfl rfl rfl none 0 0 (by omega) n0' n1' n2' m0' m1' m2' hB02 (Nat.le_refl _)
 all_goals
   obtain ⟨_,⟨q,t,rfl,rfl,ht2⟩,h2⟩:=PostT.ok hp
   have hjs:=hrj j _ rfl
   have hne:¬ w.heap.size=w1.heap.size:=by omega
   obtain ⟨d0,d1,d2,d3,d4,d5,d6,df⟩:=h2.cells
   have hck:ck=if (Lard.tok (s.data.toList.drop j)).1=0 then (0,0) else (3,j):=HCK.out
   have hru:ru=if (Lard.tok (s.data.toList.drop j)).1=0 then some t else none:=HRU.out
   have hlo:w1.heap.size + 1≤(w1.alloc (Obj.cells #[] 183)).heap.size:=by simp
   have HT2:=hide ht2
   clear hp hrj HCK f2 HRU ht2
   by_cases hk0:(Lard.tok (s.data.toList.drop j)).1=0
   ·rw [if_pos hk0] at hck hru
    subst hck
    subst hru
    have hk0':(((Lard.tok (s.data.toList.drop j)).1:Int) != 0)=false:=by rw [hk0]; rfl
    go_wp2_with fail
    refine doorT_idle w _ w.heap.size 0 0 _ rfl rfl rfl q t ?_ (by simp [go_sem,n0']) (by simp [go_sem,n1']) (by simp [go_sem,n2']) ?_ rfl rfl
    ·have ht:=HT2.out
     refine (ht _ ?_)
     intro k hk _ cs t' fz hc _
     have hk':w1.heap.size + 1≤k:=by simpa using hk
     repeat' first | exact hc | refine (Below.heap_setCell _ _ _ k (by show k≠_; simp; omega)).trans ?_
    ·repeat' (first | exact hB02 | exact Nat.le_refl _ | exact Nat.le_add_right _ _ | exact Nat.le_trans (Nat.le_add_right _ 1) (Nat.le_add_right _ 1) | apply Below.setCell)
   ·rw [if_neg hk0] at hck hru
    subst hck
    subst hru
    have hk0':(((Lard.tok (s.data.toList.drop j)).1:Int) != 0)=true:=by rw [bne_iff_ne]; omega
    go_wp2_with fail
    refine (refuse_any s w1.heap.size j 0 0 3 _ (h2.other hne _ _)).mono ?_
    rintro e w3 ⟨rfl,rfl⟩
    exact doorT_panic w _ w.heap.size 3 j _ rfl rfl rfl (some q) 0 0 (by simp [World.setCell]; omega) (by simp [go_sem,n0']) (by simp [go_sem,n1']) (by simp [go_sem,n2']) (by simp [go_sem,m0']) (by simp [go_sem,m1']) (by simp [go_sem,m2']) (hB02.setCell (p:=⟨w.heap.size,0,none⟩) (Nat.le_refl _) _) (Nat.le_refl _)
theorem parseT_any (s:ByteArray) (w:World) (g:G w) (hmax:s.size≤9223372036854775807):Calls Tryz.prog 54 #[.string s] w (PostPT w (Lard.ruleT s.data.toList) (Lard.check s.data.toList).1 (Lard.check s.data.toList).2):=by
 by_cases hs:200 < s.size
 ·exact parseT_long s w hs hmax
 ·exact parseT_short s w g (by omega)
end
namespace Lard
theorem first_congr {E E':T→Nat→Pe V} {t:T} (hk:t.parts.length=partsOf t.kind) (h0:t.kind≠2∧t.kind≠3∧t.kind≠4) (h:∀ u∈t.parts,∀ f,E u f=E' u f) (f:Nat):firstP E t f=firstP E' t f:=by
 have hp:∀ i,i < partsOf t.kind→∀ f,E (t.part i) f=E' (t.part i) f:=fun i hi f=>by
  rw [←hk] at hi
  unfold T.part
  rw [List.getElem?_eq_getElem hi]
  exact h _ (List.getElem_mem hi) f
 have p0:0 < partsOf t.kind:=by
  unfold partsOf
  split
  ·omega
  ·split
   ·omega
   ·split
    ·omega
    ·omega
 unfold firstP
 rw [hp 0 p0]
 congr 1
 funext v f
 split
 ·rename_i h1
  have:1 < partsOf t.kind:=by
   unfold partsOf
   rw [if_pos (by omega)]
   omega
  rw [hp 1 this]
 ·split
  ·rfl
  ·split
   ·rfl
   ·split
    ·rename_i h9
     have e:partsOf t.kind=3:=by rw [h9]; rfl
     rw [hp 2 (by omega),hp 1 (by omega)]
    ·rfl
theorem seq_congr {α:Type} {E E':α→Nat→Pe V}:∀ (l:List α) (acc:List V) (f:Nat),(∀ a∈l,∀ f,E a f=E' a f)→seqP E l acc f=seqP E' l acc f
 |[],_,_,_=>rfl
 |a :: r,acc,f,h=>by
  unfold seqP
  rw [h a List.mem_cons_self]
  congr 1
  funext v f
  exact seq_congr r _ f (fun a ha=>h a (List.mem_cons_of_mem _ ha))
theorem okT_parts {n:Nat} {b:Bool} {t:T} (h:okT (n + 1) b t=true):1≤t.kind∧t.kind≤16∧(t.kind=8∨t.parts.length=partsOf t.kind)∧(t.kind=15∨t.kind=16→okT n b (t.part 0)=true∧okT n true (t.part 1)=true)∧(¬ (t.kind=15∨t.kind=16)→∀ u∈t.parts,okT n b u=true):=by
 unfold okT at h
 simp only [Bool.and_eq_true,decide_eq_true_eq,Bool.or_eq_true,beq_iff_eq] at h
 obtain ⟨⟨⟨⟨⟨⟨⟨⟨h1,h2⟩,h3⟩,h4⟩,h5⟩,h6⟩,h7⟩,h8⟩,h9⟩:=h
 refine ⟨h1,h2,h3,fun hk=>?_,fun hk u hu=>?_⟩
 ·rw [if_pos hk] at h9
  simpa using h9
 ·rw [if_neg hk] at h9
  exact List.all_eq_true.1 h9 u hu
theorem tr_high:∀ (n m:Nat) (b:Bool) (t:T) (it:Option V) (f:Nat),okT n b t=true→n≤m→tr m t it f=tr n t it f
 |0,m,b,t,it,f,h,_=>by unfold okT at h; cases h
 |n + 1,0,b,t,it,f,h,hm=>by omega
 |n + 1,m + 1,b,t,it,f,h,hm=>by
  obtain ⟨h1,h2,h3,h4,h5⟩:=okT_parts h
  have hp:¬ (t.kind=15∨t.kind=16)→∀ u∈t.parts,∀ it f,tr m u it f=tr n u it f:=fun hk u hu it f=>tr_high n m b u it f (h5 hk u hu) (by omega)
  unfold tr
  by_cases k1:t.kind=1
  ·rw [if_pos k1,if_pos k1]
   exact first_congr (by omega) (by omega) (fun u hu f=>hp (by omega) u hu it f) f
  rw [if_neg k1,if_neg k1]
  by_cases kf:f=0
  ·rw [if_pos kf,if_pos kf]
  rw [if_neg kf,if_neg kf]
  by_cases k2:t.kind=2
  ·rw [if_pos k2,if_pos k2]
  rw [if_neg k2,if_neg k2]
  by_cases k3:t.kind=3
  ·rw [if_pos k3,if_pos k3]
  rw [if_neg k3,if_neg k3]
  by_cases k4:t.kind=4
  ·rw [if_pos k4,if_pos k4]
  rw [if_neg k4,if_neg k4]
  by_cases k14:t.kind=14
  ·rw [if_pos k14,if_pos k14]
   have hl:t.parts.length=2:=by rcases h3 with h3 | h3; omega; rw [h3,k14]; rfl
   have hq:∀ i,i < 2→∀ it f,tr m (t.part i) it f=tr n (t.part i) it f:=fun i hi it f=>by
    unfold T.part
    rw [List.getElem?_eq_getElem (by omega)]
    exact hp (by omega) _ (List.getElem_mem (by omega)) it f
   rw [hq 0 (by omega)]
   congr 1
   funext f
   exact hq 1 (by omega) it f
  rw [if_neg k14,if_neg k14]
  by_cases k15:t.kind=15
  ·rw [if_pos k15,if_pos k15]
   obtain ⟨a,c⟩:=h4 (.inl k15)
   rw [tr_high n m b _ it _ a (by omega)]
   congr 1
   funext v f
   cases listIn v with
   |error e=>rfl
   |ok l=>exact seq_congr l [] f (fun u _ f=>tr_high n m true _ _ f c (by omega))
  rw [if_neg k15,if_neg k15]
  by_cases k16:t.kind=16
  ·rw [if_pos k16,if_pos k16]
   obtain ⟨a,c⟩:=h4 (.inr k16)
   rw [tr_high n m b _ it _ a (by omega)]
   congr 1
   funext v f
   cases listIn v with
   |error e=>rfl
   |ok l =>
    have:(fun (u:V) f=>tr m (t.part 1) (some u) f)=fun u f=>tr n (t.part 1) (some u) f:=by
     funext u f
     exact tr_high n m true _ _ f c (by omega)
    simp only [this]
  rw [if_neg k16,if_neg k16]
  by_cases k8:t.kind=8
  ·rw [if_pos k8,if_pos k8]
   exact seq_congr _ _ _ (fun u hu f=>hp (by omega) u hu it f)
  rw [if_neg k8,if_neg k8]
  exact first_congr (by omega) (by omega) (fun u hu f=>hp (by omega) u hu it f) _
def ans (N0:By→Option Wo) (k:By) (b:Bool):Wo×Bool :=
 match N0 k with
 |some u=>(u,b)
 |none=>(.error 7,false)
theorem rn_ans {e:Src} {N0:By→Option Wo} (hN:∀ k u,N0 k=some u→W e k u):∀ (p:Pg Wo) (b:Bool),(p.run (ans N0) b).2=true→(p.run (ans N0) b).1≠.error 12→b=true∧Rn (W e) p (p.run (ans N0) b).1
 |⟨.inl w⟩,b,h,h12=>⟨h,rfl,h12⟩
 |⟨.inr (k,c)⟩,b,h,h12=>by
  have e1:(⟨.inr (k,c)⟩:Pg Wo).run (ans N0) b=(c (ans N0 k b).1).run (ans N0) (ans N0 k b).2:=rfl
  rw [e1] at h h12 ⊢
  cases hk:N0 k with
  |none =>
   have e2:ans N0 k b=(.error 7,false):=by unfold ans; rw [hk]
   rw [e2] at h h12
   obtain ⟨h3,_⟩:=rn_ans hN (c (.error 7)) false h h12
   cases h3
  |some u =>
   have e2:ans N0 k b=(u,b):=by unfold ans; rw [hk]
   rw [e2] at h h12 ⊢
   obtain ⟨h3,h4⟩:=rn_ans hN (c u) b h h12
   exact ⟨h3,u,hN k u hk,h4⟩
theorem w_ev {e:Src} {N0:By→Option Wo} (hN:∀ k u,N0 k=some u→W e k u) {key:By} {t:T} {n:Nat} (hk:e key=some (.inr t)) (hok:okT n false t=true) (hn:n≤hM t) {w:Wo} {f:Nat} (h:ev (ans N0) n t none (400,true)=(w,(f,true))) (h12:w≠.error 12):W e key w:=by
 have h1:(prog t).run (ans N0) true=(w,true):=by
  unfold prog
  rw [tr_high n (hM t) false t none 400 hok hn,Pg.run_worth]
  have h2:=ev_tr (ans N0) n t none 400 true
  rw [h] at h2
  unfold flat at h2
  have h3:=congrArg Prod.fst h2
  have h4:=congrArg (fun q=>q.2.2) h2
  simp only at h3 h4
  rw [←h3,←h4]
 refine W.rule hk ?_
 have:=rn_ans hN (prog t) true (by rw [h1]) (by rw [h1]; exact h12)
 rw [h1] at this
 exact this.2
end Lard
section
set_option maxRecDepth 100000
set_option maxHeartbeats 1000000
open Go.RowKit Go.Shelf
def Lard.LS.putC (s:Lard.LS) (key text:List UInt8):Nat×Lard.LS :=
 if Lard.isName key=false then (1,s) else match Lard.rdV text with
  |none=>(6,s)
  |some v=>s.give key ⟨v,none,[],none⟩
theorem LPost0.new {w w1 w':World} {lb p:Nat} {s:Lard.LS} {L:Nat→Prop} (hB:Below w.heap.size w w1) (hp:w.heap.size≤p) (h:LPost0 w1 lb (fun k=>L k∨k=p) s w'):LPost0 w lb L s w':=by
 obtain ⟨L',h1,h2,h3,h4⟩:=h
 refine ⟨L',h1,fun k hk=>?_,fun k hk=>h3 k (.inl hk),⟨h4.os.trans hB.os,h4.tape.trans hB.tape,h4.output.trans hB.output,Nat.le_trans hB.size h4.size,fun k hk hn=>?_⟩⟩
 ·rcases h2 k hk with (h | rfl) | h
  ·exact .inl h
  ·exact .inr hp
  ·have:=hB.size
   exact .inr (by omega)
 ·have:=hB.size
  exact (h4.block k (by omega) (fun e=>by rcases e with e | e; exact hn e; omega)).trans (hB.block k hk)
theorem LPost0.below {w w':World} {lb:Nat} {s:Lard.LS} {L:Nat→Prop} (h:LAt w lb s L) (hB:Below w.heap.size w w'):LPost0 w lb L s w':=(LPost.below h hB).weak
theorem name_len {k:List UInt8} (h:Lard.isName k=true):k.length≤8:=by
 unfold Lard.isName at h
 simp only [Bool.and_eq_true,beq_iff_eq] at h
 obtain ⟨h1,h2⟩:=h
 cases k with
 |nil=>cases h1
 |cons c r =>
  rw [Lard.tok_cons (c :: r) c r rfl] at h1 h2
  split at h1
  ·split at h1 <;> cases h1
  ·rename_i hd
   rw [if_neg hd] at h2
   split at h1
   ·rename_i hl
    rw [if_pos hl] at h2
    split at h1
    ·cases h1
    ·rename_i ht
     rw [if_neg ht] at h2
     split at h1
     ·cases h1
     ·rename_i h8
      rw [if_neg h8] at h2
      have h2:Lard.lead Lard.isAl (c :: r)=(c :: r).length:=h2
      omega
   ·rename_i hl
    split at h1
    ·cases hw:Lard.wordOf (c :: r) with
     |none=>rw [hw] at h1; cases h1
     |some n=>rw [hw] at h1; cases h1
    ·split at h1 <;> cases h1
theorem put_any (w:World) (lb:Nat) (key text:ByteArray) (s:Lard.LS) (L:Nat→Prop) (h:LAt w lb s L) (g:G w) (hd:Deb w) (hk:key.size≤281474976710656) (ht:text.size≤281474976710656) (hlen:s.has.length≤40) (hj:(jbytes s.jr).length≤70368744177664) :
  Calls Tryz.prog 23 #[ptr lb,.string key,.string text] w fun e w'=>e=.returned (.int .i64 ((s.putC key.data.toList text.data.toList).1:Nat))∧LPost0 w lb L (s.putC key.data.toList text.data.toList).2 w':=by
 have hN:=isName_any key w g hk
 cases hn:Lard.isName key.data.toList with
 |false =>
  have e:s.putC key.data.toList text.data.toList=(1,s):=by unfold Lard.LS.putC; rw [if_pos hn]
  rw [e]
  rw [hn] at hN
  have HN:=hide hN
  have HL:=hide h
  clear hN e hn h
  unfold ptr
  go_enter Tryz.func23,Tryz.ntmps23
  go_wp2_with fail
  refine HN.out.mono ?_
  rintro e w1 ⟨rfl,hB⟩
  go_wp2_with fail
  exact bodyPost_ret (v:=.int .i64 1) (by simp [results,Tryz.results23,go_sem]) rfl ⟨rfl,LPost0.below HL.out hB⟩
 |true =>
  rw [hn] at hN
  have hk8:key.size≤8:=by rw [size_data]; exact name_len hn
  have e0:s.putC key.data.toList text.data.toList=match Lard.rdV text.data.toList with | none=>(6,s) | some v=>s.give key.data.toList ⟨v,none,[],none⟩:=by
   unfold Lard.LS.putC
   rw [if_neg (by rw [hn]; exact fun e=>by cases e)]
  rw [e0]
  generalize hRR:(fun (e:Ending) (w':World)=>e=.returned (.int .i64 (((match Lard.rdV text.data.toList with | none=>(6,s) | some v=>s.give key.data.toList ⟨v,none,[],none⟩):Nat×Lard.LS).1:Nat))∧LPost0 w lb L ((match Lard.rdV text.data.toList with | none=>(6,s) | some v=>s.give key.data.toList ⟨v,none,[],none⟩):Nat×Lard.LS).2 w')=RR
  have HR6:Hid (Lard.rdV text.data.toList=none→∀ w',LPost0 w lb L s w'→RR (.returned (.int .i64 6)) w'):=hide (fun hv w' hP=>by
   rw [←hRR,hv]
   exact ⟨rfl,hP⟩)
  have HRV:Hid (∀ v,Lard.rdV text.data.toList=some v→∀ w',LPost0 w lb L (s.give key.data.toList ⟨v,none,[],none⟩).2 w'→RR (.returned (.int .i64 ((s.give key.data.toList ⟨v,none,[],none⟩).1:Nat))) w'):=hide (fun v hv w' hP=>by
   rw [←hRR,hv]
   exact ⟨rfl,hP⟩)
  clear hRR
  have hR:=fun (w1:World) (hB:Below w.heap.size w w1)=>read_any text w1 (g.below hB g.size) ht
  have HN:=hide hN
  have HR:=hide hR
  have HL:=hide (And.intro h (And.intro g hd))
  clear hN hR e0 hn h g hd
  unfold ptr
  go_enter Tryz.func23,Tryz.ntmps23
  go_wp2_with fail
  refine HN.out.mono ?_
  rintro e w1 ⟨rfl,hB1⟩
  have HR1:=hide (HR.out w1 hB1)
  clear HR HN
  go_wp2_with fail
  refine HR1.out.mono ?_
  rintro e w2 ⟨hB2,⟨v,tv,av,hv,rfl,hval⟩ | ⟨hv,rfl⟩⟩
  ·have hB12:=hB1.trans (hB2.mono hB1.size)
   have hB3:Below w.heap.size w (w2.alloc (.cells #[.iface tv av,.pointer none,.string ⟨#[]⟩,.pointer none] 124)):=hB12.alloc hB12.size _
   obtain ⟨h,g,hd⟩:=HL.out
   have hA3:LAt (w2.alloc (.cells #[.iface tv av,.pointer none,.string ⟨#[]⟩,.pointer none] 124)) lb s L:=h.st (fun k hk=>hB3.block k (h.typed k hk).2.1) (Stay.below hB3)
   have hnew:=heap_alloc_new w2 (.cells #[.iface tv av,.pointer none,.string ⟨#[]⟩,.pointer none] 124)
   have hsz:=hB12.size
   have hv3:=hval.keeps (Keeps.below ((Below.refl _ w2).alloc (Nat.le_refl _) (.cells #[.iface tv av,.pointer none,.string ⟨#[]⟩,.pointer none] 124)))
   have hG:=give_any _ lb w2.heap.size key s L ⟨v,none,[],none⟩ hA3 (g.below hB3 g.size) (hd.below hB3 g.size) hk8 (fun hl=>by have:=(h.typed _ hl).2.1; omega) (Nat.le_trans g.size hsz) ⟨_,_,_,hnew,.inr rfl,by simp,.inl ⟨rfl,rfl,hv3,rfl⟩,.inl ⟨rfl,rfl⟩⟩ hlen hj
   unfold ptr at hG
   have HG:=hide hG
   clear hG hv3 hA3 h g hd HR1 hval hnew
   go_wp2_with fail
   refine HG.out.mono ?_
   rintro e w4 ⟨rfl,hP⟩
   have HP:=hide (HRV.out v hv _ (LPost0.new hB3 hsz hP))
   clear hP HG HR6 HRV
   go_wp2_with fail
   exact HP.out
  ·have HP:=hide (HR6.out hv _ (LPost0.below HL.out.1 (hB1.trans (hB2.mono hB1.size))))
   clear HL HR1 HR6 HRV
   go_wp2_with fail
   exact HP.out
/-! Rules. -/
theorem IsTree.lower {w:World}:∀ (m n:Nat) (b:Bool) (t:Lard.T) (x:Value),Lard.okT m b t=true→IsTree w n t x→IsTree w m t x
 |0,n,b,t,x,h,_=>by unfold Lard.okT at h; cases h
 |m + 1,0,b,t,x,_,h=>h.elim
 |m + 1,n + 1,b,t,x,h,⟨b',i,s,qs,fz,h1,h2,h3,h4,h5,h6⟩=>by
  obtain ⟨_,_,k3,k4,k5⟩:=Lard.okT_parts h
  refine ⟨b',i,s,qs,fz,h1,h2,h3,h4,h5,fun j u q hu hq=>?_⟩
  have hx:=h6 j u q hu hq
  by_cases hk:t.kind=15∨t.kind=16
  ·have hl:t.parts.length=2:=by
    rcases k3 with k3 | k3
    ·omega
    ·rw [k3]; rcases hk with hk | hk <;> rw [hk] <;> rfl
   obtain ⟨a0,a1⟩:=k4 hk
   have hj:=(List.getElem?_eq_some_iff.1 hu).1
   have hj2:j=0∨j=1:=by omega
   rcases hj2 with rfl | rfl
   ·have:t.part 0=u:=by unfold Lard.T.part; rw [hu]; rfl
    rw [this] at a0
    exact IsTree.lower m n b u q a0 hx
   ·have:t.part 1=u:=by unfold Lard.T.part; rw [hu]; rfl
    rw [this] at a1
    exact IsTree.lower m n true u q a1 hx
  ·exact IsTree.lower m n b u q (k5 hk u (List.mem_of_getElem? hu)) hx
theorem hT_mono {n m:Nat} (h:n≤m):Lard.hT n≤Lard.hT m:=by
 induction h with
 |refl=>exact Nat.le_refl _
 |step _ ih=>exact Nat.le_trans ih (by show _≤Lard.hT _ + _ + 2; omega)
theorem ruleT_ok {l:List UInt8} {t:Lard.T} (h:Lard.ruleT l=some t):l.length≤200∧t=Lard.treeOf l∧Lard.okT (Lard.hM t) false t=true:=by
 unfold Lard.ruleT at h
 split at h
 ·cases h
 ·rename_i hl
  have hl':l.length≤200:=by omega
  split at h
  ·rename_i j ts hpt
   split at h
   ·obtain ⟨h1,_,_⟩:=Lard.PT_ok l hl' (8 * l.length + 5)
    obtain ⟨_,_,t',hts,hok⟩:=h1 0 0 0 (Lard.skip l 0) [] j ts (by omega) (Lard.skip_le l 0 (Nat.zero_le _)) hpt
    subst hts
    simp at h
    subst h
    refine ⟨hl',?_,?_⟩
    ·unfold Lard.treeOf
     rw [hpt]
     rfl
    ·have hh:Lard.hT (8 * l.length + 5)≤Lard.hM t':=by
      unfold Lard.hM
      rw [Nat.zero_mul,Nat.add_zero]
      exact hT_mono (by omega)
     exact Lard.okT_le hok hh
   ·cases h
  ·cases h
theorem set_ok (w:World) (lb:Nat) (key text:ByteArray) (s:Lard.LS) (L:Nat→Prop) (t:Lard.T) (h:LAt w lb s L) (g:G w) (hd:Deb w) (hn:Lard.isName key.data.toList=true) (ht:Lard.ruleT text.data.toList=some t) (hlen:s.has.length≤40) (hj:(jbytes s.jr).length≤70368744177664) :
  Calls Tryz.prog 25 #[ptr lb,.string key,.string text] w fun e w'=>e=.returned (.tuple #[.int .i64 ((s.give key.data.toList ⟨Lard.vn 0,some t,text.data.toList,none⟩).1:Nat),.int .i64 0])∧LPost0 w lb L (s.give key.data.toList ⟨Lard.vn 0,some t,text.data.toList,none⟩).2 w':=by
 obtain ⟨hl200,-,hok⟩:=ruleT_ok ht
 have hk8:key.size≤8:=by rw [size_data]; exact name_len hn
 have hN:=isName_any key w g (by omega)
 rw [hn] at hN
 have htz:text.size≤200:=by rw [size_data]; exact hl200
 have hR:=fun (w1:World) (hB:Below w.heap.size w w1)=>parseT_any text w1 (g.below hB g.size) (by omega)
 rw [ht] at hR
 generalize hRR:(fun (e:Ending) (w':World)=>e=.returned (.tuple #[.int .i64 ((s.give key.data.toList ⟨Lard.vn 0,some t,text.data.toList,none⟩).1:Nat),.int .i64 0])∧LPost0 w lb L (s.give key.data.toList ⟨Lard.vn 0,some t,text.data.toList,none⟩).2 w')=RR
 have HRR:=hide hRR
 have HN:=hide hN
 have HR:=hide hR
 have HL:=hide (And.intro h (And.intro g hd))
 clear hN hR hn h g hd hRR ht
 unfold ptr
 go_enter Tryz.func25,Tryz.ntmps25
 go_wp2_with fail
 refine HN.out.mono ?_
 rintro e w1 ⟨rfl,hB1⟩
 have HR1:=hide (HR.out w1 hB1)
 clear HR HN
 go_wp2_with fail
 refine HR1.out.mono ?_
 rintro e w2 ⟨⟨q,rfl,hq⟩,hB2⟩
 obtain ⟨hc0,hi0,a,rfl,n,htree⟩:=hq t rfl
 rw [hc0,hi0]
 have htr:=IsTree.lower _ _ _ _ _ hok htree
 obtain ⟨tb,htb⟩:=tree_ptr htr
 unfold ptr at htb
 cases htb
 have hB12:=hB1.trans (hB2.mono hB1.size)
 have hB3:Below w.heap.size w (w2.alloc (.cells #[.nilIface,.pointer (some ⟨tb,0,none⟩),.string text,.pointer none] 124)):=hB12.alloc hB12.size _
 obtain ⟨h,g,hd⟩:=HL.out
 have hA3:LAt (w2.alloc (.cells #[.nilIface,.pointer (some ⟨tb,0,none⟩),.string text,.pointer none] 124)) lb s L:=h.st (fun k hk=>hB3.block k (h.typed k hk).2.1) (Stay.below hB3)
 have hnew:=heap_alloc_new w2 (.cells #[.nilIface,.pointer (some ⟨tb,0,none⟩),.string text,.pointer none] 124)
 have hsz:=hB12.size
 have ht3:=htr.keeps (Keeps.below ((Below.refl _ w2).alloc (Nat.le_refl _) (.cells #[.nilIface,.pointer (some ⟨tb,0,none⟩),.string text,.pointer none] 124)))
 have hstr:str text.data.toList=.string text:=str_bytes text
 have hG:=give_any _ lb w2.heap.size key s L ⟨Lard.vn 0,some t,text.data.toList,none⟩ hA3 (g.below hB3 g.size) (hd.below hB3 g.size) hk8 (fun hl=>by have:=(h.typed _ hl).2.1; omega) (Nat.le_trans g.size hsz) ⟨_,_,_,by rw [hstr]; exact hnew,.inr rfl,hl200,.inr ⟨t,_,rfl,rfl,rfl,hok,ht3⟩,.inl ⟨rfl,rfl⟩⟩ hlen hj
 unfold ptr at hG
 have HG:=hide hG
 clear hG ht3 htr htree hA3 h g hd HR1 hnew hq
 go_wp2_with fail
 refine HG.out.mono ?_
 rintro e w4 ⟨rfl,hP⟩
 have HP:Hid (RR (.returned (.tuple #[.int .i64 ((s.give key.data.toList ⟨Lard.vn 0,some t,text.data.toList,none⟩).1:Nat),.int .i64 0])) w4):=hide (by
  rw [←HRR.out]
  exact ⟨rfl,LPost0.new hB3 hsz hP⟩)
 clear hP HG HRR
 go_wp2_with fail
 exact HP.out
end
section
set_option maxRecDepth 100000
set_option maxHeartbeats 1000000
open Go.RowKit Go.Shelf
structure Ld (B:Nat) (w0 w:World) (lb:Nat) (s:Lard.LS) (N:Nat):Prop where
 lat:∃ L,LAt w lb s L∧∀ k,L k→B≤k
 bel:Below B w0 w
 g:G w
 deb:Deb w
 base:B≤w0.heap.size
 b8:8≤B
 sound:Lard.Sound s
 jr:(jbytes s.jr).length≤N
theorem Ld.below {B:Nat} {w0 w w':World} {lb:Nat} {s:Lard.LS} {N:Nat} (h:Ld B w0 w lb s N) (hB:Below w.heap.size w w'):Ld B w0 w' lb s N:=by
 obtain ⟨L,hA,hL⟩:=h.lat
 exact {
  lat:=⟨L,hA.st (fun k hk=>hB.block k (hA.typed k hk).2.1) (Stay.below hB),hL⟩
  bel:=h.bel.trans (hB.mono (Nat.le_trans h.base h.bel.size))
  g:=h.g.below hB h.g.size
  deb:=h.deb.below hB h.g.size
  base:=h.base
  b8:=h.b8
  sound:=h.sound
  jr:=h.jr }
theorem Ld.le {B:Nat} {w0 w:World} {lb:Nat} {s:Lard.LS} {N M:Nat} (h:Ld B w0 w lb s N) (hM:N≤M):Ld B w0 w lb s M:={ h with jr:=Nat.le_trans h.jr hM }
theorem Ld.post {B:Nat} {w0 w w':World} {lb:Nat} {s s':Lard.LS} {N M:Nat} (h:Ld B w0 w lb s N) {L:Nat→Prop} (hA:LAt w lb s L) (hL:∀ k,L k→B≤k) (hP:LPost0 w lb L s' w') (hs:Lard.Sound s') (hj:(jbytes s'.jr).length≤M):Ld B w0 w' lb s' M:=by
 obtain ⟨L',h1,h2,h3,h4⟩:=hP
 have hsz:B≤w.heap.size:=Nat.le_trans h.base h.bel.size
 have hb:Below B w w':=⟨h4.os,h4.tape,h4.output,h4.size,fun k hk=>h4.block k (by omega) (fun hl=>by have:=hL k hl; omega)⟩
 exact {
  lat:=⟨L',h1,fun k hk=>by
   rcases h2 k hk with h | h
   ·exact hL k h
   ·omega⟩
  bel:=h.bel.trans hb
  g:=h.g.below hb h.b8
  deb:=h.deb.below hb h.b8
  base:=h.base
  b8:=h.b8
  sound:=hs
  jr:=hj }
theorem lat_new (w:World) (h8:8≤w.heap.size):LAt (((w.alloc (.map #[] 0)).alloc (.map #[] 0)).alloc (.cells #[.map (some w.heap.size),.map (some (w.heap.size + 1)),.slice none 0 0,.slice none 0 0,.slice none 0 0,.slice none 0 0] 108)) (w.heap.size + 1 + 1) Lard.LS.new (fun k=>w.heap.size≤k∧k≤w.heap.size + 2):=by
 have e2:(((w.alloc (.map #[] 0)).alloc (.map #[] 0)).alloc (.cells #[.map (some w.heap.size),.map (some (w.heap.size + 1)),.slice none 0 0,.slice none 0 0,.slice none 0 0,.slice none 0 0] 108)).heap[w.heap.size + 1 + 1]? = some (.cells #[.map (some w.heap.size),.map (some (w.heap.size + 1)),.slice none 0 0,.slice none 0 0,.slice none 0 0,.slice none 0 0] 108 (0,0)):=by
  have:=heap_alloc_new ((w.alloc (.map #[] 0)).alloc (.map #[] 0)) (.cells #[.map (some w.heap.size),.map (some (w.heap.size + 1)),.slice none 0 0,.slice none 0 0,.slice none 0 0,.slice none 0 0] 108)
  rw [World.size_alloc,World.size_alloc] at this
  exact this
 have m0:MapAt (((w.alloc (.map #[] 0)).alloc (.map #[] 0)).alloc (.cells #[.map (some w.heap.size),.map (some (w.heap.size + 1)),.slice none 0 0,.slice none 0 0,.slice none 0 0,.slice none 0 0] 108)) w.heap.size []:=by
  refine (mapAt_new w).same ?_
  rw [Below.heap_alloc _ _ _ (by simp; omega),Below.heap_alloc _ _ _ (by simp)]
 have m1:MapAt (((w.alloc (.map #[] 0)).alloc (.map #[] 0)).alloc (.cells #[.map (some w.heap.size),.map (some (w.heap.size + 1)),.slice none 0 0,.slice none 0 0,.slice none 0 0,.slice none 0 0] 108)) (w.heap.size + 1) []:=by
  have:=mapAt_new (w.alloc (.map #[] 0))
  rw [World.size_alloc] at this
  refine this.same ?_
  rw [Below.heap_alloc _ _ _ (by simp)]
 refine ⟨w.heap.size,w.heap.size + 1,_,_,_,_,{
  blk:=e2
  here:=⟨by omega,by omega⟩
  ne:=by omega
  has:=⟨[],rfl,m0,by simp,(fun x hx=>by cases hx),(fun x hx=>by cases hx),⟨by omega,by omega⟩⟩
  done:=⟨[],rfl,m1,(fun x hx=>by cases hx),⟨by omega,by omega⟩⟩
  begun:=⟨rfl,.inl ⟨rfl,rfl⟩⟩
  ring:=⟨rfl,.inl ⟨rfl,rfl⟩⟩
  ran:=⟨rfl,.inl ⟨rfl,rfl⟩⟩
  jr:=⟨rfl,.inl ⟨rfl,rfl⟩⟩
  mine:=fun g hg=>by rcases hg with hg | hg | hg | hg <;> cases hg
  apart:=fun g hg=>by cases hg
  rnil:=fun _=>rfl
  typed:=fun k hk=>?_ }⟩
 refine ⟨by omega,?_⟩
 have hk3:k=w.heap.size∨k=w.heap.size + 1∨k=w.heap.size + 1 + 1:=by omega
 rcases hk3 with rfl | rfl | rfl
 ·exact .inl m0.isMap
 ·exact .inl m1.isMap
 ·exact .inr ⟨_,_,_,e2,.inl rfl⟩
theorem new_any (w:World):Calls Tryz.prog 16 #[] w fun e w'=>e=.returned (ptr (w.heap.size + 1 + 1))∧w'=((w.alloc (.map #[] 0)).alloc (.map #[] 0)).alloc (.cells #[.map (some w.heap.size),.map (some (w.heap.size + 1)),.slice none 0 0,.slice none 0 0,.slice none 0 0,.slice none 0 0] 108):=by
 have h1:∀ w,(Instr.makeMap 104 none).run Tryz.prog w=.ok (.map (some w.heap.size)) (w.alloc (.map #[] 0)):=fun w=>by kernel_rfl
 have h2:∀ w,(Instr.makeMap 105 none).run Tryz.prog w=.ok (.map (some w.heap.size)) (w.alloc (.map #[] 0)):=fun w=>by kernel_rfl
 unfold ptr
 go_enter Tryz.func16,Tryz.ntmps16
 go_wp2_with fail
 go_ret
 exact ⟨rfl,rfl⟩
theorem ld_new (B:Nat) (w0 w:World) (hB:Below B w0 w) (hb:B≤w0.heap.size) (g:G w) (hd:Deb w) (h8:8≤B):Calls Tryz.prog 16 #[] w fun e w'=>∃ lb,e=.returned (ptr lb)∧Ld B w0 w' lb Lard.LS.new 0∧Below w.heap.size w w':=by
 refine (new_any w).mono ?_
 rintro e w' ⟨rfl,rfl⟩
 have hsz:B≤w.heap.size:=Nat.le_trans hb hB.size
 have hBw:Below w.heap.size w (((w.alloc (.map #[] 0)).alloc (.map #[] 0)).alloc (.cells #[.map (some w.heap.size),.map (some (w.heap.size + 1)),.slice none 0 0,.slice none 0 0,.slice none 0 0,.slice none 0 0] 108)):=(((Below.refl _ w).alloc (Nat.le_refl _) _).alloc (by simp) _).alloc (by simp; omega) _
 refine ⟨_,rfl,{
  lat:=⟨_,lat_new w (by omega),fun k hk=>by omega⟩
  bel:=hB.trans (hBw.mono hsz)
  g:=g.below hBw g.size
  deb:=hd.below hBw g.size
  base:=hb
  b8:=h8
  sound:=Lard.Sound.new
  jr:=Nat.le_refl _ },hBw⟩
end
end Go.Proofs.YtpekpdimdelncaaGreatDoor
