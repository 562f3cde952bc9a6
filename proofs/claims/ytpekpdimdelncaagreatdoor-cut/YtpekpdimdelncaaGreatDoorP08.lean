/- Out of: V15, U1, Cn, W4, W5, U2. -/
import Derived.Test.YtpekpdimdelncaaGreatDoorP05
import Derived.RangeFuncNested
import Derived.RangeFuncBound
import Derived.RangeFuncCalls
import Derived.RangeFuncLeaves
import Derived.Shelf.Abstract
import Derived.OwnWalkIn
import Derived.TacticsInMore
import Derived.LoopNIn
import Derived.LoopIn
import Derived.Test.YtpekpdimdelncaaGreatDoorP02
set_option linter.unusedVariables false
namespace Go.Proofs.YtpekpdimdelncaaGreatDoor
section
set_option maxRecDepth 100000
set_option maxHeartbeats 1000000
open Go.RowKit
def PW (Φ:Except Nat Lard.V→World→Prop) (e:Ending) (w':World):Prop :=
 ∃ r,Φ r w'∧((∃ v y,r=.ok v∧e=.returned y∧IsVal w' 3 v y)∨(∃ c:Nat,r=.error c∧e=broken c∧0 < c∧c≤12))
theorem grown_set {w w':World} {b:Nat} (h:w.grownBy w' (some b)) (o:Nat) (v:Value):w.grownBy (w'.setCell ⟨b,o,none⟩ v) (some b) :=
 ⟨h.os,h.tape,h.output,by simp [World.setCell]; exact h.size,fun k hk hne=>by
  rw [←h.block k hk hne]
  have hkb:b≠k:=fun e=>hne (by rw [e])
  simp [World.setCell,Array.getElem?_modify,hkb]⟩
theorem keeps_grown {w w':World} {b:Nat} (h:w.grownBy w' (some b)) (hb:∀ cs t fz,w.heap[b]? = some (.cells cs t fz)→¬ Imm t):Keeps w w':=fun k cs t fz hk ht =>
 (h.block k (lt_of_some hk) (fun e=>by cases e; exact hb cs t fz hk ht)).trans hk
theorem worked_idle (p0:Addr) (w:World) :
  CallsD Tryz.prog 244 #[.pointer (some p0)] .returning w fun e u' w'=>e=.returned (.tuple #[])∧u'=.returning∧w'=w:=by
 refine callsD_of_wpS Tryz.func244 rfl fun c₀ cs hu=>?_
 apply wpS_seq
 apply wpS_region
 simp [wpOpsS,go_sem,recoverD,hu,Tryz.ntmps244,Exit.thenS]
 refine wpS_of_wp ?_
 have ht:(#[Value.pointer (some p0)]++((Array.replicate 13 undef).setIfInBounds 4 Value.nilIface).setIfInBounds 0 Value.nilIface)=#[Value.pointer (some p0),Value.nilIface,undef,undef,undef,Value.nilIface,undef,undef,undef,undef,undef,undef,undef,undef]:=rfl
 rw [ht]
 clear ht
 go_wp2_with fail
 cases c₀
 simp_all [bodyPostS,results,Tryz.results244]
theorem worked_catch (b c:Nat) (w:World) (v1:Int) (y1:Value)
  (c0:w.cell? ⟨b,0,none⟩=some (.int .i64 v1)) (c1:w.cell? ⟨b,1,none⟩=some y1)
  (z0:w.frozen? ⟨b,0,none⟩=false) (z1:w.frozen? ⟨b,1,none⟩=false) :
  CallsD Tryz.prog 244 #[.pointer (some ⟨b,0,none⟩)] (.panicking [{ v:=.iface 324 (.int .i64 (c:Int)),recovered:=false }]) w fun e u' w' =>
   e=.returned (.tuple #[])∧u'=.panicking [{ v:=.iface 324 (.int .i64 (c:Int)),recovered:=true }]∧w'.cell? ⟨b,0,none⟩=some (.int .i64 (c:Int))∧w'.cell? ⟨b,1,none⟩=some .nilIface∧w.grownBy w' (some b):=by
 have hta:∀ (a:Value) (w:World),(Instr.typeAssert (.iface 324 a) 20 324 true).run Tryz.prog w=.ok (.tuple #[a,.bool true]) w:=fun _ _=>by kernel_rfl
 refine callsD_of_wpS Tryz.func244 rfl fun c₀ cs hu=>?_
 apply wpS_seq
 apply wpS_region
 simp [wpOpsS,go_sem,recoverD,hu,Tryz.ntmps244,Exit.thenS]
 refine wpS_of_wp ?_
 generalize hv:Value.iface 324 (.int .i64 (c:Int))=vv
 have ht:(#[Value.pointer (some ⟨b,0,none⟩)]++((Array.replicate 13 undef).setIfInBounds 4 vv).setIfInBounds 0 vv)=#[Value.pointer (some ⟨b,0,none⟩),vv,undef,undef,undef,vv,undef,undef,undef,undef,undef,undef,undef,undef]:=rfl
 rw [ht]
 clear ht
 subst hv
 go_wp2_with fail
 refine ⟨rfl,_,rfl,.tuple #[],by simp [results,Tryz.results244],rfl,rfl,?_,?_,?_⟩
 ·simp [go_sem,c0]
 ·simp [go_sem,c1]
 ·exact grown_set (grown_set (World.grownBy.refl _ _) _ _) _ _
theorem door_broken (w:World) (b c:Nat) (tmps:Array Value) (R:Ending→World→Prop) (t1:tmps[2]?.getD undef=.pointer (some ⟨b,0,none⟩)) (v1:Int) (y1:Value)
  (c0:w.cell? ⟨b,0,none⟩=some (.int .i64 v1)) (c1:w.cell? ⟨b,1,none⟩=some y1) (z0:w.frozen? ⟨b,0,none⟩=false) (z1:w.frozen? ⟨b,1,none⟩=false)
  (hR:∀ w',w.grownBy w' (some b)→R (.returned (.agg #[.int .i64 (c:Int),.nilIface])) w') :
  Leaves Tryz.prog Tryz.f201 tmps R [{ target:=Target.fn (Fn.func 244) #[.pointer (some ⟨b,0,none⟩)],args:=#[] }] (.panicking [{ v:=.iface 324 (.int .i64 (c:Int)),recovered:=false }]) w:=by
 refine leaves_cons (f:=244) (args:=#[.pointer (some ⟨b,0,none⟩)]) (by simp) (by simp [go_sem]) ?_
 refine (worked_catch b c w v1 y1 c0 c1 z0 z1).mono ?_
 rintro e u' w' ⟨rfl,rfl,d0,d1,hg⟩
 refine ⟨.agg #[.int .i64 (c:Int),.nilIface],?_,hR w' hg⟩
 simp [results,Tryz.results201,go_sem,t1,d0,d1]
theorem door_well (w:World) (b:Nat) (y:Value) (tmps:Array Value) (R:Ending→World→Prop) (t1:tmps[2]?.getD undef=.pointer (some ⟨b,0,none⟩))
  (c0:w.cell? ⟨b,0,none⟩=some (.int .i64 0)) (c1:w.cell? ⟨b,1,none⟩=some y)
  (hR:R (.returned (.agg #[.int .i64 0,y])) w) :
  Leaves Tryz.prog Tryz.f201 tmps R [{ target:=Target.fn (Fn.func 244) #[.pointer (some ⟨b,0,none⟩)],args:=#[] }] .returning w:=by
 refine leaves_cons (f:=244) (args:=#[.pointer (some ⟨b,0,none⟩)]) (by simp) (by simp [go_sem]) ?_
 refine (worked_idle _ w).mono ?_
 rintro e u' w' ⟨rfl,rfl,rfl⟩
 refine ⟨.agg #[.int .i64 0,y],?_,hR⟩
 simp [results,Tryz.results201,go_sem,t1,c0,c1]
theorem worked_any (F:Nat) (hF:F=202∨F=277) (cap:Array Value) (w:World) (Φ:Except Nat Lard.V→World→Prop)
  (HC:Calls Tryz.prog F cap (w.alloc (.cells #[.int .i64 0,.nilIface] 113)) fun e w'=>w'.heap[w.heap.size]? = some (.cells #[.int .i64 0,.nilIface] 113 (0,0))∧PW Φ e w') :
  Calls Tryz.prog 201 #[.func (.func F) #[] cap] w fun e w'=>∃ r x w2,e=.returned x∧Φ r w2∧w2.grownBy w' (some w.heap.size)∧IsW w' r x:=by
 have H:=hide HC
 clear HC
 rcases hF with rfl | rfl
 all_goals
  go_enter_defers Tryz.func201,Tryz.ntmps201
  go_wp2_with fail
  refine H.out.mono ?_
  rintro e w2 ⟨hblk,r,hΦ,⟨v,y,rfl,rfl,hval⟩ | ⟨c,rfl,rfl,hc0,hc1⟩⟩
 all_goals
  have hlt:w.heap.size < w2.heap.size:=lt_of_some hblk
  have d0:w2.cell? ⟨w.heap.size,0,none⟩=some (.int .i64 0):=by simp [World.cell?,hblk]
  have d1:w2.cell? ⟨w.heap.size,1,none⟩=some .nilIface:=by simp [World.cell?,hblk]
  have z0:w2.frozen? ⟨w.heap.size,0,none⟩=false:=by simp [World.frozen?,hblk]
  have z1:w2.frozen? ⟨w.heap.size,1,none⟩=false:=by simp [World.frozen?,hblk]
  clear H
 ·obtain ⟨t,a,rfl⟩:=hval.one
  have HV:=hide hval
  have HBLK:=hide hblk
  clear hval hblk
  go_wp2_with fail
  have hg:=grown_set (grown_set (World.grownBy.refl w2 (some w.heap.size)) 0 (.int .i64 0)) 1 (.iface t a)
  refine door_well _ w.heap.size (.iface t a) _ _ rfl (by simp [go_sem,d0]) (by simp [go_sem,d1]) ⟨.ok v,_,w2,rfl,hΦ,hg,.inl ⟨v,_,rfl,rfl,HV.out.keeps (keeps_grown hg fun cs t fz h=>?_)⟩⟩
  rw [HBLK.out] at h
  cases h
  rintro (h | h | h) <;> cases h
 ·exact door_broken w2 w.heap.size c _ _ rfl 0 .nilIface d0 d1 z0 z1 fun w' hg=>⟨.error c,_,w2,rfl,hΦ,hg,.inr ⟨c,rfl,rfl,hc0,hc1⟩⟩
 ·obtain ⟨t,a,rfl⟩:=hval.one
  have HV:=hide hval
  have HBLK:=hide hblk
  clear hval hblk
  go_wp2_with fail
  have hg:=grown_set (grown_set (World.grownBy.refl w2 (some w.heap.size)) 0 (.int .i64 0)) 1 (.iface t a)
  refine door_well _ w.heap.size (.iface t a) _ _ rfl (by simp [go_sem,d0]) (by simp [go_sem,d1]) ⟨.ok v,_,w2,rfl,hΦ,hg,.inl ⟨v,_,rfl,rfl,HV.out.keeps (keeps_grown hg fun cs t fz h=>?_)⟩⟩
  rw [HBLK.out] at h
  cases h
  rintro (h | h | h) <;> cases h
 ·exact door_broken w2 w.heap.size c _ _ rfl 0 .nilIface d0 d1 z0 z1 fun w' hg=>⟨.error c,_,w2,rfl,hΦ,hg,.inr ⟨c,rfl,rfl,hc0,hc1⟩⟩
end
section
set_option maxRecDepth 100000
set_option maxHeartbeats 1000000
open Go.RowKit Go.Shelf
def RunAt (w:World) (rb:Nat) (tree y tc ti:Value) (f:Nat) (wc wi:Value):Prop :=
 w.heap[rb]? = some (.cells #[tree,y,tc,ti,.int .i64 (f:Int),wc,wi] 291 (0,0))
theorem need_any (rb l f:Nat) (tree tc ti wc wi:Value) (key:ByteArray) (w:World) (Φ:Except Nat Lard.V→World→Prop) (hR:RunAt w rb tree (.func (.yield l) #[] #[]) tc ti f wc wi)
  (hy:YieldAt Fence.wide 0 Tryz.prog l #[.string key] w fun e w'=>e=.returned (.bool true)∧∃ r c i,IsW w' r (.agg #[c,i])∧RunAt w' rb tree (.func (.yield l) #[] #[]) c i f wc wi∧Φ r w') :
  Calls Tryz.prog 246 #[.pointer (some ⟨rb,0,none⟩),.string key] w (PW fun r w'=>∃ w2,Φ r w2∧Below w2.heap.size w2 w'):=by
 refine (callsIn_wide (n:=0)).1 ?_
 have c1:w.cell? ⟨rb,1,none⟩=some (.func (.yield l) #[] #[]):=by rw [RunAt] at hR; simp [World.cell?,hR]
 obtain ⟨fn,tmps,assign,body,hyr,hRound⟩:=hy
 refine callsIn_of_wp Tryz.func246 rfl trivial ?_
 simp only [Tryz.ntmps246,List.size_toArray,List.length_cons,List.length_nil,Nat.reduceAdd,Nat.reduceSub,Array.replicate_succ,Array.replicate_zero,List.push_toArray,List.append_toArray,List.nil_append,List.cons_append]
 gi_wp2_with fail
 refine ⟨rfl,hRound.mono ?_⟩
 rintro e w1 ⟨rfl,r,c,i,hW,hR1,hΦ⟩
 have d2:w1.cell? ⟨rb,2,none⟩=some c:=by rw [RunAt] at hR1; simp [World.cell?,hR1]
 have d3:w1.cell? ⟨rb,3,none⟩=some i:=by rw [RunAt] at hR1; simp [World.cell?,hR1]
 have hc:=take_worth w1 hW
 have hpos:∀ c,r=.error c→0 < c∧c≤12:=fun c' hc'=>by
  subst hc'
  rcases hW with ⟨v,y,h,_⟩ | ⟨c2,h,_,h1,h2⟩
  ·cases h
  ·cases h; exact ⟨h1,h2⟩
 have hform:(∃ ci,c=.int .i64 ci)∧(i=.nilIface∨∃ t a,i=.iface t a):=by
  obtain ⟨c',y',he,hy'⟩:=hW.form
  cases he
  exact ⟨⟨_,rfl⟩,hy'⟩
 obtain ⟨⟨ci,rfl⟩,hi⟩:=hform
 have HC:=hide hc
 clear hc hW hR hRound hyr hR1 c1
 rcases hi with rfl | ⟨t,a,rfl⟩
 all_goals
  gi_wp2_with fail
  refine ⟨trivial,rfl,(callsIn_wide.2 HC.out).mono ?_⟩
  rintro e w2 ⟨hB,hok,herr⟩
  cases r with
  |error e =>
   obtain rfl:=herr e rfl
   exact ⟨rfl,.error e,⟨w1,hΦ,hB⟩,.inr ⟨e,rfl,rfl,(hpos e rfl).1,(hpos e rfl).2⟩⟩
  |ok v =>
   obtain ⟨y,rfl,hval⟩:=hok v rfl
   obtain ⟨t',a',rfl⟩:=hval.one
   have HV:=hide hval
   clear hval hok herr HC
   gi_wp2_with fail
   go_ret
   exact ⟨.ok v,⟨w1,hΦ,hB⟩,.inl ⟨v,_,rfl,rfl,HV.out⟩⟩
end
namespace Lard
def Sp {α:Type}:Pe α→Nat→Prop
 |⟨.inl q⟩,f=>q.2≤f
 |⟨.inr (_,c)⟩,f=>1≤f∧∀ w,Sp (c w) (f - 1)
theorem Sp.le {α:Type}:∀ (p:Pe α) {f g:Nat},Sp p f→f≤g→Sp p g
 |⟨.inl q⟩,f,g,h,hg=>Nat.le_trans h hg
 |⟨.inr (_,c)⟩,f,g,h,hg=>⟨Nat.le_trans h.1 hg,fun w=>Sp.le (c w) (h.2 w) (by omega)⟩
theorem sp_then {α β:Type} (d:Nat):∀ (p:Pe α) (k:α→Nat→Pe β) (f:Nat),Sp p f→(∀ v f',Sp (k v f') (f' + d))→Sp (thenP p k) (f + d)
 |⟨.inl (.ok a,f')⟩,k,f,h,hk=>(hk a f').le _ (by have:f'≤f:=h; omega)
 |⟨.inl (.error e,f')⟩,k,f,h,hk=>by
  show f'≤f + d
  have:f'≤f:=h
  omega
 |⟨.inr (q,c)⟩,k,f,h,hk=>by
  refine ⟨by have:=h.1; omega,fun w=>?_⟩
  have:=sp_then d (c w) k (f - 1) (h.2 w) hk
  have h1:=h.1
  rw [show f + d - 1=f - 1 + d by omega]
  exact this
theorem sp_try:∀ (p:Pe V) (k:Nat→Pe V) (f:Nat),Sp p f→(∀ f',Sp (k f') f')→Sp (tryP p k) f
 |⟨.inl (.ok a,f')⟩,k,f,h,hk=>h
 |⟨.inl (.error e,f')⟩,k,f,h,hk=>by
  unfold tryP
  simp only [Pg.bind]
  by_cases he:e=7∨e=8∨e=9∨e=10
  ·rw [if_pos he]; exact (hk f').le _ h
  ·rw [if_neg he]; exact h
 |⟨.inr (q,c)⟩,k,f,h,hk=>⟨h.1,fun w=>sp_try (c w) k (f - 1) (h.2 w) hk⟩
theorem sp_seq {α:Type} (P:α→Nat→Pe V) (hP:∀ a f,Sp (P a f) f):∀ (l:List α) (acc:List V) (f:Nat),Sp (seqP P l acc f) f
 |[],acc,f=>Nat.le_refl f
 |a :: r,acc,f=>sp_then 0 _ _ f (hP a f) fun v f=>sp_seq P hP r _ f
theorem sp_some (P:V→Nat→Pe V) (hP:∀ a f,Sp (P a f) f):∀ (l:List V) (acc:List V) (f:Nat),Sp (someP P l acc f) f
 |[],acc,f=>Nat.le_refl f
 |a :: r,acc,f=>sp_then 0 _ _ f (hP a f) fun v f=>by
  cases h:numIn v with
  |ok i =>
   show Sp (if i=0 then _ else _) _
   by_cases h0:i=0
   ·rw [if_pos h0]; exact sp_some P hP r _ f
   ·rw [if_neg h0]; exact sp_some P hP r _ f
  |error e=>exact Nat.le_refl f
theorem sp_need (k:By) (f:Nat):Sp (needP k f) (f + 1):=⟨by omega,fun w=>by show f≤f + 1 - 1; omega⟩
theorem sp_first (P:T→Nat→Pe V) (hP:∀ a f,Sp (P a f) f) (t:T) (f:Nat):Sp (firstP P t f) (f + 1):=by
 unfold firstP
 refine sp_then 1 _ _ f (hP _ _) fun v f=>?_
 split
 ·exact (sp_then 0 _ (fun u f=>.ret (make t.op v u,f)) f (hP _ _) fun u f=>Nat.le_refl f).le _ (by omega)
 ·split
  ·exact Nat.le_succ f
  ·split
   ·split
    ·exact sp_need _ _
    ·exact Nat.le_succ f
   ·split
    ·split
     ·split
      ·exact (hP _ _).le _ (by omega)
      ·exact (hP _ _).le _ (by omega)
     ·exact Nat.le_succ f
    ·split
     ·exact Nat.le_succ f
     ·split
      ·exact Nat.le_succ f
      ·split
       ·exact Nat.le_succ f
       ·exact Nat.le_succ f
theorem sp_oper (P:T→Nat→Pe V) (hP:∀ a f,Sp (P a f) f) (t:T) (f:Nat) (h1:t.kind=1):Sp (firstP P t f) f:=by
 unfold firstP
 refine sp_then 0 _ _ f (hP _ _) fun v f=>?_
 rw [if_pos (.inl h1)]
 exact sp_then 0 _ (fun u f=>.ret (make t.op v u,f)) f (hP _ _) fun u f=>Nat.le_refl f
theorem sp_tr:∀ (n:Nat) (t:T) (it:Option V) (f:Nat),Sp (tr n t it f) f
 |0,_,_,f=>Nat.le_refl f
 |n + 1,t,it,f=>by
  unfold tr
  by_cases h1:t.kind=1
  ·rw [if_pos h1]; exact sp_oper _ (fun u f=>sp_tr n u it f) t f h1
  ·rw [if_neg h1]
   by_cases h0:f=0
   ·rw [if_pos h0]; exact Nat.le_refl f
   ·rw [if_neg h0]
    have e:f - 1 + 1=f:=by omega
    split
    ·exact Nat.sub_le f 1
    ·split
     ·have:=sp_need t.name (f - 1); rw [e] at this; exact this
     ·split
      ·exact Nat.sub_le f 1
      ·split
       ·exact (sp_try _ _ _ (sp_tr n _ _ _) fun f=>sp_tr n _ _ f).le _ (Nat.sub_le f 1)
       ·split
        ·refine (sp_then 0 _ _ (f - 1) (sp_tr n _ _ _) fun v f=>?_).le _ (Nat.sub_le f 1)
         split
         ·exact sp_seq _ (fun u f=>sp_tr n _ _ f) _ _ _
         ·exact Nat.le_refl f
        ·split
         ·refine (sp_then 0 _ _ (f - 1) (sp_tr n _ _ _) fun v f=>?_).le _ (Nat.sub_le f 1)
          split
          ·exact sp_some _ (fun u f=>sp_tr n _ _ f) _ _ _
          ·exact Nat.le_refl f
         ·split
          ·exact (sp_seq _ (fun u f=>sp_tr n _ _ f) _ _ _).le _ (Nat.sub_le f 1)
          ·have:=sp_first _ (fun u f=>sp_tr n u it f) t (f - 1); rw [e] at this; exact this
theorem sp_run {α σ:Type} (N:By→σ→Wo×σ) (cnt:σ→Nat) (hN:∀ k s,cnt (N k s).2≤cnt s + 1):∀ (p:Pe α) (f:Nat) (s:σ),Sp p f→cnt (p.run N s).2 + (p.run N s).1.2≤cnt s + f
 |⟨.inl q⟩,f,s,h=>Nat.add_le_add_left h _
 |⟨.inr (k,c)⟩,f,s,h=>by
  have h1:=sp_run N cnt hN (c (N k s).1) (f - 1) (N k s).2 (h.2 _)
  have h2:=hN k s
  have h3:=h.1
  show cnt ((c (N k s).1).run N (N k s).2).2 + ((c (N k s).1).run N (N k s).2).1.2≤_
  omega
theorem ev_cnt {σ:Type} (N:By→σ→Wo×σ) (cnt:σ→Nat) (hN:∀ k s,cnt (N k s).2≤cnt s + 1) (n:Nat) (t:T) (it:Option V) (st:Nat×σ):cnt (ev N n t it st).2.2 + (ev N n t it st).2.1≤cnt st.2 + st.1:=by
 obtain ⟨f,s⟩:=st
 rw [ev_tr]
 exact sp_run N cnt hN _ f s (sp_tr n t it f)
end Lard
section
set_option maxRecDepth 100000
set_option maxHeartbeats 1000000
open Go.RowKit
attribute [local go_sem] run_store_isV
def firstV (s:ByteArray):Value :=
 .agg #[.int .i64 ((Lard.tok s.data.toList).1:Int),.string (s.extract 0 (Lard.tok s.data.toList).2),.int .i64 0,isV s.data.toList]
theorem firstV_bad (s:ByteArray) (h:Lard.tok s.data.toList=(1,0)):badV=firstV s:=by
 simp [firstV,isV,h,badV]; rfl
theorem firstV_end (s:ByteArray) (h:Lard.tok s.data.toList=(0,0)):(.agg #[.int .i64 0,.string ⟨#[]⟩,.int .i64 0,.nilIface]:Value)=firstV s:=by
 simp [firstV,isV,h]; rfl
theorem firstV_sign (s:ByteArray) (h:Lard.tok s.data.toList=(6,1)):(.agg #[.int .i64 6,.string (s.extract 0 1),.int .i64 0,.nilIface]:Value)=firstV s:=by
 simp [firstV,isV,h]
theorem firstV_dig (s:ByteArray) (h:Lard.tok s.data.toList=if (Lard.numOf (s.data.toList.take (Lard.lead Lard.isDig s.data.toList))).isSome then (2,Lard.lead Lard.isDig s.data.toList) else (1,0)):digV s (Lard.numOf (s.data.toList.take (Lard.lead Lard.isDig s.data.toList)))=firstV s:=by
 cases ho:Lard.numOf (s.data.toList.take (Lard.lead Lard.isDig s.data.toList)) with
 |none =>
  rw [ho] at h
  exact firstV_bad s (by simpa using h)
 |some v =>
  rw [ho] at h
  simp only [Option.isSome_some,if_true] at h
  simp [firstV,isV,h,digV,ho]
theorem firstV_let (s:ByteArray) (h:Lard.tok s.data.toList=if Lard.termB (s.data.toList.take (Lard.lead Lard.isAl s.data.toList))=true then (5,Lard.lead Lard.isAl s.data.toList) else if 8 < Lard.lead Lard.isAl s.data.toList then (1,0) else (4,Lard.lead Lard.isAl s.data.toList)) :
  letV s (Lard.lead Lard.isAl s.data.toList) (Lard.termB (s.data.toList.take (Lard.lead Lard.isAl s.data.toList)))=firstV s:=by
 unfold letV
 split at h
 ·rename_i hb; rw [if_pos hb]; simp [firstV,isV,h]
 ·rename_i hb
  rw [if_neg hb]
  split at h
  ·rename_i h8; rw [if_pos h8]; exact firstV_bad s h
  ·rename_i h8; rw [if_neg h8]; simp [firstV,isV,h]
theorem firstV_word (s:ByteArray) (h:Lard.tok s.data.toList=Lard.wordTok (Lard.wordOf s.data.toList)):worV s (Lard.wordOf s.data.toList)=firstV s:=by
 cases ho:Lard.wordOf s.data.toList with
 |none=>rw [ho] at h; exact firstV_bad s h
 |some n =>
  rw [ho] at h
  simp only [firstV,isV,h,worV,Lard.wordTok]
  rw [Lib.extract_eq s 1 (n + 1)]
  simp
theorem firstToken_any (s:ByteArray) (w:World) (g:G w) (hs:s.size≤281474976710656) :
  Calls Tryz.prog 82 #[.string s] w fun e w'=>e=.returned (firstV s)∧Below w.heap.size w w':=by
 by_cases h0:s.size=0
 ·have hl:s.data.toList=[]:=by
   rw [←List.length_eq_zero_iff,←Lib.size_eq]; exact h0
  have he:s=ByteArray.empty:=by
   rw [←Lib.mk_data s,hl]; rfl
  have hv:=firstV_end s (by rw [hl]; rfl)
  subst he
  have HV:=hide hv
  clear hv hl h0
  go_enter Tryz.func82,Tryz.ntmps82
  go_wp2_with fail
  exact bodyPost_ret (v:=.agg #[.int .i64 0,.string ⟨#[]⟩,.int .i64 0,.nilIface]) (by simp [results,Tryz.results82,go_sem]) rfl ⟨by rw [HV.out],(Below.refl _ _).alloc (Nat.le_refl _) _⟩
 ·have h0':0 < s.size:=by omega
  obtain ⟨c,r,hl⟩:∃ c r,s.data.toList=c :: r:=by
   cases hl:s.data.toList with
   |nil=>exfalso; rw [Lib.size_eq,hl] at h0; exact h0 rfl
   |cons c r=>exact ⟨c,r,rfl⟩
  have hc0:s[0]=c:=by rw [Lard.getElem_data s 0 h0']; simp [hl]
  have hne:s.toList.isEmpty=false:=by rw [Lib.toList_data,hl]; rfl
  have hB0:Below w.heap.size w (w.alloc (Obj.cells #[Value.int IntKind.i64 0,Value.string { data:=#[] },Value.int IntKind.i64 0,Value.nilIface] 172)):=(Below.refl _ _).alloc (Nat.le_refl _) _
  have g0:=g.below hB0 g.size
  have ht:=Lard.tok_cons s.data.toList c r hl
  have HL:=hide hl
  have HC:=hide hc0
  clear hl hc0
  by_cases h1:Lard.isDig c=true
  ·have hv:=firstV_dig s (by rw [ht,if_pos h1])
   have hd:Lard.digB (s[0].toNat:Int)=true:=by rw [HC.out]; exact h1
   have HV:=hide hv
   clear ht hv h1
   go_enter Tryz.func82,Tryz.ntmps82
   go_wp2_with (go_at_call 118; refine (isDigit_any _ _).mono ?_; rintro e w' ⟨rfl,rfl⟩)
   refine (digitsToken_any s _ g0 hs _ rfl).mono ?_
   rintro e w1 ⟨rfl,hb⟩
   rw [HV.out]
   unfold firstV
   obtain ⟨hc,hf⟩:=bcell hb
   have hz:w.heap.size < w1.heap.size:=by have:=hb.size; simp at this; omega
   have hB:Below w.heap.size w w1:=hB0.trans (hb.mono (by simp))
   go_wp2_with fail
   exact bodyPost_ret (v:=firstV s) (by simp [results,Tryz.results82,go_sem,hc,firstV]) rfl ⟨rfl,set4 hB (Nat.le_refl _) _ _ _ _⟩
  ·have h1':Lard.isDig c=false:=by simpa using h1
   have hd:Lard.digB (s[0].toNat:Int)=false:=by rw [HC.out]; exact h1'
   rw [if_neg h1] at ht
   clear h1 h1'
   by_cases h2:Lard.isLet c=true
   ·have hv:=firstV_let s (by rw [ht,if_pos h2])
    have hd2:Lard.letB (s[0].toNat:Int)=true:=by rw [HC.out]; exact h2
    have HV:=hide hv
    clear ht hv h2
    go_enter Tryz.func82,Tryz.ntmps82
    go_wp2_with (first | (go_at_call 118; refine (isDigit_any _ _).mono ?_; rintro e w' ⟨rfl,rfl⟩) | (go_at_call 120; refine (isLetter_any _ _).mono ?_; rintro e w' ⟨rfl,rfl⟩))
    refine (letterToken_any s _ hs _ rfl).mono ?_
    rintro e w1 ⟨rfl,hb⟩
    rw [HV.out]
    unfold firstV
    obtain ⟨hc,hf⟩:=bcell hb
    have hz:w.heap.size < w1.heap.size:=by have:=hb.size; simp at this; omega
    have hB:Below w.heap.size w w1:=hB0.trans (hb.mono (by simp))
    go_wp2_with fail
    exact bodyPost_ret (v:=firstV s) (by simp [results,Tryz.results82,go_sem,hc,firstV]) rfl ⟨rfl,set4 hB (Nat.le_refl _) _ _ _ _⟩
   ·have h2':Lard.isLet c=false:=by simpa using h2
    have hd2:Lard.letB (s[0].toNat:Int)=false:=by rw [HC.out]; exact h2'
    rw [if_neg h2] at ht
    clear h2 h2'
    by_cases h3:c=39
    ·have hv:=firstV_word s (by rw [ht,if_pos h3])
     have hd3:((s[0].toNat:Int) == 39)=true:=by rw [HC.out,h3]; rfl
     have HV:=hide hv
     clear ht hv h3
     go_enter Tryz.func82,Tryz.ntmps82
     go_wp2_with (first | (go_at_call 118; refine (isDigit_any _ _).mono ?_; rintro e w' ⟨rfl,rfl⟩) | (go_at_call 120; refine (isLetter_any _ _).mono ?_; rintro e w' ⟨rfl,rfl⟩))
     refine (wordToken_any s _ hs _ rfl).mono ?_
     rintro e w1 ⟨rfl,hb⟩
     rw [HV.out]
     unfold firstV
     obtain ⟨hc,hf⟩:=bcell hb
     have hz:w.heap.size < w1.heap.size:=by have:=hb.size; simp at this; omega
     have hB:Below w.heap.size w w1:=hB0.trans (hb.mono (by simp))
     go_wp2_with fail
     exact bodyPost_ret (v:=firstV s) (by simp [results,Tryz.results82,go_sem,hc,firstV]) rfl ⟨rfl,set4 hB (Nat.le_refl _) _ _ _ _⟩
    ·have hd3:((s[0].toNat:Int) == 39)=false:=by
      rw [HC.out,beq_eq_false_iff_ne]
      intro e
      exact h3 (UInt8.toNat_inj.1 (by show c.toNat=39; omega))
     rw [if_neg h3] at ht
     clear h3
     have hix:=Tryz.strings_IndexByte ⟨#[40,41,91,93,123,125,44,43,45,42,47,60,61]⟩ (s[0].toNat:Int)
     have hcc:((s[0].toNat:Int)).toNat.toUInt8=c:=by rw [HC.out]; simp
     rw [hcc] at hix
     have HX:=hide hix
     clear hix hcc
     by_cases h4:Lard.signB c=true
     ·have hv:=firstV_sign s (by rw [ht,if_pos h4])
      have hd4:0≤Lib.indexByte [40,41,91,93,123,125,44,43,45,42,47,60,61] c:=by simpa [Lard.signB] using h4
      have HV:=hide hv
      clear ht hv h4
      go_enter Tryz.func82,Tryz.ntmps82
      go_wp2_with (first | (go_at_call 118; refine (isDigit_any _ _).mono ?_; rintro e w' ⟨rfl,rfl⟩) | (go_at_call 120; refine (isLetter_any _ _).mono ?_; rintro e w' ⟨rfl,rfl⟩))
      refine (HX.out _).mono ?_
      rintro e w' ⟨rfl,rfl⟩
      go_wp2_with fail
      exact bodyPost_ret (v:=.agg #[.int .i64 6,.string (s.extract 0 1),.int .i64 0,.nilIface]) (by simp [results,Tryz.results82,go_sem]) rfl ⟨by rw [HV.out],(Below.refl _ _).alloc (Nat.le_refl _) _⟩
     ·have hv:=firstV_bad s (by rw [ht,if_neg h4])
      have hd4:¬ 0≤Lib.indexByte [40,41,91,93,123,125,44,43,45,42,47,60,61] c:=by simpa [Lard.signB] using h4
      have HV:=hide hv
      clear ht hv h4
      go_enter Tryz.func82,Tryz.ntmps82
      go_wp2_with (first | (go_at_call 118; refine (isDigit_any _ _).mono ?_; rintro e w' ⟨rfl,rfl⟩) | (go_at_call 120; refine (isLetter_any _ _).mono ?_; rintro e w' ⟨rfl,rfl⟩))
      refine (HX.out _).mono ?_
      rintro e w' ⟨rfl,rfl⟩
      go_wp2_with fail
      exact bodyPost_ret (v:=badV) (by simp [results,Tryz.results82,go_sem,badV]) rfl ⟨by rw [HV.out],(Below.refl _ _).alloc (Nat.le_refl _) _⟩
end
section
set_option maxRecDepth 100000
set_option maxHeartbeats 1000000
open Go.RowKit
attribute [local go_sem] run_store_isV
theorem extract_tail (s:ByteArray) (i:Nat):(s.extract i s.size).data.toList=s.data.toList.drop i:=by
 rw [Lib.extract_data,List.take_of_length_le]
 rw [List.length_drop,←Lib.size_eq]; exact Nat.le_refl _
theorem extract_extract (s:ByteArray) (i n:Nat):(s.extract i s.size).extract 0 n=s.extract i (i + n):=by
 rw [Lib.extract_eq (s.extract i s.size),extract_tail,Lib.extract_eq s i (i + n),List.drop_zero,Nat.sub_zero,Nat.add_sub_cancel_left]
theorem firstV_tail (s:ByteArray) (i:Nat):firstV (s.extract i s.size)=.agg #[.int .i64 ((Lard.tok (s.data.toList.drop i)).1:Int),.string (s.extract i (i + (Lard.tok (s.data.toList.drop i)).2)),.int .i64 0,isV (s.data.toList.drop i)]:=by
 unfold firstV
 rw [extract_tail,extract_extract]
theorem tokenAt_any (s:ByteArray) (a:Nat) (w:World) (g:G w) (hs:s.size≤281474976710656) (ha:a≤s.size) :
  Calls Tryz.prog 88 #[.string s,.int .i64 a] w fun e w'=>e=.returned (tokV s (Lard.skip s.data.toList a))∧Below w.heap.size w w':=by
 have hB0:Below w.heap.size w (w.alloc (Obj.cells #[Value.int IntKind.i64 0,Value.string { data:=#[] },Value.int IntKind.i64 0,Value.nilIface] 172)):=(Below.refl _ _).alloc (Nat.le_refl _) _
 have g0:=g.below hB0 g.size
 go_enter Tryz.func88,Tryz.ntmps88
 go_wp2_with fail
 go_loop [1] (fun i=>∃ k:Nat,k≤s.size∧i=.int .i64 k∧Hid (Lard.skip s.data.toList k=Lard.skip s.data.toList a)) (fun i=>s.size - (intOf i).toNat)
 case atStart=>exact ⟨a,ha,rfl,rfl⟩
 case round =>
  obtain ⟨k,hk,rfl,hl⟩:=hrel
  by_cases hlt:k < s.size
  ·have GE:=hide (Lard.getElem_data s k hlt)
   have hln:k < s.data.toList.length:=by simpa using hlt
   by_cases hb:((s[k].toNat:Int) == 32)=true
   ·have HS:=hide (Lard.skip_step s.data.toList k hln (by rw [←GE.out]; exact hb))
    go_wp2_with fail
    exact ⟨⟨k + 1,by omega,by go_num,HS.out.trans hl⟩,by simp [intOf]; omega⟩
   ·have hb':((s[k].toNat:Int) == 32)=false:=by simpa using hb
    have HS:=hide (Lard.skip_stop s.data.toList k (fun _=>by rw [←GE.out]; exact hb'))
    clear hb
    go_wp2_with fail
    refine (firstToken_any (s.extract k s.size) _ g0 (by have:=size_ext s k s.size; omega)).mono ?_
    rintro e w1 ⟨rfl,hb1⟩
    rw [firstV_tail]
    obtain ⟨hc,hf⟩:=bcell hb1
    have hz:w.heap.size < w1.heap.size:=by have:=hb1.size; simp at this; omega
    have hB:Below w.heap.size w w1:=hB0.trans (hb1.mono (by simp))
    go_wp2_with fail
    exact bodyPost_ret (v:=tokV s k) (by simp [results,Tryz.results88,go_sem,hc,hz,tokV]) rfl ⟨by rw [←hl.out,HS.out],(set4 hB (Nat.le_refl _) _ _ _ _).alloc (by simp [World.setCell]; omega) _⟩
  ·have HS:=hide (Lard.skip_stop s.data.toList k (fun h=>absurd (by simpa using h) hlt))
   go_wp2_with fail
   refine (firstToken_any (s.extract k s.size) _ g0 (by have:=size_ext s k s.size; omega)).mono ?_
   rintro e w1 ⟨rfl,hb1⟩
   rw [firstV_tail]
   obtain ⟨hc,hf⟩:=bcell hb1
   have hz:w.heap.size < w1.heap.size:=by have:=hb1.size; simp at this; omega
   have hB:Below w.heap.size w w1:=hB0.trans (hb1.mono (by simp))
   go_wp2_with fail
   exact bodyPost_ret (v:=tokV s k) (by simp [results,Tryz.results88,go_sem,hc,hz,tokV]) rfl ⟨by rw [←hl.out,HS.out],(set4 hB (Nat.le_refl _) _ _ _ _).alloc (by simp [World.setCell]; omega) _⟩
end
section
set_option maxRecDepth 100000
set_option maxHeartbeats 1000000
open Go.RowKit Go.Shelf
def ImmW (t:TypeId):Prop:=Imm t∨t=113∨t=242
structure Fm (base:Nat) (w w':World):Prop where
 bel:Below base w w'
 imm:∀ (k:Nat) (cs:Array Value) (t:TypeId) (fz:Nat×Nat),w.heap[k]? = some (.cells cs t fz)→ImmW t→w'.heap[k]? = some (.cells cs t fz)
theorem Fm.refl (base:Nat) (w:World):Fm base w w:=⟨Below.refl _ _,fun _ _ _ _ h _=>h⟩
theorem Fm.trans {base:Nat} {a b c:World} (h:Fm base a b) (h':Fm base b c):Fm base a c:=⟨h.bel.trans h'.bel,fun k cs t fz hk ht=>h'.imm k cs t fz (h.imm k cs t fz hk ht) ht⟩
theorem Fm.below {base:Nat} {w w':World} (h:Below w.heap.size w w') (hb:base≤w.heap.size):Fm base w w' :=
 ⟨h.mono hb,fun k _ _ _ hk _=>(h.block k (lt_of_some hk)).trans hk⟩
theorem Fm.keeps {base:Nat} {w w':World} (h:Fm base w w'):Keeps w w':=fun k cs t fz hk ht=>h.imm k cs t fz hk (.inl ht)
theorem Fm.size {base:Nat} {w w':World} (h:Fm base w w'):w.heap.size≤w'.heap.size:=h.bel.size
theorem Fm.g {base:Nat} {w w':World} (h:Fm base w w') (g:G w) (hb:8≤base):G w':=g.below h.bel hb
theorem Fm.grown {base b:Nat} {w w':World} (h:w.grownBy w' (some b)) (hb:base≤b) (hsz:base≤w.heap.size) (ht:∀ cs t fz,w.heap[b]? = some (.cells cs t fz)→¬ ImmW t):Fm base w w' :=
 ⟨(Below.refl base w).grown h hsz (fun k hk=>by cases hk; exact hb),fun k cs t fz hk hi=>(h.block k (lt_of_some hk) (fun e=>by cases e; exact ht cs t fz hk hi)).trans hk⟩
structure Stay (w w':World):Prop where
 val:∀ n v x,IsVal w n v x→IsVal w' n v x
 node:∀ (k:Nat) (cs:Array Value) (t:TypeId) (fz:Nat×Nat),w.heap[k]? = some (.cells cs t fz)→t=263∨t=121→w'.heap[k]? = some (.cells cs t fz)
theorem Keeps.stay {w w':World} (h:Keeps w w'):Stay w w':=⟨fun _ _ _ hx=>hx.keeps h,fun k cs t fz hk ht=>h k cs t fz hk (.inr ht)⟩
structure Env where
 σ:Type
 N:List UInt8→σ→Except Nat Lard.V×σ
 cnt:σ→Nat
 J:(Nat→Prop)→σ→World→Prop
 rb:Nat
 l:Nat
 base:Nat
 tree:Value
 wc:Value
 wi:Value
def Env.Y (E:Env):Value:=.func (.yield E.l) #[] #[]
structure EnvOK (E:Env):Prop where
 stab:∀ F s w w',E.J F s w→w.heap.size≤w'.heap.size→(∀ k,F k→w'.heap[k]? = w.heap[k]?)→Stay w w'→E.J F s w'
 dom:∀ F s w k,E.J F s w→F k→k < w.heap.size∧k≠E.rb
 cntN:∀ key s,E.cnt (E.N key s).2≤E.cnt s + 1
 base8:8≤E.base
 baser:E.base≤E.rb
 yields:∀ (key:ByteArray) F s w f tc ti,E.J F s w→RunAt w E.rb E.tree E.Y tc ti f E.wc E.wi→G w→key.size≤200→E.cnt s + f < 400 →
  YieldAt Fence.wide 0 Tryz.prog E.l #[.string key] w fun e w'=>e=.returned (.bool true)∧∃ c i F',IsW w' (E.N key.data.toList s).1 (.agg #[c,i])∧RunAt w' E.rb E.tree E.Y c i f E.wc E.wi∧E.J F' (E.N key.data.toList s).2 w'∧(∀ k,F' k→F k∨w.heap.size≤k)∧Fm E.base w w'
structure St (E:Env) (F:Nat→Prop) (st:Nat×E.σ) (w:World):Prop where
 run:∃ tc ti,RunAt w E.rb E.tree E.Y tc ti st.1 E.wc E.wi
 inv:E.J F st.2 w
 g:G w
 le:E.cnt st.2 + st.1≤400
theorem St.lt {E:Env} {F:Nat→Prop} {st:Nat×E.σ} {w:World} (h:St E F st w):E.rb < w.heap.size:=by
 obtain ⟨tc,ti,h⟩:=h.run
 exact lt_of_some h
theorem St.below {E:Env} (ok:EnvOK E) {F:Nat→Prop} {st:Nat×E.σ} {w w':World} (h:St E F st w) (hB:Below w.heap.size w w'):St E F st w':=by
 obtain ⟨tc,ti,hr⟩:=h.run
 exact ⟨⟨tc,ti,(hB.block _ h.lt).trans hr⟩,ok.stab _ _ _ _ h.inv hB.size (fun k hk=>hB.block k (ok.dom _ _ _ _ h.inv hk).1) (Keeps.below hB).stay,h.g.below hB h.g.size,h.le⟩
theorem St.grown {E:Env} (ok:EnvOK E) {F:Nat→Prop} {st:Nat×E.σ} {w w':World} (h:St E F st w) {b:Nat} (hg:w.grownBy w' (some b)) (hb:E.rb≠b) (hF:¬ F b) (h8:8≤b) (hst:Stay w w'):St E F st w':=by
 obtain ⟨tc,ti,hr⟩:=h.run
 refine ⟨⟨tc,ti,(hg.block _ h.lt (fun e=>hb (by cases e; rfl))).trans hr⟩,ok.stab _ _ _ _ h.inv hg.size (fun k hk=>hg.block k (ok.dom _ _ _ _ h.inv hk).1 (fun e=>by cases e; exact hF hk)) hst,?_,h.le⟩
 exact h.g.below (B:=8) ((Below.refl 8 w).grown hg h.g.size (fun k hk=>by cases hk; exact h8)) (Nat.le_refl _)
def Ψ (E:Env) (F:Nat→Prop) (w:World) (q:Except Nat Lard.V×(Nat×E.σ)) (r:Except Nat Lard.V) (w':World):Prop :=
 r=q.1∧∃ F',St E F' q.2 w'∧(∀ k,F' k→F k∨w.heap.size≤k)∧Fm E.base w w'
theorem spend_none (E:Env) (F:Nat→Prop) (s:E.σ) (w:World) (h:St E F (0,s) w) :
  Calls Tryz.prog 245 #[.pointer (some ⟨E.rb,0,none⟩)] w fun e w'=>e=broken 11∧w'=w:=by
 obtain ⟨tc,ti,hr⟩:=h.run
 have c4:w.cell? ⟨E.rb,4,none⟩=some (.int .i64 0):=by rw [RunAt] at hr; simp [World.cell?,hr]
 generalize E.rb=rb at c4
 clear hr h
 go_enter Tryz.func245,Tryz.ntmps245
 go_wp2
 exact ⟨rfl,rfl,rfl⟩
theorem spend_some (E:Env) (ok:EnvOK E) (F:Nat→Prop) (f:Nat) (s:E.σ) (w:World) (h:St E F (f,s) w) (h0:0 < f) :
  Calls Tryz.prog 245 #[.pointer (some ⟨E.rb,0,none⟩)] w fun e w'=>e=.returned (.tuple #[])∧St E F (f - 1,s) w'∧Fm E.base w w'∧w'.heap.size=w.heap.size:=by
 have h4':E.cnt s + f≤400:=h.le
 have h4:f≤400:=by omega
 obtain ⟨tc,ti,hr⟩:=h.run
 have c4:w.cell? ⟨E.rb,4,none⟩=some (.int .i64 (f:Int)):=by rw [RunAt] at hr; simp [World.cell?,hr]
 have z4:w.frozen? ⟨E.rb,4,none⟩=false:=by rw [RunAt] at hr; simp [World.frozen?,hr]
 have fin:∀ w',w'=w.setCell ⟨E.rb,4,none⟩ (.int .i64 ((f:Int) - 1))→St E F (f - 1,s) w'∧Fm E.base w w'∧w'.heap.size=w.heap.size:=by
  rintro w' rfl
  have hg:=grown_set (World.grownBy.refl w (some E.rb)) 4 (.int .i64 ((f:Int) - 1))
  have hfm:Fm E.base w _:=Fm.grown hg ok.baser (Nat.le_of_lt (Nat.lt_of_le_of_lt ok.baser h.lt)) (fun cs t fz h=>by
    rw [RunAt] at hr; rw [hr] at h; cases h
    rintro ((h | h | h) | h | h) <;> cases h)
  refine ⟨⟨⟨tc,ti,?_⟩,?_,?_,by show E.cnt s + (f - 1)≤400; omega⟩,?_,by simp [World.setCell]⟩
  ·rw [RunAt] at hr ⊢
   simp [World.setCell,Array.getElem?_modify,hr]
   omega
  ·exact ok.stab _ _ _ _ h.inv hg.size (fun k hk=>hg.block k (ok.dom _ _ _ _ h.inv hk).1 (fun e=>(ok.dom _ _ _ _ h.inv hk).2 (by cases e; rfl))) hfm.keeps.stay
  ·exact h.g.below (B:=8) ((Below.refl 8 w).grown hg h.g.size (fun k hk=>by cases hk; exact Nat.le_trans ok.base8 ok.baser)) (Nat.le_refl _)
  ·exact hfm
 have FIN:=hide fin
 clear fin hr h h4'
 generalize E.rb=rb at c4 z4 FIN
 go_enter Tryz.func245,Tryz.ntmps245
 go_wp2
 go_end0
 exact ⟨rfl,FIN.out _ rfl⟩
end
end Go.Proofs.YtpekpdimdelncaaGreatDoor
