/- Out of: V5, V6, V7, V8, V9, V10. -/
import Derived.Test.YtpekpdimdelncaaGreatDoorP02
import Derived.Lib.SliceRun
import Derived.Deep.LoopGhost
import Derived.Lib.Walk
import Derived.Lib.AppendZeros
import Derived.Laws.AppendOwnNone
namespace Go.Proofs.YtpekpdimdelncaaGreatDoor
section
set_option maxRecDepth 100000
set_option maxHeartbeats 800000
open Go.RowKit
attribute [local go_sem] ta_nn ta_wn ta_ln ta_nw ta_ww ta_lw ta_nl ta_wl ta_ll
theorem IsVal.num_or {w:World} {n:Nat} {v:Lard.V} {x:Value} (h:IsVal w n v x) :
  (∃ i,v=Lard.vn i∧x=.iface 219 (.int .i64 i)∧-9223372036854775808≤i∧i≤9223372036854775807) ∨
  ((∀ i,v≠Lard.vn i)∧∃ t a,x=.iface t a∧(t=215∨t=248)):=by
 rcases h.forms with h | ⟨b,rfl,rfl,hb⟩ | ⟨m2,l2,s2,ys2,hm2,rfl,rfl,hr2,hl2,_,_⟩
 ·exact .inl h
 ·exact .inr ⟨fun i hi=>(by cases hi),_,_,rfl,.inl rfl⟩
 ·exact .inr ⟨fun i hi=>(by cases hi),_,_,rfl,.inr rfl⟩
theorem less_num (i j:Int):Lard.less (Lard.vn i) (Lard.vn j)=.ok (Lard.vn (if i < j then 1 else 0)):=by
 simp [Lard.less,Lard.vn,Lard.bit]
theorem less_word (a b:List UInt8):Lard.less (Lard.vw a) (Lard.vw b)=.ok (Lard.vn (if Lard.lessB a b then 1 else 0)):=rfl
theorem less_kind {v u:Lard.V} (h:(∃ i,v=Lard.vn i)∧(∀ j,u≠Lard.vn j)∨(∃ b,v=Lard.vw b)∧(∀ b,u≠Lard.vw b)∨∃ l,v=Lard.vl l):Lard.less v u=.error 9:=by
 rcases u with ⟨j | b | m⟩
 all_goals rcases h with ⟨⟨i,rfl⟩,h⟩ | ⟨⟨a,rfl⟩,h⟩ | ⟨l,rfl⟩
 all_goals first | rfl | exact absurd rfl (h _)
theorem less_any {v u:Lard.V} {x y:Value} (w:World) (hx:IsVal w 3 v x) (hy:IsVal w 3 u y) :
  Calls Tryz.prog 307 #[.agg #[x,y]] w (PV w (Lard.less v u)):=by
 have hB0:∀ o,Below w.heap.size w (w.alloc o):=fun o=>(Below.refl _ _).alloc (Nat.le_refl _) _
 rcases hx.forms with ⟨i,rfl,rfl,hi⟩ | ⟨b,rfl,rfl,hb⟩ | ⟨m,l,s,ys,hm,rfl,rfl,hr,hl,h12,hv⟩
 ·rcases hy.num_or with ⟨j,rfl,rfl,hj⟩ | ⟨hn,t,a,rfl,ht⟩
  ·clear hx hy
   rw [less_num]
   go_enter Tryz.func307,Tryz.ntmps307
   go_wp2_with (first | (go_at_call 280; refine (numberIn_ok _ _).mono ?_; rintro e w2 ⟨rfl,rfl⟩) | (go_at_call 317; refine (truth_any _ _).mono ?_; rintro e w2 ⟨rfl,rfl⟩))
   all_goals go_ret
   all_goals exact PV.num (hB0 _) rfl (by omega) (by omega)
  ·rw [less_kind (.inl ⟨⟨_,rfl⟩,hn⟩)]
   clear hx hy hn
   go_enter Tryz.func307,Tryz.ntmps307
   go_wp2_with fail
   refine (numberIn_no _ _ _ ht).mono ?_
   rintro e w2 ⟨rfl,rfl⟩
   exact ⟨rfl,PV.err (hB0 _)⟩
 ·rcases hy.forms with ⟨j,rfl,rfl,hj⟩ | ⟨c,rfl,rfl,hc⟩ | ⟨m,l,s,ys,hm,rfl,rfl,hr,hl,h12,hv⟩
  ·rw [less_kind (.inr (.inl ⟨⟨_,rfl⟩,fun b h=>(by cases h)⟩))]
   clear hx hy
   go_enter Tryz.func307,Tryz.ntmps307
   go_wp2_with fail
   exact ⟨rfl,PV.err (hB0 _)⟩
  ·rw [less_word,Lard.lessB,←Lib.toList_data,←Lib.toList_data]
   clear hx hy
   go_enter Tryz.func307,Tryz.ntmps307
   go_wp2_with (go_at_call 317; refine (truth_any _ _).mono ?_; rintro e w2 ⟨rfl,rfl⟩)
   all_goals go_ret
   all_goals exact PV.num (hB0 _) rfl (by omega) (by omega)
  ·rw [less_kind (.inr (.inl ⟨⟨_,rfl⟩,fun b h=>(by cases h)⟩))]
   clear hx hy
   go_enter Tryz.func307,Tryz.ntmps307
   go_wp2_with fail
   exact ⟨rfl,PV.err (hB0 _)⟩
 ·rw [less_kind (.inr (.inr ⟨_,rfl⟩))]
  obtain ⟨t,a,rfl⟩:=hy.one
  obtain ⟨o,c,rfl⟩:=hr.len
  clear hx hy
  go_enter Tryz.func307,Tryz.ntmps307
  go_wp2_with fail
  exact ⟨rfl,PV.err (hB0 _)⟩
theorem cell_lt {w:World} {b o:Nat} {x:Value} (h:w.cell? ⟨b,o,none⟩=some x):b < w.heap.size:=by
 rcases Nat.lt_or_ge b w.heap.size with h' | h'
 ·exact h'
 ·simp [World.cell?,Array.getElem?_eq_none h'] at h
theorem at_kind {v u:Lard.V} (h:(∃ i,v=Lard.vn i)∨(∀ j,u≠Lard.vn j)):Lard.atPlace v u=.error 9:=by
 rcases u with ⟨j | b | m⟩
 ·rcases h with ⟨i,rfl⟩ | h
  ·rfl
  ·exact absurd rfl (h _)
 ·rfl
 ·rfl
theorem at_any {v u:Lard.V} {x y:Value} (w:World) (hx:IsVal w 3 v x) (hy:IsVal w 3 u y) :
  Calls Tryz.prog 311 #[.agg #[x,y]] w (PV w (Lard.atPlace v u)):=by
 have hB0:∀ o,Below w.heap.size w (w.alloc o):=fun o=>(Below.refl _ _).alloc (Nat.le_refl _) _
 rcases hy.num_or with ⟨j,rfl,rfl,hj⟩ | ⟨hn,t,a,rfl,ht⟩
 ·rcases hx.forms with ⟨i,rfl,rfl,hi⟩ | ⟨b,rfl,rfl,hb⟩ | ⟨m,l,s,ys,hm,rfl,rfl,hr,hl,h12,hv⟩
  ·rw [at_kind (.inl ⟨_,rfl⟩)]
   clear hx hy
   go_enter Tryz.func311,Tryz.ntmps311
   go_wp2_with (go_at_call 280; refine (numberIn_ok _ _).mono ?_; rintro e w2 ⟨rfl,rfl⟩)
   exact ⟨rfl,PV.err (hB0 _)⟩
  ·clear hx hy
   cases hp:Lard.place j b.size with
   |ok k =>
    have hr:Lard.atPlace (Lard.vw b.data.toList) (Lard.vn j)=.ok (Lard.vw ((b.data.toList.drop k).take 1)):=by
     simp only [Lard.atPlace,Lard.vw,Lard.vn,len_data,hp]
    rw [hr]
    obtain ⟨rfl,hk⟩:=place_ok hp
    clear hr
    go_enter Tryz.func311,Tryz.ntmps311
    go_wp2_with (first | (go_at_call 280; refine (numberIn_ok _ _).mono ?_; rintro e w2 ⟨rfl,rfl⟩) | (go_at_call 318; refine (inside_ok _ _ _ _ hp).mono ?_; rintro e w2 ⟨rfl,rfl⟩))
    go_ret
    exact PV.word (hB0 _) (by rw [Lib.extract_data,Nat.add_sub_cancel_left]) (by have:=size_ext b k (k + 1); omega)
   |error c =>
    obtain ⟨h1,rfl⟩:=place_err hp
    have hr:Lard.atPlace (Lard.vw b.data.toList) (Lard.vn j)=.error 7:=by
     simp only [Lard.atPlace,Lard.vw,Lard.vn,len_data,hp]
    rw [hr]
    clear hr
    go_enter Tryz.func311,Tryz.ntmps311
    go_wp2_with (go_at_call 280; refine (numberIn_ok _ _).mono ?_; rintro e w2 ⟨rfl,rfl⟩)
    refine (inside_no _ _ _ h1).mono ?_
    rintro e w2 ⟨rfl,rfl⟩
    exact ⟨rfl,PV.err (hB0 _)⟩
  ·obtain ⟨o,c,rfl⟩:=hr.len
   cases hp:Lard.place j ys.length with
   |ok k =>
    have hr':Lard.atPlace (Lard.vl l) (Lard.vn j)=.ok (l[k]?.getD (Lard.vn 0)):=by
     simp only [Lard.atPlace,Lard.vl,Lard.vn,hl,hp]
    rw [hr']
    obtain ⟨rfl,hk⟩:=place_ok hp
    obtain ⟨y,hy⟩:∃ y,ys[k]? = some y:=⟨_,List.getElem?_eq_getElem hk⟩
    obtain ⟨u,hu⟩:∃ u,l[k]? = some u:=⟨_,List.getElem?_eq_getElem (by omega)⟩
    obtain ⟨b,rfl,hc⟩:=hr.cell hy
    have hval:=hv k u y hu hy
    obtain ⟨t2,a2,rfl⟩:=hval.one
    rw [hu]
    have HV:=hide (IsVal.le hval (show m≤3 by omega))
    have hB:=hB0 (Obj.cells #[Value.iface 248 (Value.slice (some { block:=b,off:=0,spot:=none }) ys.length c),Value.iface 219 (Value.int IntKind.i64 (k:Int))] 370)
    have hc2:(w.alloc (Obj.cells #[Value.iface 248 (Value.slice (some { block:=b,off:=0,spot:=none }) ys.length c),Value.iface 219 (Value.int IntKind.i64 (k:Int))] 370)).cell? ⟨b,k,none⟩=some (.iface t2 a2):=(hB.cell (p:=⟨b,k,none⟩) (cell_lt hc)).trans hc
    clear hr' hv hx hr hval hu hy
    go_enter Tryz.func311,Tryz.ntmps311
    go_wp2_with (first | (go_at_call 280; refine (numberIn_ok _ _).mono ?_; rintro e w2 ⟨rfl,rfl⟩) | (go_at_call 318; refine (inside_ok _ _ _ _ hp).mono ?_; rintro e w2 ⟨rfl,rfl⟩))
    go_ret
    exact PV.ok hB (HV.out.keeps (Keeps.below hB))
   |error c2 =>
    obtain ⟨h1,rfl⟩:=place_err hp
    have hr':Lard.atPlace (Lard.vl l) (Lard.vn j)=.error 7:=by
     simp only [Lard.atPlace,Lard.vl,Lard.vn,hl,hp]
    rw [hr']
    clear hr' hv hx hy hr
    go_enter Tryz.func311,Tryz.ntmps311
    go_wp2_with (go_at_call 280; refine (numberIn_ok _ _).mono ?_; rintro e w2 ⟨rfl,rfl⟩)
    refine (inside_no _ _ _ h1).mono ?_
    rintro e w2 ⟨rfl,rfl⟩
    exact ⟨rfl,PV.err (hB0 _)⟩
 ·rw [at_kind (.inr hn)]
  obtain ⟨t2,a2,rfl⟩:=hx.one
  clear hx hy hn
  go_enter Tryz.func311,Tryz.ntmps311
  go_wp2_with fail
  refine (numberIn_no _ _ _ ht).mono ?_
  rintro e w2 ⟨rfl,rfl⟩
  exact ⟨rfl,PV.err (hB0 _)⟩
end
section
set_option maxRecDepth 100000
set_option maxHeartbeats 800000
open Go.RowKit
attribute [local go_sem] ta_nn ta_wn ta_ln ta_nw ta_ww ta_lw ta_nl ta_wl ta_ll
theorem nestN_any (i:Int) (w:World) :
  Calls Tryz.prog 338 #[.int .i64 i] w fun e w'=>e=.returned (.int .i64 0)∧w'=w:=by
 go_enter Tryz.func338,Tryz.ntmps338
 go_wp2
 go_ret
 exact ⟨rfl,rfl⟩
theorem nestW_any (b:ByteArray) (w:World) :
  Calls Tryz.prog 337 #[.string b] w fun e w'=>e=.returned (.int .i64 0)∧w'=w:=by
 go_enter Tryz.func337,Tryz.ntmps337
 go_wp2
 go_ret
 exact ⟨rfl,rfl⟩
def nstAll (n:Nat) (l:List Lard.V) (a:Nat):Nat:=l.foldl (fun a u=>max a (Lard.nst n u)) a
theorem nst_num (n:Nat) (i:Int):Lard.nst n (Lard.vn i)=0:=by cases n <;> rfl
theorem nst_word (n:Nat) (b:List UInt8):Lard.nst n (Lard.vw b)=0:=by cases n <;> rfl
theorem nst_list (n:Nat) (l:List Lard.V):Lard.nst (n + 1) (Lard.vl l)=nstAll n l 0 + 1:=rfl
theorem nstAll_le {n B:Nat} (h:∀ u,Lard.nst n u≤B):∀ (l:List Lard.V) (a:Nat),a≤B→nstAll n l a≤B
 |[],_,ha=>ha
 |u :: l,a,ha=>nstAll_le h l (max a (Lard.nst n u)) (by have:=h u; omega)
theorem nst_le:∀ (n:Nat) (v:Lard.V),Lard.nst n v≤n
 |0,⟨.inl _⟩=>Nat.le_refl _
 |0,⟨.inr (.inl _)⟩=>Nat.le_refl _
 |0,⟨.inr (.inr _)⟩=>Nat.le_refl _
 |n + 1,⟨.inl _⟩=>Nat.zero_le _
 |n + 1,⟨.inr (.inl _)⟩=>Nat.zero_le _
 |n + 1,⟨.inr (.inr l)⟩=>by
  show nstAll n l 0 + 1≤n + 1
  have:=nstAll_le (fun u=>nst_le n u) l 0 (Nat.zero_le _)
  omega
theorem mt_nestN (a : Value) (w : World) : (method 499 219 a "larder/values.nest").run Tryz.prog w = .ok (338, a) w := by kernel_rfl
theorem mt_nestW (a : Value) (w : World) : (method 499 215 a "larder/values.nest").run Tryz.prog w = .ok (337, a) w := by kernel_rfl
theorem mt_nestL (a : Value) (w : World) : (method 499 248 a "larder/values.nest").run Tryz.prog w = .ok (302, a) w := by kernel_rfl
attribute [local go_sem] mt_nestN mt_nestW mt_nestL
def NestSays (n:Nat):Prop :=
 ∀ (l:List Lard.V) (s:Value) (ys:List Value) (w:World),IsRow w s ys→l.length=ys.length→l.length≤1000→(∀ (i:Nat) u y,l[i]? = some u→ys[i]? = some y→IsVal w n u y) →
  Calls Tryz.prog 302 #[s] w fun e w'=>e=.returned (.int .i64 ((nstAll n l 0 + 1:Nat):Int))∧w'=w
theorem nestL_step (n:Nat) (hn:n≤100) (ih:∀ m,n=m + 1→NestSays m):NestSays n:=by
 intro l s ys w hr hl h12 hv
 obtain ⟨o,c,rfl⟩:=hr.len
 generalize hfin:nstAll n l 0=fin
 have HF:=hide hfin
 have hle:fin≤100:=by
  rw [←hfin]
  exact nstAll_le (fun u=>Nat.le_trans (nst_le n u) hn) l 0 (Nat.zero_le _)
 clear hfin
 go_enter Tryz.func302,Tryz.ntmps302
 go_wp2_with fail
 go_loop [3,8] (fun a i=>∃ (k acc:Nat),k≤l.length∧i=.int .i64 k∧a=.int .i64 acc∧acc≤100∧Hid (nstAll n (l.drop k) acc=fin)) (fun _ i=>ys.length - (intOf i).toNat)
 case atStart=>exact ⟨0,0,Nat.zero_le _,rfl,rfl,by omega,HF⟩
 case round =>
  obtain ⟨k,acc,hk,rfl,rfl,ha,HR⟩:=hrel
  by_cases hlt:k < ys.length
  ·obtain ⟨y,hy⟩:∃ y,ys[k]? = some y:=⟨_,List.getElem?_eq_getElem hlt⟩
   obtain ⟨u,hu⟩:∃ u,l[k]? = some u:=⟨_,List.getElem?_eq_getElem (by omega)⟩
   obtain ⟨b,rfl,hc⟩:=hr.cell hy
   have hR:=HR.out
   have hd:l.drop k=u :: l.drop (k + 1):=by
    rw [List.drop_eq_getElem_cons (by omega)]
    rw [List.getElem?_eq_getElem (by omega)] at hu
    cases hu; rfl
   rw [hd] at hR
   have HR':Hid (nstAll n (l.drop (k + 1)) (max acc (Lard.nst n u))=fin):=hR
   have hnu:=nst_le n u
   rcases (hv k u y hu hy).forms with ⟨j,rfl,rfl,hj⟩ | ⟨d,rfl,rfl,hb⟩ | ⟨m2,l2,s2,ys2,hm2,rfl,rfl,hr2,hl2,h2,hv2⟩
   ·rw [nst_num] at HR'
    clear hR HR HF hd hv hu hy hr ih
    go_wp2_with (go_at_call 338; refine (nestN_any _ _).mono ?_; rintro e w2 ⟨rfl,rfl⟩)
    exact ⟨⟨k + 1,max acc 0,by omega,by go_num,by simp,by omega,HR'⟩,by simp [intOf]; omega⟩
   ·rw [nst_word] at HR'
    clear hR HR HF hd hv hu hy hr ih
    go_wp2_with (go_at_call 337; refine (nestW_any _ _).mono ?_; rintro e w2 ⟨rfl,rfl⟩)
    exact ⟨⟨k + 1,max acc 0,by omega,by go_num,by simp,by omega,HR'⟩,by simp [intOf]; omega⟩
   ·subst hm2
    have hI:=ih m2 rfl l2 s2 ys2 w hr2 hl2 (by omega) hv2
    rw [nst_list] at HR' hnu
    obtain ⟨o2,c2,rfl⟩:=hr2.len
    generalize nstAll m2 l2 0 + 1=q at HR' hI hnu
    have HI:=hide hI
    clear hR HR HF hd hv hu hy hr ih hI hv2 hr2
    go_wp2_with (go_at_call 302; refine HI.out.mono ?_; rintro e w2 ⟨rfl,rfl⟩)
    exact ⟨⟨k + 1,max acc q,by omega,by go_num,by congr 1; omega,by omega,HR'⟩,by simp [intOf]; omega⟩
  ·have hR:=HR.out
   rw [List.drop_eq_nil_of_le (by omega)] at hR
   have hR':fin=acc:=hR.symm
   subst hR'
   clear hR HR HF
   go_wp2_with fail
   go_ret
   exact ⟨rfl,rfl⟩
theorem nestL_any:∀ n,n≤100→NestSays n
 |0,h=>nestL_step 0 h (fun m hm=>by omega)
 |n + 1, h => nestL_step (n + 1) h (fun m hm => by obtain rfl : n = m := by omega
                                                   exact nestL_any n (by omega))
theorem nstAll_iff (n k:Nat):∀ (l:List Lard.V) (a:Nat),nstAll n l a≤k↔a≤k∧∀ u∈l,Lard.nst n u≤k
 |[],a=>by simp [nstAll]
 |u :: l,a=>by
  show nstAll n l (max a (Lard.nst n u))≤k↔_
  rw [nstAll_iff n k l]
  simp only [List.mem_cons,forall_eq_or_imp,←and_assoc]
  have:max a (Lard.nst n u)≤k↔a≤k∧Lard.nst n u≤k:=by omega
  rw [this]
theorem lev_nst:∀ (n:Nat) (v:Lard.V),Lard.lev n v=true→∀ k,(Lard.lev k v=true↔Lard.nst n v≤k)
 |n,⟨.inl i⟩,_,k=>by
  have h1:Lard.lev k ⟨.inl i⟩=true:=by cases k <;> rfl
  have h2:Lard.nst n ⟨.inl i⟩=0:=by cases n <;> rfl
  simp [h1,h2]
 |n,⟨.inr (.inl i)⟩,_,k=>by
  have h1:Lard.lev k ⟨.inr (.inl i)⟩=true:=by cases k <;> rfl
  have h2:Lard.nst n ⟨.inr (.inl i)⟩=0:=by cases n <;> rfl
  simp [h1,h2]
 |0,⟨.inr (.inr l)⟩,h,_=>by cases h
 |n + 1,⟨.inr (.inr l)⟩,h,k=>by
  have hall:∀ u∈l,Lard.lev n u=true:=by
   have h':l.all (Lard.lev n)=true:=h
   simpa using h'
  show _↔nstAll n l 0 + 1≤k
  cases k with
  |zero=>exact ⟨fun h=>(by cases h),fun h=>(by omega)⟩
  |succ k =>
   show l.all (Lard.lev k)=true↔_
   rw [Nat.succ_le_succ_iff,nstAll_iff]
   simp only [List.all_eq_true,Nat.zero_le,true_and]
   constructor
   ·intro h u hu; exact (lev_nst n u (hall u hu) k).1 (h u hu)
   ·intro h u hu; exact (lev_nst n u (hall u hu) k).2 (h u hu)
theorem IsVal.lev {w:World}:∀ {n:Nat} {v:Lard.V} {x:Value},IsVal w n v x→Lard.lev n v=true:=by
 intro n
 induction n with
 |zero =>
  intro v x h
  rcases h with ⟨i,rfl,_⟩ | ⟨b,rfl,_⟩
  ·rfl
  ·rfl
 |succ n ih =>
  intro v x h
  rcases h with (⟨i,rfl,_⟩ | ⟨b,rfl,_⟩) | ⟨l,s,ys,rfl,_,_,hl,_,hv⟩
  ·rfl
  ·rfl
  ·show l.all (Lard.lev n)=true
   rw [List.all_eq_true]
   intro u hu
   obtain ⟨i,hi,rfl⟩:=List.getElem_of_mem hu
   exact ih (hv i _ _ (List.getElem?_eq_getElem hi) (List.getElem?_eq_getElem (by omega)))
theorem IsVal.down {w:World}:∀ {n k:Nat} {v:Lard.V} {x:Value},IsVal w n v x→Lard.lev k v=true→IsVal w k v x:=by
 intro n
 induction n with
 |zero=>intro k v x h _; exact .leaf h
 |succ n ih =>
  intro k v x h hk
  rcases h with h | ⟨l,s,ys,rfl,h2,h3,hl,h5,hv⟩
  ·exact .leaf h
  ·cases k with
   |zero=>cases hk
   |succ k =>
    have hall:∀ u∈l,Lard.lev k u=true:=by
     have h':l.all (Lard.lev k)=true:=hk
     simpa using h'
    exact .inr ⟨l,s,ys,rfl,h2,h3,hl,h5,fun i u y hu hy=>ih (hv i u y hu hy) (hall u (List.mem_of_getElem? hu))⟩
end
section
set_option maxRecDepth 100000
set_option maxHeartbeats 800000
open Go.RowKit
theorem valInfo:(Tryz.prog.info? 111).map (fun i=>(i.zero,i.size,i.bytes))=some (some .nilIface,1,16):=by kernel_rfl
theorem eqNil (t:TypeId) (ht:Tryz.prog.underlying t=some (.slice 111)) (w:World) (a:Option Addr) (n c n' c':Nat):(binOp .eql t (.slice a n c) (.slice none n' c')).run Tryz.prog w=.ok (.bool a.isNone) w :=
 Lib.run_eql_slice_nil w _ _ a n c n' c' ht
theorem IsRow.of_own {w:World} {base n:Nat} {v:Value} {ys:List Value} (h:w.ownsRow base 111 1 v n ys):IsRow w v ys:=by
 obtain ⟨hl,h⟩:=h
 rw [Nat.mul_one] at hl
 rcases h with ⟨rfl,rfl⟩ | ⟨g,cap,cur,rfl,_,h2,h3,h4,h5,h6⟩
 ·exact .inl ⟨rfl,List.eq_nil_of_length_eq_zero hl⟩
 ·rw [Nat.mul_one] at h5 h6
  refine .inr ⟨g,cap,cur,(0,0),by rw [hl],by omega,h2,by omega,fun i hi=>?_⟩
  rw [←h6,List.getElem?_take,if_pos (by omega)]
  simp
theorem clone_any (s:Value) (ys:List Value) (w:World) (hr:IsRow w s ys) (hn:ys.length≤100000) (h1:∀ u∈ys,u.oneCell'=true) :
  Calls Tryz.prog 301 #[s] w fun e w'=>∃ v,e=.returned v∧IsRow w' v ys∧Below w.heap.size w w':=by
 have q22:=eqNil 247 Tryz.underlying247
 rcases hr with ⟨rfl,rfl⟩ | ⟨b,cap,cs,fz,rfl,h2,h3,h4,h5⟩
 ·go_enter Tryz.func301,Tryz.ntmps301
  go_wp2
  go_ret
  exact ⟨_,rfl,.inl ⟨rfl,rfl⟩,Below.refl _ _⟩
 ·have hc:∀ j u,ys[j]? = some u→w.cell? ⟨b,0 + j,none⟩=some u:=fun j u hj=>by
   obtain ⟨b',e,h⟩:=IsRow.cell (.inr ⟨b,cap,cs,fz,rfl,h2,h3,h4,h5⟩) hj
   cases e; rw [Nat.zero_add]; exact h
  obtain ⟨i0,hi0,hz0,hz1,hz2⟩:=info_parts valInfo
  have A:Aside (∀ j u,ys[j]? = some u→w.cell? ⟨b,0 + j,none⟩=some u):=hc
  clear hc h3 h4 h5
  go_enter Tryz.func301,Tryz.ntmps301
  go_wp2_with (at_builtin; refine wpList_append_own _ rfl _ _ 247 rfl w.heap.size 111 i0 _ 1 16 Tryz.underlying247 hi0 hz0 hz1 hz2 rfl (by decide) _ _ _ rfl (World.ownsRow_made w #[] 0 (Nat.le_refl _) (Nat.zero_le _) (by simp)) ⟨b,0,none⟩ ys.length cap ys rfl ?qc1 ?qc2 ?qc3 ?qc4 ?qc5 ?qc6 ?_)
  case qc1=>rw [Nat.mul_one]
  case qc2 =>
   intro j u hj
   rw [Addr.add_lit]
   exact Lib.cell?_alloc_some _ (A.out j u hj)
  case qc3=>exact h1
  case qc4=>unfold maxLen; omega
  case qc5=>omega
  case qc6=>simp
  intro v' w1 hown hgrow hnil
  go_wp2
  go_ret
  exact ⟨v',rfl,IsRow.of_own (by simpa using hown),((Below.refl _ w).alloc (Nat.le_refl _) _).grown hgrow (by simp) (by intro k hk; simp [Value.ownBlock] at hk; omega)⟩
end
section
set_option maxRecDepth 100000
set_option maxHeartbeats 800000
open Go.RowKit
attribute [local go_sem] ta_nn ta_wn ta_ln ta_nw ta_ww ta_lw ta_nl ta_wl ta_ll
def Vals (w:World) (n:Nat) (l:List Lard.V) (ys:List Value):Prop :=
 l.length=ys.length∧∀ (i:Nat) u y,l[i]? = some u→ys[i]? = some y→IsVal w n u y
theorem Vals.keeps {w w':World} {n:Nat} {l:List Lard.V} {ys:List Value} (h:Vals w n l ys) (hk:Keeps w w'):Vals w' n l ys :=
 ⟨h.1,fun i u y hu hy=>(h.2 i u y hu hy).keeps hk⟩
theorem Vals.one {w:World} {n:Nat} {l:List Lard.V} {ys:List Value} (h:Vals w n l ys):∀ y∈ys,y.oneCell'=true:=by
 intro y hy
 obtain ⟨i,hi,rfl⟩:=List.getElem_of_mem hy
 obtain ⟨t,a,h⟩:=(h.2 i _ _ (List.getElem?_eq_getElem (by rw [h.1]; exact hi)) (List.getElem?_eq_getElem hi)).one
 rw [h]; rfl
def PL (w:World) (r:Except Nat Lard.V) (e:Ending) (w':World):Prop :=
 Below w.heap.size w w'∧(∀ v,r=.ok v→∃ o n c,e=.returned (.slice o n c)∧IsVal w' 3 v (.iface 248 (.slice o n c)))∧(∀ c,r=.error c→e=broken c)
theorem PL.ok {w w':World} {v:Lard.V} {o:Option Addr} {n c:Nat} (hB:Below w.heap.size w w') (h:IsVal w' 3 v (.iface 248 (.slice o n c))):PL w (.ok v) (.returned (.slice o n c)) w' :=
 ⟨hB,fun u hu=>(by cases hu; exact ⟨o,n,c,rfl,h⟩),fun c hc=>(by cases hc)⟩
theorem PL.err {w w':World} {c:Nat} (hB:Below w.heap.size w w'):PL w (.error c) (broken c) w' :=
 ⟨hB,fun u hu=>(by cases hu),fun c hc=>(by cases hc; rfl)⟩
theorem listOf_any (l:List Lard.V) (s:Value) (ys:List Value) (w:World) (hr:IsRow w s ys) (hv:Vals w 3 l ys) (hn:l.length≤1000) :
  Calls Tryz.prog 279 #[s] w (PL w (Lard.listOf l)):=by
 have hc:=clone_any s ys w hr (by rw [←hv.1]; omega) hv.one
 obtain ⟨o,c,rfl⟩:=hr.len
 have HC:=hide hc
 have hne:=fun (w':World) (v:Value) (hk:Keeps w w') (hr':IsRow w' v ys)=>nestL_any 3 (by omega) l v ys w' hr' hv.1 hn (hv.keeps hk).2
 have HN:=hide hne
 have hl:=hv.1
 have hlev:(nstAll 3 l 0≤2)↔l.all (Lard.lev 2)=true:=by
  rw [nstAll_iff]
  simp only [Nat.zero_le,true_and,List.all_eq_true]
  have hall:∀ u∈l,Lard.lev 3 u=true:=fun u hu=>by
   obtain ⟨i,hi,rfl⟩:=List.getElem_of_mem hu
   exact (hv.2 i _ _ (List.getElem?_eq_getElem hi) (List.getElem?_eq_getElem (by omega))).lev
  exact ⟨fun h u hu=>(lev_nst 3 u (hall u hu) 2).2 (h u hu),fun h u hu=>(lev_nst 3 u (hall u hu) 2).1 (h u hu)⟩
 have HV:=hide hv
 have hle:nstAll 3 l 0≤3:=nstAll_le (fun u=>nst_le 3 u) l 0 (Nat.zero_le _)
 generalize hq:nstAll 3 l 0=q at hne HN hlev hle
 clear hc hne hv hr hq
 by_cases h12:12 < l.length
 ·have hres:Lard.listOf l=.error 10:=by rw [Lard.listOf,if_pos (.inl h12)]
  rw [hres]
  go_enter Tryz.func279,Tryz.ntmps279
  go_wp2_with (go_at_call 301; refine HC.out.mono ?_; rintro e w1 ⟨v,rfl,hr1,hB⟩; (obtain ⟨o1,c1,rfl⟩:=hr1.len))
  exact ⟨rfl,PL.err hB⟩
 ·have h12':((ys.length:Int))≤12:=by omega
  by_cases hb:l.all (Lard.lev 2)=true
  ·have hres:Lard.listOf l=.ok (Lard.vl l):=by rw [Lard.listOf,if_neg (by rw [hb]; simp; omega)]
   rw [hres]
   have hq2:=hlev.2 hb
   go_enter Tryz.func279,Tryz.ntmps279
   go_wp2_with (go_at_call 301; refine HC.out.mono ?_; rintro e w1 ⟨v,rfl,hr1,hB⟩; (obtain ⟨o1,c1,rfl⟩:=hr1.len))
   refine (HN.out _ _ (Keeps.below hB) hr1).mono ?_
   rintro e w2 ⟨rfl,rfl⟩
   have hv2:=HV.out.keeps (Keeps.below hB)
   have hall:∀ u∈l,Lard.lev 2 u=true:=by simpa using hb
   have hval:IsVal w2 3 (Lard.vl l) (.iface 248 (.slice o1 ys.length c1)):=.inr ⟨l,_,ys,rfl,rfl,hr1,hl,by omega,fun i u y hu hy=>(hv2.2 i u y hu hy).down (hall u (List.mem_of_getElem? hu))⟩
   have HVAL:=hide hval
   clear HC HN HV hv2 hall hval hr1
   go_wp2_with fail
   go_ret
   exact PL.ok hB HVAL.out
  ·have hres:Lard.listOf l=.error 10:=by rw [Lard.listOf,if_pos (.inr (by simpa using hb))]
   rw [hres]
   have hq2:3≤q:=by
    rcases Nat.lt_or_ge q 3 with h | h
    ·exact absurd (hlev.1 (by omega)) hb
    ·exact h
   go_enter Tryz.func279,Tryz.ntmps279
   go_wp2_with (go_at_call 301; refine HC.out.mono ?_; rintro e w1 ⟨v,rfl,hr1,hB⟩; (obtain ⟨o1,c1,rfl⟩:=hr1.len))
   refine (HN.out _ _ (Keeps.below hB) hr1).mono ?_
   rintro e w2 ⟨rfl,rfl⟩
   clear HC HN HV hr1
   go_wp2_with fail
   exact ⟨rfl,PL.err hB⟩
end
section
set_option maxRecDepth 100000
set_option maxHeartbeats 800000
open Go.RowKit
attribute [local go_sem] ta_nn ta_wn ta_ln ta_nw ta_ww ta_lw ta_nl ta_wl ta_ll
theorem grow_any (n:Nat) (w:World) (h0:0 < n) (hn:n≤1000) :
  Calls Tryz.prog 319 #[.slice none 0 0,.int .i64 (n:Int)] w fun e w'=>∃ v,e=.returned v∧w'.ownsRow w.heap.size 111 1 v 0 []∧Below w.heap.size w w':=by
 obtain ⟨i0,hi0,hz0,hz1,hz2⟩:=info_parts valInfo
 have happ:=Lib.run_append_nil_zeros (P:=Tryz.prog) w 248 3 248 111 i0 .nilIface .i64 .i64 Tryz.underlying248 Tryz.underlying3 hi0 hz0 n h0 (by omega) (by omega) (by rw [hz2]; omega)
 have hge:=grownCap_ge w n 0 111
 have hle:=grownCap_le_maxLen w n 0 111 (by unfold maxLen; omega)
 generalize grownCap w n 0 111=cap at happ hge hle
 go_enter Tryz.func319,Tryz.ntmps319
 go_wp2_with (at_builtin; refine Lib.wpList_append_run _ rfl _ _ 248 3 rfl _ _ rfl rfl _ _ happ ?_)
 go_ret
 refine ⟨_,rfl,⟨rfl,.inr ⟨w.heap.size,cap,_,rfl,Nat.le_refl _,heap_alloc_new w _,Nat.zero_le _,hle,?_,by simp⟩⟩,((Below.refl _ w).alloc (Nat.le_refl _) _).drew⟩
 simp [size_zeroCells]; omega
theorem grow_none (w:World) :
  Calls Tryz.prog 319 #[.slice none 0 0,.int .i64 0] w fun e w'=>e=.returned (.slice none 0 0)∧w'=w:=by
 go_enter Tryz.func319,Tryz.ntmps319
 go_wp2
 go_ret
 exact ⟨rfl,rfl⟩
theorem grow_all (n:Nat) (w:World) (hn:n≤1000) :
  Calls Tryz.prog 319 #[.slice none 0 0,.int .i64 (n:Int)] w fun e w'=>∃ v,e=.returned v∧w'.ownsRow w.heap.size 111 1 v 0 []∧Below w.heap.size w w':=by
 rcases Nat.eq_zero_or_pos n with rfl | h0
 ·refine (grow_none w).mono ?_
  rintro e w' ⟨rfl,rfl⟩
  exact ⟨_,rfl,⟨rfl,.inl ⟨rfl,rfl⟩⟩,Below.refl _ _⟩
 ·exact grow_any n w h0 hn
theorem wpList_append_row {w:World} {ops:Array Oper} {rest:List Oper} {o:Oper} {a:Act} {Q:Exit→Act→World→Prop} (hgd:o.guard=none) (s x:Operand) (t:TypeId)
  (ht:Tryz.prog.underlying t=some (.slice 111)) (ho:o.op=.call { callee:=.builtin .append,args:=#[s,x],argTypes:=#[t,t] }) (base:Nat) (v:Value) (n:Nat) (xs:List Value) (hs:a.eval s=v) (hown:w.ownsRow base 111 1 v n xs)
  (sv:Value) (ys:List Value) (hx:a.eval x=sv) (hr:IsRow w sv ys) (h1:∀ u∈ys,u.oneCell'=true) (hn:n + ys.length≤100000) (hbase:base≤w.heap.size)
  (h:∀ v' w',w'.ownsRow base 111 1 v' (n + ys.length) (xs++ys)→w.grownBy w' v.ownBlock→wpList Tryz.prog ops Q rest (a.put o.dst v') w'):wpList Tryz.prog ops Q (o :: rest) a w:=by
 obtain ⟨i0,hi0,hz0,hz1,hz2⟩:=info_parts valInfo
 rcases hr with ⟨rfl,rfl⟩ | ⟨b,cap,cs,fz,rfl,h2,h3,h4,h5⟩
 ·exact wpList_append_own_none hgd s x t ho base 111 i0 1 ht hi0 v n xs hs hown hx (h v w (by simpa using hown) (World.grownBy.refl _ _))
 ·refine wpList_append_own _ hgd s x t ho base 111 i0 _ 1 16 ht hi0 hz0 hz1 hz2 rfl (by decide) v n xs hs hown ⟨b,0,none⟩ ys.length cap ys hx (by rw [Nat.mul_one]) (fun j u hj=>?_) h1 (by unfold maxLen; omega) (by omega) hbase (fun v' w' ho hg _=>h v' w' ho hg)
  obtain ⟨b',e,hc⟩:=IsRow.cell (.inr ⟨b,cap,cs,fz,rfl,h2,h3,h4,h5⟩) hj
  cases e
  rw [Addr.add_lit,Nat.zero_add]
  exact hc
theorem own_kept {w w':World} {base n:Nat} {v:Value} {xs:List Value} (hown:w.ownsRow base 111 1 v n xs) (h:w.grownBy w' v.ownBlock) {w0:World} (hB:Below base w0 w) (hb:base≤w.heap.size):Below base w0 w':=by
 refine hB.grown h hb (fun k hk=>?_)
 obtain ⟨_,⟨rfl,_⟩ | ⟨g,cap,cur,rfl,hg,_⟩⟩:=hown
 ·cases hk
 ·cases hk; exact hg
theorem concat_any (s1 s2:Value) (ys1 ys2:List Value) (b:Nat) (fz:Nat×Nat) (w:World) (hb:w.heap[b]? = some (.cells #[s1,s2] 248 fz)) (h1:IsRow w s1 ys1) (h2:IsRow w s2 ys2) (hn1:ys1.length≤100) (hn2:ys2.length≤100) (ho1:∀ u∈ys1,u.oneCell'=true) (ho2:∀ u∈ys2,u.oneCell'=true) :
  Calls Tryz.prog 315 #[.slice (some ⟨b,0,none⟩) 2 2] w fun e w'=>∃ v,e=.returned v∧IsRow w' v (ys1++ys2)∧Below w.heap.size w w':=by
 obtain ⟨o1,c1,rfl⟩:=h1.len
 obtain ⟨o2,c2,rfl⟩:=h2.len
 have hbl:b < w.heap.size:=lt_of_some hb
 have cb:∀ w',Below w.heap.size w w'→w'.cell? ⟨b,0,none⟩=some (.slice o1 ys1.length c1)∧w'.cell? ⟨b,1,none⟩=some (.slice o2 ys2.length c2):=fun w' hB =>
  ⟨(hB.cell (p:=⟨b,0,none⟩) hbl).trans (by simp [World.cell?,hb]),(hB.cell (p:=⟨b,1,none⟩) hbl).trans (by simp [World.cell?,hb])⟩
 obtain ⟨e1,e2⟩:=cb w (Below.refl _ _)
 have CB:=hide cb
 clear cb hb
 go_enter Tryz.func315,Tryz.ntmps315
 go_wp2_with fail
 go_loop [3,11] (fun a i=>(i=.int .i64 0∧a=.int .i64 0)∨(i=.int .i64 1∧a=.int .i64 (ys1.length:Int))∨(i=.int .i64 2∧a=.int .i64 ((ys1.length + ys2.length:Nat):Int))) (fun _ i=>2 - (intOf i).toNat)
 case atStart=>exact .inl ⟨rfl,rfl⟩
 case round =>
  rcases hrel with ⟨rfl,rfl⟩ | ⟨rfl,rfl⟩ | ⟨rfl,rfl⟩
  ·clear CB
   go_wp2_with fail
   exact ⟨.inr (.inl ⟨rfl,by simp⟩),by simp [intOf]⟩
  ·clear CB
   go_wp2_with fail
   exact ⟨.inr (.inr ⟨rfl,by simp⟩),by simp [intOf]⟩
  ·go_wp2_with (go_at_call 319; refine (grow_all (ys1.length + ys2.length) _ (by omega)).mono ?_; rintro e w1 ⟨v1,rfl,hown1,hB1⟩)
   clear e1 e2
   go_loopw [6,27] (fun v i wr=>Below w.heap.size w wr∧((i=.int .i64 0∧wr.ownsRow w.heap.size 111 1 v 0 [])∨(i=.int .i64 1∧wr.ownsRow w.heap.size 111 1 v ys1.length ys1)∨(i=.int .i64 2∧wr.ownsRow w.heap.size 111 1 v (ys1.length + ys2.length) (ys1++ys2)))) (fun _ i _=>2 - (intOf i).toNat)
   case atStart=>exact ⟨hB1,.inl ⟨rfl,hown1⟩⟩
   case round =>
    clear hown1 hB1
    obtain ⟨hB,hrel⟩:=hrel
    obtain ⟨e1,e2⟩:=CB.out _ hB
    have hsz:=hB.size
    rcases hrel with ⟨rfl,hown⟩ | ⟨rfl,hown⟩ | ⟨rfl,hown⟩
    ·have hr1:=h1.keeps (Keeps.below hB)
     clear CB
     go_wp2_with (at_builtin; refine wpList_append_row rfl _ _ 248 Tryz.underlying248 rfl w.heap.size _ _ _ rfl hown _ ys1 rfl hr1 ho1 (by omega) hsz ?_; intro v' w' hown' hgrow')
     exact ⟨⟨own_kept hown hgrow' hB hsz,.inr (.inl ⟨rfl,by simpa using hown'⟩)⟩,by simp [intOf]⟩
    ·have hr2:=h2.keeps (Keeps.below hB)
     clear CB
     go_wp2_with (at_builtin; refine wpList_append_row rfl _ _ 248 Tryz.underlying248 rfl w.heap.size _ _ _ rfl hown _ ys2 rfl hr2 ho2 (by omega) hsz ?_; intro v' w' hown' hgrow')
     exact ⟨⟨own_kept hown hgrow' hB hsz,.inr (.inr ⟨rfl,hown'⟩)⟩,by simp [intOf]⟩
    ·clear CB
     go_wp2_with fail
     go_ret
     exact ⟨_,rfl,IsRow.of_own hown,hB⟩
end
section
set_option maxRecDepth 100000
set_option maxHeartbeats 800000
open Go.RowKit
attribute [local go_sem] ta_nn ta_wn ta_ln ta_nw ta_ww ta_lw ta_nl ta_wl ta_ll
theorem plus_kind {v u:Lard.V} (h:(∃ i,v=Lard.vn i)∧(∀ j,u≠Lard.vn j)∨(∃ b,v=Lard.vw b)∧(∀ b,u≠Lard.vw b)∨(∃ l,v=Lard.vl l)∧(∀ l,u≠Lard.vl l)):Lard.plus v u=.error 9:=by
 rcases u with ⟨j | b | m⟩
 all_goals rcases h with ⟨⟨i,rfl⟩,h⟩ | ⟨⟨a,rfl⟩,h⟩ | ⟨⟨l,rfl⟩,h⟩
 all_goals first | rfl | exact absurd rfl (h _)
theorem Vals.up {w:World} {n:Nat} {l:List Lard.V} {ys:List Value} (h:Vals w n l ys):Vals w (n + 1) l ys :=
 ⟨h.1,fun i u y hu hy=>(h.2 i u y hu hy).up⟩
theorem Vals.append {w:World} {n:Nat} {l m:List Lard.V} {ys zs:List Value} (h:Vals w n l ys) (h':Vals w n m zs):Vals w n (l++m) (ys++zs):=by
 refine ⟨by simp [h.1,h'.1],fun i u y hu hy=>?_⟩
 rcases Nat.lt_or_ge i l.length with hi | hi
 ·rw [List.getElem?_append_left hi] at hu
  rw [List.getElem?_append_left (by rw [←h.1]; exact hi)] at hy
  exact h.2 i u y hu hy
 ·rw [List.getElem?_append_right hi] at hu
  rw [List.getElem?_append_right (by rw [←h.1]; exact hi),←h.1] at hy
  exact h'.2 _ u y hu hy
theorem plus_any {v u:Lard.V} {x y:Value} (w:World) (hx:IsVal w 3 v x) (hy:IsVal w 3 u y) :
  Calls Tryz.prog 303 #[.agg #[x,y]] w (PV w (Lard.plus v u)):=by
 have hB0:∀ o,Below w.heap.size w (w.alloc o):=fun o=>(Below.refl _ _).alloc (Nat.le_refl _) _
 rcases hx.forms with ⟨i,rfl,rfl,hi⟩ | ⟨b,rfl,rfl,hb⟩ | ⟨m,l,s,ys,hm,rfl,rfl,hr,hl,h12,hv⟩
 ·rcases hy.num_or with ⟨j,rfl,rfl,hj⟩ | ⟨hn,t,a,rfl,ht⟩
  ·clear hx hy
   show Calls _ _ _ _ (PV w (.ok (Lard.vn (Lard.wrap (i + j)))))
   go_enter Tryz.func303,Tryz.ntmps303
   go_wp2_with (go_at_call 280; refine (numberIn_ok _ _).mono ?_; rintro e w2 ⟨rfl,rfl⟩)
   go_ret
   exact PV.num (hB0 _) (by rw [wrapE]) (wrap_in _).1 (wrap_in _).2
  ·rw [plus_kind (.inl ⟨⟨_,rfl⟩,hn⟩)]
   clear hx hy hn
   go_enter Tryz.func303,Tryz.ntmps303
   go_wp2_with fail
   refine (numberIn_no _ _ _ ht).mono ?_
   rintro e w2 ⟨rfl,rfl⟩
   exact ⟨rfl,PV.err (hB0 _)⟩
 ·rcases hy.forms with ⟨j,rfl,rfl,hj⟩ | ⟨c,rfl,rfl,hc⟩ | ⟨m,l,s,ys,hm,rfl,rfl,hr,hl,h12,hv⟩
  ·rw [plus_kind (.inr (.inl ⟨⟨_,rfl⟩,fun b h=>(by cases h)⟩))]
   clear hx hy
   go_enter Tryz.func303,Tryz.ntmps303
   go_wp2_with fail
   exact ⟨rfl,PV.err (hB0 _)⟩
  ·clear hx hy
   by_cases h30:30 < b.size + c.size
   ·have hres:Lard.plus (Lard.vw b.data.toList) (Lard.vw c.data.toList)=.error 10:=by
     simp only [Lard.plus,Lard.vw,len_data]; rw [if_pos h30]
    rw [hres]
    go_enter Tryz.func303,Tryz.ntmps303
    go_wp2_with fail
    refine (join_no _ _ _ hb hc h30).mono ?_
    rintro e w2 ⟨rfl,rfl⟩
    exact ⟨rfl,PV.err (hB0 _)⟩
   ·have hres:Lard.plus (Lard.vw b.data.toList) (Lard.vw c.data.toList)=.ok (Lard.vw (b.data.toList++c.data.toList)):=by
     simp only [Lard.plus,Lard.vw,len_data]; rw [if_neg h30]
    rw [hres]
    go_enter Tryz.func303,Tryz.ntmps303
    go_wp2_with (go_at_call 314; refine (join_ok _ _ _ (by omega)).mono ?_; rintro e w2 ⟨rfl,rfl⟩)
    go_ret
    exact PV.word (hB0 _) (by simp) (by simp; omega)
  ·rw [plus_kind (.inr (.inl ⟨⟨_,rfl⟩,fun b h=>(by cases h)⟩))]
   clear hx hy
   go_enter Tryz.func303,Tryz.ntmps303
   go_wp2_with fail
   exact ⟨rfl,PV.err (hB0 _)⟩
 ·obtain ⟨o,c,rfl⟩:=hr.len
  rcases hy.forms with ⟨j,rfl,rfl,hj⟩ | ⟨c,rfl,rfl,hc⟩ | ⟨m2,l2,s2,ys2,hm2,rfl,rfl,hr2,hl2,h122,hv2⟩
  ·rw [plus_kind (.inr (.inr ⟨⟨_,rfl⟩,fun b h=>(by cases h)⟩))]
   clear hx hy hv
   go_enter Tryz.func303,Tryz.ntmps303
   go_wp2_with fail
   refine (listIn_no _ _ _ (.inr rfl)).mono ?_
   rintro e w2 ⟨rfl,rfl⟩
   exact ⟨rfl,PV.err (hB0 _)⟩
  ·rw [plus_kind (.inr (.inr ⟨⟨_,rfl⟩,fun b h=>(by cases h)⟩))]
   clear hx hy hv
   go_enter Tryz.func303,Tryz.ntmps303
   go_wp2_with fail
   refine (listIn_no _ _ _ (.inl rfl)).mono ?_
   rintro e w2 ⟨rfl,rfl⟩
   exact ⟨rfl,PV.err (hB0 _)⟩
  ·obtain ⟨o2,c2,rfl⟩:=hr2.len
   obtain rfl:m=2:=by omega
   obtain rfl:m2=2:=by omega
   show Calls _ _ _ _ (PV w (Lard.listOf (l++l2)))
   generalize hres:Lard.listOf (l++l2)=res
   have HRES:=hide hres
   clear hres
   go_enter Tryz.func303,Tryz.ntmps303
   go_wp2_with (go_at_call 278; refine (listIn_ok _ _ _ _).mono ?_; rintro e w2 ⟨rfl,rfl⟩)
   generalize hwx:(w.alloc (Obj.cells #[Value.iface 248 (Value.slice o ys.length c),Value.iface 248 (Value.slice o2 ys2.length c2)] 370))=wx
   have hBx:Below w.heap.size w wx:=by rw [←hwx]; exact hB0 _
   have hszx:wx.heap.size=w.heap.size + 1:=by rw [←hwx]; simp
   have hB1:Below w.heap.size w (wx.alloc (Obj.cells #[Value.slice o ys.length c,Value.slice o2 ys2.length c2] 248)):=hBx.alloc (by omega) _
   have hk1:=Keeps.below hB1
   refine (concat_any _ _ ys ys2 (w.heap.size + 1) (0,0) _ (by rw [←hszx]; exact heap_alloc_new wx _) (hr.keeps hk1) (hr2.keeps hk1) (by omega) (by omega) (Vals.one ⟨hl,hv⟩) (Vals.one ⟨hl2,hv2⟩)).mono ?_
   rintro e w2 ⟨v3,rfl,hr3,hB2⟩
   have hBw:Below w.heap.size w w2:=hB1.trans (hB2.mono (by simp; omega))
   have hvals:Vals w2 3 (l++l2) (ys++ys2):=Vals.append (Vals.up (Vals.keeps ⟨hl,hv⟩ (Keeps.below hBw))) (Vals.up (Vals.keeps ⟨hl2,hv2⟩ (Keeps.below hBw)))
   have hcall:=listOf_any (l++l2) v3 (ys++ys2) w2 hr3 hvals (by simp; omega)
   obtain ⟨o3,c3,rfl⟩:=hr3.len
   rw [List.length_append,HRES.out] at hcall
   have HC:=hide hcall
   clear hcall hvals hr3 hB2 hk1 hB1 hv hv2 hx hy hr hr2
   go_wp2_with fail
   refine HC.out.mono ?_
   rintro e w3 ⟨hB3,hok,herr⟩
   have hB':Below w.heap.size w w3:=hBw.trans (hB3.mono hBw.size)
   cases res with
   |error c => 
    obtain rfl:=herr c rfl
    exact ⟨rfl,PV.err hB'⟩
   |ok v =>
    obtain ⟨o4,n4,c4,rfl,hval⟩:=hok v rfl
    have HV:=hide hval
    clear hval hok herr HC
    go_wp2_with fail
    go_ret
    exact PV.ok hB' HV.out
end
end Go.Proofs.YtpekpdimdelncaaGreatDoor
