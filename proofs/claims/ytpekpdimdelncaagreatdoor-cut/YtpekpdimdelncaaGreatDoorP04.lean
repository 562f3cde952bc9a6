/- Out of: V11, V12, V13. -/
import Derived.Test.YtpekpdimdelncaaGreatDoorP03
import Derived.Deep.WholeRow
import Derived.Test.YtpekpdimdelncaaGreatDoorShelf2
import Derived.Laws.OwnMore
namespace Go.Proofs.YtpekpdimdelncaaGreatDoor
section
set_option maxRecDepth 100000
set_option maxHeartbeats 800000
open Go.RowKit
attribute [local go_sem] ta_nn ta_wn ta_ln ta_nw ta_ww ta_lw ta_nl ta_wl ta_ll
theorem drop_cons {α:Type} {l:List α} {k:Nat} {u:α} (h:l[k]? = some u):l.drop k=u :: l.drop (k + 1):=by
 obtain ⟨hk,rfl⟩:=List.getElem?_eq_some_iff.1 h
 exact List.drop_eq_getElem_cons hk
def EqSays (n:Nat):Prop :=
 ∀ (v u:Lard.V) (x y:Value) (m:Nat) (w:World),IsVal w n v x→IsVal w m u y →
  Calls Tryz.prog 200 #[x,y] w fun e w'=>e=.returned (.bool (Lard.same n v u))∧w'=w
def sameAll (n:Nat) (l m:List Lard.V):Bool:=(l.zip m).all fun p=>Lard.same n p.1 p.2
theorem equalFunc_any (n:Nat) (ih:EqSays n) (l1 l2:List Lard.V) (s1 s2:Value) (ys1 ys2:List Value) (m:Nat) (w:World) (h1:IsRow w s1 ys1) (h2:IsRow w s2 ys2) (hv1:Vals w n l1 ys1) (hv2:Vals w m l2 ys2) (hn2:l2.length≤12) :
  Calls Tryz.prog 243 #[s1,s2,.func (.func 200) #[] #[]] w fun e w'=>e=.returned (.bool (l1.length == l2.length && sameAll n l1 l2))∧w'=w:=by
 obtain ⟨o1,c1,rfl⟩:=h1.len
 obtain ⟨o2,c2,rfl⟩:=h2.len
 have hl1:=hv1.1
 have hl2:=hv2.1
 have IH:=hide ih
 clear ih
 by_cases hle:l1.length=l2.length
 ·have hb:(l1.length == l2.length)=true:=by simp [hle]
  rw [hb,Bool.true_and]
  generalize hfin:sameAll n l1 l2=fin
  have HF:=hide hfin
  clear hfin hb
  have hle2:(ys1.length:Int)=(ys2.length:Int):=by omega
  go_enter Tryz.func243,Tryz.ntmps243
  go_wp2_with fail
  go_loop [17] (fun i=>∃ k:Nat,k≤l1.length∧i=.int .i64 k∧Hid (sameAll n (l1.drop k) (l2.drop k)=fin)) (fun i=>ys2.length - (intOf i).toNat)
  case atStart=>exact ⟨0,Nat.zero_le _,rfl,HF⟩
  case round =>
   obtain ⟨k,hk,rfl,HR⟩:=hrel
   by_cases hlt:k < l1.length
   ·obtain ⟨u1,hu1⟩:∃ u,l1[k]? = some u:=⟨_,List.getElem?_eq_getElem hlt⟩
    obtain ⟨u2,hu2⟩:∃ u,l2[k]? = some u:=⟨_,List.getElem?_eq_getElem (by omega)⟩
    obtain ⟨y1,hy1⟩:∃ u,ys1[k]? = some u:=⟨_,List.getElem?_eq_getElem (by omega)⟩
    obtain ⟨y2,hy2⟩:∃ u,ys2[k]? = some u:=⟨_,List.getElem?_eq_getElem (by omega)⟩
    obtain ⟨b1,rfl,e1⟩:=h1.cell hy1
    obtain ⟨b2,rfl,e2⟩:=h2.cell hy2
    have hc:=IH.out u1 u2 y1 y2 m w (hv1.2 k _ _ hu1 hy1) (hv2.2 k _ _ hu2 hy2)
    have hR:=HR.out
    have hstep:sameAll n (l1.drop k) (l2.drop k)=(Lard.same n u1 u2 && sameAll n (l1.drop (k + 1)) (l2.drop (k + 1))):=by
     rw [drop_cons hu1,drop_cons hu2]; rfl
    rw [hstep] at hR
    obtain ⟨t1,a1,rfl⟩:=(hv1.2 k _ _ hu1 hy1).one
    obtain ⟨t2,a2,rfl⟩:=(hv2.2 k _ _ hu2 hy2).one
    have hlt1:(k:Int) < (ys1.length:Int):=by omega
    have hlt2:(k:Int) < (ys2.length:Int):=by omega
    generalize Lard.same n u1 u2=q at hc hR
    have HC:=hide hc
    clear hc hstep HR HF hv1 hv2 h1 h2 hu1 hu2 hy1 hy2
    cases q with
    |true =>
     have HR':Hid (sameAll n (l1.drop (k + 1)) (l2.drop (k + 1))=fin):=hR
     clear hR
     go_wp2_with (go_at_call 200; refine HC.out.mono ?_; rintro e w2 ⟨rfl,rfl⟩)
     exact ⟨⟨k + 1,by omega,by go_num,HR'⟩,by simp [intOf]; omega⟩
    |false =>
     have hR':fin=false:=hR.symm
     subst hR'
     clear hR
     go_wp2_with (go_at_call 200; refine HC.out.mono ?_; rintro e w2 ⟨rfl,rfl⟩)
     go_ret
     exact ⟨rfl,rfl⟩
   ·have hR:=HR.out
    rw [List.drop_eq_nil_of_le (by omega)] at hR
    have hR':fin=true:=hR.symm
    subst hR'
    clear hR HR HF
    go_wp2_with fail
    go_ret
    exact ⟨rfl,rfl⟩
 ·have hb:(l1.length == l2.length)=false:=by simp [hle]
  rw [hb,Bool.false_and]
  have hle2:¬ (ys1.length:Int)=(ys2.length:Int):=by omega
  go_enter Tryz.func243,Tryz.ntmps243
  go_wp2_with fail
  go_ret
  exact ⟨rfl,rfl⟩
theorem equal_step (n:Nat) (ih:∀ m,n=m + 1→EqSays m):EqSays n:=by
 intro v u x y m w hx hy
 rcases hx.forms with ⟨i,rfl,rfl,hi⟩ | ⟨b,rfl,rfl,hb⟩ | ⟨k,l,s,ys,rfl,rfl,rfl,hr,hl,h12,hv⟩
 ·rcases hy.forms with ⟨j,rfl,rfl,hj⟩ | ⟨c,rfl,rfl,hc⟩ | ⟨m2,l2,s2,ys2,rfl,rfl,rfl,hr2,hl2,h122,hv2⟩
  ·have hres:Lard.same n (Lard.vn i) (Lard.vn j)=(i == j):=by cases n <;> rfl
   rw [hres]
   clear hx hy ih hres
   go_enter Tryz.func200,Tryz.ntmps200
   go_wp2_with fail
   go_ret
   exact ⟨rfl,rfl⟩
  ·have hres:Lard.same n (Lard.vn i) (Lard.vw c.data.toList)=false:=by cases n <;> rfl
   rw [hres]
   clear hx hy ih hres
   go_enter Tryz.func200,Tryz.ntmps200
   go_wp2_with fail
   go_ret
   exact ⟨rfl,rfl⟩
  ·have hres:Lard.same n (Lard.vn i) (Lard.vl l2)=false:=by cases n <;> rfl
   rw [hres]
   clear hx hy ih hres
   go_enter Tryz.func200,Tryz.ntmps200
   go_wp2_with fail
   go_ret
   exact ⟨rfl,rfl⟩
 ·rcases hy.forms with ⟨j,rfl,rfl,hj⟩ | ⟨c,rfl,rfl,hc⟩ | ⟨m2,l2,s2,ys2,rfl,rfl,rfl,hr2,hl2,h122,hv2⟩
  ·have hres:Lard.same n (Lard.vw b.data.toList) (Lard.vn j)=false:=by cases n <;> rfl
   rw [hres]
   clear hx hy ih hres
   go_enter Tryz.func200,Tryz.ntmps200
   go_wp2_with fail
   go_ret
   exact ⟨rfl,rfl⟩
  ·have hres:Lard.same n (Lard.vw b.data.toList) (Lard.vw c.data.toList)=(b.toList == c.toList):=by
    rw [Lib.toList_data,Lib.toList_data]; cases n <;> rfl
   rw [hres]
   clear hx hy ih hres
   go_enter Tryz.func200,Tryz.ntmps200
   go_wp2_with fail
   go_ret
   exact ⟨rfl,rfl⟩
  ·have hres:Lard.same n (Lard.vw b.data.toList) (Lard.vl l2)=false:=by cases n <;> rfl
   rw [hres]
   clear hx hy ih hres
   go_enter Tryz.func200,Tryz.ntmps200
   go_wp2_with fail
   go_ret
   exact ⟨rfl,rfl⟩
 ·obtain ⟨o,c,rfl⟩:=hr.len
  rcases hy.forms with ⟨j,rfl,rfl,hj⟩ | ⟨c2,rfl,rfl,hc⟩ | ⟨m2,l2,s2,ys2,rfl,rfl,rfl,hr2,hl2,h122,hv2⟩
  ·have hres:Lard.same (k + 1) (Lard.vl l) (Lard.vn j)=false:=rfl
   rw [hres]
   clear hx hy ih hres
   go_enter Tryz.func200,Tryz.ntmps200
   go_wp2_with fail
   go_ret
   exact ⟨rfl,rfl⟩
  ·have hres:Lard.same (k + 1) (Lard.vl l) (Lard.vw c2.data.toList)=false:=rfl
   rw [hres]
   clear hx hy ih hres
   go_enter Tryz.func200,Tryz.ntmps200
   go_wp2_with fail
   go_ret
   exact ⟨rfl,rfl⟩
  ·have hres:Lard.same (k + 1) (Lard.vl l) (Lard.vl l2)=(l.length == l2.length && sameAll k l l2):=rfl
   rw [hres]
   have hc:=equalFunc_any k (ih k rfl) l l2 _ s2 ys ys2 m2 w hr hr2 ⟨hl,hv⟩ ⟨hl2,hv2⟩ h122
   obtain ⟨o2,c2,rfl⟩:=hr2.len
   generalize (l.length == l2.length && sameAll k l l2)=q at hc ⊢
   have HC:=hide hc
   clear hx hy ih hres hc hv hv2
   go_enter Tryz.func200,Tryz.ntmps200
   go_wp2_with (go_at_call 243; refine HC.out.mono ?_; rintro e w2 ⟨rfl,rfl⟩)
   go_ret
   exact ⟨rfl,rfl⟩
theorem equal_any:∀ n,EqSays n
 |0=>equal_step 0 (fun m hm=>(by omega))
 |n + 1 => equal_step (n + 1) (fun m hm => by obtain rfl : n = m := by omega
                                              exact equal_any n)
theorem same_any {v u:Lard.V} {x y:Value} (w:World) (hx:IsVal w 3 v x) (hy:IsVal w 3 u y) :
  Calls Tryz.prog 308 #[.agg #[x,y]] w (PV w (.ok (Lard.bit (Lard.same 3 v u)))):=by
 have hB0:∀ o,Below w.heap.size w (w.alloc o):=fun o=>(Below.refl _ _).alloc (Nat.le_refl _) _
 have hc:=fun o=>equal_any 3 v u x y 3 (w.alloc o) (hx.keeps (Keeps.below (hB0 o))) (hy.keeps (Keeps.below (hB0 o)))
 obtain ⟨t1,a1,rfl⟩:=hx.one
 obtain ⟨t2,a2,rfl⟩:=hy.one
 have HC:=hide hc
 clear hc hx hy
 generalize Lard.same 3 v u=q at HC ⊢
 cases q
 all_goals
  go_enter Tryz.func308,Tryz.ntmps308
  go_wp2_with fail
  refine (HC.out _).mono ?_
  rintro e w2 ⟨rfl,rfl⟩
  go_wp2_with (go_at_call 317; refine (truth_any _ _).mono ?_; rintro e w2 ⟨rfl,rfl⟩)
  go_ret
  exact PV.num (hB0 _) rfl (by decide) (by decide)
end
section
set_option maxRecDepth 100000
set_option maxHeartbeats 2000000
open Go.RowKit
theorem makers:∃ c:Array Value,(∀ w:World,(storeCells ⟨w.heap.size,0,none⟩ ((((((((((Tryz.zeroCells371.toList).set 43 (.func (.func 303) #[] #[])).set 45 (.func (.func 304) #[] #[])).set 42 (.func (.func 305) #[] #[])).set 47 (.func (.func 306) #[] #[])).set 60 (.func (.func 307) #[] #[])).set 61 (.func (.func 308) #[] #[])).set 109 (.func (.func 309) #[] #[])).set 120 (.func (.func 310) #[] #[])).set 64 (.func (.func 311) #[] #[]))).run Tryz.prog (w.alloc (.cells Tryz.zeroCells371 371))=.ok () (w.alloc (.cells c 371)))∧c[43]? = some (.func (.func 303) #[] #[])∧c[45]? = some (.func (.func 304) #[] #[])∧c[42]? = some (.func (.func 305) #[] #[])∧c[47]? = some (.func (.func 306) #[] #[])∧c[60]? = some (.func (.func 307) #[] #[])∧c[61]? = some (.func (.func 308) #[] #[])∧c[109]? = some (.func (.func 309) #[] #[])∧c[120]? = some (.func (.func 310) #[] #[])∧c[64]? = some (.func (.func 311) #[] #[]):=by
 refine ⟨(((((((((Tryz.zeroCells371).setIfInBounds 43 (.func (.func 303) #[] #[])).setIfInBounds 45 (.func (.func 304) #[] #[])).setIfInBounds 42 (.func (.func 305) #[] #[])).setIfInBounds 47 (.func (.func 306) #[] #[])).setIfInBounds 60 (.func (.func 307) #[] #[])).setIfInBounds 61 (.func (.func 308) #[] #[])).setIfInBounds 109 (.func (.func 309) #[] #[])).setIfInBounds 120 (.func (.func 310) #[] #[])).setIfInBounds 64 (.func (.func 311) #[] #[]),fun w=>?_,by kernel_rfl,by kernel_rfl,by kernel_rfl,by kernel_rfl,by kernel_rfl,by kernel_rfl,by kernel_rfl,by kernel_rfl,by kernel_rfl⟩
 have h:=run_storeCells_new (P:=Tryz.prog) w 371 Tryz.zeroCells371 ((((((((((Tryz.zeroCells371).setIfInBounds 43 (.func (.func 303) #[] #[])).setIfInBounds 45 (.func (.func 304) #[] #[])).setIfInBounds 42 (.func (.func 305) #[] #[])).setIfInBounds 47 (.func (.func 306) #[] #[])).setIfInBounds 60 (.func (.func 307) #[] #[])).setIfInBounds 61 (.func (.func 308) #[] #[])).setIfInBounds 109 (.func (.func 309) #[] #[])).setIfInBounds 120 (.func (.func 310) #[] #[])).setIfInBounds 64 (.func (.func 311) #[] #[])) (by kernel_rfl) (by kernel_rfl) (by kernel_rfl)
 have hl:((((((((((Tryz.zeroCells371).setIfInBounds 43 (.func (.func 303) #[] #[])).setIfInBounds 45 (.func (.func 304) #[] #[])).setIfInBounds 42 (.func (.func 305) #[] #[])).setIfInBounds 47 (.func (.func 306) #[] #[])).setIfInBounds 60 (.func (.func 307) #[] #[])).setIfInBounds 61 (.func (.func 308) #[] #[])).setIfInBounds 109 (.func (.func 309) #[] #[])).setIfInBounds 120 (.func (.func 310) #[] #[])).setIfInBounds 64 (.func (.func 311) #[] #[])).toList=(((((((((Tryz.zeroCells371.toList).set 43 (.func (.func 303) #[] #[])).set 45 (.func (.func 304) #[] #[])).set 42 (.func (.func 305) #[] #[])).set 47 (.func (.func 306) #[] #[])).set 60 (.func (.func 307) #[] #[])).set 61 (.func (.func 308) #[] #[])).set 109 (.func (.func 309) #[] #[])).set 120 (.func (.func 310) #[] #[])).set 64 (.func (.func 311) #[] #[]):=by kernel_rfl
 rw [hl] at h
 exact h
theorem make_plus {v u:Lard.V} {x y:Value} (w:World) (hx:IsVal w 3 v x) (hy:IsVal w 3 u y) :
  Calls Tryz.prog 281 #[.int .u8 43,x,y] w (PV w (Lard.make 43 v u)):=by
 have hc:∀ w',Keeps w w'→Calls Tryz.prog 303 #[.agg #[x,y]] w' (PV w' (Lard.make 43 v u)):=fun w' hk=>plus_any w' (hx.keeps hk) (hy.keeps hk)
 obtain ⟨c,hst,hall⟩:=makers
 have hst:=hst w
 have hcell:(w.alloc (.cells c 371)).cell? ⟨w.heap.size,43,none⟩=some (.func (.func 303) #[] #[]):=by
  rw [cell_of_row _ _ 43 c 371 (0,0) (heap_alloc_last w _)]; exact hall.1
 have hB:Below w.heap.size w (w.alloc (.cells c 371)):=(Below.refl _ _).alloc (Nat.le_refl _) _
 obtain ⟨t1,a1,rfl⟩:=hx.one
 obtain ⟨t2,a2,rfl⟩:=hy.one
 have HC:=hide hc
 generalize Lard.make 43 v u=res at HC ⊢
 clear hc hx hy hall
 go_enter Tryz.func281,Tryz.ntmps281
 go_wp2_with fail
 refine (HC.out _ (Keeps.below hB)).mono ?_
 rintro e w2 ⟨hB2,hok,herr⟩
 have hB':Below w.heap.size w w2:=hB.trans (hB2.mono hB.size)
 cases res with
 |error c =>
  obtain rfl:=herr c rfl
  exact ⟨rfl,PV.err hB'⟩
 |ok v =>
  obtain ⟨y,rfl,hval⟩:=hok v rfl
  obtain ⟨t3,a3,rfl⟩:=hval.one
  have HV:=hide hval
  clear hval hok herr HC hst hcell
  go_wp2_with fail
  go_ret
  exact PV.ok hB' HV.out
theorem make_minus {v u:Lard.V} {x y:Value} (w:World) (hx:IsVal w 3 v x) (hy:IsVal w 3 u y) :
  Calls Tryz.prog 281 #[.int .u8 45,x,y] w (PV w (Lard.make 45 v u)):=by
 have hc:∀ w',Keeps w w'→Calls Tryz.prog 304 #[.agg #[x,y]] w' (PV w' (Lard.make 45 v u)):=fun w' hk=>minus_any w' (hx.keeps hk) (hy.keeps hk)
 obtain ⟨c,hst,hall⟩:=makers
 have hst:=hst w
 have hcell:(w.alloc (.cells c 371)).cell? ⟨w.heap.size,45,none⟩=some (.func (.func 304) #[] #[]):=by
  rw [cell_of_row _ _ 45 c 371 (0,0) (heap_alloc_last w _)]; exact hall.2.1
 have hB:Below w.heap.size w (w.alloc (.cells c 371)):=(Below.refl _ _).alloc (Nat.le_refl _) _
 obtain ⟨t1,a1,rfl⟩:=hx.one
 obtain ⟨t2,a2,rfl⟩:=hy.one
 have HC:=hide hc
 generalize Lard.make 45 v u=res at HC ⊢
 clear hc hx hy hall
 go_enter Tryz.func281,Tryz.ntmps281
 go_wp2_with fail
 refine (HC.out _ (Keeps.below hB)).mono ?_
 rintro e w2 ⟨hB2,hok,herr⟩
 have hB':Below w.heap.size w w2:=hB.trans (hB2.mono hB.size)
 cases res with
 |error c =>
  obtain rfl:=herr c rfl
  exact ⟨rfl,PV.err hB'⟩
 |ok v =>
  obtain ⟨y,rfl,hval⟩:=hok v rfl
  obtain ⟨t3,a3,rfl⟩:=hval.one
  have HV:=hide hval
  clear hval hok herr HC hst hcell
  go_wp2_with fail
  go_ret
  exact PV.ok hB' HV.out
theorem make_times {v u:Lard.V} {x y:Value} (w:World) (hx:IsVal w 3 v x) (hy:IsVal w 3 u y) :
  Calls Tryz.prog 281 #[.int .u8 42,x,y] w (PV w (Lard.make 42 v u)):=by
 have hc:∀ w',Keeps w w'→Calls Tryz.prog 305 #[.agg #[x,y]] w' (PV w' (Lard.make 42 v u)):=fun w' hk=>times_any w' (hx.keeps hk) (hy.keeps hk)
 obtain ⟨c,hst,hall⟩:=makers
 have hst:=hst w
 have hcell:(w.alloc (.cells c 371)).cell? ⟨w.heap.size,42,none⟩=some (.func (.func 305) #[] #[]):=by
  rw [cell_of_row _ _ 42 c 371 (0,0) (heap_alloc_last w _)]; exact hall.2.2.1
 have hB:Below w.heap.size w (w.alloc (.cells c 371)):=(Below.refl _ _).alloc (Nat.le_refl _) _
 obtain ⟨t1,a1,rfl⟩:=hx.one
 obtain ⟨t2,a2,rfl⟩:=hy.one
 have HC:=hide hc
 generalize Lard.make 42 v u=res at HC ⊢
 clear hc hx hy hall
 go_enter Tryz.func281,Tryz.ntmps281
 go_wp2_with fail
 refine (HC.out _ (Keeps.below hB)).mono ?_
 rintro e w2 ⟨hB2,hok,herr⟩
 have hB':Below w.heap.size w w2:=hB.trans (hB2.mono hB.size)
 cases res with
 |error c =>
  obtain rfl:=herr c rfl
  exact ⟨rfl,PV.err hB'⟩
 |ok v =>
  obtain ⟨y,rfl,hval⟩:=hok v rfl
  obtain ⟨t3,a3,rfl⟩:=hval.one
  have HV:=hide hval
  clear hval hok herr HC hst hcell
  go_wp2_with fail
  go_ret
  exact PV.ok hB' HV.out
theorem make_over {v u:Lard.V} {x y:Value} (w:World) (hx:IsVal w 3 v x) (hy:IsVal w 3 u y) :
  Calls Tryz.prog 281 #[.int .u8 47,x,y] w (PV w (Lard.make 47 v u)):=by
 have hc:∀ w',Keeps w w'→Calls Tryz.prog 306 #[.agg #[x,y]] w' (PV w' (Lard.make 47 v u)):=fun w' hk=>over_any w' (hx.keeps hk) (hy.keeps hk)
 obtain ⟨c,hst,hall⟩:=makers
 have hst:=hst w
 have hcell:(w.alloc (.cells c 371)).cell? ⟨w.heap.size,47,none⟩=some (.func (.func 306) #[] #[]):=by
  rw [cell_of_row _ _ 47 c 371 (0,0) (heap_alloc_last w _)]; exact hall.2.2.2.1
 have hB:Below w.heap.size w (w.alloc (.cells c 371)):=(Below.refl _ _).alloc (Nat.le_refl _) _
 obtain ⟨t1,a1,rfl⟩:=hx.one
 obtain ⟨t2,a2,rfl⟩:=hy.one
 have HC:=hide hc
 generalize Lard.make 47 v u=res at HC ⊢
 clear hc hx hy hall
 go_enter Tryz.func281,Tryz.ntmps281
 go_wp2_with fail
 refine (HC.out _ (Keeps.below hB)).mono ?_
 rintro e w2 ⟨hB2,hok,herr⟩
 have hB':Below w.heap.size w w2:=hB.trans (hB2.mono hB.size)
 cases res with
 |error c =>
  obtain rfl:=herr c rfl
  exact ⟨rfl,PV.err hB'⟩
 |ok v =>
  obtain ⟨y,rfl,hval⟩:=hok v rfl
  obtain ⟨t3,a3,rfl⟩:=hval.one
  have HV:=hide hval
  clear hval hok herr HC hst hcell
  go_wp2_with fail
  go_ret
  exact PV.ok hB' HV.out
theorem make_less {v u:Lard.V} {x y:Value} (w:World) (hx:IsVal w 3 v x) (hy:IsVal w 3 u y) :
  Calls Tryz.prog 281 #[.int .u8 60,x,y] w (PV w (Lard.make 60 v u)):=by
 have hc:∀ w',Keeps w w'→Calls Tryz.prog 307 #[.agg #[x,y]] w' (PV w' (Lard.make 60 v u)):=fun w' hk=>less_any w' (hx.keeps hk) (hy.keeps hk)
 obtain ⟨c,hst,hall⟩:=makers
 have hst:=hst w
 have hcell:(w.alloc (.cells c 371)).cell? ⟨w.heap.size,60,none⟩=some (.func (.func 307) #[] #[]):=by
  rw [cell_of_row _ _ 60 c 371 (0,0) (heap_alloc_last w _)]; exact hall.2.2.2.2.1
 have hB:Below w.heap.size w (w.alloc (.cells c 371)):=(Below.refl _ _).alloc (Nat.le_refl _) _
 obtain ⟨t1,a1,rfl⟩:=hx.one
 obtain ⟨t2,a2,rfl⟩:=hy.one
 have HC:=hide hc
 generalize Lard.make 60 v u=res at HC ⊢
 clear hc hx hy hall
 go_enter Tryz.func281,Tryz.ntmps281
 go_wp2_with fail
 refine (HC.out _ (Keeps.below hB)).mono ?_
 rintro e w2 ⟨hB2,hok,herr⟩
 have hB':Below w.heap.size w w2:=hB.trans (hB2.mono hB.size)
 cases res with
 |error c =>
  obtain rfl:=herr c rfl
  exact ⟨rfl,PV.err hB'⟩
 |ok v =>
  obtain ⟨y,rfl,hval⟩:=hok v rfl
  obtain ⟨t3,a3,rfl⟩:=hval.one
  have HV:=hide hval
  clear hval hok herr HC hst hcell
  go_wp2_with fail
  go_ret
  exact PV.ok hB' HV.out
theorem make_same {v u:Lard.V} {x y:Value} (w:World) (hx:IsVal w 3 v x) (hy:IsVal w 3 u y) :
  Calls Tryz.prog 281 #[.int .u8 61,x,y] w (PV w (Lard.make 61 v u)):=by
 have hc:∀ w',Keeps w w'→Calls Tryz.prog 308 #[.agg #[x,y]] w' (PV w' (Lard.make 61 v u)):=fun w' hk=>same_any w' (hx.keeps hk) (hy.keeps hk)
 obtain ⟨c,hst,hall⟩:=makers
 have hst:=hst w
 have hcell:(w.alloc (.cells c 371)).cell? ⟨w.heap.size,61,none⟩=some (.func (.func 308) #[] #[]):=by
  rw [cell_of_row _ _ 61 c 371 (0,0) (heap_alloc_last w _)]; exact hall.2.2.2.2.2.1
 have hB:Below w.heap.size w (w.alloc (.cells c 371)):=(Below.refl _ _).alloc (Nat.le_refl _) _
 obtain ⟨t1,a1,rfl⟩:=hx.one
 obtain ⟨t2,a2,rfl⟩:=hy.one
 have HC:=hide hc
 generalize Lard.make 61 v u=res at HC ⊢
 clear hc hx hy hall
 go_enter Tryz.func281,Tryz.ntmps281
 go_wp2_with fail
 refine (HC.out _ (Keeps.below hB)).mono ?_
 rintro e w2 ⟨hB2,hok,herr⟩
 have hB':Below w.heap.size w w2:=hB.trans (hB2.mono hB.size)
 cases res with
 |error c =>
  obtain rfl:=herr c rfl
  exact ⟨rfl,PV.err hB'⟩
 |ok v =>
  obtain ⟨y,rfl,hval⟩:=hok v rfl
  obtain ⟨t3,a3,rfl⟩:=hval.one
  have HV:=hide hval
  clear hval hok herr HC hst hcell
  go_wp2_with fail
  go_ret
  exact PV.ok hB' HV.out
theorem make_least {v u:Lard.V} {x y:Value} (w:World) (hx:IsVal w 3 v x) (hy:IsVal w 3 u y) :
  Calls Tryz.prog 281 #[.int .u8 109,x,y] w (PV w (Lard.make 109 v u)):=by
 have hc:∀ w',Keeps w w'→Calls Tryz.prog 309 #[.agg #[x,y]] w' (PV w' (Lard.make 109 v u)):=fun w' hk=>least_any w' (hx.keeps hk) (hy.keeps hk)
 obtain ⟨c,hst,hall⟩:=makers
 have hst:=hst w
 have hcell:(w.alloc (.cells c 371)).cell? ⟨w.heap.size,109,none⟩=some (.func (.func 309) #[] #[]):=by
  rw [cell_of_row _ _ 109 c 371 (0,0) (heap_alloc_last w _)]; exact hall.2.2.2.2.2.2.1
 have hB:Below w.heap.size w (w.alloc (.cells c 371)):=(Below.refl _ _).alloc (Nat.le_refl _) _
 obtain ⟨t1,a1,rfl⟩:=hx.one
 obtain ⟨t2,a2,rfl⟩:=hy.one
 have HC:=hide hc
 generalize Lard.make 109 v u=res at HC ⊢
 clear hc hx hy hall
 go_enter Tryz.func281,Tryz.ntmps281
 go_wp2_with fail
 refine (HC.out _ (Keeps.below hB)).mono ?_
 rintro e w2 ⟨hB2,hok,herr⟩
 have hB':Below w.heap.size w w2:=hB.trans (hB2.mono hB.size)
 cases res with
 |error c =>
  obtain rfl:=herr c rfl
  exact ⟨rfl,PV.err hB'⟩
 |ok v =>
  obtain ⟨y,rfl,hval⟩:=hok v rfl
  obtain ⟨t3,a3,rfl⟩:=hval.one
  have HV:=hide hval
  clear hval hok herr HC hst hcell
  go_wp2_with fail
  go_ret
  exact PV.ok hB' HV.out
theorem make_most {v u:Lard.V} {x y:Value} (w:World) (hx:IsVal w 3 v x) (hy:IsVal w 3 u y) :
  Calls Tryz.prog 281 #[.int .u8 120,x,y] w (PV w (Lard.make 120 v u)):=by
 have hc:∀ w',Keeps w w'→Calls Tryz.prog 310 #[.agg #[x,y]] w' (PV w' (Lard.make 120 v u)):=fun w' hk=>most_any w' (hx.keeps hk) (hy.keeps hk)
 obtain ⟨c,hst,hall⟩:=makers
 have hst:=hst w
 have hcell:(w.alloc (.cells c 371)).cell? ⟨w.heap.size,120,none⟩=some (.func (.func 310) #[] #[]):=by
  rw [cell_of_row _ _ 120 c 371 (0,0) (heap_alloc_last w _)]; exact hall.2.2.2.2.2.2.2.1
 have hB:Below w.heap.size w (w.alloc (.cells c 371)):=(Below.refl _ _).alloc (Nat.le_refl _) _
 obtain ⟨t1,a1,rfl⟩:=hx.one
 obtain ⟨t2,a2,rfl⟩:=hy.one
 have HC:=hide hc
 generalize Lard.make 120 v u=res at HC ⊢
 clear hc hx hy hall
 go_enter Tryz.func281,Tryz.ntmps281
 go_wp2_with fail
 refine (HC.out _ (Keeps.below hB)).mono ?_
 rintro e w2 ⟨hB2,hok,herr⟩
 have hB':Below w.heap.size w w2:=hB.trans (hB2.mono hB.size)
 cases res with
 |error c =>
  obtain rfl:=herr c rfl
  exact ⟨rfl,PV.err hB'⟩
 |ok v =>
  obtain ⟨y,rfl,hval⟩:=hok v rfl
  obtain ⟨t3,a3,rfl⟩:=hval.one
  have HV:=hide hval
  clear hval hok herr HC hst hcell
  go_wp2_with fail
  go_ret
  exact PV.ok hB' HV.out
theorem make_at {v u:Lard.V} {x y:Value} (w:World) (hx:IsVal w 3 v x) (hy:IsVal w 3 u y) :
  Calls Tryz.prog 281 #[.int .u8 64,x,y] w (PV w (Lard.make 64 v u)):=by
 have hc:∀ w',Keeps w w'→Calls Tryz.prog 311 #[.agg #[x,y]] w' (PV w' (Lard.make 64 v u)):=fun w' hk=>at_any w' (hx.keeps hk) (hy.keeps hk)
 obtain ⟨c,hst,hall⟩:=makers
 have hst:=hst w
 have hcell:(w.alloc (.cells c 371)).cell? ⟨w.heap.size,64,none⟩=some (.func (.func 311) #[] #[]):=by
  rw [cell_of_row _ _ 64 c 371 (0,0) (heap_alloc_last w _)]; exact hall.2.2.2.2.2.2.2.2
 have hB:Below w.heap.size w (w.alloc (.cells c 371)):=(Below.refl _ _).alloc (Nat.le_refl _) _
 obtain ⟨t1,a1,rfl⟩:=hx.one
 obtain ⟨t2,a2,rfl⟩:=hy.one
 have HC:=hide hc
 generalize Lard.make 64 v u=res at HC ⊢
 clear hc hx hy hall
 go_enter Tryz.func281,Tryz.ntmps281
 go_wp2_with fail
 refine (HC.out _ (Keeps.below hB)).mono ?_
 rintro e w2 ⟨hB2,hok,herr⟩
 have hB':Below w.heap.size w w2:=hB.trans (hB2.mono hB.size)
 cases res with
 |error c =>
  obtain rfl:=herr c rfl
  exact ⟨rfl,PV.err hB'⟩
 |ok v =>
  obtain ⟨y,rfl,hval⟩:=hok v rfl
  obtain ⟨t3,a3,rfl⟩:=hval.one
  have HV:=hide hval
  clear hval hok herr HC hst hcell
  go_wp2_with fail
  go_ret
  exact PV.ok hB' HV.out
end
section
set_option maxRecDepth 100000
set_option maxHeartbeats 1600000
open Go.RowKit
theorem strInfo:(Tryz.prog.info? 9).map (fun i=>(i.zero,i.size,i.bytes))=some (some (.string ⟨#[]⟩),1,16):=by kernel_rfl
theorem bytes_eq {a b:ByteArray} (h:a.data.toList=b.data.toList):a=b:=by
 cases a; cases b; simp at h; simp [h]
theorem own_below {w w':World} {base n size:Nat} {e:TypeId} {v:Value} {xs:List Value} (h:w.ownsRow base e size v n xs) (hB:Below w.heap.size w w'):w'.ownsRow base e size v n xs:=by
 refine ⟨h.1,?_⟩
 rcases h.2 with h' | ⟨g,cap,cur,h1,h2,h3,h4⟩
 ·exact .inl h'
 ·exact .inr ⟨g,cap,cur,h1,h2,(hB.block g (lt_of_some h3)).trans h3,h4⟩
theorem own_lt {w:World} {base n size g c:Nat} {e:TypeId} {xs:List Value} (h:w.ownsRow base e size (.slice (some ⟨g,0,none⟩) n c) n xs):g < w.heap.size:=by
 rcases h.2 with ⟨h',_⟩ | ⟨g',cap,cur,h1,h2,h3,h4⟩
 ·cases h'
 ·cases h1; exact lt_of_some h3
def wrLen:Nat→Nat
 |0=>32
 |n + 1=>12 * (wrLen n + 1) + 32
theorem commas_len {B:Nat}:∀ (l:List (List UInt8)),(∀ x∈l,x.length≤B)→(Lard.commas l).length≤l.length * (B + 1)
 |[],_=>by simp [Lard.commas]
 |[a],h=>by have:=h a (by simp); simp [Lard.commas]; omega
 |a :: b :: r,h=>by
  have h1:=h a (by simp)
  have h2:=commas_len (b :: r) (fun x hx=>h x (by simp [hx]))
  simp only [Lard.commas,List.length_append,List.length_cons] at h2 ⊢
  rw [Nat.add_mul,Nat.one_mul]
  rw [Nat.add_mul,Nat.one_mul] at h2
  rw [Nat.add_mul,Nat.one_mul]
  omega
theorem join_commas:∀ (l:List (List UInt8)),Lib.join l [44]=Lard.commas l
 |[]=>rfl
 |[a]=>Lib.join_one a [44]
 |a :: b :: r=>by
  rw [Lib.join_cons,Lard.commas,←join_commas (b :: r),Lib.join_cons]
  simp [Lib.joinTail]
theorem wr_num (n:Nat) (i:Int):Lard.wr n (Lard.vn i)=Lib.itoa i:=by cases n <;> rfl
theorem wr_word (n:Nat) (b:List UInt8):Lard.wr n (Lard.vw b)=39 :: (b++[39]):=by cases n <;> rfl
theorem wr_list (n:Nat) (l:List Lard.V):Lard.wr (n + 1) (Lard.vl l)=123 :: (Lard.commas (l.map (Lard.wr n))++[125]):=rfl
theorem IsVal.wr_len {w:World}:∀ {n:Nat} {v:Lard.V} {x:Value},IsVal w n v x→(Lard.wr n v).length≤wrLen n:=by
 intro n
 induction n with
 |zero =>
  intro v x h
  rcases h with ⟨i,rfl,_,h0,h1⟩ | ⟨b,rfl,_,h⟩
  ·rw [wr_num]; have:=Lib.itoa_length_le i h0 h1; simp [wrLen]; omega
  ·rw [wr_word]; simp [wrLen]; omega
 |succ n ih =>
  intro v x h
  rcases h with (⟨i,rfl,_,h0,h1⟩ | ⟨b,rfl,_,h⟩) | ⟨l,s,ys,rfl,_,_,hl,h12,hv⟩
  ·rw [wr_num]; have:=Lib.itoa_length_le i h0 h1; simp [wrLen]; omega
  ·rw [wr_word]; simp [wrLen]; omega
  ·rw [wr_list]
   have hc:=commas_len (B:=wrLen n) (l.map (Lard.wr n)) (fun x hx=>by
    obtain ⟨u,hu,rfl⟩:=List.mem_map.1 hx
    obtain ⟨i,hi,rfl⟩:=List.getElem_of_mem hu
    exact ih (hv i _ _ (List.getElem?_eq_getElem hi) (List.getElem?_eq_getElem (by omega))))
   have h2:l.length * (wrLen n + 1)≤12 * (wrLen n + 1):=Nat.mul_le_mul_right _ h12
   simp only [List.length_map] at hc
   simp only [wrLen,List.length_cons,List.length_append,List.length_nil]
   omega
theorem writtenW_any (b:ByteArray) (w:World) (hb:b.size≤1000) :
  Calls Tryz.prog 336 #[.string b] w fun e w'=>e=.returned (.string ⟨(39 :: (b.data.toList++[39])).toArray⟩)∧w'=w:=by
 go_enter Tryz.func336,Tryz.ntmps336
 go_wp2
 go_ret
 exact ⟨congrArg (fun s=>Ending.returned (.string s)) (bytes_eq (by simp)),rfl⟩
theorem mt_wrN (a : Value) (w : World) : (method 499 219 a "Written").run Tryz.prog w = .ok (171, a) w := by kernel_rfl
theorem mt_wrW (a : Value) (w : World) : (method 499 215 a "Written").run Tryz.prog w = .ok (336, a) w := by kernel_rfl
theorem mt_wrL (a : Value) (w : World) : (method 499 248 a "Written").run Tryz.prog w = .ok (339, a) w := by kernel_rfl
attribute [local go_sem] mt_wrN mt_wrW mt_wrL
def WrSays (n:Nat):Prop :=
 ∀ (l:List Lard.V) (s:Value) (ys:List Value) (w:World),G w→IsRow w s ys→Vals w n l ys→l.length≤12 →
  Calls Tryz.prog 339 #[s] w fun e w'=>e=.returned (.string ⟨(Lard.wr (n + 1) (Lard.vl l)).toArray⟩)∧Below w.heap.size w w'
theorem writtenL_step (n:Nat) (hn:n≤3) (ih:∀ m,n=m + 1→WrSays m):WrSays n:=by
 intro l s ys w g hr hv h12
 obtain ⟨o,c,rfl⟩:=hr.len
 have hl:=hv.1
 obtain ⟨i0,hi0,hz0,hz1,hz2⟩:=info_parts strInfo
 have HIH:=hide ih
 have HV:=hide hv
 rw [wr_list]
 generalize hres:Lard.commas (l.map (Lard.wr n))=res
 have HRES:=hide hres
 clear ih hv hres
 go_enter Tryz.func339,Tryz.ntmps339
 go_wp2_with (at_make; refine wpList_make_full _ rfl _ _ _ rfl w.heap.size 9 i0 _ 1 Tryz.underlying40 hi0 hz0 hz1 _ _ _ _ ys.length rfl rfl rfl rfl (by rw [hz2]; omega) (by unfold maxLen; omega) (Nat.le_refl _) ?_; intro w1 hown1 hg1)
 have hB1:Below w.heap.size w w1:=(Below.refl _ _).grown hg1 (Nat.le_refl _) (fun k hk=>by cases hk)
 go_loopw [11] (fun i wr=>∃ (k:Nat) (xs:List Value),k≤ys.length∧i=.int .i64 k∧Below w.heap.size w wr∧wr.ownsRow w.heap.size 9 1 (.slice (some ⟨w.heap.size,0,none⟩) ys.length ys.length) ys.length xs∧Hid (∀ j,j < k→xs[j]? = (l[j]?).map fun u=>Value.string ⟨(Lard.wr n u).toArray⟩)) (fun i _=>ys.length - (intOf i).toNat)
 case atStart=>exact ⟨0,_,Nat.zero_le _,rfl,hB1,hown1,fun j hj=>by omega⟩
 case round =>
  clear hB1 hown1 hg1
  obtain ⟨k,xs,hk,rfl,hB,hown,HX⟩:=hrel
  have gr:=g.below hB g.size
  by_cases hlt:k < ys.length
  ·obtain ⟨y,hy⟩:∃ u,ys[k]? = some u:=⟨_,List.getElem?_eq_getElem hlt⟩
   obtain ⟨u,hu⟩:∃ u,l[k]? = some u:=⟨_,List.getElem?_eq_getElem (by omega)⟩
   have hrr:=hr.keeps (Keeps.below hB)
   obtain ⟨b,rfl,hc⟩:=hrr.cell hy
   have hval:=(HV.out.2 k u y hu hy).keeps (Keeps.below hB)
   obtain ⟨z,hz⟩:∃ z,xs[k]? = some z:=⟨_,List.getElem?_eq_getElem (by have:=hown.1; omega)⟩
   have hltk:(k:Int) < (ys.length:Int):=by omega
   have after:∀ w2,Below _ _ w2→w2.cell? ⟨w.heap.size,k,none⟩=some z∧w2.frozen? ⟨w.heap.size,k,none⟩=false:=fun w2 hB2=>by
    have ho:=own_below hown hB2
    exact ⟨(ho.cellAt k (by omega)).trans hz,ho.frozenAt k⟩
   have fin:∀ (w2:World) (v:Value),Below _ _ w2→v=.string ⟨(Lard.wr n u).toArray⟩→∃ (k':Nat) (xs':List Value),k'≤ys.length∧Value.int .i64 ((k:Int) + 1)=.int .i64 (k':Int)∧Below w.heap.size w (w2.setCell ⟨w.heap.size,k,none⟩ v)∧(w2.setCell ⟨w.heap.size,k,none⟩ v).ownsRow w.heap.size 9 1 (.slice (some ⟨w.heap.size,0,none⟩) ys.length ys.length) ys.length xs'∧Hid (∀ j,j < k'→xs'[j]? = (l[j]?).map fun u=>Value.string ⟨(Lard.wr n u).toArray⟩):=fun w2 v hB2 hv=>by
    refine ⟨k + 1,xs.set k v,by omega,by go_num,(hB.trans (hB2.mono hB.size)).setCell (p:=⟨w.heap.size,k,none⟩) (Nat.le_refl _) _,((own_below hown hB2).stored k v).1,fun j hj=>?_⟩
    by_cases hjk:j=k
    ·subst hjk
     rw [List.getElem?_set_self (by have:=hown.1; omega),hu,hv]; rfl
    ·rw [List.getElem?_set_ne (fun h=>hjk h.symm)]
     exact HX.out j (by omega)
   have AF:=hide after
   have FIN:=hide fin
   clear after fin hown HX hr hrr
   rcases hval.forms with ⟨j,rfl,rfl,hj⟩ | ⟨d,rfl,rfl,hb⟩ | ⟨m2,l2,s2,ys2,hm2,rfl,rfl,hr2,hl2,h2,hv2⟩
   ·clear hval
    go_wp2_with fail
    refine (written_any j _ gr hj.1 hj.2).mono ?_
    rintro e w2 ⟨rfl,hB2⟩
    obtain ⟨hc2,hf2⟩:=AF.out w2 hB2
    have HF:=hide (FIN.out w2 _ hB2 (by rw [wr_num]))
    clear FIN AF HV
    go_wp2_with fail
    exact ⟨HF.out,by simp [intOf]; omega⟩
   ·clear hval
    go_wp2_with fail
    refine (writtenW_any d _ (by omega)).mono ?_
    rintro e w2 ⟨rfl,rfl⟩
    obtain ⟨hc2,hf2⟩:=AF.out _ (Below.refl _ _)
    have HF:=hide (FIN.out _ _ (Below.refl _ _) (by rw [wr_word]))
    clear FIN AF HV
    go_wp2_with fail
    exact ⟨HF.out,by simp [intOf]; omega⟩
   ·subst hm2
    have hI:=HIH.out m2 rfl l2 s2 ys2 _ gr hr2 ⟨hl2,hv2⟩ h2
    obtain ⟨o2,c2,rfl⟩:=hr2.len
    have HI:=hide hI
    clear hval hI hv2 hr2
    go_wp2_with fail
    refine HI.out.mono ?_
    rintro e w2 ⟨rfl,hB2⟩
    obtain ⟨hc2,hf2⟩:=AF.out w2 hB2
    have HF:=hide (FIN.out w2 _ hB2 rfl)
    clear FIN AF HV
    go_wp2_with fail
    exact ⟨HF.out,by simp [intOf]; omega⟩
  ·have hX:∀ (j:Nat) (x:ByteArray),(l.map fun u=>(⟨(Lard.wr n u).toArray⟩:ByteArray))[j]? = some x→xs[j]? = some (.string x):=fun j x hj=>by
    rw [List.getElem?_map] at hj
    cases hlj:l[j]? with
    |none=>rw [hlj] at hj; cases hj
    |some u =>
     rw [hlj] at hj
     obtain ⟨hjl,_⟩:=List.getElem?_eq_some_iff.1 hlj
     rw [HX.out j (by omega),hlj]
     cases hj; rfl
   have hlenA:((l.map fun u=>(⟨(Lard.wr n u).toArray⟩:ByteArray)).map (·.data.toList))=l.map (Lard.wr n):=by
    rw [List.map_map]; congr 1
   have hjl:(Lib.join ((l.map fun u=>(⟨(Lard.wr n u).toArray⟩:ByteArray)).map (·.data.toList)) [44])=Lard.commas (l.map (Lard.wr n)):=by
    rw [hlenA,join_commas]
   have hbound:(Lard.commas (l.map (Lard.wr n))).length≤1000000:=by
    have hc:=commas_len (B:=wrLen n) (l.map (Lard.wr n)) (fun x hx=>by
     obtain ⟨u,hu,rfl⟩:=List.mem_map.1 hx
     obtain ⟨i,hi,rfl⟩:=List.getElem_of_mem hu
     exact (HV.out.2 i _ _ (List.getElem?_eq_getElem hi) (List.getElem?_eq_getElem (by omega))).wr_len)
    have h2:l.length * (wrLen n + 1)≤12 * (wrLen n + 1):=Nat.mul_le_mul_right _ h12
    have h3:wrLen n≤70000:=by
     obtain rfl | rfl | rfl | rfl:n=0∨n=1∨n=2∨n=3:=by omega
     all_goals decide
    simp only [List.length_map] at hc
    omega
   have hcall:=Tryz.strings_Join w.heap.size 0 ys.length (l.map fun u=>(⟨(Lard.wr n u).toArray⟩:ByteArray)) ⟨#[44]⟩ _ (fun j x hj=>by
     have hlt':j < l.length:=by
      obtain ⟨h,_⟩:=List.getElem?_eq_some_iff.1 hj
      simpa using h
     rw [Nat.zero_add,hown.cellAt j (by omega)]
     exact hX j x hj) (own_lt hown) (by simp; omega) (by simp; omega) (by rw [show (⟨#[44]⟩:ByteArray).data.toList=[44] from rfl,hjl]; omega)
   rw [show (⟨#[44]⟩:ByteArray).data.toList=[44] from rfl,hjl,List.length_map,hl,HRES.out] at hcall
   rw [HRES.out] at hbound
   have HC:=hide hcall
   have hk':k=ys.length:=by omega
   subst hk'
   clear hcall hX hlenA hjl HX HV HIH hown hr
   go_wp2_with fail
   refine HC.out.mono ?_
   rintro e w2 ⟨rfl,hB2⟩
   go_wp2_with fail
   go_ret
   exact ⟨congrArg (fun s=>Ending.returned (.string s)) (bytes_eq (by simp)),hB.trans (hB2.mono hB.size)⟩
theorem writtenL_any:∀ n,n≤3→WrSays n
 |0,h=>writtenL_step 0 h (fun m hm=>by omega)
 |n + 1, h => writtenL_step (n + 1) h (fun m hm => by obtain rfl : n = m := by omega
                                                      exact writtenL_any n (by omega))
end
end Go.Proofs.YtpekpdimdelncaaGreatDoor
