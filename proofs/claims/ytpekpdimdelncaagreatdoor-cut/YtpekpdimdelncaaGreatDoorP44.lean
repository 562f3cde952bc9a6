/- Out of: J11, J12, F1, F2, S1. -/
import Derived.Test.YtpekpdimdelncaaGreatDoorP42
import Derived.Test.YtpekpdimdelncaaGreatDoorP43
import Derived.Test.YtpekpdimdelncaaGreatDoorP38
import Derived.Test.YtpekpdimdelncaaGreatDoorP37
import Derived.Deep.AppendLies
import Derived.Test.YtpekpdimdelncaaGreatDoorP40
set_option linter.unusedVariables false
set_option linter.unusedSimpArgs false
namespace Go.Proofs.YtpekpdimdelncaaGreatDoor
section
set_option maxRecDepth 100000
set_option maxHeartbeats 4000000
open Go.RowKit Go.Shelf
def restL (ts:List (List UInt8)) (p:List UInt8) (i:Nat):List UInt8:=(ts.drop i).flatMap Lard.line++p
theorem rest_first {ts:List (List UInt8)} {p:List UInt8} (hts:∀ t∈ts,Lard.No10 t) {i:Nat} {t:List UInt8} (h:ts[i]? = some t):Lard.firstL (restL ts p i)=some (t,restL ts p (i + 1))∧(restL ts p (i + 1)).length < (restL ts p i).length:=by
 have hi:=(List.getElem?_eq_some_iff.1 h).1
 have hd:ts.drop i=t :: ts.drop (i + 1):=by
  rw [List.drop_eq_getElem_cons hi]
  rw [(List.getElem?_eq_some_iff.1 h).2]
 have e:restL ts p i=Lard.line t++restL ts p (i + 1):=by
  unfold restL
  rw [hd,List.flatMap_cons,List.append_assoc]
 rw [e]
 refine ⟨Lard.firstL_line (hts t (List.mem_of_getElem? h)) _,?_⟩
 rw [List.length_append,line_len]
 omega
theorem rest_end {ts:List (List UInt8)} {p:List UInt8} (hp:Lard.No10 p):Lard.firstL (restL ts p ts.length)=none:=by
 unfold restL
 rw [List.drop_length]
 exact Lard.firstL_part hp
def FI (ts:List (List UInt8)) (p:List UInt8) (i:Nat) (a b:ByteArray) (k:Bool):Prop:=(∃ t,ts[i]? = some t∧a=⟨t.toArray⟩∧b.data.toList=restL ts p (i + 1)∧k=true)∨(i=ts.length∧k=false)
theorem FI.of {ts:List (List UInt8)} {p:List UInt8} (hts:∀ t∈ts,Lard.No10 t) (hp:Lard.No10 p) {i:Nat} (hi:i≤ts.length) {a b:ByteArray} {k:Bool} (h:match Lard.firstL (restL ts p i) with | some (t,r)=>a.data.toList=t∧b.data.toList=r∧k=true | none=>k=false):FI ts p i a b k:=by
 rcases Nat.lt_or_ge i ts.length with hlt | hge
 ·obtain ⟨t,ht⟩:∃ t,ts[i]? = some t:=⟨_,List.getElem?_eq_getElem hlt⟩
  rw [(rest_first hts ht).1] at h
  obtain ⟨h1,h2,h3⟩:=h
  exact .inl ⟨t,ht,by rw [←h1],h2,h3⟩
 ·obtain rfl:i=ts.length:=by omega
  rw [rest_end hp] at h
  exact .inr ⟨rfl,h⟩
theorem in_range (l jb:Nat) (ts:List (List UInt8)) (p:List UInt8) (hts:∀ t∈ts,Lard.No10 t) (hp:Lard.No10 p) (sb:ByteArray) (hsb:sb.data.toList=restL ts p 0) (hsz:sb.size≤1000000) (J:Nat→World→Prop) (hJ8:∀ i W,J i W→8≤W.heap.size∧Deb W∧Mx W) (hJB:∀ i W W',J i W→Below W.heap.size W W'→J i W')
  (w:World) (h0:J 0 w) (hc:w.cell? ⟨jb,0,none⟩=some (.string sb)) (hy:∀ i t W,ts[i]? = some t→J i W→YieldAt Fence.wide 0 Tryz.prog l #[.string ⟨t.toArray⟩] W fun e w'=>e=.returned (.bool true)∧J (i + 1) w') :
  Calls Tryz.prog 98 #[.func (.yield l) #[] #[],.pointer (some ⟨jb,0,none⟩)] w fun e w'=>e=.returned (.tuple #[])∧J ts.length w':=by
 have HF:=hide (fun i (b:ByteArray) (W:World) (hb:b.data.toList=restL ts p i) (hi:i≤ts.length) (hbs:b.size≤1000000) (hJ:J i W)=>(lfirst_any b W hbs (hJ8 i W hJ).2.1 (hJ8 i W hJ).2.2 (hJ8 i W hJ).1).mono (R':=fun e w'=>∃ (a b:ByteArray) (k:Bool),e=.returned (.tuple #[.string a,.string b,.bool k])∧FI ts p i a b k∧J i w') (by
  rintro e w' ⟨⟨a,b',k,rfl,hm⟩,hB⟩
  rw [hb] at hm
  exact ⟨a,b',k,rfl,FI.of hts hp hi hm,hJB i W w' hJ hB⟩))
 have HY:=hide hy
 have HR:=hide (fun (i:Nat) (t:List UInt8) (h:ts[i]? = some t)=>(rest_first (p:=p) hts h).2)
 have H0:=hide (HF.out 0 sb w hsb (Nat.zero_le _) hsz h0)
 have hlt0:sb.data.toList.length=(restL ts p 0).length:=by rw [hsb]
 have HRL:Hid (∀ i,(restL ts p i).length≤1000000):=hide (fun i=>by
  have h1:(restL ts p i).length≤(restL ts p 0).length:=by
   unfold restL
   rw [List.length_append,List.length_append,List.drop_zero]
   have h2:ts.flatMap Lard.line=(ts.take i).flatMap Lard.line++(ts.drop i).flatMap Lard.line:=by rw [←List.flatMap_append,List.take_append_drop]
   have h3:=congrArg List.length h2
   rw [List.length_append] at h3
   omega
  rw [size_data] at hsz
  omega)
 clear hy hts hp hJ8 hJB h0 hsb hsz hlt0
 refine (callsIn_wide (n:=0)).1 ?_
 refine callsIn_of_wp Tryz.func98 rfl trivial ?_
 simp only [Tryz.ntmps98,List.size_toArray,List.length_cons,List.length_nil,Nat.reduceAdd,Nat.reduceSub,Array.replicate_succ,Array.replicate_zero,List.push_toArray,List.append_toArray,List.nil_append,List.cons_append]
 gi_wp2_with fail
 refine ⟨trivial,rfl,(callsIn_wide.2 H0.out).mono ?_⟩
 rintro e w1 ⟨a,b,k,rfl,hfi,hj⟩
 have HA:Hid (FI ts p 0 a b k∧J 0 w1):=hide ⟨hfi,hj⟩
 clear hfi hj H0 hc
 gi_wp2_with fail
 gi_loopw [3,4,5] (fun tv rv ov wr=>∃ (i:Nat) (a b:ByteArray) (k:Bool),tv=.string a∧rv=.string b∧ov=.bool k∧i≤ts.length∧Hid (FI ts p i a b k∧J i wr)) (fun _ rv ov _=>bnOf ov * (szOf rv + 1))
 case atStart=>exact ⟨0,a,b,k,rfl,rfl,rfl,Nat.zero_le _,HA⟩
 case round =>
  obtain ⟨i,a,b,k,rfl,rfl,rfl,hi,HX⟩:=hrel
  clear HA
  rcases HX.out.1 with ⟨t,ht,rfl,hb,rfl⟩ | ⟨rfl,rfl⟩
  ·obtain ⟨fn,tmps,assign,body,hyr,hRound⟩:=HY.out i t wr ht HX.out.2
   have HRo:=hide hRound
   clear hRound
   gi_wp2_with fail
   refine ⟨rfl,HRo.out.mono ?_⟩
   rintro e w2 ⟨rfl,hj2⟩
   have hi1:i + 1≤ts.length:=(List.getElem?_eq_some_iff.1 ht).1
   have HN:=hide (HF.out (i + 1) b w2 hb hi1 (by rw [size_data,hb]; exact HRL.out _) hj2)
   clear HRo hyr hj2 HX
   gi_wp2_with fail
   refine ⟨trivial,rfl,(callsIn_wide.2 HN.out).mono ?_⟩
   rintro e w3 ⟨a',b',k',rfl,hfi,hj⟩
   have HX2:Hid (FI ts p (i + 1) a' b' k'∧J (i + 1) w3):=hide ⟨hfi,hj⟩
   have HM:Hid (bnOf (.bool k') * (szOf (.string b') + 1) < bnOf (.bool true) * (szOf (.string b) + 1)):=hide (by
    rcases hfi with ⟨t',ht',_,hb',rfl⟩ | ⟨_,rfl⟩
    ·have:=HR.out _ _ ht'
     rw [←hb,←hb',←size_data,←size_data] at this
     simp [bnOf,szOf]
     omega
    ·simp [bnOf,szOf])
   clear hfi hj HN
   gi_wp2_with fail
   exact ⟨⟨i + 1,a',b',k',rfl,rfl,rfl,hi1,HX2⟩,HM.out⟩
  ·gi_wp2_with fail
   refine ⟨fun f h=>(by cases h),?_⟩
   have HE:=hide HX.out.2
   clear HX
   gi_wp2_with fail
   go_end0
   exact ⟨rfl,HE.out⟩
end
section
set_option maxRecDepth 100000
set_option maxHeartbeats 4000000
open Go.RowKit Go.Shelf
attribute [local go_sem] Oper.semAt_some
theorem sto_chain {ts:List (List UInt8)} {h:List (List UInt8×Lard.Thing)} (hs:Lard.Sto ts h):∃ f:Nat→List (List UInt8×Lard.Thing),f 0=[]∧f ts.length=h∧(∀ i t,ts[i]? = some t→Lard.Ln (f i) t (f (i + 1)))∧∀ i,i≤ts.length→Lard.Sto (ts.take i) (f i):=by
 induction hs using Lard.Sto.ind with
 |nil=>exact ⟨fun _=>[],rfl,rfl,fun i t ht=>by simp at ht,fun i hi=>by simpa using Lard.Sto.nil⟩
 |@snoc jr t h h' hs hl ih =>
  obtain ⟨f,h0,h1,h2,h3⟩:=ih
  refine ⟨fun i=>if i≤jr.length then f i else h',by simp [h0],by simp; omega,fun i u hu=>?_,fun i hi=>?_⟩
  ·rcases Nat.lt_or_ge i jr.length with hlt | hge
   ·rw [List.getElem?_append_left hlt] at hu
    simp only [show i≤jr.length by omega,show i + 1≤jr.length by omega,if_true]
    exact h2 i u hu
   ·have hi:=(List.getElem?_eq_some_iff.1 hu).1
    simp at hi
    obtain rfl:i=jr.length:=by omega
    simp at hu
    subst hu
    simp only [Nat.le_refl,if_true,show ¬ jr.length + 1≤jr.length by omega,if_false]
    rw [h1]
    exact hl
  ·rcases Nat.lt_or_ge jr.length i with hlt | hge
   ·simp only [show ¬ i≤jr.length by omega,if_false]
    rw [List.take_of_length_le (by simp; omega)]
    exact hs.snoc hl
   ·simp only [show i≤jr.length from hge,if_true]
    rw [List.take_append_of_le_length hge]
    exact h3 i hge
theorem sto_no10 {ts:List (List UInt8)} {h:List (List UInt8×Lard.Thing)} (hs:Lard.Sto ts h):∀ t∈ts,Lard.No10 t:=by
 obtain ⟨f,_,_,h2,h3⟩:=sto_chain hs
 intro t ht
 obtain ⟨i,hi⟩:=List.getElem?_of_mem ht
 have hl:=(List.getElem?_eq_some_iff.1 hi).1
 exact (h2 i t hi).no10 (h3 i (by omega)).sound.ef
theorem in_call (sb:ByteArray) (w:World):Calls Tryz.prog 62 #[.string sb] w fun e w'=>e=.returned (.func (.func 98) #[] #[.pointer (some ⟨w.heap.size,0,none⟩)])∧w'=w.alloc (.cells #[.string sb] 9):=by
 have hmf:∀ (fn:Fn) (first cap:Array Value) (w:World),(Instr.makeFunc fn first cap).run Tryz.prog w=.ok (.func fn first cap) w:=fun _ _ _ _=>rfl
 go_enter Tryz.func62,Tryz.ntmps62
 go_wp2_with fail
 go_ret
 exact ⟨rfl,rfl⟩
theorem open_long (w:World) (sb:ByteArray) (hsz:200000 < sb.size):Calls Tryz.prog 34 #[.string sb] w fun e w'=>e=.returned (.tuple #[.pointer none,.int .i64 2])∧w'=w:=by
 have hb:(200000:Int) < (sb.size:Int):=by omega
 go_enter Tryz.func34,Tryz.ntmps34
 go_wp2_with fail
 exact bodyPost_ret (v:=.tuple #[.pointer none,.int .i64 2]) (by simp [results,Tryz.results34,go_sem]) rfl ⟨rfl,rfl⟩
theorem La.putObj {W:World} {lb:Nat} {q:Lard.LS} {L:Nat→Prop} {N:Nat} (h:La W lb q L N) {l:Nat} (o:Obj) (h8:8≤l) (hl:¬ L l) (hno:∀ cs t fz,W.heap[l]? ≠ some (.cells cs t fz)):La (W.putObj l o) lb q L N :=
 h.other (L2:=fun k=>k=l) ⟨rfl,rfl,rfl,by simp,fun k hk hne=>World.putObj_heap_other hne⟩ (fun k hk=>by rw [hk]; exact h8) (fun k hk cs t fz hc=>by rw [hk] at hc; exact (hno _ _ _ hc).elim) (fun k hk e=>hl (e ▸ hk))
theorem take_bytes (ts:List (List UInt8)) (i:Nat):(jbytes (ts.take i)).length≤(ts.flatMap Lard.line).length:=by
 have h2:ts.flatMap Lard.line=(ts.take i).flatMap Lard.line++(ts.drop i).flatMap Lard.line:=by rw [←List.flatMap_append,List.take_append_drop]
 have h3:=congrArg List.length h2
 rw [List.length_append] at h3
 show ((ts.take i).flatMap Lard.line).length≤_
 omega
structure OJ (w:World) (lb n1:Nat) (lp:Loop) (f:Nat→List (List UInt8×Lard.Thing)) (ts:List (List UInt8)) (i:Nat) (W:World):Prop where
 la:∃ L,La W lb (Lard.LS.of (f i) (ts.take i)) L 200000∧∀ k,L k→w.heap.size≤k∧(k < n1∨n1 + 4≤k)
 mx:Mx W
 bel:Below w.heap.size w W
 box:W.heap[n1]? = some (.cells #[ptr lb] 29 (0,0))
 dfr:W.heap[n1 + 2]? = some (.deferred (some []))
 lop:W.heap[n1 + 2 + 1]? = some (.loop lp)
section
variable {w W W':World} {lb n1:Nat} {lp:Loop} {f:Nat→List (List UInt8×Lard.Thing)} {ts:List (List UInt8)} {i:Nat}
theorem OJ.below (h:OJ w lb n1 lp f ts i W) (h8:8≤w.heap.size) (hB:Below W.heap.size W W'):OJ w lb n1 lp f ts i W':=by
 obtain ⟨⟨L,h1,h2⟩,h3,h4,h5,h6,h7⟩:=h
 have hs:=h4.size
 exact ⟨⟨L,h1.below hB,h2⟩,h3.below hB (by omega),h4.trans (hB.mono hs),(hB.block _ (lt_of_some h5)).trans h5,(hB.block _ (Array.getElem?_eq_some_iff.1 h6).1).trans h6,(hB.block _ (Array.getElem?_eq_some_iff.1 h7).1).trans h7⟩
theorem OJ.round (h:OJ w lb n1 lp f ts i W) (h8:8≤w.heap.size) (hn1:w.heap.size≤n1) (hsz:(ts.flatMap Lard.line).length≤200000) {t:List UInt8} (ht:ts[i]? = some t) (o:Obj) (ho:∀ cs t fz,o≠.cells cs t fz) :
  ∃ L,La (W.putObj (n1 + 2 + 1) o) lb (Lard.LS.of (f i) (ts.take i)) L 200000∧Mx (W.putObj (n1 + 2 + 1) o)∧(W.putObj (n1 + 2 + 1) o).cell? ⟨n1,0,none⟩=some (ptr lb) ∧
   ∀ M w2,LaPost (W.putObj (n1 + 2 + 1) o) lb L { Lard.LS.of (f i) (ts.take i) with has:=f (i + 1),jr:=ts.take i++[t] } M w2→w2.heap[n1 + 2 + 1]? = some o∧OJ w lb n1 lp f ts (i + 1) (w2.putObj (n1 + 2 + 1) (.loop lp)):=by
 obtain ⟨⟨L,h1,h2⟩,h3,h4,h5,h6,h7⟩:=h
 have hno:∀ k,n1≤k→k < n1 + 4→¬ L k:=fun k ha hb hl=>by have:=(h2 k hl).2; omega
 have hl3:=(Array.getElem?_eq_some_iff.1 h7).1
 have hB8:Below w.heap.size W (W.putObj (n1 + 2 + 1) o):=⟨rfl,rfl,rfl,by simp,fun k hk=>World.putObj_heap_other (by omega)⟩
 have e1:(W.putObj (n1 + 2 + 1) o).heap[n1]? = some (.cells #[ptr lb] 29 (0,0)):=(World.putObj_heap_other (by omega)).trans h5
 have e2:(W.putObj (n1 + 2 + 1) o).heap[n1 + 2]? = some (.deferred (some [])):=(World.putObj_heap_other (by omega)).trans h6
 have e3:(W.putObj (n1 + 2 + 1) o).heap[n1 + 2 + 1]? = some o:=World.putObj_heap_same hl3
 have hly:=h1.putObj (l:=n1 + 2 + 1) o (by omega) (hno _ (by omega) (by omega)) (fun cs t fz e=>by rw [h7] at e; cases e)
 refine ⟨L,hly,h3.below hB8 (by omega),by simp [World.cell?,e1],fun M w2 hP=>?_⟩
 obtain ⟨L2,g1,g2,g3,g4⟩:=hP
 have hsz2:(W.putObj (n1 + 2 + 1) o).heap.size=W.heap.size:=by simp
 have k1:=(g4.block n1 (lt_of_some e1) (hno _ (by omega) (by omega))).trans e1
 have k2:=(g4.block (n1 + 2) (Array.getElem?_eq_some_iff.1 e2).1 (hno _ (by omega) (by omega))).trans e2
 have k3:=(g4.block (n1 + 2 + 1) (Array.getElem?_eq_some_iff.1 e3).1 (hno _ (by omega) (by omega))).trans e3
 have hl3':=(Array.getElem?_eq_some_iff.1 k3).1
 have hL2:∀ k,L2 k→w.heap.size≤k∧(k < n1∨n1 + 4≤k):=fun k hk=>by
  rcases g2 k hk with h | h
  ·exact h2 k h
  ·have:=h4.size
   exact ⟨by omega,by omega⟩
 have htk:ts.take (i + 1)=ts.take i++[t]:=by rw [List.take_add_one,ht]; rfl
 have hBw:Below w.heap.size w w2:=(h4.trans (hB8.mono (Nat.le_refl _))).trans ⟨g4.os,g4.tape,g4.output,Nat.le_trans (by omega) g4.size,fun k hk=>g4.block k (by have:=h4.size; omega) (fun hl=>by have:=(h2 k hl).1; omega)⟩
 have hq:(Lard.LS.of (f (i + 1)) (ts.take (i + 1)))={ Lard.LS.of (f i) (ts.take i) with has:=f (i + 1),jr:=ts.take i++[t] }:=by rw [htk]; rfl
 have g1':La w2 lb (Lard.LS.of (f (i + 1)) (ts.take (i + 1))) L2 200000:=by
  have hj:(jbytes (ts.take i++[t])).length≤200000:=by
   rw [←htk]
   exact Nat.le_trans (take_bytes ts (i + 1)) hsz
  rw [hq]
  exact ⟨g1.lat,g1.g,g1.deb,g1.sound,hj⟩
 have hB3:Below w.heap.size w2 (w2.putObj (n1 + 2 + 1) (.loop lp)):=⟨rfl,rfl,rfl,by simp,fun k hk=>World.putObj_heap_other (by omega)⟩
 have hm0:Mx w2:=(h3.below hB8 (by omega)).below (B:=w.heap.size) ⟨g4.os,g4.tape,g4.output,g4.size,fun k hk=>g4.block k (by have:=h4.size; omega) (fun hl=>by have:=(h2 k hl).1; omega)⟩ (by omega)
 exact ⟨k3,⟨⟨L2,g1'.putObj _ (by omega) (fun hl=>by have:=(hL2 _ hl).2; omega) (fun cs t fz e=>by rw [k3] at e; cases e; exact ho _ _ _ rfl),hL2⟩,hm0.below hB3 (by omega),hBw.trans hB3,(World.putObj_heap_other (by omega)).trans k1,(World.putObj_heap_other (by omega)).trans k2,World.putObj_heap_same hl3'⟩⟩
end
theorem open_any (w:World) (g:G w) (hd:Deb w) (hmx:Mx w) (sb:ByteArray) (ts:List (List UInt8)) (p:List UInt8) (h:List (List UInt8×Lard.Thing)) (hs:Lard.Sto ts h) (hp:Lard.No10 p) (hsb:sb.data.toList=ts.flatMap Lard.line++p) (hsz:sb.size≤200000) :
  Calls Tryz.prog 34 #[.string sb] w fun e w'=>∃ lb L,e=.returned (.tuple #[ptr lb,.int .i64 0])∧La w' lb (Lard.LS.of h ts) L 200000∧(∀ k,L k→w.heap.size≤k)∧Below w.heap.size w w':=by
 have hb:¬ (200000:Int) < (sb.size:Int):=by omega
 have HN:=hide (la_new w g hd)
 have HI:=hide (in_call sb)
 obtain ⟨n,hn⟩:∃ n,w.heap.size=n:=⟨_,rfl⟩
 refine (callsIn_wide (n:=0)).1 ?_
 refine callsIn_of_wp_marks Tryz.func34 rfl trivial ?_
 simp only [Tryz.ntmps34,List.size_toArray,List.length_cons,List.length_nil,Nat.reduceAdd,Nat.reduceSub,Array.replicate_succ,Array.replicate_zero,List.push_toArray,List.append_toArray,List.nil_append,List.cons_append]
 gi_wp2_with fail
 refine ⟨trivial,rfl,(callsIn_wide.2 HN.out).mono ?_⟩
 rintro e w1 ⟨lb,rfl,hla,hB1⟩
 unfold ptr
 gi_wp2_with fail
 refine ⟨trivial,rfl,(callsIn_wide.2 (HI.out _)).mono ?_⟩
 rintro e w' ⟨rfl,hw'⟩
 obtain rfl:=hw'
 gi_wp2_with fail
 obtain ⟨n1,hn1⟩:∃ n1,w1.heap.size=n1:=⟨_,rfl⟩
 obtain ⟨Wb,hWb⟩:∃ Wb,((w1.alloc (.cells #[.pointer (some ⟨lb,0,none⟩)] 29)).alloc (.cells #[.string sb] 9))=Wb:=⟨_,rfl⟩
 have hszb:Wb.heap.size=n1 + 2:=by rw [←hWb]; simp [hn1]
 rw [hWb]
 simp only [hn1]
 refine wpIn_rangeFunc ?_
 intro fn hfn
 refine ⟨_,_,_,_,_,_,_,_,run_enterLoop_outer _ _ _ _ _,(by simp [resolve,go_sem]; exact ⟨rfl,rfl⟩),(fun _ _=>trivial),(by simp [invoke,go_sem]; exact ⟨⟨rfl,rfl⟩,rfl⟩),(fun h=>by cases h),?_⟩
 simp only [hszb]
 refine named_loop (C:=fun x=>CallsIn _ _ _ _ _ x _) _ ?_
 intro lp hlp
 obtain ⟨f,f0,f1,f2,f3⟩:=sto_chain hs
 have h8:=g.size
 have hnn:w.heap.size≤n1:=by have:=hB1.size; omega
 have hr:lp.state=.ready:=by rw [hlp]
 have hpd:lp.pending=none:=by rw [hlp]
 have hflat:(ts.flatMap Lard.line).length≤200000:=by
  rw [size_data,hsb,List.length_append] at hsz
  omega
 have hBb:Below w1.heap.size w1 ((Wb.alloc (.deferred (some []))).alloc (.loop lp)):=by
  rw [←hWb]
  exact (((Below.refl _ w1).alloc (Nat.le_refl _) _).alloc (by simp) _ |>.alloc (by simp; omega) _).alloc (by simp; omega) _
 have hBw:=hB1.trans (hBb.mono hB1.size)
 have e1:((Wb.alloc (.deferred (some []))).alloc (.loop lp)).heap[n1]? = some (.cells #[ptr lb] 29 (0,0)):=(Below.heap_alloc _ _ _ (by simp; omega)).trans ((Below.heap_alloc _ _ _ (by omega)).trans (by rw [←hWb,←hn1]; exact (Below.heap_alloc _ _ _ (by simp)).trans (heap_alloc_new w1 _)))
 have ej:((Wb.alloc (.deferred (some []))).alloc (.loop lp)).heap[n1 + 1]? = some (.cells #[.string sb] 9 (0,0)):=(Below.heap_alloc _ _ _ (by simp; omega)).trans ((Below.heap_alloc _ _ _ (by omega)).trans (by
  have:=heap_alloc_new (w1.alloc (.cells #[.pointer (some ⟨lb,0,none⟩)] 29)) (.cells #[.string sb] 9)
  rw [World.size_alloc,hn1,hWb] at this
  exact this))
 have e2:((Wb.alloc (.deferred (some []))).alloc (.loop lp)).heap[n1 + 2]? = some (.deferred (some [])):=(Below.heap_alloc _ _ _ (by simp; omega)).trans (by rw [←hszb]; exact World.alloc_heap_new Wb _)
 have e3:((Wb.alloc (.deferred (some []))).alloc (.loop lp)).heap[n1 + 2 + 1]? = some (.loop lp):=by have:=World.alloc_heap_new (Wb.alloc (.deferred (some []))) (.loop lp); rw [World.size_alloc,hszb] at this; exact this
 have hJ0:OJ w lb n1 lp f ts 0 ((Wb.alloc (.deferred (some []))).alloc (.loop lp)):=⟨⟨fun k=>w.heap.size≤k∧k≤w.heap.size + 2,by
  rw [f0]
  exact (hla.below hBb).le (Nat.zero_le _),fun k hk=>⟨hk.1,.inl (by have:=(hla.lat.lt hk).2; omega)⟩⟩,hmx.below hBw (by omega),hBw,e1,e2,e3⟩
 have HIN:=in_range (n1 + 2 + 1) (n1 + 1) ts p (sto_no10 hs) hp sb (by rw [hsb]; rfl) (by omega) (OJ w lb n1 lp f ts) (fun i W hJ=>by
  obtain ⟨L,a,_⟩:=hJ.la
  exact ⟨a.g.size,a.deb,hJ.mx⟩) (fun i W W' hJ hB=>hJ.below h8 hB) _ hJ0 (by simp [World.cell?,ej]) (fun i t W ht hJ=>by
  obtain ⟨L,q1,q2,q3,q5⟩:=hJ.round h8 hnn hflat ht (.loop { lp with state:=.busy }) (fun _ _ _ e=>by cases e)
  refine ⟨_,_,_,_,run_yield hJ.lop (by rw [hlp]; rfl),roundIn_of_wpIn trivial ?_⟩
  have hbr:=run_beginRound (P:=Tryz.prog) hJ.lop hr
  have hts:(⟨t.toArray⟩:ByteArray).size≤200000:=by
   have h1:=take_bytes ts (i + 1)
   rw [show ts.take (i + 1)=ts.take i++[t] from by rw [List.take_add_one,ht]; rfl,jr_snoc] at h1
   rw [size_mk]
   omega
  have HR:=hide (la_redo q1 q2 ⟨t.toArray⟩ (h':=f (i + 1)) (by rw [data_mk]; exact f2 i t ht) hts (by omega))
  rw [data_mk] at HR
  have hlpc:∀ W:World,W.heap[n1 + 2 + 1]? = some (.loop { lp with state:=.busy })→(Instr.endRound (n1 + 2 + 1) none).run Tryz.prog W=.ok (.bool true) (W.putObj (n1 + 2 + 1) (.loop lp)):=fun W hW=>by
   have:=run_endRound (P:=Tryz.prog) none hW
   rw [this]
   generalize lp=z at hr hpd
   cases z
   cases hr
   cases hpd
   rfl
  have HE:=hide hlpc
  have HQ:=hide q5
  have HLP:=hide (And.intro hJ.lop hr)
  simp only [hlp]
  unfold ptr at q3 HR
  obtain ⟨Wy,hWy⟩:∃ Wy,W.putObj (n1 + 2 + 1) (.loop { lp with state:=.busy })=Wy:=⟨_,rfl⟩
  rw [hWy] at HR HQ q3 hbr
  clear hlpc q5 q1 q2 hJ hJ0 e1 e2 e3 ej hBb hBw hla hsb hsz hflat f2 f3 hs hWb hWy
  simp only [List.zip_toArray,List.zip_cons_cons,List.zip_nil_right,List.size_toArray,List.foldl_toArray,List.foldl_cons,List.foldl_nil,List.setIfInBounds_toArray,List.set_cons_succ,List.set_cons_zero]
  gi_wp2_with fail
  refine ⟨trivial,rfl,CallsIn.inRound (n1 + 2 + 1) ((callsIn_wide.2 HR.out).mono ?_)⟩
  rintro e w2 ⟨rfl,hP⟩
  obtain ⟨k3,hJ2⟩:=HQ.out _ w2 hP
  have HJ2:=hide (And.intro (HE.out _ k3) hJ2)
  clear k3 hJ2 hP HQ HE HR hbr q3
  gi_wp2_with fail
  exact ⟨_,_,HJ2.out.1,rfl,by rw [←hlp]; exact HJ2.out.2⟩)
 refine (callsIn_wide.2 HIN).mono ?_
 rintro e W ⟨rfl,hJ⟩
 obtain ⟨⟨L,j1,j2⟩,j3,j4,j5,j6,j7⟩:=hJ
 rw [f1,List.take_length] at j1
 have hno:∀ k,n1≤k→k < n1 + 4→¬ L k:=fun k ha hb hl=>by have:=(j2 k hl).2; omega
 have hst:(Instr.endLoop (n1 + 2 + 1)).run Tryz.prog W=.ok none (W.putObj (n1 + 2 + 1) (.loop { lp with state:=.exhausted })):=by
  have:=run_endLoop (P:=Tryz.prog) j7 (fun e=>by rw [hr] at e; cases e)
  rw [this,hpd]
 have k1:(W.putObj (n1 + 2 + 1) (.loop { lp with state:=.exhausted })).heap[n1]? = some (.cells #[ptr lb] 29 (0,0)):=(World.putObj_heap_other (by omega)).trans j5
 have k2:(W.putObj (n1 + 2 + 1) (.loop { lp with state:=.exhausted })).heap[n1 + 2]? = some (.deferred (some [])):=(World.putObj_heap_other (by omega)).trans j6
 have l1:=j1.putObj (l:=n1 + 2 + 1) (.loop { lp with state:=.exhausted }) (by omega) (hno _ (by omega) (by omega)) (fun cs t fz e=>by rw [j7] at e; cases e)
 have l2:=l1.putObj (l:=n1 + 2) (.deferred none) (by omega) (hno _ (by omega) (by omega)) (fun cs t fz e=>by rw [k2] at e; cases e)
 have hta:=run_takeDeferred (P:=Tryz.prog) k2
 have hBf:Below w.heap.size w ((W.putObj (n1 + 2 + 1) (.loop { lp with state:=.exhausted })).putObj (n1 + 2) (.deferred none)):=j4.trans ⟨rfl,rfl,rfl,by simp,fun k hk=>(World.putObj_heap_other (by omega)).trans (World.putObj_heap_other (by omega))⟩
 have c4:(W.putObj (n1 + 2 + 1) (.loop { lp with state:=.exhausted })).cell? ⟨n1,0,none⟩=some (.pointer (some ⟨lb,0,none⟩)):=by simp [World.cell?,k1,ptr]
 have HEND:=hide (And.intro l2 (And.intro (fun k hk=>(j2 k hk).1) hBf))
 generalize (W.putObj (n1 + 2 + 1) (.loop { lp with state:=.exhausted }))=W4 at hst hta c4 HEND
 clear hBf l2 l1 k1 k2 j1 j2 j3 j4 j5 j6 j7 HIN hJ0 e1 e2 e3 ej hBb hBw hla hsb hsz hflat f2 f3 hs hWb f0 f1 hlp hr hpd hno HN HI hB1 hn1 hszb
 rename_i K HK
 refine ⟨none,W4,hst,?_⟩
 show K _ W4
 refine HK _ _ (wpIn_wide.2 ?_)
 go_wp2_with fail
 refine ⟨(fun e=>by cases e),.inl ⟨n1 + 2,_,rfl,hta,?_⟩⟩
 refine ⟨.tuple #[.pointer (some ⟨lb,0,none⟩),.int .i64 0],?_,lb,_,rfl,HEND.out⟩
 simp [results,Tryz.results34,go_sem]
end
section
set_option maxRecDepth 100000
set_option maxHeartbeats 4000000
open Go.RowKit Go.Shelf
theorem hl_start {w0 w w1:World} {lb hb:Nat} {L:Nat→Prop} (hm:HM w hb (fun _=>(0,[]))) (hown:w0.heap.size≤hb∧8≤hb) (hB:Below w0.heap.size w0 w) (hla:La w1 lb Lard.LS.new L 0) (hL:∀ k,L k→w.heap.size≤k) (hB1:Below w.heap.size w w1):HL w0 w1 lb hb Lard.LS.new L 0 (fun _=>(0,[])):=by
 have h1:=hm.lt
 have h2:=hB.size
 exact ⟨hla,hm.same (hB1.block _ h1),fun k hk=>⟨by have:=hL k hk; omega,by have:=hL k hk; omega⟩,hown,hB.trans (hB1.mono h2),Lard.HasOk.none8,fun i hi=>.inl rfl⟩
theorem played_p (I:Lard.LS→Prop) (h0:I Lard.LS.new) (hI:∀ s H kd ky wi,Lard.HasOk s H 8→I s→I (stepS s kd ky wi)) (w0 w:World) (g:G w) (hd:Deb w) (hb:Nat) (o:Option Addr) (len cap m:Nat) (K Y Z:Nat→Int) (hv:StepsAt w0 o len K Y Z) (hm60:m≤60) (hm:HM w hb (fun _=>(0,[]))) (hown:w0.heap.size≤hb∧8≤hb) (hB:Below w0.heap.size w0 w) :
  Calls Tryz.prog 27 #[.slice o len cap,.int .i64 m,.slice (some ⟨hb,0,none⟩) 8 8] w fun e w'=>∃ lb s L H,e=.returned (ptr lb)∧HL w0 w' lb hb s L 300000000000 H∧I s:=by
 have HN:=hide (la_new w g hd)
 have HV:=hide hv
 generalize hRR:(fun (e:Ending) (w':World)=>∃ lb s L H,e=.returned (ptr lb)∧HL w0 w' lb hb s L 300000000000 H∧I s)=RR
 have HF:Hid (∀ w' lb s L H,HL w0 w' lb hb s L 300000000000 H→I s→RR (.returned (ptr lb)) w'):=hide (fun w' lb s L H hl hi=>by rw [←hRR]; exact ⟨lb,s,L,H,rfl,hl,hi⟩)
 have HI:=hide (And.intro h0 hI)
 have HO:=hide (And.intro hm (And.intro hown hB))
 clear hRR g hd hm hown hB hv h0 hI
 go_enter Tryz.func27,Tryz.ntmps27
 go_wp2_with fail
 refine HN.out.mono ?_
 rintro e w1 ⟨lb,rfl,hla,hB1⟩
 dsimp only
 have HH:Hid (HL w0 w1 lb hb Lard.LS.new (fun k=>w.heap.size≤k∧k≤w.heap.size + 2) (0 * 5000000000) (fun _=>(0,[]))):=hide (by simpa using hl_start HO.out.1 HO.out.2.1 HO.out.2.2 hla (fun k hk=>hk.1) hB1)
 clear HN hla hB1 HO
 unfold ptr at *
 go_wp2_with fail
 go_loopw [8] (fun iv wr=>∃ (i:Nat) (s:Lard.LS) (L:Nat→Prop) (H:Nat→Nat×List UInt8),i≤len∧i≤m∧iv=.int .i64 i∧Hid (HL w0 wr lb hb s L (i * 5000000000) H∧I s)) (fun iv _=>m - (intOf iv).toNat)
 case atStart=>exact ⟨0,_,_,_,Nat.zero_le _,Nat.zero_le _,rfl,hide ⟨HH.out,HI.out.1⟩⟩
 case round =>
  obtain ⟨i,s,L,H,hi,him,rfl,HX2⟩:=hrel
  have HX:=hide HX2.out.1
  have HIS:=hide HX2.out.2
  clear HH HX2
  by_cases h1:i < len
  ·have h1i:(i:Int) < (len:Int):=by omega
   by_cases h2:i < m
   ·have h2i:(i:Int) < (m:Int):=by omega
    obtain ⟨ab,ao,rfl,e1,e2,e3,b1,b2,b3⟩:=HV.out i h1
    have d1:=(HX.out.bel.cell (World.block_lt_of_cell? _ _ e1)).trans e1
    have d2:=(HX.out.bel.cell (World.block_lt_of_cell? _ _ e2)).trans e2
    have d3:=(HX.out.bel.cell (World.block_lt_of_cell? _ _ e3)).trans e3
    have HDO:=hide (does_any w0 wr lb hb s L (i * 5000000000) H (K i) (Y i) (Z i) b1 b2 b3 (by omega) HX.out)
    have HOK:=hide HX.out.ok
    unfold ptr at HDO
    clear e1 e2 e3 b1 b2 b3 HX
    go_wp2_with fail
    refine HDO.out.mono ?_
    rintro e w4 ⟨rfl,L4,h4⟩
    dsimp only
    clear HDO d1 d2 d3
    have H4:=hide (And.intro (h4.le (M:=(i + 1) * 5000000000) (by omega)) (HI.out.2 s H (K i) (Y i) (Z i) HOK.out HIS.out))
    clear h4
    go_wp2_with fail
    refine ⟨⟨i + 1,_,L4,_,by omega,by omega,by go_num,H4⟩,?_⟩
    simp [intOf]; omega
   ·have h2i:¬ (i:Int) < (m:Int):=by omega
    have HE:=hide (HF.out wr lb s L H (HX.out.le (by omega)) HIS.out)
    clear HF HX
    go_wp2_with fail
    exact HE.out
  ·have h1i:¬ (i:Int) < (len:Int):=by omega
   have HE:=hide (HF.out wr lb s L H (HX.out.le (by omega)) HIS.out)
   clear HF HX
   go_wp2_with fail
   exact HE.out
end
section
set_option maxRecDepth 100000
set_option maxHeartbeats 1000000
open Go.RowKit Go.Shelf
theorem eqNilC (w:World) (a:Option Addr) (n c n' c':Nat):(binOp .eql 55 (.slice a n c) (.slice none n' c')).run Tryz.prog w=.ok (.bool a.isNone) w :=
 Lib.run_eql_slice_nil w _ _ a n c n' c' Tryz.underlying55
theorem clone_causes (w:World) (v:Value) (n:Nat) (xs:List Value) (hown:w.ownsRow 8 61 6 v n xs) (h1:∀ u∈xs,u.oneCell'=true) (hn:n≤1000000000) :
  Calls Tryz.prog 55 #[v] w fun e w'=>∃ v',e=.returned v'∧w'.ownsRow w.heap.size 61 6 v' n xs∧Below w.heap.size w w':=by
 have hown':=hown
 obtain ⟨hxl,⟨rfl,rfl⟩ | ⟨g,cap,cur,rfl,hb,hg,hnc,hcm,hcs,htk⟩⟩:=hown
 ·have hq:=eqNilC w none 0 0 0 0
  have hx:xs=[]:=List.eq_nil_of_length_eq_zero (by simpa using hxl)
  subst hx
  have HF:Hid (w.ownsRow w.heap.size 61 6 (.slice none 0 0) 0 []∧Below w.heap.size w w):=hide ⟨World.ownsRow_nil _ _ _ _,Below.refl _ _⟩
  clear hown' hxl h1 hn
  go_enter Tryz.func55,Tryz.ntmps55
  go_wp2_with fail
  go_ret
  exact ⟨_,rfl,HF.out.1,HF.out.2⟩
 ·have hq:=eqNilC w (some ⟨g,0,none⟩) n cap 0 0
  have hB1:Below w.heap.size w (w.alloc (.cells #[] 61)):=(Below.refl _ w).alloc (Nat.le_refl _) _
  have hcells:∀ j u,xs[j]? = some u→(w.alloc (.cells #[] 61)).cell? ((⟨g,0,none⟩:Addr).add j)=some u:=fun j u hu=>cell_later hB1 (hown'.cells (g:=g) rfl j u hu)
  have hown1:(w.alloc (.cells #[] 61)).ownsRow w.heap.size 61 6 (.slice (some ⟨w.heap.size,0,none⟩) 0 0) 0 []:=⟨rfl,.inr ⟨w.heap.size,0,#[],rfl,Nat.le_refl _,heap_alloc_new w _,Nat.le_refl _,Nat.zero_le _,rfl,rfl⟩⟩
  obtain ⟨i0,hi0,hz0,hz1,hz2⟩:=info_parts causeInfo
  obtain ⟨v',w',hr,ho,hgr,_⟩:=run_append_own (P:=Tryz.prog) (w.alloc (.cells #[] 61)) w.heap.size 55 55 61 i0 _ 6 80 Tryz.underlying55 hi0 hz0 hz1 hz2 rfl (by decide) _ 0 [] hown1 ⟨g,0,none⟩ n cap xs (by rw [hxl]) hcells h1 (by unfold maxLen; omega) (by omega) (by simp)
  rw [Nat.zero_add,List.nil_append] at ho
  have HF:Hid (w'.ownsRow w.heap.size 61 6 v' n xs∧Below w.heap.size w w'):=hide ⟨ho,hB1.trans ⟨hgr.os,hgr.tape,hgr.output,hgr.size,fun k hk=>hgr.block k (by simp; omega) (fun e=>by have e':some k=some w.heap.size:=e; injection e' with e'; omega)⟩⟩
  clear hown' hxl h1 hcells hown1 ho hgr hi0 hz0 hz1 hz2 hg htk hB1
  go_enter Tryz.func55,Tryz.ntmps55
  go_wp2_with (at_builtin; refine wpList_run_append _ rfl _ _ _ _ rfl _ _ _ _ rfl rfl hr ?_)
  go_ret
  exact ⟨_,rfl,HF.out.1,HF.out.2⟩
theorem why_one (l:List Lard.Why):∀ u∈l.flatMap whyCells,u.oneCell'=true:=by
 intro u hu
 obtain ⟨y,_,hy⟩:=List.mem_flatMap.1 hu
 have hw:∀ (r:Lard.Wo),∀ u∈woCells r,u.oneCell'=true:=fun r u hu=>by
  cases r with
  |ok v =>
   simp only [woCells,List.mem_cons,List.not_mem_nil,or_false] at hu
   rcases hu with rfl | rfl <;> rfl
  |error c =>
   simp only [woCells,List.mem_cons,List.not_mem_nil,or_false] at hu
   rcases hu with rfl | rfl <;> rfl
 unfold whyCells at hy
 simp only [List.mem_cons,List.mem_append] at hy
 rcases hy with rfl | rfl | h | h
 ·rfl
 ·rfl
 ·exact hw _ u h
 ·exact hw _ u h
theorem ran_any (w:World) (lb:Nat) (s:Lard.LS) (L:Nat→Prop) (h:LAt w lb s L) (hn:s.ran.length≤1000000000) :
  Calls Tryz.prog 28 #[ptr lb] w fun e w'=>∃ v',e=.returned v'∧w'.ownsRow w.heap.size 61 6 v' s.ran.length (s.ran.flatMap whyCells)∧Below w.heap.size w w':=by
 obtain ⟨hb,db,vb,vr,vn,vj,h0⟩:=h
 have c4:w.cell? ⟨lb,4,none⟩=some vn:=by simp [World.cell?,h0.blk]
 have HC:=hide (clone_causes w vn _ _ h0.ran (why_one s.ran) hn)
 clear h0
 unfold ptr
 go_enter Tryz.func28,Tryz.ntmps28
 go_wp2_with fail
 refine HC.out.mono ?_
 rintro e w1 ⟨v',rfl,ho,hB1⟩
 dsimp only
 clear HC
 go_wp2_with fail
 go_ret
 exact ⟨_,rfl,ho,hB1⟩
end
section
open Go.RowKit Go.Shelf
theorem rules_no10:((List.range 16).all fun k=>(List.range 8).all fun a=>(List.range 8).all fun b=>(Lard.ruleText k (Lard.keyT a) (Lard.keyT b) (Lard.digitText (a % 4))).all fun c=>!(c == 10))=true:=by decide +kernel
theorem digits_no10:((List.range 10).all fun d=>(Lard.digitText d).all fun c=>!(c == 10))=true:=by decide +kernel
theorem ruleOf_no10 (c:Int):Lard.No10 (ruleOf c):=by
 unfold ruleOf ruleTx
 have h1:pickN c 16 < 16:=Nat.mod_lt _ (by omega)
 have h2:pickN (c.tdiv 16) 8 < 8:=Nat.mod_lt _ (by omega)
 have h3:pickN (c.tdiv 128) 8 < 8:=Nat.mod_lt _ (by omega)
 have h4:pickN (c.tdiv 16) 4=pickN (c.tdiv 16) 8 % 4:=by unfold pickN; omega
 have h5:pickN (c.tdiv 16) 10 < 10:=Nat.mod_lt _ (by omega)
 rw [h4]
 intro x hx
 split at hx
 ·have:=digits_no10
  simp only [List.all_eq_true,List.mem_range] at this
  simpa using this _ h5 x hx
 ·have:=rules_no10
  simp only [List.all_eq_true,List.mem_range] at this
  rw [←Lard.keyT_eq _ h2,←Lard.keyT_eq _ h3] at hx
  simpa using this _ h1 _ h2 _ h3 x hx
theorem keyText_name {n:Nat} (hn:n < 8):Lard.isName (Lard.keyText n)=true:=by
 have:=keyB_name n (by omega)
 rw [keyB_list] at this
 exact this
section
variable {s q:Lard.LS} {H:Nat→Nat×List UInt8}
theorem nm_of (h:Lard.HasOk s H 8):Lard.Nm s.has:=by
 intro k hk
 by_cases e:∃ i,i < 8∧Lard.keyText i=k
 ·obtain ⟨i,hi,rfl⟩:=e
  exact keyText_name hi
 ·have:=Lard.src_none.1 (h.out k (fun i hi e2=>e ⟨i,hi,e2⟩))
  rw [this] at hk
  cases hk
theorem sto_step (h:Lard.HasOk s H 8) (hs:Lard.Sto s.jr s.has) (kd ky wi:Int):Lard.Sto (stepS s kd ky wi).jr (stepS s kd ky wi).has:=by
 have hn:pickN ky 8 < 8:=Nat.mod_lt _ (by omega)
 have hroom:s.has.length < 40:=by have:=h.len; omega
 unfold stepS
 split
 ·exact hs.snoc (.put (keyText_name hn) (Lard.rdV_some (valOf_rd wi).1).1 (.inr hroom))
 split
 ·exact hs.snoc (.set (keyText_name hn) (ruleOf_ok wi).1 (ruleOf_ok wi).2.1 (ruleOf_no10 wi) (.inr hroom))
 split
 ·split
  ·rename_i hl
   exact hs.snoc (.drop (keyText_name hn) hl)
  ·exact hs
 ·exact hs.ask h.sound (nm_of h) _
theorem alk_step (h:Lard.Al0 s q) (kd ky wi:Int):Lard.Al0 (stepS s kd ky wi) (stepS q kd ky wi):=by
 unfold stepS
 split
 ·exact h.put _ _ _ _
 split
 ·exact h.put _ _ _ _
 split
 ·rw [h.has]
  split
  ·exact h.del _ _ _
  ·exact h
 ·exact (Lard.ask_alk h _).2.al0
theorem alk_ran (h:Lard.Al0 s q) (kd ky wi:Int) (ha:5 < pickN kd 9):(stepS s kd ky wi).ran=(stepS q kd ky wi).ran:=by
 have e:∀ s:Lard.LS,stepS s kd ky wi=(s.ask (Lard.keyText (pickN ky 8))).2:=fun s=>by
  unfold stepS
  rw [if_neg (by omega),if_neg (by omega),if_neg (by omega)]
 rw [e,e]
 exact (Lard.ask_alk h _).2.ran
theorem hasOk_alk (h:Lard.HasOk s H 8) (hq:Lard.Sound q) (ha:∀ k,Lard.look s.has k=Lard.look q.has k) (hnd:(q.has.map (·.1)).Nodup):Lard.HasOk q H 8 where
 sound:=hq
 src i hi:=by
  rw [←h.src i hi]
  unfold Lard.srcOf
  rw [ha]
 out k hk:=by
  rw [←h.out k hk]
  unfold Lard.srcOf
  rw [ha]
 nodup:=hnd
end
end
end Go.Proofs.YtpekpdimdelncaaGreatDoor
