/- Out of: L9, Th1. -/
import Derived.Test.YtpekpdimdelncaaGreatDoorP15
import Derived.Test.YtpekpdimdelncaaGreatDoorP06
set_option linter.unusedVariables false
set_option linter.unusedSimpArgs false
namespace Go.Proofs.YtpekpdimdelncaaGreatDoor
section
set_option maxRecDepth 100000
set_option maxHeartbeats 1000000
open Go.RowKit Go.Shelf
theorem bld_below {B b:Nat} {l:List UInt8} {w w':World} (h:Bld B b l w) (hB:Below w.heap.size w w'):Bld B b l w':=by
 have f:∀ p,Lib.BuilderAt 188 5 B b p (Lib.byteCells l) w→Lib.BuilderAt 188 5 B b p (Lib.byteCells l) w':=by
  rintro p ⟨h1,v,h2,h3,h4⟩
  exact ⟨h1,v,(hB.block b (lt_of_some h2)).trans h2,own_below h3 hB,h4⟩
 rcases h with h | h
 ·exact .inl (f _ h)
 ·exact .inr (f _ h)
theorem size_data (x:ByteArray):x.size=x.data.toList.length:=by rfl
theorem bld_lt {B b:Nat} {l:List UInt8} {w:World} (h:Bld B b l w):b < w.heap.size:=by
 rcases h with h | h
 ·exact h.lt
 ·exact h.lt
theorem keep_prefix (key:List UInt8) (r:Lard.Wo) (ns:List (List UInt8×Lard.Wo)) (k:Nat) (n:List UInt8×Lard.Wo) (hn:ns[k]? = some n):Lard.keepText key ⟨r,ns.take (k + 1)⟩=Lard.keepText key ⟨r,ns.take k⟩++Lard.needText n:=by
 have hlt:=(List.getElem?_eq_some_iff.1 hn).1
 unfold Lard.keepText
 rw [List.take_succ_eq_append_getElem hlt,List.flatMap_append]
 have:ns[k]=n:=by rw [List.getElem?_eq_getElem hlt] at hn; exact Option.some.inj hn
 simp [this]
theorem needText_len {w:World} {n:List UInt8×Lard.Wo} {x:Value} (h1:n.1.length≤200) (h2:IsW w n.2 x):(Lard.needText n).length≤100202:=by
 have:=woText_len h2
 simp [Lard.needText]
 omega
theorem keepText_take {w:World} {key:List UInt8} {r:Lard.Wo} {x:Value} {ns:List (List UInt8×Lard.Wo)} {sl:Value} (hkey:key.length≤200) (hr:IsW w r x) (h:NeedsAt w ns sl):∀ k,k≤ns.length→(Lard.keepText key ⟨r,ns.take k⟩).length≤100206 + k * 100202
 |0,_=>by
  have:=woText_len hr
  simp [Lard.keepText]
  omega
 |k + 1,hk=>by
  obtain ⟨qs,h1,h2,h3⟩:=h
  obtain ⟨n,hn⟩:∃ n,ns[k]? = some n:=⟨_,List.getElem?_eq_getElem (by omega)⟩
  obtain ⟨q,hq⟩:∃ q,qs[k]? = some q:=⟨_,List.getElem?_eq_getElem (by omega)⟩
  obtain ⟨_,h5,h6⟩:=h3 k n q hn hq
  have ih:=keepText_take hkey hr ⟨qs,h1,h2,h3⟩ k (by omega)
  have:=needText_len h5 h6
  rw [keep_prefix key r ns k n hn,List.length_append]
  omega
theorem cells3_at (qs:List (Value×Value×Value)) (k:Nat) (q:Value×Value×Value) (hq:qs[k]? = some q):(qs.flatMap cells3)[3 * k]? = some q.1∧(qs.flatMap cells3)[3 * k + 1]? = some q.2.1∧(qs.flatMap cells3)[3 * k + 2]? = some q.2.2:=by
 induction qs generalizing k with
 |nil=>simp at hq
 |cons p qs ih =>
  cases k with
  |zero =>
   simp at hq
   subst hq
   exact ⟨rfl,rfl,rfl⟩
  |succ k =>
   simp at hq
   obtain ⟨h1,h2,h3⟩:=ih k hq
   have e:∀ j,(List.flatMap cells3 (p :: qs))[3 * (k + 1) + j]? = (qs.flatMap cells3)[3 * k + j]? := fun j=>by
    rw [List.flatMap_cons,List.getElem?_append_right (by simp [cells3]; omega)]
    congr 1
    simp [cells3]
    omega
   exact ⟨(e 0).trans h1,(e 1).trans h2,(e 2).trans h3⟩
theorem NeedsAt.cell {w:World} {ns:List (List UInt8×Lard.Wo)} {sl:Value} (h:NeedsAt w ns sl):∃ o c,sl=.slice o ns.length c∧∀ (k:Nat) n,ns[k]? = some n→∃ g x y,o=some ⟨g,0,none⟩∧g < w.heap.size∧n.1.length≤200∧w.cell? ⟨g,k * 3,none⟩=some (str n.1)∧w.cell? ⟨g,k * 3 + 1,none⟩=some x∧w.cell? ⟨g,k * 3 + 2,none⟩=some y∧IsW w n.2 (.agg #[x,y]):=by
 obtain ⟨qs,h1,h2,h3⟩:=h
 rcases h1.2 with ⟨rfl,h0⟩ | ⟨g,cap,cur,rfl,h8,hb,hn,hc,hs,htake⟩
 ·refine ⟨none,0,by rw [h0],fun k n hk=>?_⟩
  have:=(List.getElem?_eq_some_iff.1 hk).1
  omega
 ·refine ⟨some ⟨g,0,none⟩,cap,rfl,fun k n hk=>?_⟩
  have hlt:=(List.getElem?_eq_some_iff.1 hk).1
  obtain ⟨q,hq⟩:∃ q,qs[k]? = some q:=⟨_,List.getElem?_eq_getElem (by omega)⟩
  obtain ⟨e1,e2,e3⟩:=h3 k n q hk hq
  obtain ⟨d1,d2,d3⟩:=cells3_at qs k q hq
  have hcell:∀ j v,(qs.flatMap cells3)[j]? = some v→w.cell? ⟨g,j,none⟩=some v:=fun j v hj=>by
   have hj':=(List.getElem?_eq_some_iff.1 hj).1
   rw [←htake] at hj
   rw [List.getElem?_take] at hj
   split at hj
   ·simp [World.cell?,hb]
    rw [←Array.getElem?_toList]
    exact hj
   ·cases hj
  rw [Nat.mul_comm k 3]
  exact ⟨g,q.2.1,q.2.2,rfl,lt_of_some hb,e2,by rw [hcell _ _ d1,e1],hcell _ _ d2,hcell _ _ d3,e3⟩
theorem keepText_any (w:World) (L:Nat→Prop) (kp:Lard.Keep) (q:Nat) (key:ByteArray) (h:KeepAt w L kp q) (g:G w) (hk:key.size≤200) :
  Calls Tryz.prog 61 #[ptr q,.string key] w fun e w'=>e=.returned (str (Lard.keepText key.data.toList kp))∧Below w.heap.size w w':=by
 obtain ⟨c,i,sl,hb,_,hW,hN,_,h401⟩:=h
 have c0:w.cell? ⟨q,0,none⟩=some c:=by simp [World.cell?,hb]
 have c1:w.cell? ⟨q,1,none⟩=some i:=by simp [World.cell?,hb]
 have c2:w.cell? ⟨q,2,none⟩=some sl:=by simp [World.cell?,hb]
 have hq:q < w.heap.size:=lt_of_some hb
 have hlen:=keepText_take (key:=key.data.toList) (by simpa using hk) hW hN
 obtain ⟨o,cp,rfl,hcell⟩:=hN.cell
 obtain ⟨ci,y,he,hy⟩:=hW.form
 cases he
 have hwl:=woText_len hW
 have hz:=size_mk (Lard.woText kp.worth)
 obtain ⟨x,hx⟩:∃ x:ByteArray,(⟨(Lard.woText kp.worth).toArray⟩:ByteArray)=x:=⟨_,rfl⟩
 have hxd:x.data.toList=Lard.woText kp.worth:=by rw [←hx]
 have hst:str (Lard.woText kp.worth)=.string x:=by rw [←hx]; rfl
 rw [hx] at hz
 have hB0:Below w.heap.size w (w.alloc (.cells #[.pointer none,.slice none 0 0] 188)):=(Below.refl _ _).alloc (Nat.le_refl _) _
 have hwr:=worthWritten_any (w.alloc (.cells #[.pointer none,.slice none 0 0] 188)) (g.below hB0 g.size) (hW.keeps (Keeps.below hB0))
 rw [hst] at hwr
 have hfresh:=Lib.fresh_isBuilder 188 5 w
 have HWR:=hide hwr
 have HFR:=hide hfresh
 have HLEN:=hide hlen
 have HCELL:=hide hcell
 have HXD:=hide hxd
 clear hwr hfresh hlen hcell hx hst hxd hW hN hb
 unfold ptr
 rcases hy with rfl | ⟨ty,a,rfl⟩
 all_goals
  go_enter Tryz.func61,Tryz.ntmps61
  go_wp2_with fail
  refine HWR.out.mono ?_
  rintro e w1 ⟨rfl,hB1⟩
  have hB1':Below w.heap.size w w1:=hB0.trans (hB1.mono (by simp))
  have hbl:Bld w.heap.size w.heap.size [] w1:=bld_below HFR.out hB1
  have hl0:=HLEN.out 0 (Nat.zero_le _)
  have hs0:(⟨#[107,101,101,112,32]⟩++key++⟨#[32]⟩++x:ByteArray).data.toList=Lard.keepText key.data.toList ⟨kp.worth,kp.needs.take 0⟩:=by
   simp [Lard.keepText,HXD.out]
  have hsz0:(⟨#[107,101,101,112,32]⟩++key++⟨#[32]⟩++x:ByteArray).size≤100206:=by
   rw [size_data,hs0]
   omega
  have hpos:0 < (⟨#[107,101,101,112,32]⟩++key++⟨#[32]⟩++x:ByteArray).size:=by
   rw [size_data,hs0]
   simp [Lard.keepText]
  have HWS:=hide (writeString_any w.heap.size w.heap.size [] _ w1 hbl hpos (by rw [List.length_nil]; omega) g.size hB1'.size)
  have HS0:=hide hs0
  clear HWR HFR hl0 hs0 hbl
  go_wp2_with fail
  refine HWS.out.mono ?_
  rintro e w2 ⟨rfl,hb2,hB2,_⟩
  have hB2':Below w.heap.size w w2:=hB1'.trans hB2
  rw [List.nil_append,HS0.out] at hb2
  have d2:w2.cell? ⟨q,2,none⟩=some (.slice o kp.needs.length cp):=(hB2'.cell (p:=⟨q,2,none⟩) hq).trans c2
  clear HWS HS0 hsz0 hpos c0 c1 c2 hB1 hB1' hB2
  go_wp2_with fail
  go_loopw [23] (fun i wr=>∃ k:Nat,k≤kp.needs.length∧i=.int .i64 k∧Bld w.heap.size w.heap.size (Lard.keepText key.data.toList ⟨kp.worth,kp.needs.take k⟩) wr∧Below w.heap.size w wr) (fun i _=>kp.needs.length - (intOf i).toNat)
  case atStart=>exact ⟨0,Nat.zero_le _,rfl,hb2,hB2'⟩
  case round =>
   obtain ⟨k,hk',rfl,hbk,hBk⟩:=hrel
   clear hb2 hB2' d2
   by_cases hlt:k < kp.needs.length
   ·obtain ⟨nd,hnd⟩:∃ nd,kp.needs[k]? = some nd:=⟨_,List.getElem?_eq_getElem hlt⟩
    obtain ⟨g0,x0,y0,rfl,hg0,hn200,e0,e1,e2,hWn⟩:=HCELL.out k nd hnd
    have f0:wr.cell? ⟨g0,k * 3,none⟩=some (str nd.1):=(hBk.cell (p:=⟨g0,k * 3,none⟩) hg0).trans e0
    have f1:wr.cell? ⟨g0,k * 3 + 1,none⟩=some x0:=(hBk.cell (p:=⟨g0,k * 3 + 1,none⟩) hg0).trans e1
    have f2:wr.cell? ⟨g0,k * 3 + 2,none⟩=some y0:=(hBk.cell (p:=⟨g0,k * 3 + 2,none⟩) hg0).trans e2
    obtain ⟨cn,yn,hen,hyn⟩:=hWn.form
    cases hen
    unfold str at f0
    have hWr:=hWn.keeps (Keeps.below hBk)
    have HWr:=hide hWr
    have HND:=hide hnd
    clear e0 e1 e2 hWn hWr hnd
    obtain ⟨kx,hkx⟩:∃ kx:ByteArray,(⟨nd.1.toArray⟩:ByteArray)=kx:=⟨_,rfl⟩
    have hkz:kx.size≤200:=by rw [←hkx,size_mk]; exact hn200
    have HKX:=hide (show kx.data.toList=nd.1 by rw [←hkx])
    rw [hkx] at f0
    clear hkx
    rcases hyn with rfl | ⟨tn,an,rfl⟩
    ·have hWa:IsW (wr.alloc (.cells #[.string kx,.int .i64 cn,.nilIface] 133)).drew nd.2 (.agg #[.int .i64 cn,.nilIface]):=HWr.out.keeps (Keeps.below (((Below.refl _ wr).alloc (Nat.le_refl _) _).drew))
     have hBa:Below wr.heap.size wr (wr.alloc (.cells #[.string kx,.int .i64 cn,.nilIface] 133)).drew:=((Below.refl _ wr).alloc (Nat.le_refl _) _).drew
     have hga:G (wr.alloc (.cells #[.string kx,.int .i64 cn,.nilIface] 133)).drew:=(g.below hBk g.size).below hBa (Nat.le_trans g.size hBk.size)
     have HWN:=hide (worthWritten_any _ hga hWa)
     have hwn:=woText_len hWa
     have hzn:=size_mk (Lard.woText nd.2)
     obtain ⟨xs,hxs⟩:∃ xs:ByteArray,(⟨(Lard.woText nd.2).toArray⟩:ByteArray)=xs:=⟨_,rfl⟩
     have hxsd:xs.data.toList=Lard.woText nd.2:=by rw [←hxs]
     rw [hxs] at hzn
     have HXS:=hide (show str (Lard.woText nd.2)=.string xs by rw [←hxs]; rfl)
     have HS3:=hide (fun (w3:World) (hB3:Below (wr.alloc (.cells #[.string kx,.int .i64 cn,.nilIface] 133)).drew.heap.size (wr.alloc (.cells #[.string kx,.int .i64 cn,.nilIface] 133)).drew w3)=>show w3.cell? ⟨wr.heap.size,0,none⟩=some (.string kx)∧w3.cell? ⟨wr.heap.size,1,none⟩=some (.int .i64 cn)∧w3.cell? ⟨wr.heap.size,2,none⟩=some .nilIface from by
      obtain ⟨hc,_⟩:=bcell hB3
      rw [hc _ _ (by simp),hc _ _ (by simp),hc _ _ (by simp)]
      exact ⟨by simp [go_sem],by simp [go_sem],by simp [go_sem]⟩)
     have htx:(⟨#[32]⟩++kx++⟨#[61]⟩++xs:ByteArray).data.toList=Lard.needText nd:=by
      simp [Lard.needText,hxsd,HKX.out]
     have HWS:=hide (fun (w3:World) (hB3:Below (wr.alloc (.cells #[.string kx,.int .i64 cn,.nilIface] 133)).drew.heap.size (wr.alloc (.cells #[.string kx,.int .i64 cn,.nilIface] 133)).drew w3)=>show Calls Tryz.prog 95 #[.pointer (some ⟨w.heap.size,0,none⟩),.string (⟨#[32]⟩++kx++⟨#[61]⟩++xs)] w3 (fun e w'=>e=.returned (.tuple #[.int .i64 (⟨#[32]⟩++kx++⟨#[61]⟩++xs:ByteArray).size,.nilIface])∧Bld w.heap.size w.heap.size (Lard.keepText key.data.toList ⟨kp.worth,kp.needs.take k⟩++(⟨#[32]⟩++kx++⟨#[61]⟩++xs:ByteArray).data.toList) w'∧Below w.heap.size w3 w'∧∀ (k:Nat) (cs:Array Value) (t:TypeId) (fz:Nat×Nat),w3.heap[k]? = some (.cells cs t fz)→t≠5→k≠w.heap.size→w'.heap[k]? = some (.cells cs t fz))∧(∀ w5,Bld w.heap.size w.heap.size (Lard.keepText key.data.toList ⟨kp.worth,kp.needs.take k⟩++(⟨#[32]⟩++kx++⟨#[61]⟩++xs:ByteArray).data.toList) w5→Below w.heap.size w3 w5→(∀ (k:Nat) (cs:Array Value) (t:TypeId) (fz:Nat×Nat),w3.heap[k]? = some (.cells cs t fz)→t≠5→k≠w.heap.size→w5.heap[k]? = some (.cells cs t fz))→(w5.cell? ⟨wr.heap.size,0,none⟩=some (.string kx)∧w5.cell? ⟨wr.heap.size,1,none⟩=some (.int .i64 cn)∧w5.cell? ⟨wr.heap.size,2,none⟩=some .nilIface)∧Bld w.heap.size w.heap.size (Lard.keepText key.data.toList ⟨kp.worth,kp.needs.take (k + 1)⟩) w5∧Below w.heap.size w w5) from by
      have hB3':Below wr.heap.size wr w3:=hBa.trans (hB3.mono (by simp))
      have hlk:=HLEN.out k hk'
      have hsz:(⟨#[32]⟩++kx++⟨#[61]⟩++xs:ByteArray).size≤100202:=by
       rw [size_data,htx]
       exact needText_len hn200 hWa
      refine ⟨writeString_any _ _ _ _ w3 (bld_below hbk hB3') (by rw [size_data,htx]; simp [Lard.needText]) (by omega) g.size (Nat.le_trans hBk.size hB3'.size),fun w5 h5 hB5 hK5=>⟨?_,?_,(hBk.trans (hB3'.mono hBk.size)).trans hB5⟩⟩
      ·have hbx:w3.heap[wr.heap.size]? = some (.cells #[.string kx,.int .i64 cn,.nilIface] 133 (0,0)):=(hB3.block wr.heap.size (by simp)).trans (heap_alloc_new wr _)
       have h6:=hK5 _ _ _ _ hbx (by decide) (by have:=bld_lt hbk; omega)
       exact ⟨by simp [World.cell?,h6],by simp [World.cell?,h6],by simp [World.cell?,h6]⟩
      ·rw [htx,←keep_prefix key.data.toList kp.worth kp.needs k nd HND.out] at h5
       exact h5)
     clear hxs hxsd hWa hga htx
     have hS0:(fun w':World=>w'.cell? ⟨wr.heap.size,0,none⟩=some (.string kx)∧w'.cell? ⟨wr.heap.size,1,none⟩=some (.int .i64 cn)∧w'.cell? ⟨wr.heap.size,2,none⟩=some .nilIface) (wr.alloc (.cells #[.string kx,.int .i64 cn,.nilIface] 133)).drew:=⟨by simp [go_sem],by simp [go_sem],by simp [go_sem]⟩
     go_wp2_with fail
     refine wp_region_held_drew (S:=fun w'=>w'.cell? ⟨wr.heap.size,0,none⟩=some (.string kx)∧w'.cell? ⟨wr.heap.size,1,none⟩=some (.int .i64 cn)∧w'.cell? ⟨wr.heap.size,2,none⟩=some .nilIface) (by kernel_rfl) hS0 (fun hHeld=>?_)
     refine wpAnyH_take (i:=0) (v:=?_) rfl (by kernel_rfl) (by kernel_rfl) (by kernel_rfl) (fun _ _ _ h=>h) (Or.inl ⟨by rfl,?_⟩) hS0 ?_
     rotate_left
     ·intro w' s0
      go_simp
      try with_reducible rfl
     simp only [Act.put,List.setIfInBounds_toArray,List.set_cons_zero,List.set_cons_succ]
     refine wpAnyH_take (i:=1) (v:=?_) rfl (by kernel_rfl) (by kernel_rfl) (by kernel_rfl) (fun _ _ _ h=>h) (Or.inl ⟨by rfl,?_⟩) hS0 ?_
     rotate_left
     ·intro w' s0
      obtain ⟨s1,s2,s3⟩:=s0
      go_simp
      try with_reducible rfl
     simp only [Act.put,List.setIfInBounds_toArray,List.set_cons_zero,List.set_cons_succ]
     refine wpAnyH_take (i:=2) (v:=?_) rfl (by kernel_rfl) (by kernel_rfl) (by kernel_rfl) (fun _ _ _ h=>h) (Or.inl ⟨by rfl,?_⟩) hS0 ?_
     rotate_left
     ·intro w' s0
      go_simp
      rw [if_neg (by omega)]
      try with_reducible rfl
     simp only [Act.put,List.setIfInBounds_toArray,List.set_cons_zero,List.set_cons_succ]
     refine wpAnyH_take (i:=3) (v:=?_) rfl (by kernel_rfl) (by kernel_rfl) (by kernel_rfl) (fun _ _ _ h=>h) (Or.inl ⟨by rfl,?_⟩) hS0 ?_
     rotate_left
     ·intro w' s0
      go_simp
      rw [if_neg (by omega)]
      try with_reducible rfl
     simp only [Act.put,List.setIfInBounds_toArray,List.set_cons_zero,List.set_cons_succ]
     refine wpAnyH_take (i:=4) (v:=?_) rfl (by kernel_rfl) (by kernel_rfl) (by kernel_rfl) (fun _ _ _ h=>h) (Or.inl ⟨by rfl,?_⟩) hS0 ?_
     rotate_left
     ·intro w' s0
      go_simp
      try with_reducible rfl
     simp only [Act.put,List.setIfInBounds_toArray,List.set_cons_zero,List.set_cons_succ]
     refine wpAnyH_take (i:=5) (v:=?_) rfl (by kernel_rfl) (by kernel_rfl) (by kernel_rfl) (fun _ _ _ h=>h) (Or.inl ⟨by rfl,?_⟩) hS0 ?_
     rotate_left
     ·intro w' s0
      obtain ⟨s1,s2,s3⟩:=s0
      go_simp
      try with_reducible rfl
     simp only [Act.put,List.setIfInBounds_toArray,List.set_cons_zero,List.set_cons_succ]
     refine wpAnyH_ready (rs:=[6]) (by kernel_rfl) (by simp) ?_
     refine AllReadyH.cons rfl (fun K hK=>?_) AllReadyH.nil
     go_simp
     refine HWN.out.mono ?_
     rintro e w3 ⟨rfl,hB3⟩
     rw [HXS.out]
     have hS3:=HS3.out w3 hB3
     refine hK.out _ _ hS3 (fun _=>?_)
     clear hK
     obtain ⟨hws,hS4⟩:=HWS.out w3 hB3
     have HW4:=hide hws
     have HS4:=hide hS4
     clear hws hS4 HWS HS3 HWN hB3
     refine wpAnyH_ready (rs:=[7]) (by kernel_rfl) (by simp) ?_
     refine AllReadyH.cons rfl (fun K hK=>?_) AllReadyH.nil
     go_simp
     rw [if_neg (by omega),Oper.upon_value]
     go_simp
     refine hK.out _ _ hS3 (fun _=>?_)
     clear hK
     refine wpAnyH_ready (rs:=[8]) (by kernel_rfl) (by simp) ?_
     refine AllReadyH.cons rfl (fun K hK=>?_) AllReadyH.nil
     go_simp
     refine HW4.out.mono ?_
     rintro e w5 ⟨rfl,hb5,hB5,hK5⟩
     obtain ⟨hS5,hfin⟩:=HS4.out w5 hb5 hB5 hK5
     refine hK.out _ _ hS5 (fun _=>?_)
     clear hK
     refine wpAnyH_done (by kernel_rfl) ?_ _
     go_wp2_with fail
     refine ⟨⟨k + 1,by omega,by go_num,hfin⟩,?_⟩
     simp [intOf]; omega
    ·have hWa:IsW (wr.alloc (.cells #[.string kx,.int .i64 cn,(.iface tn an)] 133)).drew nd.2 (.agg #[.int .i64 cn,(.iface tn an)]):=HWr.out.keeps (Keeps.below (((Below.refl _ wr).alloc (Nat.le_refl _) _).drew))
     have hBa:Below wr.heap.size wr (wr.alloc (.cells #[.string kx,.int .i64 cn,(.iface tn an)] 133)).drew:=((Below.refl _ wr).alloc (Nat.le_refl _) _).drew
     have hga:G (wr.alloc (.cells #[.string kx,.int .i64 cn,(.iface tn an)] 133)).drew:=(g.below hBk g.size).below hBa (Nat.le_trans g.size hBk.size)
     have HWN:=hide (worthWritten_any _ hga hWa)
     have hwn:=woText_len hWa
     have hzn:=size_mk (Lard.woText nd.2)
     obtain ⟨xs,hxs⟩:∃ xs:ByteArray,(⟨(Lard.woText nd.2).toArray⟩:ByteArray)=xs:=⟨_,rfl⟩
     have hxsd:xs.data.toList=Lard.woText nd.2:=by rw [←hxs]
     rw [hxs] at hzn
     have HXS:=hide (show str (Lard.woText nd.2)=.string xs by rw [←hxs]; rfl)
     have HS3:=hide (fun (w3:World) (hB3:Below (wr.alloc (.cells #[.string kx,.int .i64 cn,(.iface tn an)] 133)).drew.heap.size (wr.alloc (.cells #[.string kx,.int .i64 cn,(.iface tn an)] 133)).drew w3)=>show w3.cell? ⟨wr.heap.size,0,none⟩=some (.string kx)∧w3.cell? ⟨wr.heap.size,1,none⟩=some (.int .i64 cn)∧w3.cell? ⟨wr.heap.size,2,none⟩=some (.iface tn an) from by
      obtain ⟨hc,_⟩:=bcell hB3
      rw [hc _ _ (by simp),hc _ _ (by simp),hc _ _ (by simp)]
      exact ⟨by simp [go_sem],by simp [go_sem],by simp [go_sem]⟩)
     have htx:(⟨#[32]⟩++kx++⟨#[61]⟩++xs:ByteArray).data.toList=Lard.needText nd:=by
      simp [Lard.needText,hxsd,HKX.out]
     have HWS:=hide (fun (w3:World) (hB3:Below (wr.alloc (.cells #[.string kx,.int .i64 cn,(.iface tn an)] 133)).drew.heap.size (wr.alloc (.cells #[.string kx,.int .i64 cn,(.iface tn an)] 133)).drew w3)=>show Calls Tryz.prog 95 #[.pointer (some ⟨w.heap.size,0,none⟩),.string (⟨#[32]⟩++kx++⟨#[61]⟩++xs)] w3 (fun e w'=>e=.returned (.tuple #[.int .i64 (⟨#[32]⟩++kx++⟨#[61]⟩++xs:ByteArray).size,.nilIface])∧Bld w.heap.size w.heap.size (Lard.keepText key.data.toList ⟨kp.worth,kp.needs.take k⟩++(⟨#[32]⟩++kx++⟨#[61]⟩++xs:ByteArray).data.toList) w'∧Below w.heap.size w3 w'∧∀ (k:Nat) (cs:Array Value) (t:TypeId) (fz:Nat×Nat),w3.heap[k]? = some (.cells cs t fz)→t≠5→k≠w.heap.size→w'.heap[k]? = some (.cells cs t fz))∧(∀ w5,Bld w.heap.size w.heap.size (Lard.keepText key.data.toList ⟨kp.worth,kp.needs.take k⟩++(⟨#[32]⟩++kx++⟨#[61]⟩++xs:ByteArray).data.toList) w5→Below w.heap.size w3 w5→(∀ (k:Nat) (cs:Array Value) (t:TypeId) (fz:Nat×Nat),w3.heap[k]? = some (.cells cs t fz)→t≠5→k≠w.heap.size→w5.heap[k]? = some (.cells cs t fz))→(w5.cell? ⟨wr.heap.size,0,none⟩=some (.string kx)∧w5.cell? ⟨wr.heap.size,1,none⟩=some (.int .i64 cn)∧w5.cell? ⟨wr.heap.size,2,none⟩=some (.iface tn an))∧Bld w.heap.size w.heap.size (Lard.keepText key.data.toList ⟨kp.worth,kp.needs.take (k + 1)⟩) w5∧Below w.heap.size w w5) from by
      have hB3':Below wr.heap.size wr w3:=hBa.trans (hB3.mono (by simp))
      have hlk:=HLEN.out k hk'
      have hsz:(⟨#[32]⟩++kx++⟨#[61]⟩++xs:ByteArray).size≤100202:=by
       rw [size_data,htx]
       exact needText_len hn200 hWa
      refine ⟨writeString_any _ _ _ _ w3 (bld_below hbk hB3') (by rw [size_data,htx]; simp [Lard.needText]) (by omega) g.size (Nat.le_trans hBk.size hB3'.size),fun w5 h5 hB5 hK5=>⟨?_,?_,(hBk.trans (hB3'.mono hBk.size)).trans hB5⟩⟩
      ·have hbx:w3.heap[wr.heap.size]? = some (.cells #[.string kx,.int .i64 cn,(.iface tn an)] 133 (0,0)):=(hB3.block wr.heap.size (by simp)).trans (heap_alloc_new wr _)
       have h6:=hK5 _ _ _ _ hbx (by decide) (by have:=bld_lt hbk; omega)
       exact ⟨by simp [World.cell?,h6],by simp [World.cell?,h6],by simp [World.cell?,h6]⟩
      ·rw [htx,←keep_prefix key.data.toList kp.worth kp.needs k nd HND.out] at h5
       exact h5)
     clear hxs hxsd hWa hga htx
     have hS0:(fun w':World=>w'.cell? ⟨wr.heap.size,0,none⟩=some (.string kx)∧w'.cell? ⟨wr.heap.size,1,none⟩=some (.int .i64 cn)∧w'.cell? ⟨wr.heap.size,2,none⟩=some (.iface tn an)) (wr.alloc (.cells #[.string kx,.int .i64 cn,(.iface tn an)] 133)).drew:=⟨by simp [go_sem],by simp [go_sem],by simp [go_sem]⟩
     go_wp2_with fail
     refine wp_region_held_drew (S:=fun w'=>w'.cell? ⟨wr.heap.size,0,none⟩=some (.string kx)∧w'.cell? ⟨wr.heap.size,1,none⟩=some (.int .i64 cn)∧w'.cell? ⟨wr.heap.size,2,none⟩=some (.iface tn an)) (by kernel_rfl) hS0 (fun hHeld=>?_)
     refine wpAnyH_take (i:=0) (v:=?_) rfl (by kernel_rfl) (by kernel_rfl) (by kernel_rfl) (fun _ _ _ h=>h) (Or.inl ⟨by rfl,?_⟩) hS0 ?_
     rotate_left
     ·intro w' s0
      go_simp
      try with_reducible rfl
     simp only [Act.put,List.setIfInBounds_toArray,List.set_cons_zero,List.set_cons_succ]
     refine wpAnyH_take (i:=1) (v:=?_) rfl (by kernel_rfl) (by kernel_rfl) (by kernel_rfl) (fun _ _ _ h=>h) (Or.inl ⟨by rfl,?_⟩) hS0 ?_
     rotate_left
     ·intro w' s0
      obtain ⟨s1,s2,s3⟩:=s0
      go_simp
      try with_reducible rfl
     simp only [Act.put,List.setIfInBounds_toArray,List.set_cons_zero,List.set_cons_succ]
     refine wpAnyH_take (i:=2) (v:=?_) rfl (by kernel_rfl) (by kernel_rfl) (by kernel_rfl) (fun _ _ _ h=>h) (Or.inl ⟨by rfl,?_⟩) hS0 ?_
     rotate_left
     ·intro w' s0
      go_simp
      rw [if_neg (by omega)]
      try with_reducible rfl
     simp only [Act.put,List.setIfInBounds_toArray,List.set_cons_zero,List.set_cons_succ]
     refine wpAnyH_take (i:=3) (v:=?_) rfl (by kernel_rfl) (by kernel_rfl) (by kernel_rfl) (fun _ _ _ h=>h) (Or.inl ⟨by rfl,?_⟩) hS0 ?_
     rotate_left
     ·intro w' s0
      go_simp
      rw [if_neg (by omega)]
      try with_reducible rfl
     simp only [Act.put,List.setIfInBounds_toArray,List.set_cons_zero,List.set_cons_succ]
     refine wpAnyH_take (i:=4) (v:=?_) rfl (by kernel_rfl) (by kernel_rfl) (by kernel_rfl) (fun _ _ _ h=>h) (Or.inl ⟨by rfl,?_⟩) hS0 ?_
     rotate_left
     ·intro w' s0
      go_simp
      try with_reducible rfl
     simp only [Act.put,List.setIfInBounds_toArray,List.set_cons_zero,List.set_cons_succ]
     refine wpAnyH_take (i:=5) (v:=?_) rfl (by kernel_rfl) (by kernel_rfl) (by kernel_rfl) (fun _ _ _ h=>h) (Or.inl ⟨by rfl,?_⟩) hS0 ?_
     rotate_left
     ·intro w' s0
      obtain ⟨s1,s2,s3⟩:=s0
      go_simp
      try with_reducible rfl
     simp only [Act.put,List.setIfInBounds_toArray,List.set_cons_zero,List.set_cons_succ]
     refine wpAnyH_ready (rs:=[6]) (by kernel_rfl) (by simp) ?_
     refine AllReadyH.cons rfl (fun K hK=>?_) AllReadyH.nil
     go_simp
     refine HWN.out.mono ?_
     rintro e w3 ⟨rfl,hB3⟩
     rw [HXS.out]
     have hS3:=HS3.out w3 hB3
     refine hK.out _ _ hS3 (fun _=>?_)
     clear hK
     obtain ⟨hws,hS4⟩:=HWS.out w3 hB3
     have HW4:=hide hws
     have HS4:=hide hS4
     clear hws hS4 HWS HS3 HWN hB3
     refine wpAnyH_ready (rs:=[7]) (by kernel_rfl) (by simp) ?_
     refine AllReadyH.cons rfl (fun K hK=>?_) AllReadyH.nil
     go_simp
     rw [if_neg (by omega),Oper.upon_value]
     go_simp
     refine hK.out _ _ hS3 (fun _=>?_)
     clear hK
     refine wpAnyH_ready (rs:=[8]) (by kernel_rfl) (by simp) ?_
     refine AllReadyH.cons rfl (fun K hK=>?_) AllReadyH.nil
     go_simp
     refine HW4.out.mono ?_
     rintro e w5 ⟨rfl,hb5,hB5,hK5⟩
     obtain ⟨hS5,hfin⟩:=HS4.out w5 hb5 hB5 hK5
     refine hK.out _ _ hS5 (fun _=>?_)
     clear hK
     refine wpAnyH_done (by kernel_rfl) ?_ _
     go_wp2_with fail
     refine ⟨⟨k + 1,by omega,by go_num,hfin⟩,?_⟩
     simp [intOf]; omega
   ·have HST:=hide (Tryz.Builder_String_any w.heap.size w.heap.size _ wr hbk hBk.size)
    have hke:kp.needs.take k=kp.needs:=List.take_of_length_le (by omega)
    have HFI:=hide (fun (w':World) (hB:Below w.heap.size wr w')=>show Ending.returned (.string ⟨(Lard.keepText key.data.toList ⟨kp.worth,kp.needs.take k⟩).toArray⟩)=.returned (str (Lard.keepText key.data.toList kp))∧Below w.heap.size w w' from ⟨by rw [hke]; rfl,hBk.trans hB⟩)
    clear hbk hBk HLEN HCELL hke
    go_wp2_with fail
    refine HST.out.mono ?_
    rintro e w6 ⟨rfl,hB6⟩
    have hfi:=HFI.out w6 hB6
    clear HFI HST
    go_wp2_with fail
    go_ret
    exact hfi
end
section
namespace Lard
abbrev Src:=By→Option (Sum V T)
def srcOf (h:List (By×Thing)):Src:=fun k=>(look h k).map fun th=>match th.tree with | .none=>.inl th.value | .some t=>.inr t
theorem fin_prog (t:T):Fin (prog t):=fin_worth _ (good_tr _ _ _ _)
def Rn (O:By→Wo→Prop):Pg Wo→Wo→Prop
 |⟨.inl u⟩,w=>u=w∧w≠.error 12
 |⟨.inr (k,c)⟩,w=>∃ u,O k u∧Rn O (c u) w
section
variable (e:Src)
def Base (k:By) (w:Wo):Prop:=(e k=none∧w=.error 7)∨∃ v,e k=some (.inl v)∧w=.ok v
def Wn:Nat→By→Wo→Prop
 |0,k,w=>Base e k w
 |n + 1,k,w=>Base e k w∨∃ t,e k=some (.inr t)∧Rn (Wn n) (prog t) w
def W (k:By) (w:Wo):Prop:=∃ n,Wn e n k w
def Is (k:By) (w:Wo):Prop:=W e k w∨(w=.error 12∧∀ u,¬ W e k u)
def Asks:Pg Wo→By→Prop
 |⟨.inl _⟩,_=>False
 |⟨.inr (k,c)⟩,k'=>k=k'∨∃ u,W e k u∧Asks (c u) k'
def Nxt (k k':By):Prop:=∃ t,e k=some (.inr t)∧Asks e (prog t) k'
end
theorem Rn.mono {O O':By→Wo→Prop} (h:∀ k u,O k u→O' k u):∀ (p:Pg Wo) (w:Wo),Rn O p w→Rn O' p w
 |⟨.inl _⟩,_,hp=>hp
 |⟨.inr (k,c)⟩,w,⟨u,h1,h2⟩=>⟨u,h k u h1,Rn.mono h (c u) w h2⟩
theorem Rn.not12 {O:By→Wo→Prop}:∀ (p:Pg Wo) (w:Wo),Rn O p w→w≠.error 12
 |⟨.inl _⟩,_,hp=>hp.2
 |⟨.inr (_,c)⟩,w,⟨u,_,h2⟩=>Rn.not12 (c u) w h2
theorem Rn.det {O O':By→Wo→Prop} (h:∀ k u u',O k u→O' k u'→u=u'):∀ (p:Pg Wo) (w w':Wo),Rn O p w→Rn O' p w'→w=w'
 |⟨.inl _⟩,_,_,hp,hp'=>hp.1.symm.trans hp'.1
 |⟨.inr (k,c)⟩,w,w',⟨u,h1,h2⟩,⟨u',h1',h2'⟩=>by
  obtain rfl:=h k u u' h1 h1'
  exact Rn.det h (c u) w w' h2 h2'
variable {e:Src}
theorem Base.not12 {k:By} {w:Wo} (h:Base e k w):w≠.error 12:=by
 rcases h with ⟨_,rfl⟩ | ⟨v,_,rfl⟩
 ·intro h; cases h
 ·intro h; cases h
theorem Base.det {k:By} {w w':Wo} (h:Base e k w) (h':Base e k w'):w=w':=by
 rcases h with ⟨h,rfl⟩ | ⟨v,h,rfl⟩ <;> rcases h' with ⟨h',rfl⟩ | ⟨v',h',rfl⟩
 ·rfl
 ·rw [h] at h'; cases h'
 ·rw [h] at h'; cases h'
 ·rw [h] at h'; cases h'; rfl
theorem Base.noRule {k:By} {w:Wo} {t:T} (h:Base e k w) (h':e k=some (.inr t)):False:=by
 rcases h with ⟨h,_⟩ | ⟨v,h,_⟩
 ·rw [h] at h'; cases h'
 ·rw [h] at h'; cases h'
theorem Wn.not12 {n:Nat} {k:By} {w:Wo} (h:Wn e n k w):w≠.error 12:=by
 cases n with
 |zero=>exact Base.not12 h
 |succ n =>
  rcases h with h | ⟨t,_,h⟩
  ·exact h.not12
  ·exact Rn.not12 _ _ h
theorem Wn.up:∀ {n:Nat} {k:By} {w:Wo},Wn e n k w→Wn e (n + 1) k w
 |0,_,_,h=>.inl h
 |n + 1,k,w,h=>by
  rcases h with h | ⟨t,h1,h2⟩
  ·exact .inl h
  ·exact .inr ⟨t,h1,h2.mono (fun _ _ h=>Wn.up h)⟩
theorem Wn.le {n m:Nat} {k:By} {w:Wo} (h:Wn e n k w) (hm:n≤m):Wn e m k w:=by
 induction hm with
 |refl=>exact h
 |step _ ih=>exact ih.up
theorem Wn.det:∀ {n:Nat} {m:Nat} {k:By} {w w':Wo},Wn e n k w→Wn e m k w'→w=w'
 |0,m,k,w,w',h,h'=>by
  cases m with
  |zero=>exact Base.det h h'
  |succ m =>
   rcases h' with h' | ⟨t,h1,_⟩
   ·exact Base.det h h'
   ·exact (Base.noRule h h1).elim
 |n + 1,m,k,w,w',h,h'=>by
  rcases h with h | ⟨t,h1,h2⟩
  ·cases m with
   |zero=>exact Base.det h h'
   |succ m =>
    rcases h' with h' | ⟨t,h1,_⟩
    ·exact Base.det h h'
    ·exact (Base.noRule h h1).elim
  ·cases m with
   |zero=>exact (Base.noRule h' h1).elim
   |succ m =>
    rcases h' with h' | ⟨t',h1',h2'⟩
    ·exact (Base.noRule h' h1).elim
    ·rw [h1] at h1'; cases h1'
     exact Rn.det (O:=Wn e n) (O':=Wn e m) (fun k u u' a b=>Wn.det (n:=n) (m:=m) (k:=k) a b) _ _ _ h2 h2'
theorem W.det {k:By} {w w':Wo}:W e k w→W e k w'→w=w'
 |⟨_,h⟩,⟨_,h'⟩=>h.det h'
theorem W.not12 {k:By} {w:Wo}:W e k w→w≠.error 12
 |⟨_,h⟩=>h.not12
theorem Is.det {k:By} {w w':Wo} (h:Is e k w) (h':Is e k w'):w=w':=by
 rcases h with h | ⟨rfl,h⟩ <;> rcases h' with h' | ⟨rfl,h'⟩
 ·exact h.det h'
 ·exact (h' _ h).elim
 ·exact (h _ h').elim
 ·rfl
theorem Is.w {k:By} {w:Wo} (h:Is e k w) (h12:w≠.error 12):W e k w:=by
 rcases h with h | ⟨rfl,_⟩
 ·exact h
 ·exact (h12 rfl).elim
theorem Is.no {k:By} {u:Wo} (h:Is e k (.error 12)):¬ W e k u:=by
 rcases h with h | ⟨_,h⟩
 ·exact (h.not12 rfl).elim
 ·exact h u
theorem Rn.height:∀ (p:Pg Wo) (w:Wo),Rn (W e) p w→∃ n,Rn (Wn e n) p w
 |⟨.inl _⟩,_,h=>⟨0,h⟩
 |⟨.inr (k,c)⟩,w,⟨u,⟨n,h1⟩,h2⟩=>by
  obtain ⟨m,hm⟩:=Rn.height (c u) w h2
  exact ⟨max n m,u,h1.le (Nat.le_max_left _ _),hm.mono (fun _ _ h=>h.le (Nat.le_max_right _ _))⟩
theorem W.rule {k:By} {t:T} {w:Wo} (h:e k=some (.inr t)) (hr:Rn (W e) (prog t) w):W e k w:=by
 obtain ⟨n,hn⟩:=Rn.height _ _ hr
 exact ⟨n + 1,.inr ⟨t,h,hn⟩⟩
theorem asks_down {n:Nat} {k':By}:∀ (p:Pg Wo) (w:Wo),Rn (Wn e n) p w→Asks e p k'→∃ w',Wn e n k' w'
 |⟨.inl _⟩,_,_,h=>h.elim
 |⟨.inr (k,c)⟩,w,⟨u,h1,h2⟩,h=>by
  rcases h with rfl | ⟨u',h3,h4⟩
  ·exact ⟨u,h1⟩
  ·obtain rfl:=W.det ⟨n,h1⟩ h3
   exact asks_down (c u) w h2 h4
theorem Nxt.down {n:Nat} {k k':By} {w:Wo} (h:Nxt e k k') (hw:Wn e n k w):∃ m w',m < n∧Wn e m k' w':=by
 obtain ⟨t,h1,h2⟩:=h
 cases n with
 |zero=>exact (Base.noRule hw h1).elim
 |succ n =>
  rcases hw with hw | ⟨t',h1',h3⟩
  ·exact (Base.noRule hw h1).elim
  ·rw [h1] at h1'; cases h1'
   obtain ⟨w',h⟩:=asks_down _ _ h3 h2
   exact ⟨n,w',Nat.lt_succ_self n,h⟩
def Lnk (R:By→By→Prop):List By→Prop
 |[]=>True
 |[_]=>True
 |a :: b :: r=>R a b∧Lnk R (b :: r)
theorem lnk_down {l:List By}:∀ {a:By} {n:Nat} {w:Wo},Lnk (Nxt e) (a :: l)→Wn e n a w→∀ x∈l,∃ m w',m < n∧Wn e m x w':=by
 induction l with
 |nil=>intro a n w _ _ x hx; simp at hx
 |cons b r ih =>
  intro a n w hl hw x hx
  obtain ⟨h1,h2⟩:=hl
  obtain ⟨m,w',hm,hw'⟩:=h1.down hw
  rcases List.mem_cons.1 hx with rfl | hx
  ·exact ⟨m,w',hm,hw'⟩
  ·obtain ⟨m2,w2,hm2,hw2⟩:=ih h2 hw' x hx
   exact ⟨m2,w2,by omega,hw2⟩
theorem round_none {k:By} {l:List By} (hl:Lnk (Nxt e) (k :: l++[k])):∀ u,¬ W e k u:=by
 intro u ⟨n,hn⟩
 induction n using Nat.strongRecOn generalizing u with
 |ind n ih =>
  obtain ⟨m,w',hm,hw'⟩:=lnk_down (l:=l++[k]) (by simpa using hl) hn k (by simp)
  exact ih m hm w' hw'
theorem lnk_drop {R:By→By→Prop}:∀ (l m:List By),Lnk R (l++m)→Lnk R m
 |[],m,h=>h
 |[a],[],_=>trivial
 |[a],b :: m,h=>h.2
 |a :: b :: r,m,h=>lnk_drop (b :: r) m h.2
theorem lnk_snoc {R:By→By→Prop}:∀ (l:List By) (a b:By),Lnk R (l++[a])→R a b→Lnk R (l++[a]++[b])
 |[],a,b,_,h=>⟨h,trivial⟩
 |[x],a,b,h,h'=>⟨h.1,h',trivial⟩
 |x :: y :: r,a,b,h,h'=>⟨h.1,lnk_snoc (y :: r) a b h.2 h'⟩
theorem fromKey_split:∀ (l:List By) (k:By),k∈l→∃ m r,l=m++k :: r∧fromKey l k=k :: r
 |[],_,h=>by simp at h
 |x :: l,k,h=>by
  by_cases hx:x=k
  ·subst hx
   exact ⟨[],l,rfl,by unfold fromKey; rw [List.dropWhile_cons]; simp⟩
  ·obtain ⟨m,r,h1,h2⟩:=fromKey_split l k (by rcases List.mem_cons.1 h with h | h; exact (hx h.symm).elim; exact h)
   refine ⟨x :: m,r,by rw [h1]; rfl,?_⟩
   unfold fromKey at h2 ⊢
   rw [List.dropWhile_cons,if_pos (by simp [hx]),h2]
def Ring (e:Src) (l:List By):Prop:=∃ k r,l=k :: r∧Lnk (Nxt e) (k :: r++[k])
theorem ring_met {l:List By} {k:By} (h:Lnk (Nxt e) (l++[k])) (hk:k∈l):Ring e (fromKey l k)∧∀ u,¬ W e k u:=by
 obtain ⟨m,r,h1,h2⟩:=fromKey_split l k hk
 have h3:Lnk (Nxt e) (k :: r++[k]):=lnk_drop m _ (by rw [h1] at h; simpa using h)
 exact ⟨⟨k,r,h2,h3⟩,round_none h3⟩
/-! What is kept was a run. -/
def Hon:Pg Wo→List (By×Wo)→List (By×Wo)→Wo→Prop
 |⟨.inl u⟩,acc,ns,w=>u=w∧w≠.error 12∧acc=ns
 |⟨.inr (k,c)⟩,acc,ns,w=>(∃ u,look acc k=some u∧Hon (c u) acc ns w)∨(look acc k=none∧∃ u,u≠.error 12∧Hon (c u) (acc++[(k,u)]) ns w)
theorem Hon.pre:∀ {p:Pg Wo} {acc ns:List (By×Wo)} {w:Wo},Hon p acc ns w→∃ r,ns=acc++r
 |⟨.inl _⟩,acc,ns,w,h=>⟨[],by simp [h.2.2]⟩
 |⟨.inr (k,c)⟩,acc,ns,w,h=>by
  rcases h with ⟨u,_,h⟩ | ⟨_,u,_,h⟩
  ·exact Hon.pre h
  ·obtain ⟨r,hr⟩:=Hon.pre h
   exact ⟨(k,u) :: r,by rw [hr]; simp⟩
theorem Hon.not12:∀ {p:Pg Wo} {acc ns:List (By×Wo)} {w:Wo},Hon p acc ns w→w≠.error 12
 |⟨.inl _⟩,_,_,_,h=>h.2.1
 |⟨.inr (k,c)⟩,acc,ns,w,h=>by
  rcases h with ⟨u,_,h⟩ | ⟨_,u,_,h⟩
  ·exact Hon.not12 h
  ·exact Hon.not12 h
theorem Hon.needs12:∀ {p:Pg Wo} {acc ns:List (By×Wo)} {w:Wo},Hon p acc ns w→(∀ n∈acc,n.2≠.error 12)→∀ n∈ns,n.2≠.error 12
 |⟨.inl _⟩,_,_,_,h,ha=>by rw [←h.2.2]; exact ha
 |⟨.inr (k,c)⟩,acc,ns,w,h,ha=>by
  rcases h with ⟨u,_,h⟩ | ⟨_,u,hu,h⟩
  ·exact Hon.needs12 h ha
  ·refine Hon.needs12 h (fun n hn=>?_)
   rcases List.mem_append.1 hn with hn | hn
   ·exact ha n hn
   ·rw [List.mem_singleton.1 hn]; exact hu
theorem look_mem {α:Type}:∀ {l:List (By×α)} {k:By} {a:α},look l k=some a→(k,a)∈l
 |[],_,_,h=>by cases h
 |p :: l,k,a,h=>by
  rw [look_cons] at h
  by_cases hp:p.1=k
  ·rw [if_pos hp] at h; cases h; subst hp; exact List.mem_cons_self
  ·rw [if_neg hp] at h; exact List.mem_cons_of_mem _ (look_mem h)
theorem Hon.all:∀ {p:Pg Wo} {acc ns:List (By×Wo)} {w:Wo},Hon p acc ns w→(∀ n∈ns,W e n.1 n.2)→Rn (W e) p w
 |⟨.inl _⟩,_,_,_,h,_=>⟨h.1,h.2.1⟩
 |⟨.inr (k,c)⟩,acc,ns,w,h,hn=>by
  rcases h with ⟨u,hu,h⟩ | ⟨_,u,_,h⟩
  ·obtain ⟨r,hr⟩:=h.pre
   exact ⟨u,hn (k,u) (by rw [hr]; exact List.mem_append_left _ (look_mem hu)),Hon.all h hn⟩
  ·obtain ⟨r,hr⟩:=h.pre
   exact ⟨u,hn (k,u) (by rw [hr]; simp),Hon.all h hn⟩
theorem Hon.next:∀ {p:Pg Wo} {acc pre post:List (By×Wo)} {k:By} {u w:Wo},Hon p acc (pre++(k,u) :: post) w→acc.length≤pre.length→(∀ n∈pre,W e n.1 n.2)→Asks e p k
 |⟨.inl _⟩,acc,pre,post,k,u,w,h,hl,_=>by
  have:=congrArg List.length h.2.2
  simp at this
  omega
 |⟨.inr (k',c)⟩,acc,pre,post,k,u,w,h,hl,hp=>by
  rcases h with ⟨u',hu,h⟩ | ⟨_,u',_,h⟩
  ·obtain ⟨r,hr⟩:=h.pre
   have hin:(k',u')∈pre:=by
    have:=look_mem hu
    have h2:acc=pre.take acc.length:=by
     have h3:=congrArg (List.take acc.length) hr
     rw [List.take_append_of_le_length hl,List.take_left] at h3
     exact h3.symm
    rw [h2] at this
    exact List.mem_of_mem_take this
   exact .inr ⟨u',hp _ hin,Hon.next h hl hp⟩
  ·obtain ⟨r,hr⟩:=h.pre
   have h2:(pre++(k,u) :: post)[acc.length]? = some (k',u'):=by rw [hr]; simp
   rcases Nat.lt_or_ge acc.length pre.length with hlt | hge
   ·rw [List.getElem?_append_left hlt] at h2
    exact .inr ⟨u',hp _ (List.mem_of_getElem? h2),Hon.next h (by simp; omega) hp⟩
   ·have he:acc.length=pre.length:=by omega
    rw [he,List.getElem?_append_right (Nat.le_refl _)] at h2
    simp at h2
    exact .inl h2.1.symm
end Lard
end
end Go.Proofs.YtpekpdimdelncaaGreatDoor
