/- Out of: L9. -/
import Derived.Test.YtpekpdimdelncaaGreatDoorP18
namespace Go.Proofs.YtpekpdimdelncaaGreatDoor
set_option maxRecDepth 100000
set_option maxHeartbeats 1000000
open Go.RowKit Go.Shelf
set_option linter.unusedVariables false
set_option linter.unusedSimpArgs false
theorem bld_below {B b : Nat} {l : List UInt8} {w w' : World} (h : Bld B b l w) (hB : Below w.heap.size w w') : Bld B b l w' := by
  have f : ∀ p, Lib.BuilderAt 188 5 B b p (Lib.byteCells l) w → Lib.BuilderAt 188 5 B b p (Lib.byteCells l) w' := by
    rintro p ⟨h1, v, h2, h3, h4⟩
    exact ⟨h1, v, (hB.block b (lt_of_some h2)).trans h2, own_below h3 hB, h4⟩
  rcases h with h | h
  · exact .inl (f _ h)
  · exact .inr (f _ h)
theorem size_data (x : ByteArray) : x.size = x.data.toList.length := by rfl
theorem bld_lt {B b : Nat} {l : List UInt8} {w : World} (h : Bld B b l w) : b < w.heap.size := by
  rcases h with h | h
  · exact h.lt
  · exact h.lt
theorem keep_prefix (key : List UInt8) (r : Lard.Wo) (ns : List (List UInt8 × Lard.Wo)) (k : Nat) (n : List UInt8 × Lard.Wo) (hn : ns[k]? = some n) : Lard.keepText key ⟨r, ns.take (k + 1)⟩ = Lard.keepText key ⟨r, ns.take k⟩ ++ Lard.needText n := by
  have hlt := (List.getElem?_eq_some_iff.1 hn).1
  unfold Lard.keepText
  rw [List.take_succ_eq_append_getElem hlt, List.flatMap_append]
  have : ns[k] = n := by rw [List.getElem?_eq_getElem hlt] at hn; exact Option.some.inj hn
  simp [this]
theorem needText_len {w : World} {n : List UInt8 × Lard.Wo} {x : Value} (h1 : n.1.length ≤ 200) (h2 : IsW w n.2 x) : (Lard.needText n).length ≤ 100202 := by
  have := woText_len h2
  simp [Lard.needText]
  omega
theorem keepText_take {w : World} {key : List UInt8} {r : Lard.Wo} {x : Value} {ns : List (List UInt8 × Lard.Wo)} {sl : Value} (hkey : key.length ≤ 200) (hr : IsW w r x) (h : NeedsAt w ns sl) : ∀ k, k ≤ ns.length → (Lard.keepText key ⟨r, ns.take k⟩).length ≤ 100206 + k * 100202
  | 0, _ => by
    have := woText_len hr
    simp [Lard.keepText]
    omega
  | k + 1, hk => by
    obtain ⟨qs, h1, h2, h3⟩ := h
    obtain ⟨n, hn⟩ : ∃ n, ns[k]? = some n := ⟨_, List.getElem?_eq_getElem (by omega)⟩
    obtain ⟨q, hq⟩ : ∃ q, qs[k]? = some q := ⟨_, List.getElem?_eq_getElem (by omega)⟩
    obtain ⟨_, h5, h6⟩ := h3 k n q hn hq
    have ih := keepText_take hkey hr ⟨qs, h1, h2, h3⟩ k (by omega)
    have := needText_len h5 h6
    rw [keep_prefix key r ns k n hn, List.length_append]
    omega
theorem cells3_at (qs : List (Value × Value × Value)) (k : Nat) (q : Value × Value × Value) (hq : qs[k]? = some q) : (qs.flatMap cells3)[3 * k]? = some q.1 ∧ (qs.flatMap cells3)[3 * k + 1]? = some q.2.1 ∧ (qs.flatMap cells3)[3 * k + 2]? = some q.2.2 := by
  induction qs generalizing k with
  | nil => simp at hq
  | cons p qs ih =>
    cases k with
    | zero =>
      simp at hq
      subst hq
      exact ⟨rfl, rfl, rfl⟩
    | succ k =>
      simp at hq
      obtain ⟨h1, h2, h3⟩ := ih k hq
      have e : ∀ j, (List.flatMap cells3 (p :: qs))[3 * (k + 1) + j]? = (qs.flatMap cells3)[3 * k + j]? := fun j => by
        rw [List.flatMap_cons, List.getElem?_append_right (by simp [cells3]; omega)]
        congr 1
        simp [cells3]
        omega
      exact ⟨(e 0).trans h1, (e 1).trans h2, (e 2).trans h3⟩
theorem NeedsAt.cell {w : World} {ns : List (List UInt8 × Lard.Wo)} {sl : Value} (h : NeedsAt w ns sl) : ∃ o c, sl = .slice o ns.length c ∧ ∀ (k : Nat) n, ns[k]? = some n → ∃ g x y, o = some ⟨g, 0, none⟩ ∧ g < w.heap.size ∧ n.1.length ≤ 200 ∧ w.cell? ⟨g, k * 3, none⟩ = some (str n.1) ∧ w.cell? ⟨g, k * 3 + 1, none⟩ = some x ∧ w.cell? ⟨g, k * 3 + 2, none⟩ = some y ∧ IsW w n.2 (.agg #[x, y]) := by
  obtain ⟨qs, h1, h2, h3⟩ := h
  rcases h1.2 with ⟨rfl, h0⟩ | ⟨g, cap, cur, rfl, h8, hb, hn, hc, hs, htake⟩
  · refine ⟨none, 0, by rw [h0], fun k n hk => ?_⟩
    have := (List.getElem?_eq_some_iff.1 hk).1
    omega
  · refine ⟨some ⟨g, 0, none⟩, cap, rfl, fun k n hk => ?_⟩
    have hlt := (List.getElem?_eq_some_iff.1 hk).1
    obtain ⟨q, hq⟩ : ∃ q, qs[k]? = some q := ⟨_, List.getElem?_eq_getElem (by omega)⟩
    obtain ⟨e1, e2, e3⟩ := h3 k n q hk hq
    obtain ⟨d1, d2, d3⟩ := cells3_at qs k q hq
    have hcell : ∀ j v, (qs.flatMap cells3)[j]? = some v → w.cell? ⟨g, j, none⟩ = some v := fun j v hj => by
      have hj' := (List.getElem?_eq_some_iff.1 hj).1
      rw [← htake] at hj
      rw [List.getElem?_take] at hj
      split at hj
      · simp [World.cell?, hb]
        rw [← Array.getElem?_toList]
        exact hj
      · cases hj
    rw [Nat.mul_comm k 3]
    exact ⟨g, q.2.1, q.2.2, rfl, lt_of_some hb, e2, by rw [hcell _ _ d1, e1], hcell _ _ d2, hcell _ _ d3, e3⟩
theorem keepText_any (w : World) (L : Nat → Prop) (kp : Lard.Keep) (q : Nat) (key : ByteArray) (h : KeepAt w L kp q) (g : G w) (hk : key.size ≤ 200) :
    Calls Tryz.prog 61 #[ptr q, .string key] w fun e w' => e = .returned (str (Lard.keepText key.data.toList kp)) ∧ Below w.heap.size w w' := by
  obtain ⟨c, i, sl, hb, _, hW, hN, _, h401⟩ := h
  have c0 : w.cell? ⟨q, 0, none⟩ = some c := by simp [World.cell?, hb]
  have c1 : w.cell? ⟨q, 1, none⟩ = some i := by simp [World.cell?, hb]
  have c2 : w.cell? ⟨q, 2, none⟩ = some sl := by simp [World.cell?, hb]
  have hq : q < w.heap.size := lt_of_some hb
  have hlen := keepText_take (key := key.data.toList) (by simpa using hk) hW hN
  obtain ⟨o, cp, rfl, hcell⟩ := hN.cell
  obtain ⟨ci, y, he, hy⟩ := hW.form
  cases he
  have hwl := woText_len hW
  have hz := size_mk (Lard.woText kp.worth)
  obtain ⟨x, hx⟩ : ∃ x : ByteArray, (⟨(Lard.woText kp.worth).toArray⟩ : ByteArray) = x := ⟨_, rfl⟩
  have hxd : x.data.toList = Lard.woText kp.worth := by rw [← hx]
  have hst : str (Lard.woText kp.worth) = .string x := by rw [← hx]; rfl
  rw [hx] at hz
  have hB0 : Below w.heap.size w (w.alloc (.cells #[.pointer none, .slice none 0 0] 188)) := (Below.refl _ _).alloc (Nat.le_refl _) _
  have hwr := worthWritten_any (w.alloc (.cells #[.pointer none, .slice none 0 0] 188)) (g.below hB0 g.size) (hW.keeps (Keeps.below hB0))
  rw [hst] at hwr
  have hfresh := Lib.fresh_isBuilder 188 5 w
  have HWR := hide hwr
  have HFR := hide hfresh
  have HLEN := hide hlen
  have HCELL := hide hcell
  have HXD := hide hxd
  clear hwr hfresh hlen hcell hx hst hxd hW hN hb
  unfold ptr
  rcases hy with rfl | ⟨ty, a, rfl⟩
  all_goals
    go_enter Tryz.func61, Tryz.ntmps61
    go_wp2_with fail
    refine HWR.out.mono ?_
    rintro e w1 ⟨rfl, hB1⟩
    have hB1' : Below w.heap.size w w1 := hB0.trans (hB1.mono (by simp))
    have hbl : Bld w.heap.size w.heap.size [] w1 := bld_below HFR.out hB1
    have hl0 := HLEN.out 0 (Nat.zero_le _)
    have hs0 : (⟨#[107, 101, 101, 112, 32]⟩ ++ key ++ ⟨#[32]⟩ ++ x : ByteArray).data.toList = Lard.keepText key.data.toList ⟨kp.worth, kp.needs.take 0⟩ := by
      simp [Lard.keepText, HXD.out]
    have hsz0 : (⟨#[107, 101, 101, 112, 32]⟩ ++ key ++ ⟨#[32]⟩ ++ x : ByteArray).size ≤ 100206 := by
      rw [size_data, hs0]
      omega
    have hpos : 0 < (⟨#[107, 101, 101, 112, 32]⟩ ++ key ++ ⟨#[32]⟩ ++ x : ByteArray).size := by
      rw [size_data, hs0]
      simp [Lard.keepText]
    have HWS := hide (writeString_any w.heap.size w.heap.size [] _ w1 hbl hpos (by rw [List.length_nil]; omega) g.size hB1'.size)
    have HS0 := hide hs0
    clear HWR HFR hl0 hs0 hbl
    go_wp2_with fail
    refine HWS.out.mono ?_
    rintro e w2 ⟨rfl, hb2, hB2, _⟩
    have hB2' : Below w.heap.size w w2 := hB1'.trans hB2
    rw [List.nil_append, HS0.out] at hb2
    have d2 : w2.cell? ⟨q, 2, none⟩ = some (.slice o kp.needs.length cp) := (hB2'.cell (p := ⟨q, 2, none⟩) hq).trans c2
    clear HWS HS0 hsz0 hpos c0 c1 c2 hB1 hB1' hB2
    go_wp2_with fail
    go_loopw [23] (fun i wr => ∃ k : Nat, k ≤ kp.needs.length ∧ i = .int .i64 k ∧ Bld w.heap.size w.heap.size (Lard.keepText key.data.toList ⟨kp.worth, kp.needs.take k⟩) wr ∧ Below w.heap.size w wr) (fun i _ => kp.needs.length - (intOf i).toNat)
    case atStart => exact ⟨0, Nat.zero_le _, rfl, hb2, hB2'⟩
    case round =>
      obtain ⟨k, hk', rfl, hbk, hBk⟩ := hrel
      clear hb2 hB2' d2
      by_cases hlt : k < kp.needs.length
      · obtain ⟨nd, hnd⟩ : ∃ nd, kp.needs[k]? = some nd := ⟨_, List.getElem?_eq_getElem hlt⟩
        obtain ⟨g0, x0, y0, rfl, hg0, hn200, e0, e1, e2, hWn⟩ := HCELL.out k nd hnd
        have f0 : wr.cell? ⟨g0, k * 3, none⟩ = some (str nd.1) := (hBk.cell (p := ⟨g0, k * 3, none⟩) hg0).trans e0
        have f1 : wr.cell? ⟨g0, k * 3 + 1, none⟩ = some x0 := (hBk.cell (p := ⟨g0, k * 3 + 1, none⟩) hg0).trans e1
        have f2 : wr.cell? ⟨g0, k * 3 + 2, none⟩ = some y0 := (hBk.cell (p := ⟨g0, k * 3 + 2, none⟩) hg0).trans e2
        obtain ⟨cn, yn, hen, hyn⟩ := hWn.form
        cases hen
        unfold str at f0
        have hWr := hWn.keeps (Keeps.below hBk)
        have HWr := hide hWr
        have HND := hide hnd
        clear e0 e1 e2 hWn hWr hnd
        obtain ⟨kx, hkx⟩ : ∃ kx : ByteArray, (⟨nd.1.toArray⟩ : ByteArray) = kx := ⟨_, rfl⟩
        have hkz : kx.size ≤ 200 := by rw [← hkx, size_mk]; exact hn200
        have HKX := hide (show kx.data.toList = nd.1 by rw [← hkx])
        rw [hkx] at f0
        clear hkx
        rcases hyn with rfl | ⟨tn, an, rfl⟩
        · have hWa : IsW (wr.alloc (.cells #[.string kx, .int .i64 cn, .nilIface] 133)).drew nd.2 (.agg #[.int .i64 cn, .nilIface]) := HWr.out.keeps (Keeps.below (((Below.refl _ wr).alloc (Nat.le_refl _) _).drew))
          have hBa : Below wr.heap.size wr (wr.alloc (.cells #[.string kx, .int .i64 cn, .nilIface] 133)).drew := ((Below.refl _ wr).alloc (Nat.le_refl _) _).drew
          have hga : G (wr.alloc (.cells #[.string kx, .int .i64 cn, .nilIface] 133)).drew := (g.below hBk g.size).below hBa (Nat.le_trans g.size hBk.size)
          have HWN := hide (worthWritten_any _ hga hWa)
          have hwn := woText_len hWa
          have hzn := size_mk (Lard.woText nd.2)
          obtain ⟨xs, hxs⟩ : ∃ xs : ByteArray, (⟨(Lard.woText nd.2).toArray⟩ : ByteArray) = xs := ⟨_, rfl⟩
          have hxsd : xs.data.toList = Lard.woText nd.2 := by rw [← hxs]
          rw [hxs] at hzn
          have HXS := hide (show str (Lard.woText nd.2) = .string xs by rw [← hxs]; rfl)
          have HS3 := hide (fun (w3 : World) (hB3 : Below (wr.alloc (.cells #[.string kx, .int .i64 cn, .nilIface] 133)).drew.heap.size (wr.alloc (.cells #[.string kx, .int .i64 cn, .nilIface] 133)).drew w3) => show w3.cell? ⟨wr.heap.size, 0, none⟩ = some (.string kx) ∧ w3.cell? ⟨wr.heap.size, 1, none⟩ = some (.int .i64 cn) ∧ w3.cell? ⟨wr.heap.size, 2, none⟩ = some .nilIface from by
            obtain ⟨hc, _⟩ := bcell hB3
            rw [hc _ _ (by simp), hc _ _ (by simp), hc _ _ (by simp)]
            exact ⟨by simp [go_sem], by simp [go_sem], by simp [go_sem]⟩)
          have htx : (⟨#[32]⟩ ++ kx ++ ⟨#[61]⟩ ++ xs : ByteArray).data.toList = Lard.needText nd := by
            simp [Lard.needText, hxsd, HKX.out]
          have HWS := hide (fun (w3 : World) (hB3 : Below (wr.alloc (.cells #[.string kx, .int .i64 cn, .nilIface] 133)).drew.heap.size (wr.alloc (.cells #[.string kx, .int .i64 cn, .nilIface] 133)).drew w3) => show Calls Tryz.prog 95 #[.pointer (some ⟨w.heap.size, 0, none⟩), .string (⟨#[32]⟩ ++ kx ++ ⟨#[61]⟩ ++ xs)] w3 (fun e w' => e = .returned (.tuple #[.int .i64 (⟨#[32]⟩ ++ kx ++ ⟨#[61]⟩ ++ xs : ByteArray).size, .nilIface]) ∧ Bld w.heap.size w.heap.size (Lard.keepText key.data.toList ⟨kp.worth, kp.needs.take k⟩ ++ (⟨#[32]⟩ ++ kx ++ ⟨#[61]⟩ ++ xs : ByteArray).data.toList) w' ∧ Below w.heap.size w3 w' ∧ ∀ (k : Nat) (cs : Array Value) (t : TypeId) (fz : Nat × Nat), w3.heap[k]? = some (.cells cs t fz) → t ≠ 5 → k ≠ w.heap.size → w'.heap[k]? = some (.cells cs t fz)) ∧ (∀ w5, Bld w.heap.size w.heap.size (Lard.keepText key.data.toList ⟨kp.worth, kp.needs.take k⟩ ++ (⟨#[32]⟩ ++ kx ++ ⟨#[61]⟩ ++ xs : ByteArray).data.toList) w5 → Below w.heap.size w3 w5 → (∀ (k : Nat) (cs : Array Value) (t : TypeId) (fz : Nat × Nat), w3.heap[k]? = some (.cells cs t fz) → t ≠ 5 → k ≠ w.heap.size → w5.heap[k]? = some (.cells cs t fz)) → (w5.cell? ⟨wr.heap.size, 0, none⟩ = some (.string kx) ∧ w5.cell? ⟨wr.heap.size, 1, none⟩ = some (.int .i64 cn) ∧ w5.cell? ⟨wr.heap.size, 2, none⟩ = some .nilIface) ∧ Bld w.heap.size w.heap.size (Lard.keepText key.data.toList ⟨kp.worth, kp.needs.take (k + 1)⟩) w5 ∧ Below w.heap.size w w5) from by
            have hB3' : Below wr.heap.size wr w3 := hBa.trans (hB3.mono (by simp))
            have hlk := HLEN.out k hk'
            have hsz : (⟨#[32]⟩ ++ kx ++ ⟨#[61]⟩ ++ xs : ByteArray).size ≤ 100202 := by
              rw [size_data, htx]
              exact needText_len hn200 hWa
            refine ⟨writeString_any _ _ _ _ w3 (bld_below hbk hB3') (by rw [size_data, htx]; simp [Lard.needText]) (by omega) g.size (Nat.le_trans hBk.size hB3'.size), fun w5 h5 hB5 hK5 => ⟨?_, ?_, (hBk.trans (hB3'.mono hBk.size)).trans hB5⟩⟩
            · have hbx : w3.heap[wr.heap.size]? = some (.cells #[.string kx, .int .i64 cn, .nilIface] 133 (0, 0)) := (hB3.block wr.heap.size (by simp)).trans (heap_alloc_new wr _)
              have h6 := hK5 _ _ _ _ hbx (by decide) (by have := bld_lt hbk; omega)
              exact ⟨by simp [World.cell?, h6], by simp [World.cell?, h6], by simp [World.cell?, h6]⟩
            · rw [htx, ← keep_prefix key.data.toList kp.worth kp.needs k nd HND.out] at h5
              exact h5)
          clear hxs hxsd hWa hga htx
          have hS0 : (fun w' : World => w'.cell? ⟨wr.heap.size, 0, none⟩ = some (.string kx) ∧ w'.cell? ⟨wr.heap.size, 1, none⟩ = some (.int .i64 cn) ∧ w'.cell? ⟨wr.heap.size, 2, none⟩ = some .nilIface) (wr.alloc (.cells #[.string kx, .int .i64 cn, .nilIface] 133)).drew := ⟨by simp [go_sem], by simp [go_sem], by simp [go_sem]⟩
          go_wp2_with fail
          refine wp_region_held_drew (S := fun w' => w'.cell? ⟨wr.heap.size, 0, none⟩ = some (.string kx) ∧ w'.cell? ⟨wr.heap.size, 1, none⟩ = some (.int .i64 cn) ∧ w'.cell? ⟨wr.heap.size, 2, none⟩ = some .nilIface) (by kernel_rfl) hS0 (fun hHeld => ?_)
          refine wpAnyH_take (i := 0) (v := ?_) rfl (by kernel_rfl) (by kernel_rfl) (by kernel_rfl) (fun _ _ _ h => h) (Or.inl ⟨by rfl, ?_⟩) hS0 ?_
          rotate_left
          · intro w' s0
            go_simp
            try with_reducible rfl
          simp only [Act.put, List.setIfInBounds_toArray, List.set_cons_zero, List.set_cons_succ]
          refine wpAnyH_take (i := 1) (v := ?_) rfl (by kernel_rfl) (by kernel_rfl) (by kernel_rfl) (fun _ _ _ h => h) (Or.inl ⟨by rfl, ?_⟩) hS0 ?_
          rotate_left
          · intro w' s0
            obtain ⟨s1, s2, s3⟩ := s0
            go_simp
            try with_reducible rfl
          simp only [Act.put, List.setIfInBounds_toArray, List.set_cons_zero, List.set_cons_succ]
          refine wpAnyH_take (i := 2) (v := ?_) rfl (by kernel_rfl) (by kernel_rfl) (by kernel_rfl) (fun _ _ _ h => h) (Or.inl ⟨by rfl, ?_⟩) hS0 ?_
          rotate_left
          · intro w' s0
            go_simp
            rw [if_neg (by omega)]
            try with_reducible rfl
          simp only [Act.put, List.setIfInBounds_toArray, List.set_cons_zero, List.set_cons_succ]
          refine wpAnyH_take (i := 3) (v := ?_) rfl (by kernel_rfl) (by kernel_rfl) (by kernel_rfl) (fun _ _ _ h => h) (Or.inl ⟨by rfl, ?_⟩) hS0 ?_
          rotate_left
          · intro w' s0
            go_simp
            rw [if_neg (by omega)]
            try with_reducible rfl
          simp only [Act.put, List.setIfInBounds_toArray, List.set_cons_zero, List.set_cons_succ]
          refine wpAnyH_take (i := 4) (v := ?_) rfl (by kernel_rfl) (by kernel_rfl) (by kernel_rfl) (fun _ _ _ h => h) (Or.inl ⟨by rfl, ?_⟩) hS0 ?_
          rotate_left
          · intro w' s0
            go_simp
            try with_reducible rfl
          simp only [Act.put, List.setIfInBounds_toArray, List.set_cons_zero, List.set_cons_succ]
          refine wpAnyH_take (i := 5) (v := ?_) rfl (by kernel_rfl) (by kernel_rfl) (by kernel_rfl) (fun _ _ _ h => h) (Or.inl ⟨by rfl, ?_⟩) hS0 ?_
          rotate_left
          · intro w' s0
            obtain ⟨s1, s2, s3⟩ := s0
            go_simp
            try with_reducible rfl
          simp only [Act.put, List.setIfInBounds_toArray, List.set_cons_zero, List.set_cons_succ]
          refine wpAnyH_ready (rs := [6]) (by kernel_rfl) (by simp) ?_
          refine AllReadyH.cons rfl (fun K hK => ?_) AllReadyH.nil
          go_simp
          refine HWN.out.mono ?_
          rintro e w3 ⟨rfl, hB3⟩
          rw [HXS.out]
          have hS3 := HS3.out w3 hB3
          refine hK.out _ _ hS3 (fun _ => ?_)
          clear hK
          obtain ⟨hws, hS4⟩ := HWS.out w3 hB3
          have HW4 := hide hws
          have HS4 := hide hS4
          clear hws hS4 HWS HS3 HWN hB3
          refine wpAnyH_ready (rs := [7]) (by kernel_rfl) (by simp) ?_
          refine AllReadyH.cons rfl (fun K hK => ?_) AllReadyH.nil
          go_simp
          rw [if_neg (by omega), Oper.upon_value]
          go_simp
          refine hK.out _ _ hS3 (fun _ => ?_)
          clear hK
          refine wpAnyH_ready (rs := [8]) (by kernel_rfl) (by simp) ?_
          refine AllReadyH.cons rfl (fun K hK => ?_) AllReadyH.nil
          go_simp
          refine HW4.out.mono ?_
          rintro e w5 ⟨rfl, hb5, hB5, hK5⟩
          obtain ⟨hS5, hfin⟩ := HS4.out w5 hb5 hB5 hK5
          refine hK.out _ _ hS5 (fun _ => ?_)
          clear hK
          refine wpAnyH_done (by kernel_rfl) ?_ _
          go_wp2_with fail
          refine ⟨⟨k + 1, by omega, by go_num, hfin⟩, ?_⟩
          simp [intOf]; omega
        · have hWa : IsW (wr.alloc (.cells #[.string kx, .int .i64 cn, (.iface tn an)] 133)).drew nd.2 (.agg #[.int .i64 cn, (.iface tn an)]) := HWr.out.keeps (Keeps.below (((Below.refl _ wr).alloc (Nat.le_refl _) _).drew))
          have hBa : Below wr.heap.size wr (wr.alloc (.cells #[.string kx, .int .i64 cn, (.iface tn an)] 133)).drew := ((Below.refl _ wr).alloc (Nat.le_refl _) _).drew
          have hga : G (wr.alloc (.cells #[.string kx, .int .i64 cn, (.iface tn an)] 133)).drew := (g.below hBk g.size).below hBa (Nat.le_trans g.size hBk.size)
          have HWN := hide (worthWritten_any _ hga hWa)
          have hwn := woText_len hWa
          have hzn := size_mk (Lard.woText nd.2)
          obtain ⟨xs, hxs⟩ : ∃ xs : ByteArray, (⟨(Lard.woText nd.2).toArray⟩ : ByteArray) = xs := ⟨_, rfl⟩
          have hxsd : xs.data.toList = Lard.woText nd.2 := by rw [← hxs]
          rw [hxs] at hzn
          have HXS := hide (show str (Lard.woText nd.2) = .string xs by rw [← hxs]; rfl)
          have HS3 := hide (fun (w3 : World) (hB3 : Below (wr.alloc (.cells #[.string kx, .int .i64 cn, (.iface tn an)] 133)).drew.heap.size (wr.alloc (.cells #[.string kx, .int .i64 cn, (.iface tn an)] 133)).drew w3) => show w3.cell? ⟨wr.heap.size, 0, none⟩ = some (.string kx) ∧ w3.cell? ⟨wr.heap.size, 1, none⟩ = some (.int .i64 cn) ∧ w3.cell? ⟨wr.heap.size, 2, none⟩ = some (.iface tn an) from by
            obtain ⟨hc, _⟩ := bcell hB3
            rw [hc _ _ (by simp), hc _ _ (by simp), hc _ _ (by simp)]
            exact ⟨by simp [go_sem], by simp [go_sem], by simp [go_sem]⟩)
          have htx : (⟨#[32]⟩ ++ kx ++ ⟨#[61]⟩ ++ xs : ByteArray).data.toList = Lard.needText nd := by
            simp [Lard.needText, hxsd, HKX.out]
          have HWS := hide (fun (w3 : World) (hB3 : Below (wr.alloc (.cells #[.string kx, .int .i64 cn, (.iface tn an)] 133)).drew.heap.size (wr.alloc (.cells #[.string kx, .int .i64 cn, (.iface tn an)] 133)).drew w3) => show Calls Tryz.prog 95 #[.pointer (some ⟨w.heap.size, 0, none⟩), .string (⟨#[32]⟩ ++ kx ++ ⟨#[61]⟩ ++ xs)] w3 (fun e w' => e = .returned (.tuple #[.int .i64 (⟨#[32]⟩ ++ kx ++ ⟨#[61]⟩ ++ xs : ByteArray).size, .nilIface]) ∧ Bld w.heap.size w.heap.size (Lard.keepText key.data.toList ⟨kp.worth, kp.needs.take k⟩ ++ (⟨#[32]⟩ ++ kx ++ ⟨#[61]⟩ ++ xs : ByteArray).data.toList) w' ∧ Below w.heap.size w3 w' ∧ ∀ (k : Nat) (cs : Array Value) (t : TypeId) (fz : Nat × Nat), w3.heap[k]? = some (.cells cs t fz) → t ≠ 5 → k ≠ w.heap.size → w'.heap[k]? = some (.cells cs t fz)) ∧ (∀ w5, Bld w.heap.size w.heap.size (Lard.keepText key.data.toList ⟨kp.worth, kp.needs.take k⟩ ++ (⟨#[32]⟩ ++ kx ++ ⟨#[61]⟩ ++ xs : ByteArray).data.toList) w5 → Below w.heap.size w3 w5 → (∀ (k : Nat) (cs : Array Value) (t : TypeId) (fz : Nat × Nat), w3.heap[k]? = some (.cells cs t fz) → t ≠ 5 → k ≠ w.heap.size → w5.heap[k]? = some (.cells cs t fz)) → (w5.cell? ⟨wr.heap.size, 0, none⟩ = some (.string kx) ∧ w5.cell? ⟨wr.heap.size, 1, none⟩ = some (.int .i64 cn) ∧ w5.cell? ⟨wr.heap.size, 2, none⟩ = some (.iface tn an)) ∧ Bld w.heap.size w.heap.size (Lard.keepText key.data.toList ⟨kp.worth, kp.needs.take (k + 1)⟩) w5 ∧ Below w.heap.size w w5) from by
            have hB3' : Below wr.heap.size wr w3 := hBa.trans (hB3.mono (by simp))
            have hlk := HLEN.out k hk'
            have hsz : (⟨#[32]⟩ ++ kx ++ ⟨#[61]⟩ ++ xs : ByteArray).size ≤ 100202 := by
              rw [size_data, htx]
              exact needText_len hn200 hWa
            refine ⟨writeString_any _ _ _ _ w3 (bld_below hbk hB3') (by rw [size_data, htx]; simp [Lard.needText]) (by omega) g.size (Nat.le_trans hBk.size hB3'.size), fun w5 h5 hB5 hK5 => ⟨?_, ?_, (hBk.trans (hB3'.mono hBk.size)).trans hB5⟩⟩
            · have hbx : w3.heap[wr.heap.size]? = some (.cells #[.string kx, .int .i64 cn, (.iface tn an)] 133 (0, 0)) := (hB3.block wr.heap.size (by simp)).trans (heap_alloc_new wr _)
              have h6 := hK5 _ _ _ _ hbx (by decide) (by have := bld_lt hbk; omega)
              exact ⟨by simp [World.cell?, h6], by simp [World.cell?, h6], by simp [World.cell?, h6]⟩
            · rw [htx, ← keep_prefix key.data.toList kp.worth kp.needs k nd HND.out] at h5
              exact h5)
          clear hxs hxsd hWa hga htx
          have hS0 : (fun w' : World => w'.cell? ⟨wr.heap.size, 0, none⟩ = some (.string kx) ∧ w'.cell? ⟨wr.heap.size, 1, none⟩ = some (.int .i64 cn) ∧ w'.cell? ⟨wr.heap.size, 2, none⟩ = some (.iface tn an)) (wr.alloc (.cells #[.string kx, .int .i64 cn, (.iface tn an)] 133)).drew := ⟨by simp [go_sem], by simp [go_sem], by simp [go_sem]⟩
          go_wp2_with fail
          refine wp_region_held_drew (S := fun w' => w'.cell? ⟨wr.heap.size, 0, none⟩ = some (.string kx) ∧ w'.cell? ⟨wr.heap.size, 1, none⟩ = some (.int .i64 cn) ∧ w'.cell? ⟨wr.heap.size, 2, none⟩ = some (.iface tn an)) (by kernel_rfl) hS0 (fun hHeld => ?_)
          refine wpAnyH_take (i := 0) (v := ?_) rfl (by kernel_rfl) (by kernel_rfl) (by kernel_rfl) (fun _ _ _ h => h) (Or.inl ⟨by rfl, ?_⟩) hS0 ?_
          rotate_left
          · intro w' s0
            go_simp
            try with_reducible rfl
          simp only [Act.put, List.setIfInBounds_toArray, List.set_cons_zero, List.set_cons_succ]
          refine wpAnyH_take (i := 1) (v := ?_) rfl (by kernel_rfl) (by kernel_rfl) (by kernel_rfl) (fun _ _ _ h => h) (Or.inl ⟨by rfl, ?_⟩) hS0 ?_
          rotate_left
          · intro w' s0
            obtain ⟨s1, s2, s3⟩ := s0
            go_simp
            try with_reducible rfl
          simp only [Act.put, List.setIfInBounds_toArray, List.set_cons_zero, List.set_cons_succ]
          refine wpAnyH_take (i := 2) (v := ?_) rfl (by kernel_rfl) (by kernel_rfl) (by kernel_rfl) (fun _ _ _ h => h) (Or.inl ⟨by rfl, ?_⟩) hS0 ?_
          rotate_left
          · intro w' s0
            go_simp
            rw [if_neg (by omega)]
            try with_reducible rfl
          simp only [Act.put, List.setIfInBounds_toArray, List.set_cons_zero, List.set_cons_succ]
          refine wpAnyH_take (i := 3) (v := ?_) rfl (by kernel_rfl) (by kernel_rfl) (by kernel_rfl) (fun _ _ _ h => h) (Or.inl ⟨by rfl, ?_⟩) hS0 ?_
          rotate_left
          · intro w' s0
            go_simp
            rw [if_neg (by omega)]
            try with_reducible rfl
          simp only [Act.put, List.setIfInBounds_toArray, List.set_cons_zero, List.set_cons_succ]
          refine wpAnyH_take (i := 4) (v := ?_) rfl (by kernel_rfl) (by kernel_rfl) (by kernel_rfl) (fun _ _ _ h => h) (Or.inl ⟨by rfl, ?_⟩) hS0 ?_
          rotate_left
          · intro w' s0
            go_simp
            try with_reducible rfl
          simp only [Act.put, List.setIfInBounds_toArray, List.set_cons_zero, List.set_cons_succ]
          refine wpAnyH_take (i := 5) (v := ?_) rfl (by kernel_rfl) (by kernel_rfl) (by kernel_rfl) (fun _ _ _ h => h) (Or.inl ⟨by rfl, ?_⟩) hS0 ?_
          rotate_left
          · intro w' s0
            obtain ⟨s1, s2, s3⟩ := s0
            go_simp
            try with_reducible rfl
          simp only [Act.put, List.setIfInBounds_toArray, List.set_cons_zero, List.set_cons_succ]
          refine wpAnyH_ready (rs := [6]) (by kernel_rfl) (by simp) ?_
          refine AllReadyH.cons rfl (fun K hK => ?_) AllReadyH.nil
          go_simp
          refine HWN.out.mono ?_
          rintro e w3 ⟨rfl, hB3⟩
          rw [HXS.out]
          have hS3 := HS3.out w3 hB3
          refine hK.out _ _ hS3 (fun _ => ?_)
          clear hK
          obtain ⟨hws, hS4⟩ := HWS.out w3 hB3
          have HW4 := hide hws
          have HS4 := hide hS4
          clear hws hS4 HWS HS3 HWN hB3
          refine wpAnyH_ready (rs := [7]) (by kernel_rfl) (by simp) ?_
          refine AllReadyH.cons rfl (fun K hK => ?_) AllReadyH.nil
          go_simp
          rw [if_neg (by omega), Oper.upon_value]
          go_simp
          refine hK.out _ _ hS3 (fun _ => ?_)
          clear hK
          refine wpAnyH_ready (rs := [8]) (by kernel_rfl) (by simp) ?_
          refine AllReadyH.cons rfl (fun K hK => ?_) AllReadyH.nil
          go_simp
          refine HW4.out.mono ?_
          rintro e w5 ⟨rfl, hb5, hB5, hK5⟩
          obtain ⟨hS5, hfin⟩ := HS4.out w5 hb5 hB5 hK5
          refine hK.out _ _ hS5 (fun _ => ?_)
          clear hK
          refine wpAnyH_done (by kernel_rfl) ?_ _
          go_wp2_with fail
          refine ⟨⟨k + 1, by omega, by go_num, hfin⟩, ?_⟩
          simp [intOf]; omega
      · have HST := hide (Tryz.Builder_String_any w.heap.size w.heap.size _ wr hbk hBk.size)
        have hke : kp.needs.take k = kp.needs := List.take_of_length_le (by omega)
        have HFI := hide (fun (w' : World) (hB : Below w.heap.size wr w') => show Ending.returned (.string ⟨(Lard.keepText key.data.toList ⟨kp.worth, kp.needs.take k⟩).toArray⟩) = .returned (str (Lard.keepText key.data.toList kp)) ∧ Below w.heap.size w w' from ⟨by rw [hke]; rfl, hBk.trans hB⟩)
        clear hbk hBk HLEN HCELL hke
        go_wp2_with fail
        refine HST.out.mono ?_
        rintro e w6 ⟨rfl, hB6⟩
        have hfi := HFI.out w6 hB6
        clear HFI HST
        go_wp2_with fail
        go_ret
        exact hfi
end Go.Proofs.YtpekpdimdelncaaGreatDoor
