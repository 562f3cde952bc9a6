/- The document's reader: SUM and TERM by what stands in them. -/
import Derived.Test.YtpekpdimdelncaaGreatDoorR7
namespace Go.Proofs.YtpekpdimdelncaaGreatDoor
open Go.RowKit

/-- Where the document's reader stands, read off memory: a measure for its loops. -/
def ratOf (w : World) (rb size : Nat) : Nat :=
  match w.cell? ⟨rb, 3, none⟩, w.cell? ⟨rb, 1, none⟩ with
  | some (.int _ 0), some (.int _ k) => size - k.toNat + 1
  | _, _ => 0

theorem ratOf_ok {w : World} {s : ByteArray} {rb B its n j : Nat} (h : RX s rb B its n (.ok j) w) : ratOf w rb s.size = s.size - j + 1 := by
  obtain ⟨v, p, h1, _⟩ := h.ok
  rw [ratOf, h1.cells.2.2.2.1, h1.cells.2.1]; rfl

theorem ratOf_err {w : World} {s : ByteArray} {rb B its n : Nat} {y : Nat × Nat} (h : RX s rb B its n (.error y) w) : ratOf w rb s.size = 0 := by
  obtain ⟨hy, v, i, t, h1, _⟩ := h.err
  rw [ratOf, h1.cells.2.2.2.1, h1.cells.2.1]
  split
  · rename_i k _ h2 h3; injection h2 with h2; injection h2 with h2 h4; omega
  · rfl

set_option maxRecDepth 100000 in
set_option maxHeartbeats 2000000 in
theorem rsum_step (s : ByteArray) (rb B n : Nat) (hs : s.size ≤ 200) (H : ∀ m, m ≤ n → RT s rb B 145 2 m) : RT s rb B 103 1 (n + 1) := by
  intro deep its i st w c hd hits hfuel hg h hc
  have h1 := H n (Nat.le_refl _) deep its i st w c hd hits (by simp [Lard.nd] at hfuel ⊢; omega) hg h hc
  have hg1 := hg.P n 2 deep its
  have hst : Lard.andThen st (Lard.P s.data.toList (n + 1) 1 deep its) = Lard.andThen (Lard.andThen st (Lard.P s.data.toList n 2 deep its)) (Lard.P s.data.toList n 4 deep its) := by
    cases st with
    | error y => rfl
    | ok k => rfl
  rw [hst]
  have hfu : ∀ j, Lard.andThen st (Lard.P s.data.toList n 2 deep its) = .ok j → 8 * (s.size - j) + 1 ≤ n := fun j hj => by
    obtain ⟨k, e1, e2⟩ := Lard.andThen_ok hj
    have a1 := hg k e1
    have a2 := Lard.P_prog s.data.toList n 2 deep its k j e2 (by simpa using a1.2)
    simp at a2
    simp [Lard.nd] at hfuel
    omega
  clear hst
  generalize Lard.andThen st (Lard.P s.data.toList n 2 deep its) = st1 at h1 hg1 hfu
  generalize hfin : Lard.andThen st1 (Lard.P s.data.toList n 4 deep its) = fin
  have H1 := hide h1
  have HF := hide hfin
  have HH := hide H
  have hT : ∀ m j, Lard.P s.data.toList (m + 1) 4 deep its j = if Lard.oneB s.data.toList j [43, 45] = true then Lard.andThen (Lard.P s.data.toList m 2 deep its (Lard.nxt s.data.toList j)) fun j => Lard.P s.data.toList m 4 deep its j else .ok j := fun _ _ => rfl
  have HT := hide hT
  clear h1 hfin H hT
  go_enter Tryz.func103, Tryz.ntmps103
  go_wp2_with fail
  refine H1.out.mono ?_
  rintro e w1 ⟨x1, n1, rfl, k1, r1, b1, x1k⟩
  clear H1
  go_wp2_with fail
  go_loopw [5] (fun x wr => ∃ (xi : Int) (st2 : Except (Nat × Nat) Nat) (m cn : Nat), x = .int .i64 xi ∧ RX s rb B its cn st2 wr ∧ RF rb B w wr ∧ Good s i st2 ∧ (∀ j, st2 = .ok j → 8 * (s.size - j) + 1 ≤ m) ∧ m ≤ n ∧ cn + room s st2 ≤ c + room s st ∧ (∀ j, st2 = .ok j → ∃ k : Nat, xi = (k : Int) ∧ k < cn) ∧ Hid (Lard.andThen st2 (Lard.P s.data.toList m 4 deep its) = fin)) (fun _ wr => ratOf wr rb s.size)
  case atStart => exact ⟨x1, st1, n, n1, rfl, k1, r1, hg1, hfu, Nat.le_refl _, b1, x1k, HF⟩
  case round =>
    clear k1 r1 hg1 hfu b1 x1k HF
    obtain ⟨xi, st2, m, cn, rfl, k1, r1, hg1, hm, hmn, b1, x1k, HM⟩ := hrel
    cases st2 with
    | error y =>
      have hf : fin = .error y := HM.out.symm
      clear HM HT HH
      subst hf
      obtain ⟨hy, v, i1, t1, q1, q2⟩ := k1.err
      obtain ⟨c0, c1, c2, c3, c4, c5, c6, cf⟩ := q1.cells
      have hy' : ((y.1 : Int) == 0) = false := by rw [beq_eq_false_iff_ne]; omega
      go_wp2_with fail
      go_ret
      exact ⟨xi, cn, rfl, k1, r1, b1, fun j hj => (by cases hj)⟩
    | ok j =>
      have hrat := hide (ratOf_ok k1)
      obtain ⟨v, p, q1, q2⟩ := k1.ok
      obtain ⟨c0, c1, c2, c3, c4, c5, c6, cf⟩ := q1.cells
      have hj := hg1 j rfl
      have hmj := hm j rfl
      obtain ⟨m, rfl⟩ : ∃ m', m = m' + 1 := ⟨m - 1, by omega⟩
      have hone := one_two s.data.toList j 43 45 (by decide) (by decide)
      have t60 := tok_is s j [43] (by decide)
      have t61 := tok_is s j [45] (by decide)
      have hst : (if Lard.oneB s.data.toList j [43, 45] = true then Lard.andThen (Lard.andThen (.ok (Lard.nxt s.data.toList j)) (Lard.P s.data.toList m 2 deep its)) (Lard.P s.data.toList m 4 deep its) else .ok j) = fin := (HT.out m j).symm.trans HM.out
      rw [hone] at hst
      clear HM HT
      by_cases ho : (Lard.tx s.data.toList j == [43] || Lard.tx s.data.toList j == [45]) = true
      · rw [if_pos ho] at hst
        have hsg : ∃ c, Lard.signB c = true ∧ known [c] = true ∧ Lard.tx s.data.toList j = [c] := by
          rw [Bool.or_eq_true] at ho
          rcases ho with ho | ho
          · exact ⟨43, by decide, by decide, eq_of_beq ho⟩
          · exact ⟨45, by decide, by decide, eq_of_beq ho⟩
        obtain ⟨ch, hch, hkn, hcx⟩ := hsg
        have hsz := tok_one s j ch hkn hcx
        have hgd := good_of_tx (l := s.data.toList) (i := j) (by rw [hcx]; simp)
        have hn1 := Lard.nxt_gt (Lard.tok_pos _ hgd)
        have hn2 : Lard.nxt s.data.toList j ≤ s.size := by have := Lard.nxt_le s.data.toList j (by simpa using hj.2); simpa using this
        have HN := hide (next_x s rb B its cn j wr k1 hs hj.2 hgd)
        have hroom : cn + room s (.ok (Lard.nxt s.data.toList j)) + 4 ≤ c + room s st := by simp only [room] at b1 ⊢; omega
        have hgn : Good s (Lard.nxt s.data.toList j) (.ok (Lard.nxt s.data.toList j)) := fun a ha => by cases ha; exact ⟨Nat.le_refl _, hn2⟩
        have HS := hide (fun (w2 : World) (k2 : RX s rb B its cn (.ok (Lard.nxt s.data.toList j)) w2) => HH.out m (by omega) deep its (Lard.nxt s.data.toList j) (.ok (Lard.nxt s.data.toList j)) w2 cn hd hits (by simp [Lard.nd]; omega) hgn k2 (by omega))
        have hg2 := hgn.P m 2 deep its
        have hm2 : ∀ a, Lard.andThen (.ok (Lard.nxt s.data.toList j)) (Lard.P s.data.toList m 2 deep its) = .ok a → 8 * (s.size - a) + 1 ≤ m := fun a ha => by
          have := (hg2 a ha).1
          have := Lard.P_prog s.data.toList m 2 deep its _ a ha (by simpa using hn2)
          simp at this
          omega
        generalize Lard.andThen (.ok (Lard.nxt s.data.toList j)) (Lard.P s.data.toList m 2 deep its) = st2 at hst HS hg2 hm2
        have HM2 := hide hst
        have hdec : ∀ wz nz, RX s rb B its nz st2 wz → ratOf wz rb s.size < s.size - j + 1 := fun wz nz hz => by
          cases st2 with
          | error y => rw [ratOf_err hz]; omega
          | ok a => rw [ratOf_ok hz]; have := hg2 a rfl; omega
        have hg3 : Good s i st2 := fun a ha => by have := hg2 a ha; omega
        clear hst hgd hcx hch hkn hn1 hn2 hone b1 hg1 x1k HH hg2 hgn hm hmj
        cases h60 : (Lard.tx s.data.toList j == [43]) with
        | true =>
          rw [h60] at t60
          clear t61 ho h60
          go_wp2_with fail
          refine HN.out.mono ?_
          rintro e w2 ⟨rfl, k2, r2⟩
          clear c0 c1 c2 c3 c4 c5 c6 cf
          go_wp2_with fail
          refine (HS.out _ k2).mono ?_
          rintro e w3 ⟨x3, n3, rfl, k3, r3, b3, _⟩
          go_wp2_with fail
          refine (add_x s rb B its n3 st2 w3 k3 _ _ _ _ _ _ _ _ (by omega)).mono ?_
          rintro e w4 ⟨rfl, k4, r4⟩
          go_wp2_with fail
          refine ⟨⟨_, st2, m, n3 + 1, rfl, k4, r1.trans (r2.trans (r3.trans r4)), hg3, hm2, by omega, by omega, fun _ _ => ⟨n3, rfl, by omega⟩, HM2⟩, ?_⟩
          rw [hrat.out]
          exact hdec _ _ k4
        | false =>
          rw [h60] at t60 ho
          rw [Bool.false_or] at ho
          rw [ho] at t61
          clear ho h60
          go_wp2_with fail
          refine HN.out.mono ?_
          rintro e w2 ⟨rfl, k2, r2⟩
          clear c0 c1 c2 c3 c4 c5 c6 cf
          go_wp2_with fail
          refine (HS.out _ k2).mono ?_
          rintro e w3 ⟨x3, n3, rfl, k3, r3, b3, _⟩
          go_wp2_with fail
          refine (add_x s rb B its n3 st2 w3 k3 _ _ _ _ _ _ _ _ (by omega)).mono ?_
          rintro e w4 ⟨rfl, k4, r4⟩
          go_wp2_with fail
          refine ⟨⟨_, st2, m, n3 + 1, rfl, k4, r1.trans (r2.trans (r3.trans r4)), hg3, hm2, by omega, by omega, fun _ _ => ⟨n3, rfl, by omega⟩, HM2⟩, ?_⟩
          rw [hrat.out]
          exact hdec _ _ k4
      · rw [if_neg ho] at hst
        subst hst
        have ho' : (Lard.tx s.data.toList j == [43]) = false ∧ (Lard.tx s.data.toList j == [45]) = false := by
          rw [Bool.or_eq_true, not_or] at ho
          exact ⟨by simpa using ho.1, by simpa using ho.2⟩
        rw [ho'.1] at t60
        rw [ho'.2] at t61
        clear ho ho' hone HH
        go_wp2_with fail
        go_ret
        exact ⟨xi, cn, rfl, k1, r1, b1, x1k⟩

set_option maxRecDepth 100000 in
set_option maxHeartbeats 2000000 in
theorem rterm_step (s : ByteArray) (rb B n : Nat) (hs : s.size ≤ 200) (H : ∀ m, m ≤ n → RT s rb B 192 3 m) : RT s rb B 145 2 (n + 1) := by
  intro deep its i st w c hd hits hfuel hg h hc
  have h1 := H n (Nat.le_refl _) deep its i st w c hd hits (by simp [Lard.nd] at hfuel ⊢; omega) hg h hc
  have hg1 := hg.P n 3 deep its
  have hst : Lard.andThen st (Lard.P s.data.toList (n + 1) 2 deep its) = Lard.andThen (Lard.andThen st (Lard.P s.data.toList n 3 deep its)) (Lard.P s.data.toList n 5 deep its) := by
    cases st with
    | error y => rfl
    | ok k => rfl
  rw [hst]
  have hfu : ∀ j, Lard.andThen st (Lard.P s.data.toList n 3 deep its) = .ok j → 8 * (s.size - j) + 1 ≤ n := fun j hj => by
    obtain ⟨k, e1, e2⟩ := Lard.andThen_ok hj
    have a1 := hg k e1
    have a2 := Lard.P_prog s.data.toList n 3 deep its k j e2 (by simpa using a1.2)
    simp at a2
    simp [Lard.nd] at hfuel
    omega
  clear hst
  generalize Lard.andThen st (Lard.P s.data.toList n 3 deep its) = st1 at h1 hg1 hfu
  generalize hfin : Lard.andThen st1 (Lard.P s.data.toList n 5 deep its) = fin
  have H1 := hide h1
  have HF := hide hfin
  have HH := hide H
  have hT : ∀ m j, Lard.P s.data.toList (m + 1) 5 deep its j = if Lard.oneB s.data.toList j [42, 47] = true then Lard.andThen (Lard.P s.data.toList m 3 deep its (Lard.nxt s.data.toList j)) fun j => Lard.P s.data.toList m 5 deep its j else .ok j := fun _ _ => rfl
  have HT := hide hT
  clear h1 hfin H hT
  go_enter Tryz.func145, Tryz.ntmps145
  go_wp2_with fail
  refine H1.out.mono ?_
  rintro e w1 ⟨x1, n1, rfl, k1, r1, b1, x1k⟩
  clear H1
  go_wp2_with fail
  go_loopw [5] (fun x wr => ∃ (xi : Int) (st2 : Except (Nat × Nat) Nat) (m cn : Nat), x = .int .i64 xi ∧ RX s rb B its cn st2 wr ∧ RF rb B w wr ∧ Good s i st2 ∧ (∀ j, st2 = .ok j → 8 * (s.size - j) + 1 ≤ m) ∧ m ≤ n ∧ cn + room s st2 ≤ c + room s st ∧ (∀ j, st2 = .ok j → ∃ k : Nat, xi = (k : Int) ∧ k < cn) ∧ Hid (Lard.andThen st2 (Lard.P s.data.toList m 5 deep its) = fin)) (fun _ wr => ratOf wr rb s.size)
  case atStart => exact ⟨x1, st1, n, n1, rfl, k1, r1, hg1, hfu, Nat.le_refl _, b1, x1k, HF⟩
  case round =>
    clear k1 r1 hg1 hfu b1 x1k HF
    obtain ⟨xi, st2, m, cn, rfl, k1, r1, hg1, hm, hmn, b1, x1k, HM⟩ := hrel
    cases st2 with
    | error y =>
      have hf : fin = .error y := HM.out.symm
      clear HM HT HH
      subst hf
      obtain ⟨hy, v, i1, t1, q1, q2⟩ := k1.err
      obtain ⟨c0, c1, c2, c3, c4, c5, c6, cf⟩ := q1.cells
      have hy' : ((y.1 : Int) == 0) = false := by rw [beq_eq_false_iff_ne]; omega
      go_wp2_with fail
      go_ret
      exact ⟨xi, cn, rfl, k1, r1, b1, fun j hj => (by cases hj)⟩
    | ok j =>
      have hrat := hide (ratOf_ok k1)
      obtain ⟨v, p, q1, q2⟩ := k1.ok
      obtain ⟨c0, c1, c2, c3, c4, c5, c6, cf⟩ := q1.cells
      have hj := hg1 j rfl
      have hmj := hm j rfl
      obtain ⟨m, rfl⟩ : ∃ m', m = m' + 1 := ⟨m - 1, by omega⟩
      have hone := one_two s.data.toList j 42 47 (by decide) (by decide)
      have t60 := tok_is s j [42] (by decide)
      have t61 := tok_is s j [47] (by decide)
      have hst : (if Lard.oneB s.data.toList j [42, 47] = true then Lard.andThen (Lard.andThen (.ok (Lard.nxt s.data.toList j)) (Lard.P s.data.toList m 3 deep its)) (Lard.P s.data.toList m 5 deep its) else .ok j) = fin := (HT.out m j).symm.trans HM.out
      rw [hone] at hst
      clear HM HT
      by_cases ho : (Lard.tx s.data.toList j == [42] || Lard.tx s.data.toList j == [47]) = true
      · rw [if_pos ho] at hst
        have hsg : ∃ c, Lard.signB c = true ∧ known [c] = true ∧ Lard.tx s.data.toList j = [c] := by
          rw [Bool.or_eq_true] at ho
          rcases ho with ho | ho
          · exact ⟨42, by decide, by decide, eq_of_beq ho⟩
          · exact ⟨47, by decide, by decide, eq_of_beq ho⟩
        obtain ⟨ch, hch, hkn, hcx⟩ := hsg
        have hsz := tok_one s j ch hkn hcx
        have hgd := good_of_tx (l := s.data.toList) (i := j) (by rw [hcx]; simp)
        have hn1 := Lard.nxt_gt (Lard.tok_pos _ hgd)
        have hn2 : Lard.nxt s.data.toList j ≤ s.size := by have := Lard.nxt_le s.data.toList j (by simpa using hj.2); simpa using this
        have HN := hide (next_x s rb B its cn j wr k1 hs hj.2 hgd)
        have hroom : cn + room s (.ok (Lard.nxt s.data.toList j)) + 4 ≤ c + room s st := by simp only [room] at b1 ⊢; omega
        have hgn : Good s (Lard.nxt s.data.toList j) (.ok (Lard.nxt s.data.toList j)) := fun a ha => by cases ha; exact ⟨Nat.le_refl _, hn2⟩
        have HS := hide (fun (w2 : World) (k2 : RX s rb B its cn (.ok (Lard.nxt s.data.toList j)) w2) => HH.out m (by omega) deep its (Lard.nxt s.data.toList j) (.ok (Lard.nxt s.data.toList j)) w2 cn hd hits (by simp [Lard.nd]; omega) hgn k2 (by omega))
        have hg2 := hgn.P m 3 deep its
        have hm2 : ∀ a, Lard.andThen (.ok (Lard.nxt s.data.toList j)) (Lard.P s.data.toList m 3 deep its) = .ok a → 8 * (s.size - a) + 1 ≤ m := fun a ha => by
          have := (hg2 a ha).1
          have := Lard.P_prog s.data.toList m 3 deep its _ a ha (by simpa using hn2)
          simp at this
          omega
        generalize Lard.andThen (.ok (Lard.nxt s.data.toList j)) (Lard.P s.data.toList m 3 deep its) = st2 at hst HS hg2 hm2
        have HM2 := hide hst
        have hdec : ∀ wz nz, RX s rb B its nz st2 wz → ratOf wz rb s.size < s.size - j + 1 := fun wz nz hz => by
          cases st2 with
          | error y => rw [ratOf_err hz]; omega
          | ok a => rw [ratOf_ok hz]; have := hg2 a rfl; omega
        have hg3 : Good s i st2 := fun a ha => by have := hg2 a ha; omega
        clear hst hgd hcx hch hkn hn1 hn2 hone b1 hg1 x1k HH hg2 hgn hm hmj
        cases h60 : (Lard.tx s.data.toList j == [42]) with
        | true =>
          rw [h60] at t60
          clear t61 ho h60
          go_wp2_with fail
          refine HN.out.mono ?_
          rintro e w2 ⟨rfl, k2, r2⟩
          clear c0 c1 c2 c3 c4 c5 c6 cf
          go_wp2_with fail
          refine (HS.out _ k2).mono ?_
          rintro e w3 ⟨x3, n3, rfl, k3, r3, b3, _⟩
          go_wp2_with fail
          refine (add_x s rb B its n3 st2 w3 k3 _ _ _ _ _ _ _ _ (by omega)).mono ?_
          rintro e w4 ⟨rfl, k4, r4⟩
          go_wp2_with fail
          refine ⟨⟨_, st2, m, n3 + 1, rfl, k4, r1.trans (r2.trans (r3.trans r4)), hg3, hm2, by omega, by omega, fun _ _ => ⟨n3, rfl, by omega⟩, HM2⟩, ?_⟩
          rw [hrat.out]
          exact hdec _ _ k4
        | false =>
          rw [h60] at t60 ho
          rw [Bool.false_or] at ho
          rw [ho] at t61
          clear ho h60
          go_wp2_with fail
          refine HN.out.mono ?_
          rintro e w2 ⟨rfl, k2, r2⟩
          clear c0 c1 c2 c3 c4 c5 c6 cf
          go_wp2_with fail
          refine (HS.out _ k2).mono ?_
          rintro e w3 ⟨x3, n3, rfl, k3, r3, b3, _⟩
          go_wp2_with fail
          refine (add_x s rb B its n3 st2 w3 k3 _ _ _ _ _ _ _ _ (by omega)).mono ?_
          rintro e w4 ⟨rfl, k4, r4⟩
          go_wp2_with fail
          refine ⟨⟨_, st2, m, n3 + 1, rfl, k4, r1.trans (r2.trans (r3.trans r4)), hg3, hm2, by omega, by omega, fun _ _ => ⟨n3, rfl, by omega⟩, HM2⟩, ?_⟩
          rw [hrat.out]
          exact hdec _ _ k4
      · rw [if_neg ho] at hst
        subst hst
        have ho' : (Lard.tx s.data.toList j == [42]) = false ∧ (Lard.tx s.data.toList j == [47]) = false := by
          rw [Bool.or_eq_true, not_or] at ho
          exact ⟨by simpa using ho.1, by simpa using ho.2⟩
        rw [ho'.1] at t60
        rw [ho'.2] at t61
        clear ho ho' hone HH
        go_wp2_with fail
        go_ret
        exact ⟨xi, cn, rfl, k1, r1, b1, x1k⟩
end Go.Proofs.YtpekpdimdelncaaGreatDoor
