/- The document's reader: what stands between braces. -/
import Derived.Test.YtpekpdimdelncaaGreatDoorR8
namespace Go.Proofs.YtpekpdimdelncaaGreatDoor
open Go.RowKit

theorem intInfo : (Tryz.prog.info? 3).map (fun i => (i.zero, i.size, i.bytes)) = some (some (.int .i64 0), 1, 8) := by kernel_rfl

/-- A row of numbers is kept by the reader. -/
theorem own_rf {rb B : Nat} {w w' : World} (h : RF rb B w w') {base n : Nat} {v : Value} {xs : List Value} (ho : w.ownsRow base 3 1 v n xs) (hb : rb < base) : w'.ownsRow base 3 1 v n xs := by
  refine ⟨ho.1, ?_⟩
  rcases ho.2 with h0 | ⟨g, cap, cur, h1, h2, h3, h4⟩
  · exact Or.inl h0
  · refine Or.inr ⟨g, cap, cur, h1, h2, ?_, h4⟩
    exact h.other g _ h3 (by omega) (fun c fz e => by injection e with _ e _; exact absurd e (by decide))

theorem RF.grown {rb B : Nat} {a w w' : World} {row : Option Nat} (h : RF rb B a w) (hg : w.grownBy w' row) (hr : ∀ k, row = some k → a.heap.size ≤ k) : RF rb B a w' :=
  ⟨hg.os.trans h.os, hg.tape.trans h.tape, hg.output.trans h.output, Nat.le_trans h.size hg.size,
   fun k hB hk hn => (hg.block k (Nat.lt_of_lt_of_le hk h.size) (fun e => by have := hr k e.symm; omega)).trans (h.low k hB hk hn),
   fun k o h0 h1 h2 => (hg.block k (lt_of_heap (h.other k o h0 h1 h2)) (fun e => by have := hr k e.symm; have := lt_of_heap h0; omega)).trans (h.other k o h0 h1 h2)⟩

/-- The reader and its nodes are kept where a row of numbers grows. -/
theorem RX.grown {s : ByteArray} {rb B its n : Nat} {st : Except (Nat × Nat) Nat} {w w' : World} (h : RX s rb B its n st w) {base m : Nat} {v : Value} {xs : List Value} (ho : w.ownsRow base 3 1 v m xs) (hb : rb < base) (hg : w.grownBy w' v.ownBlock) : RX s rb B its n st w' := by
  obtain ⟨u, i, t, code, place, h1, h2, h3, h4⟩ := h.held
  obtain ⟨ys, ho2, hy⟩ := h2.own
  refine ⟨⟨u, i, t, code, place, h1.grown hg (own_ne ho hb), ⟨ys, ho2.kept hg ?_, hy⟩, h3, h4⟩, h.lt, Nat.le_trans h.le hg.size⟩
  rcases ho2.2 with ⟨rfl, _⟩ | ⟨g', cap', cur', rfl, _, k4, _⟩
  · exact Or.inl rfl
  · refine Or.inr fun e => ?_
    rcases ho.2 with ⟨rfl, _⟩ | ⟨g, cap, cur, rfl, _, k3, _⟩
    · simp [Value.ownBlock] at e
    · simp [Value.ownBlock] at e
      subst e
      rw [k3] at k4
      injection k4 with k4
      injection k4 with _ k4 _
      exact absurd k4 (by decide)

theorem room_expect {s : ByteArray} {st : Except (Nat × Nat) Nat} {i : Nat} (hg : Good s i st) {t : List UInt8} (ht : t ≠ []) : room s (Lard.andThen st (Lard.expect s.data.toList t)) ≤ room s st := by
  cases st with
  | error y => exact Nat.le_refl _
  | ok k =>
    show room s (Lard.expect s.data.toList t k) ≤ _
    cases hx : Lard.expect s.data.toList t k with
    | error y => exact Nat.zero_le _
    | ok j =>
      have := Lard.expect_prog hx ht (by simpa using (hg k rfl).2)
      simp only [room]; omega

def moreAt (mo : Value) (k : Nat) : Nat :=
  match mo with
  | .bool true => k
  | _ => 0

theorem RX.alloc {s : ByteArray} {rb B its n : Nat} {st : Except (Nat × Nat) Nat} {w : World} (h : RX s rb B its n st w) (o : Obj) : RX s rb B its n st (w.alloc o) := by
  obtain ⟨u, i, t, code, place, h1, h2, h3, h4⟩ := h.held
  have hg : w.grownBy (w.alloc o) (some rb) := Fr.alloc (World.grownBy.refl _ _) _
  exact ⟨⟨u, i, t, code, place, h1.alloc o, h2.fr hg h.lt, h3, h4⟩, h.lt, Nat.le_trans h.le hg.size⟩

/-- What a list leaves. -/
def listR (l : List UInt8) (n deep its i : Nat) : Except (Nat × Nat) Nat :=
  if Lard.tx l i = [125] then .ok (Lard.nxt l i) else Lard.andThen (Lard.andThen (.ok i) (Lard.P l n 0 deep its)) (Lard.P l n 6 deep its)

set_option maxRecDepth 100000 in
set_option maxHeartbeats 2000000 in
theorem listed_any (s : ByteArray) (rb B n deep its i c : Nat) (hs : s.size ≤ 200) (hi : i ≤ s.size) (hd : deep ≤ 20) (hits : its ≤ deep) (hfuel : 8 * (s.size - i) + 4 ≤ n)
    (H : ∀ m, m ≤ n → RT s rb B 65 0 m) (w : World) (h : RX s rb B its c (.ok i) w) (hc : c + room s (.ok i) ≤ 2000) :
    Calls Tryz.prog 272 #[.pointer (some ⟨rb, 0, none⟩), .int .i64 (deep : Int)] w (RP s rb B its c w (.ok i) 1 (listR s.data.toList n deep its i)) := by
  unfold listR
  obtain ⟨v, p, q1, q2⟩ := h.ok
  obtain ⟨c0, c1, c2, c3, c4, c5, c6, cf⟩ := q1.cells
  have t0 := tok_is s i [125] (by decide)
  by_cases hb : Lard.tx s.data.toList i = [125]
  · rw [if_pos hb]
    have hgd := good_of_tx (l := s.data.toList) (i := i) (by rw [hb]; simp)
    have hn1 := Lard.nxt_gt (Lard.tok_pos _ hgd)
    have HN := hide (next_x s rb B its c i w h hs hi hgd)
    have hb' : (Lard.tx s.data.toList i == [125]) = true := by rw [hb]; rfl
    rw [hb'] at t0
    have hroom : c + room s (.ok (Lard.nxt s.data.toList i)) ≤ c + room s (.ok i) := by simp only [room]; omega
    clear hb hb' hgd hn1 H
    go_enter Tryz.func272, Tryz.ntmps272
    go_wp2_with fail
    refine HN.out.mono ?_
    rintro e w2 ⟨rfl, k2, r2⟩
    clear c0 c1 c2 c3 c4 c5 c6 cf
    go_wp2_with fail
    refine (add_x s rb B its c _ w2 k2 _ _ _ _ _ _ _ _ (by omega)).mono ?_
    rintro e w4 ⟨rfl, k4, r4⟩
    go_wp2_with fail
    go_ret
    exact ⟨_, c + 1, rfl, k4, r2.trans r4, by omega, fun _ _ => ⟨c, rfl, by omega⟩⟩
  · rw [if_neg hb]
    have hb' : (Lard.tx s.data.toList i == [125]) = false := by rw [beq_eq_false_iff_ne]; exact hb
    rw [hb'] at t0
    generalize hfin : Lard.andThen (Lard.andThen (.ok i) (Lard.P s.data.toList n 0 deep its)) (Lard.P s.data.toList n 6 deep its) = fin
    have HF := hide hfin
    have HH := hide H
    have hlt := h.lt
    have hle := h.le
    have hT : ∀ m j, Lard.P s.data.toList (m + 1) 6 deep its j = if Lard.tx s.data.toList j = [44] then Lard.andThen (Lard.P s.data.toList m 0 deep its (Lard.nxt s.data.toList j)) fun j => Lard.P s.data.toList m 6 deep its j else Lard.expect s.data.toList [125] j := fun _ _ => rfl
    have HT := hide hT
    obtain ⟨i0, hi0, hz0, hz1, hz2⟩ := info_parts intInfo
    clear hb hb' hfin H hT
    go_enter Tryz.func272, Tryz.ntmps272
    go_wp2_with fail
    clear q1 q2 c0 c1 c2 c3 c4 c5 c6 cf t0
    go_loopw [5, 6] (fun v mo wr => ∃ (more : Bool) (st2 : Except (Nat × Nat) Nat) (m cn na : Nat) (xs : List Value), mo = .bool more ∧ wr.ownsRow w.heap.size 3 1 v na xs ∧ RX s rb B its cn st2 wr ∧ RF rb B w wr ∧ Good s i st2 ∧ cn + room s st2 ≤ c + room s (.ok i) ∧ m ≤ n ∧ (more = true → ∃ k, st2 = .ok k ∧ na ≤ k ∧ 8 * (s.size - k) + 4 ≤ m ∧ Hid (Lard.andThen (Lard.andThen (.ok k) (Lard.P s.data.toList m 0 deep its)) (Lard.P s.data.toList m 6 deep its) = fin)) ∧ (more = false → Hid (Lard.andThen st2 (Lard.expect s.data.toList [125]) = fin))) (fun _ mo wr => moreAt mo (ratOf wr rb s.size))
    case atStart => exact ⟨true, .ok i, n, c, 0, [], rfl, ⟨rfl, Or.inl ⟨rfl, rfl⟩⟩, h, RF.refl _ _ _, fun a ha => (by cases ha; exact ⟨Nat.le_refl _, hi⟩), Nat.le_refl _, Nat.le_refl _, fun _ => ⟨i, rfl, Nat.zero_le _, hfuel, HF⟩, fun hx => (by cases hx)⟩
    case round =>
      clear HF h
      obtain ⟨more, st2, m, cn, na, xs, rfl, hown, k1, r1, hg1, b1, hmn, hT1, hT2⟩ := hrel
      obtain ⟨vp, vc, rfl⟩ := own_forms hown
      cases more with
      | false =>
        have HM := hT2 rfl
        clear hT1 hT2 HH HT
        have hrm := room_expect hg1 (t := [125]) (by simp)
        have HK := hide (take_x s rb B its cn st2 wr k1 hs ⟨#[125]⟩ (by decide) i hg1)
        go_wp2_with fail
        refine HK.out.mono ?_
        rintro e w2 ⟨rfl, k2, r2⟩
        have k2' : RX s rb B its cn fin w2 := by rw [← HM.out]; exact k2
        rw [HM.out] at hrm
        go_wp2_with fail
        refine (add_x s rb B its cn _ w2 k2' _ _ _ _ _ _ _ _ (by omega)).mono ?_
        rintro e w4 ⟨rfl, k4, r4⟩
        go_wp2_with fail
        go_ret
        exact ⟨_, cn + 1, rfl, k4, r1.trans (r2.trans r4), by omega, fun _ _ => ⟨cn, rfl, by omega⟩⟩
      | true =>
        obtain ⟨k, rfl, hna, hm, HM⟩ := hT1 rfl
        clear hT1 hT2
        have hrat := hide (ratOf_ok k1)
        obtain ⟨v, p, q1, q2⟩ := k1.ok
        obtain ⟨c0, c1, c2, c3, c4, c5, c6, cf⟩ := q1.cells
        have hk := hg1 k rfl
        have hgk : Good s k (.ok k) := fun a ha => by cases ha; exact ⟨Nat.le_refl _, hk.2⟩
        have HS := hide (HH.out m hmn deep its k (.ok k) wr cn hd hits hm hgk k1 (by omega))
        have hg2 := hgk.P m 0 deep its
        have hgt : ∀ a, Lard.andThen (.ok k) (Lard.P s.data.toList m 0 deep its) = .ok a → k + 1 ≤ a := fun a ha => by
          have := Lard.P_prog s.data.toList m 0 deep its k a ha (by simpa using hk.2)
          simp at this; omega
        generalize Lard.andThen (.ok k) (Lard.P s.data.toList m 0 deep its) = st3 at HS HM hg2 hgt
        have hg3 : Good s i st3 := fun a ha => by have := hg2 a ha; omega
        clear hgk k1
        go_wp2_with fail
        refine HS.out.mono ?_
        rintro e w3 ⟨x3, n3, rfl, k3, r3, b3, _⟩
        clear HS c0 c1 c2 c3 c4 c5 c6 cf q1 q2
        have hown3 := own_rf r3 hown (Nat.lt_of_lt_of_le hlt hle)
        have r13 := r1.trans r3
        have hsz3 : w.heap.size ≤ w3.heap.size := r13.size
        clear r1 r3 hown
        have hrb : rb < w.heap.size := Nat.lt_of_lt_of_le hlt hle
        cases st3 with
        | error y =>
          have hf : fin = .error y := HM.out.symm
          have HM2 : Hid (Lard.andThen (.error y) (Lard.expect s.data.toList [125]) = fin) := hide hf.symm
          have hy' : ((y.1 : Int) == 0) = false := by rw [beq_eq_false_iff_ne]; have := k3.err.1; omega
          clear HM HT HH
          go_wp2_with (at_builtin; go_must (refine wpList_append_own _ rfl _ _ 51 rfl w.heap.size 3 i0 (.int .i64 0) 1 8 Tryz.underlying51 hi0 hz0 hz1 hz2 rfl (by decide) (.slice vp na vc) _ _ rfl (hown3.alloc _) ⟨w3.heap.size, 0, none⟩ 1 1 [.int .i64 x3] rfl rfl (cell_one_new _ _ _) (fun x hx => by simp at hx; subst hx; rfl) (by unfold maxLen; omega) (by omega) (by simp; omega) ?_); intro v' w4 hown4 hgrow4 _; have k4 := RX.grown (k3.alloc _) (hown3.alloc _) hrb hgrow4; have r4 := RF.grown (r13.fr (Fr.alloc (World.grownBy.refl _ _) _)) hgrow4 (fun b e => (hown3.lt b e).1); obtain ⟨_, v4, i4, t4, q1, q2⟩ := k4.err; obtain ⟨c0, c1, c2, c3, c4, c5, c6, cf⟩ := q1.cells)
          refine ⟨⟨false, .error y, m, n3, na + 1, _, rfl, hown4, k4, r4, hg3, by omega, hmn, fun hx => (by cases hx), fun _ => HM2⟩, ?_⟩
          rw [hrat.out]
          simp only [moreAt]; omega
        | ok k2 =>
          have hk2 := hg2 k2 rfl
          have hk3 := hgt k2 rfl
          have t44 := tok_is s k2 [44] (by decide)
          obtain ⟨m, rfl⟩ : ∃ m', m = m' + 1 := ⟨m - 1, by omega⟩
          by_cases ho : Lard.tx s.data.toList k2 = [44]
          · have ho' : (Lard.tx s.data.toList k2 == [44]) = true := by rw [ho]; rfl
            rw [ho'] at t44
            have hgd := good_of_tx (l := s.data.toList) (i := k2) (by rw [ho]; simp)
            have hn1 := Lard.nxt_gt (Lard.tok_pos _ hgd)
            have hn2 : Lard.nxt s.data.toList k2 ≤ s.size := by have := Lard.nxt_le s.data.toList k2 (by simpa using hk2.2); simpa using this
            have HM2 : Hid (Lard.andThen (Lard.andThen (.ok (Lard.nxt s.data.toList k2)) (Lard.P s.data.toList m 0 deep its)) (Lard.P s.data.toList m 6 deep its) = fin) := hide (by
              have h6 := (HT.out m k2).symm.trans HM.out
              rw [if_pos ho] at h6
              exact h6)
            have hroom : n3 + room s (.ok (Lard.nxt s.data.toList k2)) ≤ c + room s (.ok i) := by simp only [room] at b1 b3 ⊢; omega
            have HN := hide (fun (w5 : World) (k5 : RX s rb B its n3 (.ok k2) w5) => next_x s rb B its n3 k2 w5 k5 hs hk2.2 hgd)
            clear HM HT HH ho ho' hgd
            go_wp2_with (at_builtin; go_must (refine wpList_append_own _ rfl _ _ 51 rfl w.heap.size 3 i0 (.int .i64 0) 1 8 Tryz.underlying51 hi0 hz0 hz1 hz2 rfl (by decide) (.slice vp na vc) _ _ rfl (hown3.alloc _) ⟨w3.heap.size, 0, none⟩ 1 1 [.int .i64 x3] rfl rfl (cell_one_new _ _ _) (fun x hx => by simp at hx; subst hx; rfl) (by unfold maxLen; omega) (by omega) (by simp; omega) ?_); intro v' w4 hown4 hgrow4 _; have k4 := RX.grown (k3.alloc _) (hown3.alloc _) hrb hgrow4; have r4 := RF.grown (r13.fr (Fr.alloc (World.grownBy.refl _ _) _)) hgrow4 (fun b e => (hown3.lt b e).1); obtain ⟨v4, p4, q1, q2⟩ := k4.ok; obtain ⟨c0, c1, c2, c3, c4, c5, c6, cf⟩ := q1.cells)
            refine (HN.out _ k4).mono ?_
            rintro e w5 ⟨rfl, k5, r5⟩
            go_wp2_with fail
            refine ⟨⟨true, .ok (Lard.nxt s.data.toList k2), m, n3, na + 1, _, rfl, own_rf r5 hown4 hrb, k5, r4.trans r5, fun a ha => (by cases ha; omega), hroom, by omega, fun _ => ⟨_, rfl, by omega, by omega, HM2⟩, fun hx => (by cases hx)⟩, ?_⟩
            rw [hrat.out]
            simp only [moreAt]
            rw [ratOf_ok k5]; omega
          · have ho' : (Lard.tx s.data.toList k2 == [44]) = false := by rw [beq_eq_false_iff_ne]; exact ho
            rw [ho'] at t44
            have HM2 : Hid (Lard.andThen (.ok k2) (Lard.expect s.data.toList [125]) = fin) := hide (by
              have h6 := (HT.out m k2).symm.trans HM.out
              rw [if_neg ho] at h6
              exact h6)
            clear HM HT HH ho ho'
            go_wp2_with (at_builtin; go_must (refine wpList_append_own _ rfl _ _ 51 rfl w.heap.size 3 i0 (.int .i64 0) 1 8 Tryz.underlying51 hi0 hz0 hz1 hz2 rfl (by decide) (.slice vp na vc) _ _ rfl (hown3.alloc _) ⟨w3.heap.size, 0, none⟩ 1 1 [.int .i64 x3] rfl rfl (cell_one_new _ _ _) (fun x hx => by simp at hx; subst hx; rfl) (by unfold maxLen; omega) (by omega) (by simp; omega) ?_); intro v' w4 hown4 hgrow4 _; have k4 := RX.grown (k3.alloc _) (hown3.alloc _) hrb hgrow4; have r4 := RF.grown (r13.fr (Fr.alloc (World.grownBy.refl _ _) _)) hgrow4 (fun b e => (hown3.lt b e).1); obtain ⟨v4, p4, q1, q2⟩ := k4.ok; obtain ⟨c0, c1, c2, c3, c4, c5, c6, cf⟩ := q1.cells)
            refine ⟨⟨false, .ok k2, m, n3, na + 1, _, rfl, hown4, k4, r4, hg3, by omega, by omega, fun hx => (by cases hx), fun _ => HM2⟩, ?_⟩
            rw [hrat.out]
            simp only [moreAt]; omega
end Go.Proofs.YtpekpdimdelncaaGreatDoor
