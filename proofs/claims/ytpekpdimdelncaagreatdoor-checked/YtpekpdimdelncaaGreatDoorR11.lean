/- The document's reader: a FACTOR; the reader whole. -/
import Derived.Test.YtpekpdimdelncaaGreatDoorR10
import Derived.Test.YtpekpdimdelncaaGreatDoorW14
namespace Go.Proofs.YtpekpdimdelncaaGreatDoor
open Go.RowKit
set_option linter.unusedVariables false

set_option maxRecDepth 100000 in
set_option maxHeartbeats 2000000 in
theorem part_list (s : ByteArray) (rb B n deep its : Nat) (hs : s.size ≤ 200) (hd : deep ≤ 20) (hits : its + 1 ≤ deep) (H : ∀ m, m ≤ n → RT s rb B 65 0 m) :
    PartIs s rb B n deep its ⟨#[123]⟩ fun i => listR s.data.toList n deep its i := by
  intro i c w hi hfuel h hc
  have e1 : isWordB (⟨#[123]⟩ : ByteArray).data.toList = false := by decide
  have e2 : Lard.refDig (⟨#[123]⟩ : ByteArray).data.toList = none := by decide
  have hw := isWord_any ⟨#[123]⟩ w (by decide)
  have hn := rdigits_any ⟨#[123]⟩ w (by decide)
  rw [e1] at hw
  rw [e2] at hn
  have HW := hide hw
  have HN := hide hn
  clear hw hn
  have HL := hide (listed_any s rb B n deep its i c hs hi hd (by omega) hfuel H w h (by omega))
  go_enter Tryz.func230, Tryz.ntmps230
  go_wp2_with (first | (go_at_call 144; refine HW.out.mono ?_; rintro e w' ⟨rfl, rfl⟩) | (go_at_call 231; refine HN.out.mono ?_; rintro e w' ⟨rfl, rfl⟩; unfold digRes))
  clear HW HN
  refine HL.out.mono ?_
  rintro e w1 ⟨x1, n1, rfl, k1, r1, b1, xk1⟩
  go_wp2_with fail
  go_ret
  exact ⟨_, n1, rfl, k1, r1, by omega, xk1⟩

set_option maxRecDepth 100000 in
set_option maxHeartbeats 2000000 in
theorem part_value (s : ByteArray) (rb B n deep its : Nat) (t : ByteArray) (ht : t.size ≤ 1000) (hv : (Lard.refDig t.data.toList).isSome = true ∨ (Lard.refDig t.data.toList = none ∧ isWordB t.data.toList = true)) :
    PartIs s rb B n deep its t fun i => .ok i := by
  intro i c w hi hfuel h hc
  have hw := isWord_any t w ht
  have hn := rdigits_any t w ht
  cases hd : Lard.refDig t.data.toList with
  | some d =>
    rw [hd] at hn
    generalize isWordB t.data.toList = bw at hw
    have HW := hide hw
    have HN := hide hn
    clear hw hn hv hd
    cases bw
    all_goals
      go_enter Tryz.func230, Tryz.ntmps230
      go_wp2_with (first | (go_at_call 144; refine HW.out.mono ?_; rintro e w' ⟨rfl, rfl⟩) | (go_at_call 231; refine HN.out.mono ?_; rintro e w' ⟨rfl, rfl⟩; unfold digRes))
      clear HW HN
      refine (add_x s rb B its c _ w h _ _ _ _ _ _ _ _ (by omega)).mono ?_
      rintro e w1 ⟨rfl, k1, r1⟩
      go_wp2_with fail
      go_ret
      exact ⟨_, c + 1, rfl, k1, r1, by omega, fun _ _ => ⟨c, rfl, by omega⟩⟩
  | none =>
    rw [hd] at hv hn
    have hb : isWordB t.data.toList = true := by
      rcases hv with hv | hv
      · cases hv
      · exact hv.2
    rw [hb] at hw
    have HW := hide hw
    have HN := hide hn
    clear hw hn hv hd hb
    go_enter Tryz.func230, Tryz.ntmps230
    go_wp2_with (first | (go_at_call 144; refine HW.out.mono ?_; rintro e w' ⟨rfl, rfl⟩) | (go_at_call 231; refine HN.out.mono ?_; rintro e w' ⟨rfl, rfl⟩; unfold digRes))
    clear HW HN
    refine (add_x s rb B its c _ w h _ _ _ _ _ _ _ _ (by omega)).mono ?_
    rintro e w1 ⟨rfl, k1, r1⟩
    go_wp2_with fail
    go_ret
    exact ⟨_, c + 1, rfl, k1, r1, by omega, fun _ _ => ⟨c, rfl, by omega⟩⟩

set_option maxRecDepth 100000 in
set_option maxHeartbeats 2000000 in
theorem part_name (s : ByteArray) (rb B n deep its : Nat) (t : ByteArray) (ht : t.size ≤ 1000) (h1 : Lard.refDig t.data.toList = none) (h2 : isWordB t.data.toList = false) (h3 : keyB t.data.toList = false) (h4 : (t.data.toList == [105, 116]) = false) :
    PartIs s rb B n deep its t fun i => .ok i := by
  intro i c w hi hfuel h hc
  have hw := isWord_any t w ht
  have hn := rdigits_any t w ht
  rw [h2] at hw
  rw [h1] at hn
  have HW := hide hw
  have HN := hide hn
  clear hw hn h1 h2
  rw [← Lib.toList_data] at h3 h4
  simp only [keyB, Bool.or_eq_false_iff] at h3
  obtain ⟨⟨⟨⟨⟨⟨⟨⟨⟨⟨⟨⟨⟨y1, y2⟩, y3⟩, y4⟩, y5⟩, y6⟩, y7⟩, y8⟩, y9⟩, y10⟩, y11⟩, y12⟩, y13⟩, y14⟩ := h3
  go_enter Tryz.func230, Tryz.ntmps230
  go_wp2_with (first | (go_at_call 144; refine HW.out.mono ?_; rintro e w' ⟨rfl, rfl⟩) | (go_at_call 231; refine HN.out.mono ?_; rintro e w' ⟨rfl, rfl⟩; unfold digRes))
  clear HW HN
  refine (add_x s rb B its c _ w h _ _ _ _ _ _ _ _ (by omega)).mono ?_
  rintro e w1 ⟨rfl, k1, r1⟩
  go_wp2_with fail
  go_ret
  exact ⟨_, c + 1, rfl, k1, r1, by omega, fun _ _ => ⟨c, rfl, by omega⟩⟩

theorem andThen_assoc (r : Except (Nat × Nat) Nat) (f g : Nat → Except (Nat × Nat) Nat) : Lard.andThen (Lard.andThen r f) g = Lard.andThen r fun j => Lard.andThen (f j) g := by cases r <;> rfl

theorem andThen_left (i : Nat) (f : Nat → Except (Nat × Nat) Nat) : Lard.andThen (.ok i) f = f i := rfl

theorem parts_9 (l : List UInt8) (n deep its i : Nat) : (Lard.andThen (Lard.andThen (Lard.andThen (Lard.andThen (Lard.andThen (Except.ok i) (Lard.P l n 0 deep its)) (Lard.expect l [116, 104, 101, 110])) (Lard.P l n 0 deep its)) (Lard.expect l [101, 108, 115, 101])) (Lard.P l n 3 deep its)) = partsAt l n deep its 9 i := by
  simp [partsAt, Lard.parts, andThen_assoc, andThen_left]

theorem parts_10 (l : List UInt8) (n deep its i : Nat) : (Lard.andThen (Lard.andThen (Lard.andThen (Except.ok i) (Lard.expect l [40])) (Lard.P l n 0 deep its)) (Lard.expect l [41])) = partsAt l n deep its 10 i := by
  simp [partsAt, Lard.parts, andThen_assoc, andThen_left]

theorem parts_11 (l : List UInt8) (n deep its i : Nat) : (Lard.andThen (Lard.andThen (Lard.andThen (Except.ok i) (Lard.expect l [40])) (Lard.P l n 0 deep its)) (Lard.expect l [41])) = partsAt l n deep its 11 i := by
  simp [partsAt, Lard.parts, andThen_assoc, andThen_left]

theorem parts_12 (l : List UInt8) (n deep its i : Nat) : (Lard.andThen (Lard.andThen (Lard.andThen (Except.ok i) (Lard.expect l [40])) (Lard.P l n 0 deep its)) (Lard.expect l [41])) = partsAt l n deep its 12 i := by
  simp [partsAt, Lard.parts, andThen_assoc, andThen_left]

theorem parts_13 (l : List UInt8) (n deep its i : Nat) : (Lard.andThen (Lard.andThen (Lard.andThen (Lard.andThen (Lard.andThen (Except.ok i) (Lard.expect l [40])) (Lard.P l n 0 deep its)) (Lard.expect l [44])) (Lard.P l n 0 deep its)) (Lard.expect l [41])) = partsAt l n deep its 13 i := by
  simp [partsAt, Lard.parts, andThen_assoc, andThen_left]

theorem parts_14 (l : List UInt8) (n deep its i : Nat) : (Lard.andThen (Lard.andThen (Lard.andThen (Lard.andThen (Lard.andThen (Except.ok i) (Lard.expect l [40])) (Lard.P l n 0 deep its)) (Lard.expect l [44])) (Lard.P l n 0 deep its)) (Lard.expect l [41])) = partsAt l n deep its 14 i := by
  simp [partsAt, Lard.parts, andThen_assoc, andThen_left]

theorem parts_15 (l : List UInt8) (n deep its i : Nat) : (Lard.andThen (Lard.andThen (Lard.andThen (Lard.andThen (Lard.andThen (Except.ok i) (Lard.expect l [40])) (Lard.P l n 0 deep its)) (Lard.expect l [44])) (Lard.P l n 0 deep (its + 1))) (Lard.expect l [41])) = partsAt l n deep its 15 i := by
  simp [partsAt, Lard.parts, andThen_assoc, andThen_left]

theorem parts_16 (l : List UInt8) (n deep its i : Nat) : (Lard.andThen (Lard.andThen (Lard.andThen (Lard.andThen (Lard.andThen (Except.ok i) (Lard.expect l [40])) (Lard.P l n 0 deep its)) (Lard.expect l [44])) (Lard.P l n 0 deep (its + 1))) (Lard.expect l [41])) = partsAt l n deep its 16 i := by
  simp [partsAt, Lard.parts, andThen_assoc, andThen_left]

theorem PartIs.of {s : ByteArray} {rb B n deep its : Nat} {t : ByteArray} {F F' : Nat → Except (Nat × Nat) Nat} (h : PartIs s rb B n deep its t F) (e : ∀ i, F i = F' i) : PartIs s rb B n deep its t F' := by
  have : F = F' := funext e
  rw [← this]; exact h

theorem bytes_is {t : ByteArray} {x : List UInt8} (h : t.data.toList = x) : t = ⟨x.toArray⟩ := by
  cases t with
  | mk d => simp at h; subst h; simp

theorem key_no {t : List UInt8} (h1 : Lard.termB t = false) (h2 : ∃ c r, t = c :: r ∧ Lard.isLet c = true) : keyB t = false ∧ (t == [105, 116]) = false := by
  obtain ⟨c, r, rfl, hc⟩ := h2
  constructor
  · cases hk : keyB (c :: r) with
    | false => rfl
    | true =>
      exfalso
      simp only [keyB, Bool.or_eq_true, beq_iff_eq] at hk
      rcases hk with ((((((((((((h | h) | h) | h) | h) | h) | h) | h) | h) | h) | h) | h) | h) | h
      all_goals first
        | (rw [h] at h1; revert h1; decide)
        | (injection h with h _; rw [h] at hc; revert hc; decide)
  · rw [beq_eq_false_iff_ne]
    intro h
    rw [h] at h1; revert h1; decide

set_option maxRecDepth 100000 in
theorem part_any (s : ByteArray) (rb B n deep its i : Nat) (hs : s.size ≤ 200) (hd : deep ≤ 20) (hits : its + 1 ≤ deep) (hk : Lard.kind s.data.toList i its ≠ 0) (H : ∀ m, m ≤ n → RT s rb B 65 0 m) (H3 : RT s rb B 192 3 n) :
    PartIs s rb B n deep its (s.extract i (i + rsz (s.data.toList.drop i))) fun j => partsAt s.data.toList n deep its (Lard.kind s.data.toList i its) j := by
  have hsz : (s.extract i (i + rsz (s.data.toList.drop i))).size ≤ 1000 := by rw [ByteArray.size_extract]; omega
  have hd0 := rtx_data s i
  have hkk : Lard.kind s.data.toList i its = Lard.kindOf (Lard.tok (s.data.toList.drop i)).1 (Lard.tx s.data.toList i) its := rfl
  have htx : 2 ≤ (Lard.tok (s.data.toList.drop i)).1 → rtx s.data.toList i = Lard.tx s.data.toList i := fun h => by unfold rtx; rw [tok_rsz _ h]; rfl
  generalize s.extract i (i + rsz (s.data.toList.drop i)) = t at hsz hd0
  rcases tok_facts (s.data.toList.drop i) (rtx s.data.toList i) rfl with ⟨h, a⟩ | ⟨h, a, b⟩ | ⟨h, a, b, c, d, e⟩ | ⟨h, a, b, c, d⟩ | ⟨h, a, b, c, ch, d, e⟩ | ⟨h, a, b, c, d⟩
  · have hk2 : Lard.kind s.data.toList i its = 2 := by rw [hkk, h]; rfl
    rw [hk2]
    exact part_value s rb B n deep its t hsz (Or.inl (by rw [hd0]; exact a))
  · have hk2 : Lard.kind s.data.toList i its = 2 := by rw [hkk, h]; rfl
    rw [hk2]
    exact part_value s rb B n deep its t hsz (Or.inr (by rw [hd0]; exact ⟨a, b⟩))
  · have hk2 : Lard.kind s.data.toList i its = 3 := by rw [hkk, h]; rfl
    rw [hk2]
    obtain ⟨y1, y2⟩ := key_no d e
    exact part_name s rb B n deep its t hsz (by rw [hd0]; exact a) (by rw [hd0]; exact b) (by rw [hd0]; exact y1) (by rw [hd0]; exact y2)
  · have hk2 : Lard.kind s.data.toList i its = Lard.termK (rtx s.data.toList i) its := by rw [hkk, h, htx (by omega)]; rfl
    rw [hk2] at hk ⊢
    generalize rtx s.data.toList i = x at d hd0 hk
    simp only [Lard.termB, Bool.or_eq_true, beq_iff_eq] at d
    rcases d with (((((((((((d | d) | d) | d) | d) | d) | d) | d) | d) | d) | d) | d) | d <;> subst d <;> have htt := bytes_is hd0 <;> subst htt
    · have e1 : Lard.termK [105, 102] its = 9 := by simp [Lard.termK]
      rw [e1]
      exact (part_if s rb B n deep its hs hd hits H H3).of fun j => parts_9 _ _ _ _ _
    · exact absurd rfl hk
    · exact absurd rfl hk
    · have e0 : 0 < its := by
        rcases Nat.eq_zero_or_pos its with h0 | h0
        · subst h0; exact absurd rfl hk
        · exact h0
      have e1 : Lard.termK [105, 116] its = 4 := by simp [Lard.termK, e0]
      rw [e1]
      exact (part_it s rb B n deep its hs hd hits).of fun j => rfl
    · have e1 : Lard.termK [116, 114, 121] its = 14 := by simp [Lard.termK]
      rw [e1]
      exact (part_try s rb B n deep its hs hd hits H).of fun j => parts_14 _ _ _ _ _
    · have e1 : Lard.termK [109, 105, 110] its = 13 := by simp [Lard.termK]
      rw [e1]
      exact (part_min s rb B n deep its hs hd hits H).of fun j => parts_13 _ _ _ _ _
    · have e1 : Lard.termK [109, 97, 120] its = 13 := by simp [Lard.termK]
      rw [e1]
      exact (part_max s rb B n deep its hs hd hits H).of fun j => parts_13 _ _ _ _ _
    · have e1 : Lard.termK [115, 105, 122, 101] its = 10 := by simp [Lard.termK]
      rw [e1]
      exact (part_size s rb B n deep its hs hd hits H).of fun j => parts_10 _ _ _ _ _
    · have e1 : Lard.termK [97, 116] its = 13 := by simp [Lard.termK]
      rw [e1]
      exact (part_at s rb B n deep its hs hd hits H).of fun j => parts_13 _ _ _ _ _
    · have e1 : Lard.termK [101, 97, 99, 104] its = 15 := by simp [Lard.termK]
      rw [e1]
      exact (part_each s rb B n deep its hs hd hits H).of fun j => parts_15 _ _ _ _ _
    · have e1 : Lard.termK [115, 111, 109, 101] its = 16 := by simp [Lard.termK]
      rw [e1]
      exact (part_some s rb B n deep its hs hd hits H).of fun j => parts_16 _ _ _ _ _
    · have e1 : Lard.termK [115, 117, 109] its = 11 := by simp [Lard.termK]
      rw [e1]
      exact (part_sum s rb B n deep its hs hd hits H).of fun j => parts_11 _ _ _ _ _
    · have e1 : Lard.termK [119, 111, 114, 100] its = 12 := by simp [Lard.termK]
      rw [e1]
      exact (part_word s rb B n deep its hs hd hits H).of fun j => parts_12 _ _ _ _ _
  · have hk2 : Lard.kind s.data.toList i its = Lard.signK (rtx s.data.toList i) := by rw [hkk, h, htx (by omega)]; rfl
    rw [hk2] at hk ⊢
    rw [d] at hd0 hk ⊢
    rw [signB_mem] at e
    simp only [List.mem_cons, List.mem_nil_iff, or_false] at e
    rcases e with rfl | rfl | rfl | rfl | rfl | rfl | rfl | rfl | rfl | rfl | rfl | rfl | rfl <;> have htt := bytes_is hd0 <;> subst htt
    · have e1 : Lard.signK [40] = 6 := by simp [Lard.signK]
      rw [e1]
      exact (part_group s rb B n deep its hs hd hits H).of fun j => rfl
    · exact absurd rfl hk
    · have e1 : Lard.signK [91] = 7 := by simp [Lard.signK]
      rw [e1]
      exact (part_key s rb B n deep its hs hd hits H).of fun j => rfl
    · exact absurd rfl hk
    · have e1 : Lard.signK [123] = 8 := by simp [Lard.signK]
      rw [e1]
      exact (part_list s rb B n deep its hs hd hits H).of fun j => rfl
    · exact absurd rfl hk
    · exact absurd rfl hk
    · exact absurd rfl hk
    · have e1 : Lard.signK [45] = 5 := by simp [Lard.signK]
      rw [e1]
      exact (part_minus s rb B n deep its hs hd hits H3).of fun j => rfl
    · exact absurd rfl hk
    · exact absurd rfl hk
    · exact absurd rfl hk
    · exact absurd rfl hk
  · exfalso
    apply hk
    rw [hkk]; unfold Lard.kindOf
    rw [if_neg (by omega), if_neg (by omega), if_neg (by omega), if_neg (by omega)]

set_option maxRecDepth 100000 in
set_option maxHeartbeats 2000000 in
theorem rfactor_step (s : ByteArray) (rb B n : Nat) (hs : s.size ≤ 200) (H : ∀ m, m ≤ n → RT s rb B 65 0 m) (H3 : RT s rb B 192 3 n) : RT s rb B 192 3 (n + 1) := by
  intro deep its i0 st w c hd hits hfuel hg h hc
  cases st with
  | error y =>
    obtain ⟨hy, v, i1, t1, q1, q2⟩ := h.err
    obtain ⟨c0, c1, c2, c3, c4, c5, c6, cf⟩ := q1.cells
    have hy' : ((y.1 : Int) != 0) = true := by rw [bne_iff_ne]; omega
    show Calls _ _ _ _ (RP s rb B its c w (.error y) 0 (.error y))
    go_enter Tryz.func192, Tryz.ntmps192
    go_wp2_with fail
    go_ret
    exact ⟨_, c, rfl, h, RF.refl _ _ _, Nat.le_refl _, fun j hj => (by cases hj)⟩
  | ok i =>
    have hi := hg i rfl
    obtain ⟨v, p, q1, q2⟩ := h.ok
    obtain ⟨c0, c1, c2, c3, c4, c5, c6, cf⟩ := q1.cells
    have hr : Lard.andThen (.ok i) (Lard.P s.data.toList (n + 1) 3 deep its) = if Lard.kind s.data.toList i its = 0 then .error (3, i) else if deep = 20 then .error (4, i) else partsAt s.data.toList n (deep + 1) its (Lard.kind s.data.toList i its) (Lard.nxt s.data.toList i) := rfl
    rw [hr]
    have hsz : (s.extract i (i + rsz (s.data.toList.drop i))).size ≤ 1000 := by rw [ByteArray.size_extract]; omega
    have hb := begins_any (s.extract i (i + rsz (s.data.toList.drop i))) rb its w hsz c5
    rw [rtx_data] at hb
    have hbk : beginsB (rtx s.data.toList i) its = decide (Lard.kind s.data.toList i its ≠ 0) := begins_kind s.data.toList i its
    rw [hbk] at hb
    by_cases hk : Lard.kind s.data.toList i its = 0
    · rw [if_pos hk]
      rw [decide_eq_false (by simpa using hk)] at hb
      have HB := hide hb
      clear hb hbk hr hk H H3
      have HF := hide (fail_any s rb i _ p its 3 v w q1)
      go_enter Tryz.func192, Tryz.ntmps192
      go_wp2_with (go_at_call 229; refine HB.out.mono ?_; rintro e w' ⟨rfl, rfl⟩)
      refine HF.out.mono ?_
      rintro e w1 ⟨rfl, k1, f1⟩
      go_wp2_with fail
      go_ret
      exact ⟨_, c, rfl, RX.mkErr (y := (3, i)) k1 (by simp) (q2.fr f1 h.lt) h.lt (Nat.le_trans h.le f1.size), RF.of_fr f1, by simp only [room]; omega, fun j hj => (by cases hj)⟩
    · rw [if_neg hk]
      rw [decide_eq_true hk] at hb
      have HB := hide hb
      clear hb hbk hr
      by_cases hd20 : deep = 20
      · rw [if_pos hd20]
        subst hd20
        clear H H3 hk
        have HF := hide (fail_any s rb i _ p its 4 v w q1)
        go_enter Tryz.func192, Tryz.ntmps192
        go_wp2_with (go_at_call 229; refine HB.out.mono ?_; rintro e w' ⟨rfl, rfl⟩)
        refine HF.out.mono ?_
        rintro e w1 ⟨rfl, k1, f1⟩
        go_wp2_with fail
        go_ret
        exact ⟨_, c, rfl, RX.mkErr (y := (4, i)) k1 (by simp) (q2.fr f1 h.lt) h.lt (Nat.le_trans h.le f1.size), RF.of_fr f1, by simp only [room]; omega, fun j hj => (by cases hj)⟩
      · rw [if_neg hd20]
        have hdI : ¬ (20 : Int) ≤ (deep : Int) := by omega
        have hn1 := Lard.nxt_gt (Lard.kind_pos hk)
        have hn2 : Lard.nxt s.data.toList i ≤ s.size := by have := Lard.nxt_le s.data.toList i (by simpa using hi.2); simpa using this
        have hgd : 2 ≤ (Lard.tok (s.data.toList.drop i)).1 := by
          rcases (by omega : 2 ≤ (Lard.tok (s.data.toList.drop i)).1 ∨ (Lard.tok (s.data.toList.drop i)).1 ≤ 1) with h2 | h2
          · exact h2
          · exfalso; apply hk
            unfold Lard.kind Lard.kindOf
            rw [if_neg (by omega), if_neg (by omega), if_neg (by omega), if_neg (by omega)]
        have HP := hide (part_any s rb B n (deep + 1) its i hs (by omega) (by omega) hk H H3)
        have HN := hide (next_x s rb B its c i w h hs hi.2 hgd)
        have hfu : 8 * (s.size - Lard.nxt s.data.toList i) + 4 ≤ n := by simp [Lard.nd] at hfuel; omega
        have hroom : c + room s (.ok (Lard.nxt s.data.toList i)) + 4 ≤ c + room s (.ok i) := by simp only [room]; omega
        generalize partsAt s.data.toList n (deep + 1) its (Lard.kind s.data.toList i its) = F at HP
        clear H H3 hk hgd q1 q2
        generalize s.extract i (i + rsz (s.data.toList.drop i)) = t at c2 HB HP
        go_enter Tryz.func192, Tryz.ntmps192
        go_wp2_with (go_at_call 229; refine HB.out.mono ?_; rintro e w' ⟨rfl, rfl⟩)
        refine HN.out.mono ?_
        rintro e w1 ⟨rfl, k1, r1⟩
        clear c0 c1 c2 c3 c4 c5 c6 cf
        go_wp2_with fail
        refine (HP.out _ c w1 hn2 hfu k1 (by omega)).mono ?_
        rintro e w2 ⟨x2, n2, rfl, k2, r2, b2, _⟩
        go_wp2_with fail
        refine (add_x s rb B its n2 _ w2 k2 _ _ _ _ _ _ _ _ (by omega)).mono ?_
        rintro e w3 ⟨rfl, k3, r3⟩
        go_wp2_with fail
        go_ret
        exact ⟨_, n2 + 1, rfl, k3, r1.trans (r2.trans r3), by omega, fun _ _ => ⟨n2, rfl, by omega⟩⟩

/-- Every function of the document's reader reads as the plain function does, where the fuel is enough. -/
theorem rreader_all (s : ByteArray) (rb B : Nat) (hs : s.size ≤ 200) : ∀ n, RT s rb B 65 0 n ∧ RT s rb B 103 1 n ∧ RT s rb B 145 2 n ∧ RT s rb B 192 3 n := by
  intro n
  induction n using Nat.strongRecOn with
  | ind n ih =>
    cases n with
    | zero =>
      refine ⟨?_, ?_, ?_, ?_⟩
      all_goals
        intro deep its i st w c hd hits hfuel
        simp [Lard.nd] at hfuel
    | succ n =>
      have ih' : ∀ m, m ≤ n → _ := fun m hm => ih m (by omega)
      exact ⟨rrule_step s rb B n hs (ih' n (Nat.le_refl _)).2.1, rsum_step s rb B n hs (fun m hm => (ih' m hm).2.2.1), rterm_step s rb B n hs (fun m hm => (ih' m hm).2.2.2), rfactor_step s rb B n hs (fun m hm => (ih' m hm).1) (ih' n (Nat.le_refl _)).2.2.2⟩
end Go.Proofs.YtpekpdimdelncaaGreatDoor
