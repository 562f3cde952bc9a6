/- The document's reader: what stands in a FACTOR behind its first token. -/
import Derived.Test.YtpekpdimdelncaaGreatDoorR9
import Derived.Test.YtpekpdimdelncaaGreatDoorW12
namespace Go.Proofs.YtpekpdimdelncaaGreatDoor
open Go.RowKit
set_option linter.unusedVariables false

set_option maxRecDepth 100000 in
set_option maxHeartbeats 2000000 in
theorem rop_any (t : ByteArray) (w : World) (ht : 0 < t.size) :
    Calls Tryz.prog 273 #[.string t] w fun e w' => (∃ b : Int, e = .returned (.int .u8 b)) ∧ w = w' := by
  have ht' : (0 : Int) < (t.size : Int) := by omega
  go_enter Tryz.func273, Tryz.ntmps273
  go_wp2_with fail
  all_goals
    go_ret
    exact ⟨⟨_, rfl⟩, rfl⟩

theorem room_P {s : ByteArray} {st : Except (Nat × Nat) Nat} {i : Nat} (hg : Good s i st) (n tag deep its : Nat) : room s (Lard.andThen st (Lard.P s.data.toList n tag deep its)) ≤ room s st := by
  cases st with
  | error y => exact Nat.le_refl _
  | ok k =>
    show room s (Lard.P s.data.toList n tag deep its k) ≤ _
    cases hx : Lard.P s.data.toList n tag deep its k with
    | error y => exact Nat.zero_le _
    | ok j =>
      have := Lard.P_prog s.data.toList n tag deep its k j hx (by simpa using (hg k rfl).2)
      simp only [room]; omega

theorem RX.its {s : ByteArray} {rb B its n : Nat} {st : Except (Nat × Nat) Nat} {w : World} (h : RX s rb B its n st w) (k : Nat) : RX s rb B k n st (w.setCell ⟨rb, 5, none⟩ (.int .i64 (k : Int))) := by
  obtain ⟨u, i, t, code, place, h1, h2, h3, h4⟩ := h.held
  have hg : w.grownBy (w.setCell ⟨rb, 5, none⟩ (.int .i64 (k : Int))) (some rb) := Fr.set (World.grownBy.refl _ _) _ _
  exact ⟨⟨u, i, t, code, place, blk_set h1 5 (.int .i64 (k : Int)), h2.fr hg h.lt, h3, h4⟩, h.lt, Nat.le_trans h.le hg.size⟩

theorem RX.cells {s : ByteArray} {rb B its n : Nat} {st : Except (Nat × Nat) Nat} {w : World} (h : RX s rb B its n st w) : w.cell? ⟨rb, 5, none⟩ = some (.int .i64 (its : Int)) ∧ (∀ o, w.frozen? ⟨rb, o, none⟩ = false) ∧ rb < w.heap.size := by
  obtain ⟨u, i, t, code, place, h1, _⟩ := h.held
  have := h1.cells
  exact ⟨this.2.2.2.2.2.1, this.2.2.2.2.2.2.2, h1.lt⟩

theorem RF.set {rb B : Nat} {w : World} (o : Nat) (v : Value) : RF rb B w (w.setCell ⟨rb, o, none⟩ v) := RF.of_fr (Fr.set (World.grownBy.refl _ _) _ _)

/-- What stands behind a token. -/
def PartIs (s : ByteArray) (rb B n deep its : Nat) (t : ByteArray) (F : Nat → Except (Nat × Nat) Nat) : Prop :=
  ∀ (i c : Nat) (w : World), i ≤ s.size → 8 * (s.size - i) + 4 ≤ n → RX s rb B its c (.ok i) w → c + room s (.ok i) ≤ 1996 →
    Calls Tryz.prog 230 #[.pointer (some ⟨rb, 0, none⟩), .string t, .int .i64 (deep : Int)] w (RP s rb B its c w (.ok i) 2 (F i))

set_option maxRecDepth 100000 in
set_option maxHeartbeats 2000000 in
theorem part_it (s : ByteArray) (rb B n deep its : Nat) (hs : s.size ≤ 200) (hd : deep ≤ 20) (hits : its + 1 ≤ deep)  :
    PartIs s rb B n deep its ⟨#[105, 116]⟩ fun i => (Except.ok i) := by
  intro i c w hi hfuel h hc
  have e1 : isWordB (⟨#[105, 116]⟩ : ByteArray).data.toList = false := by decide
  have e2 : Lard.refDig (⟨#[105, 116]⟩ : ByteArray).data.toList = none := by decide
  have hw := isWord_any ⟨#[105, 116]⟩ w (by decide)
  have hn := rdigits_any ⟨#[105, 116]⟩ w (by decide)
  rw [e1] at hw
  rw [e2] at hn
  have HW := hide hw
  have HN := hide hn
  clear hw hn
  have g0 : Good s i (.ok i) := fun a ha => by cases ha; exact ⟨Nat.le_refl _, hi⟩
  go_enter Tryz.func230, Tryz.ntmps230
  go_wp2_with (first | (go_at_call 144; refine HW.out.mono ?_; rintro e w' ⟨rfl, rfl⟩) | (go_at_call 231; refine HN.out.mono ?_; rintro e w' ⟨rfl, rfl⟩; unfold digRes))
  clear HW HN
  refine (add_x s rb B its c (Except.ok i) w h _ _ _ _ _ _ _ _ (by omega)).mono ?_
  rintro e w1 ⟨rfl, k1, r1⟩
  go_wp2_with fail
  go_ret
  exact ⟨_, (c + 1), rfl, k1, r1, by omega, fun _ _ => ⟨c, rfl, by omega⟩⟩

set_option maxRecDepth 100000 in
set_option maxHeartbeats 2000000 in
theorem part_minus (s : ByteArray) (rb B n deep its : Nat) (hs : s.size ≤ 200) (hd : deep ≤ 20) (hits : its + 1 ≤ deep) (H3 : RT s rb B 192 3 n) :
    PartIs s rb B n deep its ⟨#[45]⟩ fun i => (Lard.andThen (Except.ok i) (Lard.P s.data.toList n 3 deep its)) := by
  intro i c w hi hfuel h hc
  have e1 : isWordB (⟨#[45]⟩ : ByteArray).data.toList = false := by decide
  have e2 : Lard.refDig (⟨#[45]⟩ : ByteArray).data.toList = none := by decide
  have hw := isWord_any ⟨#[45]⟩ w (by decide)
  have hn := rdigits_any ⟨#[45]⟩ w (by decide)
  rw [e1] at hw
  rw [e2] at hn
  have HW := hide hw
  have HN := hide hn
  clear hw hn
  have g0 : Good s i (.ok i) := fun a ha => by cases ha; exact ⟨Nat.le_refl _, hi⟩
  go_enter Tryz.func230, Tryz.ntmps230
  go_wp2_with (first | (go_at_call 144; refine HW.out.mono ?_; rintro e w' ⟨rfl, rfl⟩) | (go_at_call 231; refine HN.out.mono ?_; rintro e w' ⟨rfl, rfl⟩; unfold digRes))
  clear HW HN
  refine (add_x s rb B its c (Except.ok i) w h _ _ _ _ _ _ _ _ (by omega)).mono ?_
  rintro e w1 ⟨rfl, k1, r1⟩
  go_wp2_with fail
  refine (H3 deep its i (Except.ok i) w1 (c + 1) hd (by omega) (by simp [Lard.nd]; omega) g0 k1 (by omega)).mono ?_
  rintro e w2 ⟨x2, n2, rfl, k2, r2, b2, xk2⟩
  have g2 := Good.P g0 n 3 deep its
  go_wp2_with fail
  refine (add_x s rb B its n2 (Lard.andThen (Except.ok i) (Lard.P s.data.toList n 3 deep its)) w2 k2 _ _ _ _ _ _ _ _ (by omega)).mono ?_
  rintro e w3 ⟨rfl, k3, r3⟩
  go_wp2_with fail
  go_ret
  exact ⟨_, (n2 + 1), rfl, k3, (r1.trans (r2.trans r3)), by omega, fun _ _ => ⟨n2, rfl, by omega⟩⟩

set_option maxRecDepth 100000 in
set_option maxHeartbeats 2000000 in
theorem part_group (s : ByteArray) (rb B n deep its : Nat) (hs : s.size ≤ 200) (hd : deep ≤ 20) (hits : its + 1 ≤ deep) (H : ∀ m, m ≤ n → RT s rb B 65 0 m) :
    PartIs s rb B n deep its ⟨#[40]⟩ fun i => (Lard.andThen (Lard.andThen (Except.ok i) (Lard.P s.data.toList n 0 deep its)) (Lard.expect s.data.toList [41])) := by
  intro i c w hi hfuel h hc
  have e1 : isWordB (⟨#[40]⟩ : ByteArray).data.toList = false := by decide
  have e2 : Lard.refDig (⟨#[40]⟩ : ByteArray).data.toList = none := by decide
  have hw := isWord_any ⟨#[40]⟩ w (by decide)
  have hn := rdigits_any ⟨#[40]⟩ w (by decide)
  rw [e1] at hw
  rw [e2] at hn
  have HW := hide hw
  have HN := hide hn
  clear hw hn
  have g0 : Good s i (.ok i) := fun a ha => by cases ha; exact ⟨Nat.le_refl _, hi⟩
  go_enter Tryz.func230, Tryz.ntmps230
  go_wp2_with (first | (go_at_call 144; refine HW.out.mono ?_; rintro e w' ⟨rfl, rfl⟩) | (go_at_call 231; refine HN.out.mono ?_; rintro e w' ⟨rfl, rfl⟩; unfold digRes))
  clear HW HN
  refine (H n (Nat.le_refl _) deep its i (Except.ok i) w c hd (by omega) (by simp [Lard.nd]; omega) g0 h (by omega)).mono ?_
  rintro e w1 ⟨x1, n1, rfl, k1, r1, b1, xk1⟩
  have g1 := Good.P g0 n 0 deep its
  go_wp2_with fail
  refine (take_x s rb B _ n1 (Lard.andThen (Except.ok i) (Lard.P s.data.toList n 0 deep its)) w1 k1 hs ⟨#[41]⟩ (by decide) i g1).mono ?_
  rintro e w2 ⟨rfl, k2, r2⟩
  have g2 := Good.expect g1 (t := [41]) (by simp)
  have b2 := room_expect g1 (t := [41]) (by simp)
  replace k2 : RX s rb B _ n1 (Lard.andThen (Lard.andThen (Except.ok i) (Lard.P s.data.toList n 0 deep its)) (Lard.expect s.data.toList [41])) w2 := k2
  go_wp2_with fail
  go_ret
  refine ⟨_, n1, rfl, k2, (r1.trans r2), by omega, fun j hj => ?_⟩
  obtain ⟨a, ha, _⟩ := Lard.andThen_ok hj
  exact xk1 a ha

set_option maxRecDepth 100000 in
set_option maxHeartbeats 2000000 in
theorem part_key (s : ByteArray) (rb B n deep its : Nat) (hs : s.size ≤ 200) (hd : deep ≤ 20) (hits : its + 1 ≤ deep) (H : ∀ m, m ≤ n → RT s rb B 65 0 m) :
    PartIs s rb B n deep its ⟨#[91]⟩ fun i => (Lard.andThen (Lard.andThen (Except.ok i) (Lard.P s.data.toList n 0 deep its)) (Lard.expect s.data.toList [93])) := by
  intro i c w hi hfuel h hc
  have e1 : isWordB (⟨#[91]⟩ : ByteArray).data.toList = false := by decide
  have e2 : Lard.refDig (⟨#[91]⟩ : ByteArray).data.toList = none := by decide
  have hw := isWord_any ⟨#[91]⟩ w (by decide)
  have hn := rdigits_any ⟨#[91]⟩ w (by decide)
  rw [e1] at hw
  rw [e2] at hn
  have HW := hide hw
  have HN := hide hn
  clear hw hn
  have g0 : Good s i (.ok i) := fun a ha => by cases ha; exact ⟨Nat.le_refl _, hi⟩
  go_enter Tryz.func230, Tryz.ntmps230
  go_wp2_with (first | (go_at_call 144; refine HW.out.mono ?_; rintro e w' ⟨rfl, rfl⟩) | (go_at_call 231; refine HN.out.mono ?_; rintro e w' ⟨rfl, rfl⟩; unfold digRes))
  clear HW HN
  refine (H n (Nat.le_refl _) deep its i (Except.ok i) w c hd (by omega) (by simp [Lard.nd]; omega) g0 h (by omega)).mono ?_
  rintro e w1 ⟨x1, n1, rfl, k1, r1, b1, xk1⟩
  have g1 := Good.P g0 n 0 deep its
  go_wp2_with fail
  refine (take_x s rb B _ n1 (Lard.andThen (Except.ok i) (Lard.P s.data.toList n 0 deep its)) w1 k1 hs ⟨#[93]⟩ (by decide) i g1).mono ?_
  rintro e w2 ⟨rfl, k2, r2⟩
  have g2 := Good.expect g1 (t := [93]) (by simp)
  have b2 := room_expect g1 (t := [93]) (by simp)
  replace k2 : RX s rb B _ n1 (Lard.andThen (Lard.andThen (Except.ok i) (Lard.P s.data.toList n 0 deep its)) (Lard.expect s.data.toList [93])) w2 := k2
  go_wp2_with fail
  refine (add_x s rb B its n1 (Lard.andThen (Lard.andThen (Except.ok i) (Lard.P s.data.toList n 0 deep its)) (Lard.expect s.data.toList [93])) w2 k2 _ _ _ _ _ _ _ _ (by omega)).mono ?_
  rintro e w3 ⟨rfl, k3, r3⟩
  go_wp2_with fail
  go_ret
  exact ⟨_, (n1 + 1), rfl, k3, (r1.trans (r2.trans r3)), by omega, fun _ _ => ⟨n1, rfl, by omega⟩⟩

set_option maxRecDepth 100000 in
set_option maxHeartbeats 2000000 in
theorem part_if (s : ByteArray) (rb B n deep its : Nat) (hs : s.size ≤ 200) (hd : deep ≤ 20) (hits : its + 1 ≤ deep) (H : ∀ m, m ≤ n → RT s rb B 65 0 m) (H3 : RT s rb B 192 3 n) :
    PartIs s rb B n deep its ⟨#[105, 102]⟩ fun i => (Lard.andThen (Lard.andThen (Lard.andThen (Lard.andThen (Lard.andThen (Except.ok i) (Lard.P s.data.toList n 0 deep its)) (Lard.expect s.data.toList [116, 104, 101, 110])) (Lard.P s.data.toList n 0 deep its)) (Lard.expect s.data.toList [101, 108, 115, 101])) (Lard.P s.data.toList n 3 deep its)) := by
  intro i c w hi hfuel h hc
  have e1 : isWordB (⟨#[105, 102]⟩ : ByteArray).data.toList = false := by decide
  have e2 : Lard.refDig (⟨#[105, 102]⟩ : ByteArray).data.toList = none := by decide
  have hw := isWord_any ⟨#[105, 102]⟩ w (by decide)
  have hn := rdigits_any ⟨#[105, 102]⟩ w (by decide)
  rw [e1] at hw
  rw [e2] at hn
  have HW := hide hw
  have HN := hide hn
  clear hw hn
  have g0 : Good s i (.ok i) := fun a ha => by cases ha; exact ⟨Nat.le_refl _, hi⟩
  go_enter Tryz.func230, Tryz.ntmps230
  go_wp2_with (first | (go_at_call 144; refine HW.out.mono ?_; rintro e w' ⟨rfl, rfl⟩) | (go_at_call 231; refine HN.out.mono ?_; rintro e w' ⟨rfl, rfl⟩; unfold digRes))
  clear HW HN
  refine (H n (Nat.le_refl _) deep its i (Except.ok i) w c hd (by omega) (by simp [Lard.nd]; omega) g0 h (by omega)).mono ?_
  rintro e w1 ⟨x1, n1, rfl, k1, r1, b1, xk1⟩
  have g1 := Good.P g0 n 0 deep its
  go_wp2_with fail
  refine (take_x s rb B _ n1 (Lard.andThen (Except.ok i) (Lard.P s.data.toList n 0 deep its)) w1 k1 hs ⟨#[116, 104, 101, 110]⟩ (by decide) i g1).mono ?_
  rintro e w2 ⟨rfl, k2, r2⟩
  have g2 := Good.expect g1 (t := [116, 104, 101, 110]) (by simp)
  have b2 := room_expect g1 (t := [116, 104, 101, 110]) (by simp)
  replace k2 : RX s rb B _ n1 (Lard.andThen (Lard.andThen (Except.ok i) (Lard.P s.data.toList n 0 deep its)) (Lard.expect s.data.toList [116, 104, 101, 110])) w2 := k2
  go_wp2_with fail
  refine (H n (Nat.le_refl _) deep its i (Lard.andThen (Lard.andThen (Except.ok i) (Lard.P s.data.toList n 0 deep its)) (Lard.expect s.data.toList [116, 104, 101, 110])) w2 n1 hd (by omega) (by simp [Lard.nd]; omega) g2 k2 (by omega)).mono ?_
  rintro e w3 ⟨x3, n3, rfl, k3, r3, b3, xk3⟩
  have g3 := Good.P g2 n 0 deep its
  go_wp2_with fail
  refine (take_x s rb B _ n3 (Lard.andThen (Lard.andThen (Lard.andThen (Except.ok i) (Lard.P s.data.toList n 0 deep its)) (Lard.expect s.data.toList [116, 104, 101, 110])) (Lard.P s.data.toList n 0 deep its)) w3 k3 hs ⟨#[101, 108, 115, 101]⟩ (by decide) i g3).mono ?_
  rintro e w4 ⟨rfl, k4, r4⟩
  have g4 := Good.expect g3 (t := [101, 108, 115, 101]) (by simp)
  have b4 := room_expect g3 (t := [101, 108, 115, 101]) (by simp)
  replace k4 : RX s rb B _ n3 (Lard.andThen (Lard.andThen (Lard.andThen (Lard.andThen (Except.ok i) (Lard.P s.data.toList n 0 deep its)) (Lard.expect s.data.toList [116, 104, 101, 110])) (Lard.P s.data.toList n 0 deep its)) (Lard.expect s.data.toList [101, 108, 115, 101])) w4 := k4
  go_wp2_with fail
  refine (H3 deep its i (Lard.andThen (Lard.andThen (Lard.andThen (Lard.andThen (Except.ok i) (Lard.P s.data.toList n 0 deep its)) (Lard.expect s.data.toList [116, 104, 101, 110])) (Lard.P s.data.toList n 0 deep its)) (Lard.expect s.data.toList [101, 108, 115, 101])) w4 n3 hd (by omega) (by simp [Lard.nd]; omega) g4 k4 (by omega)).mono ?_
  rintro e w5 ⟨x5, n5, rfl, k5, r5, b5, xk5⟩
  have g5 := Good.P g4 n 3 deep its
  go_wp2_with fail
  refine (add_x s rb B its n5 (Lard.andThen (Lard.andThen (Lard.andThen (Lard.andThen (Lard.andThen (Except.ok i) (Lard.P s.data.toList n 0 deep its)) (Lard.expect s.data.toList [116, 104, 101, 110])) (Lard.P s.data.toList n 0 deep its)) (Lard.expect s.data.toList [101, 108, 115, 101])) (Lard.P s.data.toList n 3 deep its)) w5 k5 _ _ _ _ _ _ _ _ (by omega)).mono ?_
  rintro e w6 ⟨rfl, k6, r6⟩
  go_wp2_with fail
  go_ret
  exact ⟨_, (n5 + 1), rfl, k6, (r1.trans (r2.trans (r3.trans (r4.trans (r5.trans r6))))), by omega, fun _ _ => ⟨n5, rfl, by omega⟩⟩

set_option maxRecDepth 100000 in
set_option maxHeartbeats 2000000 in
theorem part_size (s : ByteArray) (rb B n deep its : Nat) (hs : s.size ≤ 200) (hd : deep ≤ 20) (hits : its + 1 ≤ deep) (H : ∀ m, m ≤ n → RT s rb B 65 0 m) :
    PartIs s rb B n deep its ⟨#[115, 105, 122, 101]⟩ fun i => (Lard.andThen (Lard.andThen (Lard.andThen (Except.ok i) (Lard.expect s.data.toList [40])) (Lard.P s.data.toList n 0 deep its)) (Lard.expect s.data.toList [41])) := by
  intro i c w hi hfuel h hc
  have e1 : isWordB (⟨#[115, 105, 122, 101]⟩ : ByteArray).data.toList = false := by decide
  have e2 : Lard.refDig (⟨#[115, 105, 122, 101]⟩ : ByteArray).data.toList = none := by decide
  have hw := isWord_any ⟨#[115, 105, 122, 101]⟩ w (by decide)
  have hn := rdigits_any ⟨#[115, 105, 122, 101]⟩ w (by decide)
  rw [e1] at hw
  rw [e2] at hn
  have HW := hide hw
  have HN := hide hn
  clear hw hn
  have g0 : Good s i (.ok i) := fun a ha => by cases ha; exact ⟨Nat.le_refl _, hi⟩
  go_enter Tryz.func230, Tryz.ntmps230
  go_wp2_with (first | (go_at_call 144; refine HW.out.mono ?_; rintro e w' ⟨rfl, rfl⟩) | (go_at_call 231; refine HN.out.mono ?_; rintro e w' ⟨rfl, rfl⟩; unfold digRes))
  clear HW HN
  refine (take_x s rb B _ c (Except.ok i) w h hs ⟨#[40]⟩ (by decide) i g0).mono ?_
  rintro e w1 ⟨rfl, k1, r1⟩
  have g1 := Good.expect g0 (t := [40]) (by simp)
  have b1 := room_expect g0 (t := [40]) (by simp)
  replace k1 : RX s rb B _ c (Lard.andThen (Except.ok i) (Lard.expect s.data.toList [40])) w1 := k1
  go_wp2_with fail
  refine (H n (Nat.le_refl _) deep its i (Lard.andThen (Except.ok i) (Lard.expect s.data.toList [40])) w1 c hd (by omega) (by simp [Lard.nd]; omega) g1 k1 (by omega)).mono ?_
  rintro e w2 ⟨x2, n2, rfl, k2, r2, b2, xk2⟩
  have g2 := Good.P g1 n 0 deep its
  go_wp2_with fail
  refine (take_x s rb B _ n2 (Lard.andThen (Lard.andThen (Except.ok i) (Lard.expect s.data.toList [40])) (Lard.P s.data.toList n 0 deep its)) w2 k2 hs ⟨#[41]⟩ (by decide) i g2).mono ?_
  rintro e w3 ⟨rfl, k3, r3⟩
  have g3 := Good.expect g2 (t := [41]) (by simp)
  have b3 := room_expect g2 (t := [41]) (by simp)
  replace k3 : RX s rb B _ n2 (Lard.andThen (Lard.andThen (Lard.andThen (Except.ok i) (Lard.expect s.data.toList [40])) (Lard.P s.data.toList n 0 deep its)) (Lard.expect s.data.toList [41])) w3 := k3
  go_wp2_with fail
  refine (add_x s rb B its n2 (Lard.andThen (Lard.andThen (Lard.andThen (Except.ok i) (Lard.expect s.data.toList [40])) (Lard.P s.data.toList n 0 deep its)) (Lard.expect s.data.toList [41])) w3 k3 _ _ _ _ _ _ _ _ (by omega)).mono ?_
  rintro e w4 ⟨rfl, k4, r4⟩
  go_wp2_with fail
  go_ret
  exact ⟨_, (n2 + 1), rfl, k4, (r1.trans (r2.trans (r3.trans r4))), by omega, fun _ _ => ⟨n2, rfl, by omega⟩⟩

set_option maxRecDepth 100000 in
set_option maxHeartbeats 2000000 in
theorem part_sum (s : ByteArray) (rb B n deep its : Nat) (hs : s.size ≤ 200) (hd : deep ≤ 20) (hits : its + 1 ≤ deep) (H : ∀ m, m ≤ n → RT s rb B 65 0 m) :
    PartIs s rb B n deep its ⟨#[115, 117, 109]⟩ fun i => (Lard.andThen (Lard.andThen (Lard.andThen (Except.ok i) (Lard.expect s.data.toList [40])) (Lard.P s.data.toList n 0 deep its)) (Lard.expect s.data.toList [41])) := by
  intro i c w hi hfuel h hc
  have e1 : isWordB (⟨#[115, 117, 109]⟩ : ByteArray).data.toList = false := by decide
  have e2 : Lard.refDig (⟨#[115, 117, 109]⟩ : ByteArray).data.toList = none := by decide
  have hw := isWord_any ⟨#[115, 117, 109]⟩ w (by decide)
  have hn := rdigits_any ⟨#[115, 117, 109]⟩ w (by decide)
  rw [e1] at hw
  rw [e2] at hn
  have HW := hide hw
  have HN := hide hn
  clear hw hn
  have g0 : Good s i (.ok i) := fun a ha => by cases ha; exact ⟨Nat.le_refl _, hi⟩
  go_enter Tryz.func230, Tryz.ntmps230
  go_wp2_with (first | (go_at_call 144; refine HW.out.mono ?_; rintro e w' ⟨rfl, rfl⟩) | (go_at_call 231; refine HN.out.mono ?_; rintro e w' ⟨rfl, rfl⟩; unfold digRes))
  clear HW HN
  refine (take_x s rb B _ c (Except.ok i) w h hs ⟨#[40]⟩ (by decide) i g0).mono ?_
  rintro e w1 ⟨rfl, k1, r1⟩
  have g1 := Good.expect g0 (t := [40]) (by simp)
  have b1 := room_expect g0 (t := [40]) (by simp)
  replace k1 : RX s rb B _ c (Lard.andThen (Except.ok i) (Lard.expect s.data.toList [40])) w1 := k1
  go_wp2_with fail
  refine (H n (Nat.le_refl _) deep its i (Lard.andThen (Except.ok i) (Lard.expect s.data.toList [40])) w1 c hd (by omega) (by simp [Lard.nd]; omega) g1 k1 (by omega)).mono ?_
  rintro e w2 ⟨x2, n2, rfl, k2, r2, b2, xk2⟩
  have g2 := Good.P g1 n 0 deep its
  go_wp2_with fail
  refine (take_x s rb B _ n2 (Lard.andThen (Lard.andThen (Except.ok i) (Lard.expect s.data.toList [40])) (Lard.P s.data.toList n 0 deep its)) w2 k2 hs ⟨#[41]⟩ (by decide) i g2).mono ?_
  rintro e w3 ⟨rfl, k3, r3⟩
  have g3 := Good.expect g2 (t := [41]) (by simp)
  have b3 := room_expect g2 (t := [41]) (by simp)
  replace k3 : RX s rb B _ n2 (Lard.andThen (Lard.andThen (Lard.andThen (Except.ok i) (Lard.expect s.data.toList [40])) (Lard.P s.data.toList n 0 deep its)) (Lard.expect s.data.toList [41])) w3 := k3
  go_wp2_with fail
  refine (add_x s rb B its n2 (Lard.andThen (Lard.andThen (Lard.andThen (Except.ok i) (Lard.expect s.data.toList [40])) (Lard.P s.data.toList n 0 deep its)) (Lard.expect s.data.toList [41])) w3 k3 _ _ _ _ _ _ _ _ (by omega)).mono ?_
  rintro e w4 ⟨rfl, k4, r4⟩
  go_wp2_with fail
  go_ret
  exact ⟨_, (n2 + 1), rfl, k4, (r1.trans (r2.trans (r3.trans r4))), by omega, fun _ _ => ⟨n2, rfl, by omega⟩⟩

set_option maxRecDepth 100000 in
set_option maxHeartbeats 2000000 in
theorem part_word (s : ByteArray) (rb B n deep its : Nat) (hs : s.size ≤ 200) (hd : deep ≤ 20) (hits : its + 1 ≤ deep) (H : ∀ m, m ≤ n → RT s rb B 65 0 m) :
    PartIs s rb B n deep its ⟨#[119, 111, 114, 100]⟩ fun i => (Lard.andThen (Lard.andThen (Lard.andThen (Except.ok i) (Lard.expect s.data.toList [40])) (Lard.P s.data.toList n 0 deep its)) (Lard.expect s.data.toList [41])) := by
  intro i c w hi hfuel h hc
  have e1 : isWordB (⟨#[119, 111, 114, 100]⟩ : ByteArray).data.toList = false := by decide
  have e2 : Lard.refDig (⟨#[119, 111, 114, 100]⟩ : ByteArray).data.toList = none := by decide
  have hw := isWord_any ⟨#[119, 111, 114, 100]⟩ w (by decide)
  have hn := rdigits_any ⟨#[119, 111, 114, 100]⟩ w (by decide)
  rw [e1] at hw
  rw [e2] at hn
  have HW := hide hw
  have HN := hide hn
  clear hw hn
  have g0 : Good s i (.ok i) := fun a ha => by cases ha; exact ⟨Nat.le_refl _, hi⟩
  go_enter Tryz.func230, Tryz.ntmps230
  go_wp2_with (first | (go_at_call 144; refine HW.out.mono ?_; rintro e w' ⟨rfl, rfl⟩) | (go_at_call 231; refine HN.out.mono ?_; rintro e w' ⟨rfl, rfl⟩; unfold digRes))
  clear HW HN
  refine (take_x s rb B _ c (Except.ok i) w h hs ⟨#[40]⟩ (by decide) i g0).mono ?_
  rintro e w1 ⟨rfl, k1, r1⟩
  have g1 := Good.expect g0 (t := [40]) (by simp)
  have b1 := room_expect g0 (t := [40]) (by simp)
  replace k1 : RX s rb B _ c (Lard.andThen (Except.ok i) (Lard.expect s.data.toList [40])) w1 := k1
  go_wp2_with fail
  refine (H n (Nat.le_refl _) deep its i (Lard.andThen (Except.ok i) (Lard.expect s.data.toList [40])) w1 c hd (by omega) (by simp [Lard.nd]; omega) g1 k1 (by omega)).mono ?_
  rintro e w2 ⟨x2, n2, rfl, k2, r2, b2, xk2⟩
  have g2 := Good.P g1 n 0 deep its
  go_wp2_with fail
  refine (take_x s rb B _ n2 (Lard.andThen (Lard.andThen (Except.ok i) (Lard.expect s.data.toList [40])) (Lard.P s.data.toList n 0 deep its)) w2 k2 hs ⟨#[41]⟩ (by decide) i g2).mono ?_
  rintro e w3 ⟨rfl, k3, r3⟩
  have g3 := Good.expect g2 (t := [41]) (by simp)
  have b3 := room_expect g2 (t := [41]) (by simp)
  replace k3 : RX s rb B _ n2 (Lard.andThen (Lard.andThen (Lard.andThen (Except.ok i) (Lard.expect s.data.toList [40])) (Lard.P s.data.toList n 0 deep its)) (Lard.expect s.data.toList [41])) w3 := k3
  go_wp2_with fail
  refine (add_x s rb B its n2 (Lard.andThen (Lard.andThen (Lard.andThen (Except.ok i) (Lard.expect s.data.toList [40])) (Lard.P s.data.toList n 0 deep its)) (Lard.expect s.data.toList [41])) w3 k3 _ _ _ _ _ _ _ _ (by omega)).mono ?_
  rintro e w4 ⟨rfl, k4, r4⟩
  go_wp2_with fail
  go_ret
  exact ⟨_, (n2 + 1), rfl, k4, (r1.trans (r2.trans (r3.trans r4))), by omega, fun _ _ => ⟨n2, rfl, by omega⟩⟩

set_option maxRecDepth 100000 in
set_option maxHeartbeats 2000000 in
theorem part_min (s : ByteArray) (rb B n deep its : Nat) (hs : s.size ≤ 200) (hd : deep ≤ 20) (hits : its + 1 ≤ deep) (H : ∀ m, m ≤ n → RT s rb B 65 0 m) :
    PartIs s rb B n deep its ⟨#[109, 105, 110]⟩ fun i => (Lard.andThen (Lard.andThen (Lard.andThen (Lard.andThen (Lard.andThen (Except.ok i) (Lard.expect s.data.toList [40])) (Lard.P s.data.toList n 0 deep its)) (Lard.expect s.data.toList [44])) (Lard.P s.data.toList n 0 deep its)) (Lard.expect s.data.toList [41])) := by
  intro i c w hi hfuel h hc
  have e1 : isWordB (⟨#[109, 105, 110]⟩ : ByteArray).data.toList = false := by decide
  have e2 : Lard.refDig (⟨#[109, 105, 110]⟩ : ByteArray).data.toList = none := by decide
  have hw := isWord_any ⟨#[109, 105, 110]⟩ w (by decide)
  have hn := rdigits_any ⟨#[109, 105, 110]⟩ w (by decide)
  rw [e1] at hw
  rw [e2] at hn
  have HW := hide hw
  have HN := hide hn
  clear hw hn
  have g0 : Good s i (.ok i) := fun a ha => by cases ha; exact ⟨Nat.le_refl _, hi⟩
  go_enter Tryz.func230, Tryz.ntmps230
  go_wp2_with (first | (go_at_call 144; refine HW.out.mono ?_; rintro e w' ⟨rfl, rfl⟩) | (go_at_call 231; refine HN.out.mono ?_; rintro e w' ⟨rfl, rfl⟩; unfold digRes))
  clear HW HN
  refine (take_x s rb B _ c (Except.ok i) w h hs ⟨#[40]⟩ (by decide) i g0).mono ?_
  rintro e w1 ⟨rfl, k1, r1⟩
  have g1 := Good.expect g0 (t := [40]) (by simp)
  have b1 := room_expect g0 (t := [40]) (by simp)
  replace k1 : RX s rb B _ c (Lard.andThen (Except.ok i) (Lard.expect s.data.toList [40])) w1 := k1
  go_wp2_with fail
  refine (H n (Nat.le_refl _) deep its i (Lard.andThen (Except.ok i) (Lard.expect s.data.toList [40])) w1 c hd (by omega) (by simp [Lard.nd]; omega) g1 k1 (by omega)).mono ?_
  rintro e w2 ⟨x2, n2, rfl, k2, r2, b2, xk2⟩
  have g2 := Good.P g1 n 0 deep its
  go_wp2_with fail
  refine (take_x s rb B _ n2 (Lard.andThen (Lard.andThen (Except.ok i) (Lard.expect s.data.toList [40])) (Lard.P s.data.toList n 0 deep its)) w2 k2 hs ⟨#[44]⟩ (by decide) i g2).mono ?_
  rintro e w3 ⟨rfl, k3, r3⟩
  have g3 := Good.expect g2 (t := [44]) (by simp)
  have b3 := room_expect g2 (t := [44]) (by simp)
  replace k3 : RX s rb B _ n2 (Lard.andThen (Lard.andThen (Lard.andThen (Except.ok i) (Lard.expect s.data.toList [40])) (Lard.P s.data.toList n 0 deep its)) (Lard.expect s.data.toList [44])) w3 := k3
  go_wp2_with fail
  refine (H n (Nat.le_refl _) deep its i (Lard.andThen (Lard.andThen (Lard.andThen (Except.ok i) (Lard.expect s.data.toList [40])) (Lard.P s.data.toList n 0 deep its)) (Lard.expect s.data.toList [44])) w3 n2 hd (by omega) (by simp [Lard.nd]; omega) g3 k3 (by omega)).mono ?_
  rintro e w4 ⟨x4, n4, rfl, k4, r4, b4, xk4⟩
  have g4 := Good.P g3 n 0 deep its
  go_wp2_with fail
  refine (take_x s rb B _ n4 (Lard.andThen (Lard.andThen (Lard.andThen (Lard.andThen (Except.ok i) (Lard.expect s.data.toList [40])) (Lard.P s.data.toList n 0 deep its)) (Lard.expect s.data.toList [44])) (Lard.P s.data.toList n 0 deep its)) w4 k4 hs ⟨#[41]⟩ (by decide) i g4).mono ?_
  rintro e w5 ⟨rfl, k5, r5⟩
  have g5 := Good.expect g4 (t := [41]) (by simp)
  have b5 := room_expect g4 (t := [41]) (by simp)
  replace k5 : RX s rb B _ n4 (Lard.andThen (Lard.andThen (Lard.andThen (Lard.andThen (Lard.andThen (Except.ok i) (Lard.expect s.data.toList [40])) (Lard.P s.data.toList n 0 deep its)) (Lard.expect s.data.toList [44])) (Lard.P s.data.toList n 0 deep its)) (Lard.expect s.data.toList [41])) w5 := k5
  go_wp2_with fail
  refine (rop_any ⟨#[109, 105, 110]⟩ w5 (by decide)).mono ?_
  rintro e w6 ⟨⟨b0, rfl⟩, rfl⟩
  go_wp2_with fail
  refine (add_x s rb B its n4 (Lard.andThen (Lard.andThen (Lard.andThen (Lard.andThen (Lard.andThen (Except.ok i) (Lard.expect s.data.toList [40])) (Lard.P s.data.toList n 0 deep its)) (Lard.expect s.data.toList [44])) (Lard.P s.data.toList n 0 deep its)) (Lard.expect s.data.toList [41])) w5 k5 _ _ _ _ _ _ _ _ (by omega)).mono ?_
  rintro e w7 ⟨rfl, k7, r7⟩
  go_wp2_with fail
  go_ret
  exact ⟨_, (n4 + 1), rfl, k7, (r1.trans (r2.trans (r3.trans (r4.trans (r5.trans r7))))), by omega, fun _ _ => ⟨n4, rfl, by omega⟩⟩

set_option maxRecDepth 100000 in
set_option maxHeartbeats 2000000 in
theorem part_max (s : ByteArray) (rb B n deep its : Nat) (hs : s.size ≤ 200) (hd : deep ≤ 20) (hits : its + 1 ≤ deep) (H : ∀ m, m ≤ n → RT s rb B 65 0 m) :
    PartIs s rb B n deep its ⟨#[109, 97, 120]⟩ fun i => (Lard.andThen (Lard.andThen (Lard.andThen (Lard.andThen (Lard.andThen (Except.ok i) (Lard.expect s.data.toList [40])) (Lard.P s.data.toList n 0 deep its)) (Lard.expect s.data.toList [44])) (Lard.P s.data.toList n 0 deep its)) (Lard.expect s.data.toList [41])) := by
  intro i c w hi hfuel h hc
  have e1 : isWordB (⟨#[109, 97, 120]⟩ : ByteArray).data.toList = false := by decide
  have e2 : Lard.refDig (⟨#[109, 97, 120]⟩ : ByteArray).data.toList = none := by decide
  have hw := isWord_any ⟨#[109, 97, 120]⟩ w (by decide)
  have hn := rdigits_any ⟨#[109, 97, 120]⟩ w (by decide)
  rw [e1] at hw
  rw [e2] at hn
  have HW := hide hw
  have HN := hide hn
  clear hw hn
  have g0 : Good s i (.ok i) := fun a ha => by cases ha; exact ⟨Nat.le_refl _, hi⟩
  go_enter Tryz.func230, Tryz.ntmps230
  go_wp2_with (first | (go_at_call 144; refine HW.out.mono ?_; rintro e w' ⟨rfl, rfl⟩) | (go_at_call 231; refine HN.out.mono ?_; rintro e w' ⟨rfl, rfl⟩; unfold digRes))
  clear HW HN
  refine (take_x s rb B _ c (Except.ok i) w h hs ⟨#[40]⟩ (by decide) i g0).mono ?_
  rintro e w1 ⟨rfl, k1, r1⟩
  have g1 := Good.expect g0 (t := [40]) (by simp)
  have b1 := room_expect g0 (t := [40]) (by simp)
  replace k1 : RX s rb B _ c (Lard.andThen (Except.ok i) (Lard.expect s.data.toList [40])) w1 := k1
  go_wp2_with fail
  refine (H n (Nat.le_refl _) deep its i (Lard.andThen (Except.ok i) (Lard.expect s.data.toList [40])) w1 c hd (by omega) (by simp [Lard.nd]; omega) g1 k1 (by omega)).mono ?_
  rintro e w2 ⟨x2, n2, rfl, k2, r2, b2, xk2⟩
  have g2 := Good.P g1 n 0 deep its
  go_wp2_with fail
  refine (take_x s rb B _ n2 (Lard.andThen (Lard.andThen (Except.ok i) (Lard.expect s.data.toList [40])) (Lard.P s.data.toList n 0 deep its)) w2 k2 hs ⟨#[44]⟩ (by decide) i g2).mono ?_
  rintro e w3 ⟨rfl, k3, r3⟩
  have g3 := Good.expect g2 (t := [44]) (by simp)
  have b3 := room_expect g2 (t := [44]) (by simp)
  replace k3 : RX s rb B _ n2 (Lard.andThen (Lard.andThen (Lard.andThen (Except.ok i) (Lard.expect s.data.toList [40])) (Lard.P s.data.toList n 0 deep its)) (Lard.expect s.data.toList [44])) w3 := k3
  go_wp2_with fail
  refine (H n (Nat.le_refl _) deep its i (Lard.andThen (Lard.andThen (Lard.andThen (Except.ok i) (Lard.expect s.data.toList [40])) (Lard.P s.data.toList n 0 deep its)) (Lard.expect s.data.toList [44])) w3 n2 hd (by omega) (by simp [Lard.nd]; omega) g3 k3 (by omega)).mono ?_
  rintro e w4 ⟨x4, n4, rfl, k4, r4, b4, xk4⟩
  have g4 := Good.P g3 n 0 deep its
  go_wp2_with fail
  refine (take_x s rb B _ n4 (Lard.andThen (Lard.andThen (Lard.andThen (Lard.andThen (Except.ok i) (Lard.expect s.data.toList [40])) (Lard.P s.data.toList n 0 deep its)) (Lard.expect s.data.toList [44])) (Lard.P s.data.toList n 0 deep its)) w4 k4 hs ⟨#[41]⟩ (by decide) i g4).mono ?_
  rintro e w5 ⟨rfl, k5, r5⟩
  have g5 := Good.expect g4 (t := [41]) (by simp)
  have b5 := room_expect g4 (t := [41]) (by simp)
  replace k5 : RX s rb B _ n4 (Lard.andThen (Lard.andThen (Lard.andThen (Lard.andThen (Lard.andThen (Except.ok i) (Lard.expect s.data.toList [40])) (Lard.P s.data.toList n 0 deep its)) (Lard.expect s.data.toList [44])) (Lard.P s.data.toList n 0 deep its)) (Lard.expect s.data.toList [41])) w5 := k5
  go_wp2_with fail
  refine (rop_any ⟨#[109, 97, 120]⟩ w5 (by decide)).mono ?_
  rintro e w6 ⟨⟨b0, rfl⟩, rfl⟩
  go_wp2_with fail
  refine (add_x s rb B its n4 (Lard.andThen (Lard.andThen (Lard.andThen (Lard.andThen (Lard.andThen (Except.ok i) (Lard.expect s.data.toList [40])) (Lard.P s.data.toList n 0 deep its)) (Lard.expect s.data.toList [44])) (Lard.P s.data.toList n 0 deep its)) (Lard.expect s.data.toList [41])) w5 k5 _ _ _ _ _ _ _ _ (by omega)).mono ?_
  rintro e w7 ⟨rfl, k7, r7⟩
  go_wp2_with fail
  go_ret
  exact ⟨_, (n4 + 1), rfl, k7, (r1.trans (r2.trans (r3.trans (r4.trans (r5.trans r7))))), by omega, fun _ _ => ⟨n4, rfl, by omega⟩⟩

set_option maxRecDepth 100000 in
set_option maxHeartbeats 2000000 in
theorem part_try (s : ByteArray) (rb B n deep its : Nat) (hs : s.size ≤ 200) (hd : deep ≤ 20) (hits : its + 1 ≤ deep) (H : ∀ m, m ≤ n → RT s rb B 65 0 m) :
    PartIs s rb B n deep its ⟨#[116, 114, 121]⟩ fun i => (Lard.andThen (Lard.andThen (Lard.andThen (Lard.andThen (Lard.andThen (Except.ok i) (Lard.expect s.data.toList [40])) (Lard.P s.data.toList n 0 deep its)) (Lard.expect s.data.toList [44])) (Lard.P s.data.toList n 0 deep its)) (Lard.expect s.data.toList [41])) := by
  intro i c w hi hfuel h hc
  have e1 : isWordB (⟨#[116, 114, 121]⟩ : ByteArray).data.toList = false := by decide
  have e2 : Lard.refDig (⟨#[116, 114, 121]⟩ : ByteArray).data.toList = none := by decide
  have hw := isWord_any ⟨#[116, 114, 121]⟩ w (by decide)
  have hn := rdigits_any ⟨#[116, 114, 121]⟩ w (by decide)
  rw [e1] at hw
  rw [e2] at hn
  have HW := hide hw
  have HN := hide hn
  clear hw hn
  have g0 : Good s i (.ok i) := fun a ha => by cases ha; exact ⟨Nat.le_refl _, hi⟩
  go_enter Tryz.func230, Tryz.ntmps230
  go_wp2_with (first | (go_at_call 144; refine HW.out.mono ?_; rintro e w' ⟨rfl, rfl⟩) | (go_at_call 231; refine HN.out.mono ?_; rintro e w' ⟨rfl, rfl⟩; unfold digRes))
  clear HW HN
  refine (take_x s rb B _ c (Except.ok i) w h hs ⟨#[40]⟩ (by decide) i g0).mono ?_
  rintro e w1 ⟨rfl, k1, r1⟩
  have g1 := Good.expect g0 (t := [40]) (by simp)
  have b1 := room_expect g0 (t := [40]) (by simp)
  replace k1 : RX s rb B _ c (Lard.andThen (Except.ok i) (Lard.expect s.data.toList [40])) w1 := k1
  go_wp2_with fail
  refine (H n (Nat.le_refl _) deep its i (Lard.andThen (Except.ok i) (Lard.expect s.data.toList [40])) w1 c hd (by omega) (by simp [Lard.nd]; omega) g1 k1 (by omega)).mono ?_
  rintro e w2 ⟨x2, n2, rfl, k2, r2, b2, xk2⟩
  have g2 := Good.P g1 n 0 deep its
  go_wp2_with fail
  refine (take_x s rb B _ n2 (Lard.andThen (Lard.andThen (Except.ok i) (Lard.expect s.data.toList [40])) (Lard.P s.data.toList n 0 deep its)) w2 k2 hs ⟨#[44]⟩ (by decide) i g2).mono ?_
  rintro e w3 ⟨rfl, k3, r3⟩
  have g3 := Good.expect g2 (t := [44]) (by simp)
  have b3 := room_expect g2 (t := [44]) (by simp)
  replace k3 : RX s rb B _ n2 (Lard.andThen (Lard.andThen (Lard.andThen (Except.ok i) (Lard.expect s.data.toList [40])) (Lard.P s.data.toList n 0 deep its)) (Lard.expect s.data.toList [44])) w3 := k3
  go_wp2_with fail
  refine (H n (Nat.le_refl _) deep its i (Lard.andThen (Lard.andThen (Lard.andThen (Except.ok i) (Lard.expect s.data.toList [40])) (Lard.P s.data.toList n 0 deep its)) (Lard.expect s.data.toList [44])) w3 n2 hd (by omega) (by simp [Lard.nd]; omega) g3 k3 (by omega)).mono ?_
  rintro e w4 ⟨x4, n4, rfl, k4, r4, b4, xk4⟩
  have g4 := Good.P g3 n 0 deep its
  go_wp2_with fail
  refine (take_x s rb B _ n4 (Lard.andThen (Lard.andThen (Lard.andThen (Lard.andThen (Except.ok i) (Lard.expect s.data.toList [40])) (Lard.P s.data.toList n 0 deep its)) (Lard.expect s.data.toList [44])) (Lard.P s.data.toList n 0 deep its)) w4 k4 hs ⟨#[41]⟩ (by decide) i g4).mono ?_
  rintro e w5 ⟨rfl, k5, r5⟩
  have g5 := Good.expect g4 (t := [41]) (by simp)
  have b5 := room_expect g4 (t := [41]) (by simp)
  replace k5 : RX s rb B _ n4 (Lard.andThen (Lard.andThen (Lard.andThen (Lard.andThen (Lard.andThen (Except.ok i) (Lard.expect s.data.toList [40])) (Lard.P s.data.toList n 0 deep its)) (Lard.expect s.data.toList [44])) (Lard.P s.data.toList n 0 deep its)) (Lard.expect s.data.toList [41])) w5 := k5
  go_wp2_with fail
  refine (rop_any ⟨#[116, 114, 121]⟩ w5 (by decide)).mono ?_
  rintro e w6 ⟨⟨b0, rfl⟩, rfl⟩
  go_wp2_with fail
  refine (add_x s rb B its n4 (Lard.andThen (Lard.andThen (Lard.andThen (Lard.andThen (Lard.andThen (Except.ok i) (Lard.expect s.data.toList [40])) (Lard.P s.data.toList n 0 deep its)) (Lard.expect s.data.toList [44])) (Lard.P s.data.toList n 0 deep its)) (Lard.expect s.data.toList [41])) w5 k5 _ _ _ _ _ _ _ _ (by omega)).mono ?_
  rintro e w7 ⟨rfl, k7, r7⟩
  go_wp2_with fail
  go_ret
  exact ⟨_, (n4 + 1), rfl, k7, (r1.trans (r2.trans (r3.trans (r4.trans (r5.trans r7))))), by omega, fun _ _ => ⟨n4, rfl, by omega⟩⟩

set_option maxRecDepth 100000 in
set_option maxHeartbeats 2000000 in
theorem part_at (s : ByteArray) (rb B n deep its : Nat) (hs : s.size ≤ 200) (hd : deep ≤ 20) (hits : its + 1 ≤ deep) (H : ∀ m, m ≤ n → RT s rb B 65 0 m) :
    PartIs s rb B n deep its ⟨#[97, 116]⟩ fun i => (Lard.andThen (Lard.andThen (Lard.andThen (Lard.andThen (Lard.andThen (Except.ok i) (Lard.expect s.data.toList [40])) (Lard.P s.data.toList n 0 deep its)) (Lard.expect s.data.toList [44])) (Lard.P s.data.toList n 0 deep its)) (Lard.expect s.data.toList [41])) := by
  intro i c w hi hfuel h hc
  have e1 : isWordB (⟨#[97, 116]⟩ : ByteArray).data.toList = false := by decide
  have e2 : Lard.refDig (⟨#[97, 116]⟩ : ByteArray).data.toList = none := by decide
  have hw := isWord_any ⟨#[97, 116]⟩ w (by decide)
  have hn := rdigits_any ⟨#[97, 116]⟩ w (by decide)
  rw [e1] at hw
  rw [e2] at hn
  have HW := hide hw
  have HN := hide hn
  clear hw hn
  have g0 : Good s i (.ok i) := fun a ha => by cases ha; exact ⟨Nat.le_refl _, hi⟩
  go_enter Tryz.func230, Tryz.ntmps230
  go_wp2_with (first | (go_at_call 144; refine HW.out.mono ?_; rintro e w' ⟨rfl, rfl⟩) | (go_at_call 231; refine HN.out.mono ?_; rintro e w' ⟨rfl, rfl⟩; unfold digRes))
  clear HW HN
  refine (take_x s rb B _ c (Except.ok i) w h hs ⟨#[40]⟩ (by decide) i g0).mono ?_
  rintro e w1 ⟨rfl, k1, r1⟩
  have g1 := Good.expect g0 (t := [40]) (by simp)
  have b1 := room_expect g0 (t := [40]) (by simp)
  replace k1 : RX s rb B _ c (Lard.andThen (Except.ok i) (Lard.expect s.data.toList [40])) w1 := k1
  go_wp2_with fail
  refine (H n (Nat.le_refl _) deep its i (Lard.andThen (Except.ok i) (Lard.expect s.data.toList [40])) w1 c hd (by omega) (by simp [Lard.nd]; omega) g1 k1 (by omega)).mono ?_
  rintro e w2 ⟨x2, n2, rfl, k2, r2, b2, xk2⟩
  have g2 := Good.P g1 n 0 deep its
  go_wp2_with fail
  refine (take_x s rb B _ n2 (Lard.andThen (Lard.andThen (Except.ok i) (Lard.expect s.data.toList [40])) (Lard.P s.data.toList n 0 deep its)) w2 k2 hs ⟨#[44]⟩ (by decide) i g2).mono ?_
  rintro e w3 ⟨rfl, k3, r3⟩
  have g3 := Good.expect g2 (t := [44]) (by simp)
  have b3 := room_expect g2 (t := [44]) (by simp)
  replace k3 : RX s rb B _ n2 (Lard.andThen (Lard.andThen (Lard.andThen (Except.ok i) (Lard.expect s.data.toList [40])) (Lard.P s.data.toList n 0 deep its)) (Lard.expect s.data.toList [44])) w3 := k3
  go_wp2_with fail
  refine (H n (Nat.le_refl _) deep its i (Lard.andThen (Lard.andThen (Lard.andThen (Except.ok i) (Lard.expect s.data.toList [40])) (Lard.P s.data.toList n 0 deep its)) (Lard.expect s.data.toList [44])) w3 n2 hd (by omega) (by simp [Lard.nd]; omega) g3 k3 (by omega)).mono ?_
  rintro e w4 ⟨x4, n4, rfl, k4, r4, b4, xk4⟩
  have g4 := Good.P g3 n 0 deep its
  go_wp2_with fail
  refine (take_x s rb B _ n4 (Lard.andThen (Lard.andThen (Lard.andThen (Lard.andThen (Except.ok i) (Lard.expect s.data.toList [40])) (Lard.P s.data.toList n 0 deep its)) (Lard.expect s.data.toList [44])) (Lard.P s.data.toList n 0 deep its)) w4 k4 hs ⟨#[41]⟩ (by decide) i g4).mono ?_
  rintro e w5 ⟨rfl, k5, r5⟩
  have g5 := Good.expect g4 (t := [41]) (by simp)
  have b5 := room_expect g4 (t := [41]) (by simp)
  replace k5 : RX s rb B _ n4 (Lard.andThen (Lard.andThen (Lard.andThen (Lard.andThen (Lard.andThen (Except.ok i) (Lard.expect s.data.toList [40])) (Lard.P s.data.toList n 0 deep its)) (Lard.expect s.data.toList [44])) (Lard.P s.data.toList n 0 deep its)) (Lard.expect s.data.toList [41])) w5 := k5
  go_wp2_with fail
  refine (rop_any ⟨#[97, 116]⟩ w5 (by decide)).mono ?_
  rintro e w6 ⟨⟨b0, rfl⟩, rfl⟩
  go_wp2_with fail
  refine (add_x s rb B its n4 (Lard.andThen (Lard.andThen (Lard.andThen (Lard.andThen (Lard.andThen (Except.ok i) (Lard.expect s.data.toList [40])) (Lard.P s.data.toList n 0 deep its)) (Lard.expect s.data.toList [44])) (Lard.P s.data.toList n 0 deep its)) (Lard.expect s.data.toList [41])) w5 k5 _ _ _ _ _ _ _ _ (by omega)).mono ?_
  rintro e w7 ⟨rfl, k7, r7⟩
  go_wp2_with fail
  go_ret
  exact ⟨_, (n4 + 1), rfl, k7, (r1.trans (r2.trans (r3.trans (r4.trans (r5.trans r7))))), by omega, fun _ _ => ⟨n4, rfl, by omega⟩⟩

set_option maxRecDepth 100000 in
set_option maxHeartbeats 2000000 in
theorem part_each (s : ByteArray) (rb B n deep its : Nat) (hs : s.size ≤ 200) (hd : deep ≤ 20) (hits : its + 1 ≤ deep) (H : ∀ m, m ≤ n → RT s rb B 65 0 m) :
    PartIs s rb B n deep its ⟨#[101, 97, 99, 104]⟩ fun i => (Lard.andThen (Lard.andThen (Lard.andThen (Lard.andThen (Lard.andThen (Except.ok i) (Lard.expect s.data.toList [40])) (Lard.P s.data.toList n 0 deep its)) (Lard.expect s.data.toList [44])) (Lard.P s.data.toList n 0 deep (its + 1))) (Lard.expect s.data.toList [41])) := by
  intro i c w hi hfuel h hc
  have e1 : isWordB (⟨#[101, 97, 99, 104]⟩ : ByteArray).data.toList = false := by decide
  have e2 : Lard.refDig (⟨#[101, 97, 99, 104]⟩ : ByteArray).data.toList = none := by decide
  have hw := isWord_any ⟨#[101, 97, 99, 104]⟩ w (by decide)
  have hn := rdigits_any ⟨#[101, 97, 99, 104]⟩ w (by decide)
  rw [e1] at hw
  rw [e2] at hn
  have HW := hide hw
  have HN := hide hn
  clear hw hn
  have g0 : Good s i (.ok i) := fun a ha => by cases ha; exact ⟨Nat.le_refl _, hi⟩
  go_enter Tryz.func230, Tryz.ntmps230
  go_wp2_with (first | (go_at_call 144; refine HW.out.mono ?_; rintro e w' ⟨rfl, rfl⟩) | (go_at_call 231; refine HN.out.mono ?_; rintro e w' ⟨rfl, rfl⟩; unfold digRes))
  clear HW HN
  refine (take_x s rb B _ c (Except.ok i) w h hs ⟨#[40]⟩ (by decide) i g0).mono ?_
  rintro e w1 ⟨rfl, k1, r1⟩
  have g1 := Good.expect g0 (t := [40]) (by simp)
  have b1 := room_expect g0 (t := [40]) (by simp)
  replace k1 : RX s rb B _ c (Lard.andThen (Except.ok i) (Lard.expect s.data.toList [40])) w1 := k1
  go_wp2_with fail
  refine (H n (Nat.le_refl _) deep its i (Lard.andThen (Except.ok i) (Lard.expect s.data.toList [40])) w1 c hd (by omega) (by simp [Lard.nd]; omega) g1 k1 (by omega)).mono ?_
  rintro e w2 ⟨x2, n2, rfl, k2, r2, b2, xk2⟩
  have g2 := Good.P g1 n 0 deep its
  go_wp2_with fail
  refine (take_x s rb B _ n2 (Lard.andThen (Lard.andThen (Except.ok i) (Lard.expect s.data.toList [40])) (Lard.P s.data.toList n 0 deep its)) w2 k2 hs ⟨#[44]⟩ (by decide) i g2).mono ?_
  rintro e w3 ⟨rfl, k3, r3⟩
  have g3 := Good.expect g2 (t := [44]) (by simp)
  have b3 := room_expect g2 (t := [44]) (by simp)
  replace k3 : RX s rb B _ n2 (Lard.andThen (Lard.andThen (Lard.andThen (Except.ok i) (Lard.expect s.data.toList [40])) (Lard.P s.data.toList n 0 deep its)) (Lard.expect s.data.toList [44])) w3 := k3
  obtain ⟨c5, cf, clt⟩ := k3.cells
  go_wp2_with fail
  have k4 : RX s rb B (its + 1) n2 (Lard.andThen (Lard.andThen (Lard.andThen (Except.ok i) (Lard.expect s.data.toList [40])) (Lard.P s.data.toList n 0 deep its)) (Lard.expect s.data.toList [44])) (w3.setCell ⟨rb, 5, none⟩ (.int .i64 ((its : Int) + 1))) := k3.its (its + 1)
  have r4 : RF rb B w3 (w3.setCell ⟨rb, 5, none⟩ (.int .i64 ((its : Int) + 1))) := RF.set 5 _
  clear c5 cf clt
  refine (H n (Nat.le_refl _) deep (its + 1) i (Lard.andThen (Lard.andThen (Lard.andThen (Except.ok i) (Lard.expect s.data.toList [40])) (Lard.P s.data.toList n 0 deep its)) (Lard.expect s.data.toList [44])) (w3.setCell ⟨rb, 5, none⟩ (.int .i64 ((its : Int) + 1))) n2 hd (by omega) (by simp [Lard.nd]; omega) g3 k4 (by omega)).mono ?_
  rintro e w5 ⟨x5, n5, rfl, k5, r5, b5, xk5⟩
  have g5 := Good.P g3 n 0 deep (its + 1)
  obtain ⟨c5, cf, clt⟩ := k5.cells
  go_wp2_with fail
  have k6 : RX s rb B its n5 (Lard.andThen (Lard.andThen (Lard.andThen (Lard.andThen (Except.ok i) (Lard.expect s.data.toList [40])) (Lard.P s.data.toList n 0 deep its)) (Lard.expect s.data.toList [44])) (Lard.P s.data.toList n 0 deep (its + 1))) (w5.setCell ⟨rb, 5, none⟩ (.int .i64 (its : Int))) := k5.its its
  have r6 : RF rb B w5 (w5.setCell ⟨rb, 5, none⟩ (.int .i64 (its : Int))) := RF.set 5 _
  clear c5 cf clt
  refine (take_x s rb B _ n5 (Lard.andThen (Lard.andThen (Lard.andThen (Lard.andThen (Except.ok i) (Lard.expect s.data.toList [40])) (Lard.P s.data.toList n 0 deep its)) (Lard.expect s.data.toList [44])) (Lard.P s.data.toList n 0 deep (its + 1))) (w5.setCell ⟨rb, 5, none⟩ (.int .i64 (its : Int))) k6 hs ⟨#[41]⟩ (by decide) i g5).mono ?_
  rintro e w7 ⟨rfl, k7, r7⟩
  have g7 := Good.expect g5 (t := [41]) (by simp)
  have b7 := room_expect g5 (t := [41]) (by simp)
  replace k7 : RX s rb B _ n5 (Lard.andThen (Lard.andThen (Lard.andThen (Lard.andThen (Lard.andThen (Except.ok i) (Lard.expect s.data.toList [40])) (Lard.P s.data.toList n 0 deep its)) (Lard.expect s.data.toList [44])) (Lard.P s.data.toList n 0 deep (its + 1))) (Lard.expect s.data.toList [41])) w7 := k7
  go_wp2_with fail
  refine (rop_any ⟨#[101, 97, 99, 104]⟩ w7 (by decide)).mono ?_
  rintro e w8 ⟨⟨b0, rfl⟩, rfl⟩
  go_wp2_with fail
  refine (add_x s rb B its n5 (Lard.andThen (Lard.andThen (Lard.andThen (Lard.andThen (Lard.andThen (Except.ok i) (Lard.expect s.data.toList [40])) (Lard.P s.data.toList n 0 deep its)) (Lard.expect s.data.toList [44])) (Lard.P s.data.toList n 0 deep (its + 1))) (Lard.expect s.data.toList [41])) w7 k7 _ _ _ _ _ _ _ _ (by omega)).mono ?_
  rintro e w9 ⟨rfl, k9, r9⟩
  go_wp2_with fail
  go_ret
  exact ⟨_, (n5 + 1), rfl, k9, (r1.trans (r2.trans (r3.trans (r4.trans (r5.trans (r6.trans (r7.trans r9))))))), by omega, fun _ _ => ⟨n5, rfl, by omega⟩⟩

set_option maxRecDepth 100000 in
set_option maxHeartbeats 2000000 in
theorem part_some (s : ByteArray) (rb B n deep its : Nat) (hs : s.size ≤ 200) (hd : deep ≤ 20) (hits : its + 1 ≤ deep) (H : ∀ m, m ≤ n → RT s rb B 65 0 m) :
    PartIs s rb B n deep its ⟨#[115, 111, 109, 101]⟩ fun i => (Lard.andThen (Lard.andThen (Lard.andThen (Lard.andThen (Lard.andThen (Except.ok i) (Lard.expect s.data.toList [40])) (Lard.P s.data.toList n 0 deep its)) (Lard.expect s.data.toList [44])) (Lard.P s.data.toList n 0 deep (its + 1))) (Lard.expect s.data.toList [41])) := by
  intro i c w hi hfuel h hc
  have e1 : isWordB (⟨#[115, 111, 109, 101]⟩ : ByteArray).data.toList = false := by decide
  have e2 : Lard.refDig (⟨#[115, 111, 109, 101]⟩ : ByteArray).data.toList = none := by decide
  have hw := isWord_any ⟨#[115, 111, 109, 101]⟩ w (by decide)
  have hn := rdigits_any ⟨#[115, 111, 109, 101]⟩ w (by decide)
  rw [e1] at hw
  rw [e2] at hn
  have HW := hide hw
  have HN := hide hn
  clear hw hn
  have g0 : Good s i (.ok i) := fun a ha => by cases ha; exact ⟨Nat.le_refl _, hi⟩
  go_enter Tryz.func230, Tryz.ntmps230
  go_wp2_with (first | (go_at_call 144; refine HW.out.mono ?_; rintro e w' ⟨rfl, rfl⟩) | (go_at_call 231; refine HN.out.mono ?_; rintro e w' ⟨rfl, rfl⟩; unfold digRes))
  clear HW HN
  refine (take_x s rb B _ c (Except.ok i) w h hs ⟨#[40]⟩ (by decide) i g0).mono ?_
  rintro e w1 ⟨rfl, k1, r1⟩
  have g1 := Good.expect g0 (t := [40]) (by simp)
  have b1 := room_expect g0 (t := [40]) (by simp)
  replace k1 : RX s rb B _ c (Lard.andThen (Except.ok i) (Lard.expect s.data.toList [40])) w1 := k1
  go_wp2_with fail
  refine (H n (Nat.le_refl _) deep its i (Lard.andThen (Except.ok i) (Lard.expect s.data.toList [40])) w1 c hd (by omega) (by simp [Lard.nd]; omega) g1 k1 (by omega)).mono ?_
  rintro e w2 ⟨x2, n2, rfl, k2, r2, b2, xk2⟩
  have g2 := Good.P g1 n 0 deep its
  go_wp2_with fail
  refine (take_x s rb B _ n2 (Lard.andThen (Lard.andThen (Except.ok i) (Lard.expect s.data.toList [40])) (Lard.P s.data.toList n 0 deep its)) w2 k2 hs ⟨#[44]⟩ (by decide) i g2).mono ?_
  rintro e w3 ⟨rfl, k3, r3⟩
  have g3 := Good.expect g2 (t := [44]) (by simp)
  have b3 := room_expect g2 (t := [44]) (by simp)
  replace k3 : RX s rb B _ n2 (Lard.andThen (Lard.andThen (Lard.andThen (Except.ok i) (Lard.expect s.data.toList [40])) (Lard.P s.data.toList n 0 deep its)) (Lard.expect s.data.toList [44])) w3 := k3
  obtain ⟨c5, cf, clt⟩ := k3.cells
  go_wp2_with fail
  have k4 : RX s rb B (its + 1) n2 (Lard.andThen (Lard.andThen (Lard.andThen (Except.ok i) (Lard.expect s.data.toList [40])) (Lard.P s.data.toList n 0 deep its)) (Lard.expect s.data.toList [44])) (w3.setCell ⟨rb, 5, none⟩ (.int .i64 ((its : Int) + 1))) := k3.its (its + 1)
  have r4 : RF rb B w3 (w3.setCell ⟨rb, 5, none⟩ (.int .i64 ((its : Int) + 1))) := RF.set 5 _
  clear c5 cf clt
  refine (H n (Nat.le_refl _) deep (its + 1) i (Lard.andThen (Lard.andThen (Lard.andThen (Except.ok i) (Lard.expect s.data.toList [40])) (Lard.P s.data.toList n 0 deep its)) (Lard.expect s.data.toList [44])) (w3.setCell ⟨rb, 5, none⟩ (.int .i64 ((its : Int) + 1))) n2 hd (by omega) (by simp [Lard.nd]; omega) g3 k4 (by omega)).mono ?_
  rintro e w5 ⟨x5, n5, rfl, k5, r5, b5, xk5⟩
  have g5 := Good.P g3 n 0 deep (its + 1)
  obtain ⟨c5, cf, clt⟩ := k5.cells
  go_wp2_with fail
  have k6 : RX s rb B its n5 (Lard.andThen (Lard.andThen (Lard.andThen (Lard.andThen (Except.ok i) (Lard.expect s.data.toList [40])) (Lard.P s.data.toList n 0 deep its)) (Lard.expect s.data.toList [44])) (Lard.P s.data.toList n 0 deep (its + 1))) (w5.setCell ⟨rb, 5, none⟩ (.int .i64 (its : Int))) := k5.its its
  have r6 : RF rb B w5 (w5.setCell ⟨rb, 5, none⟩ (.int .i64 (its : Int))) := RF.set 5 _
  clear c5 cf clt
  refine (take_x s rb B _ n5 (Lard.andThen (Lard.andThen (Lard.andThen (Lard.andThen (Except.ok i) (Lard.expect s.data.toList [40])) (Lard.P s.data.toList n 0 deep its)) (Lard.expect s.data.toList [44])) (Lard.P s.data.toList n 0 deep (its + 1))) (w5.setCell ⟨rb, 5, none⟩ (.int .i64 (its : Int))) k6 hs ⟨#[41]⟩ (by decide) i g5).mono ?_
  rintro e w7 ⟨rfl, k7, r7⟩
  have g7 := Good.expect g5 (t := [41]) (by simp)
  have b7 := room_expect g5 (t := [41]) (by simp)
  replace k7 : RX s rb B _ n5 (Lard.andThen (Lard.andThen (Lard.andThen (Lard.andThen (Lard.andThen (Except.ok i) (Lard.expect s.data.toList [40])) (Lard.P s.data.toList n 0 deep its)) (Lard.expect s.data.toList [44])) (Lard.P s.data.toList n 0 deep (its + 1))) (Lard.expect s.data.toList [41])) w7 := k7
  go_wp2_with fail
  refine (rop_any ⟨#[115, 111, 109, 101]⟩ w7 (by decide)).mono ?_
  rintro e w8 ⟨⟨b0, rfl⟩, rfl⟩
  go_wp2_with fail
  refine (add_x s rb B its n5 (Lard.andThen (Lard.andThen (Lard.andThen (Lard.andThen (Lard.andThen (Except.ok i) (Lard.expect s.data.toList [40])) (Lard.P s.data.toList n 0 deep its)) (Lard.expect s.data.toList [44])) (Lard.P s.data.toList n 0 deep (its + 1))) (Lard.expect s.data.toList [41])) w7 k7 _ _ _ _ _ _ _ _ (by omega)).mono ?_
  rintro e w9 ⟨rfl, k9, r9⟩
  go_wp2_with fail
  go_ret
  exact ⟨_, (n5 + 1), rfl, k9, (r1.trans (r2.trans (r3.trans (r4.trans (r5.trans (r6.trans (r7.trans r9))))))), by omega, fun _ _ => ⟨n5, rfl, by omega⟩⟩
end Go.Proofs.YtpekpdimdelncaaGreatDoor
