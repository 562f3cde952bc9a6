/- Check against the document's Read; Checked. -/
import Derived.Test.YtpekpdimdelncaaGreatDoorR12
namespace Go.Proofs.YtpekpdimdelncaaGreatDoor
open Go.RowKit
set_option linter.unusedVariables false

/-- The error that is told is a small number. -/
def ErrLe (r : Except (Nat × Nat) Nat) : Prop := ∀ e, r = .error e → e.1 ≤ 4

theorem ErrLe.ok (j : Nat) : ErrLe (.ok j) := fun e he => by cases he
theorem ErrLe.err {c i : Nat} (h : c ≤ 4) : ErrLe (.error (c, i)) := fun e he => by cases he; exact h
theorem ErrLe.ite {c : Prop} [Decidable c] {a b : Except (Nat × Nat) Nat} (ha : ErrLe a) (hb : ErrLe b) : ErrLe (if c then a else b) := by split <;> assumption
theorem ErrLe.andThen {r : Except (Nat × Nat) Nat} {f : Nat → Except (Nat × Nat) Nat} (h : ErrLe r) (hf : ∀ j, ErrLe (f j)) : ErrLe (Lard.andThen r f) := by
  cases r with
  | ok j => exact hf j
  | error e => exact h
theorem ErrLe.expect (l t : List UInt8) (i : Nat) : ErrLe (Lard.expect l t i) := ErrLe.ite (ErrLe.ok _) (ErrLe.err (by omega))

theorem P_err (l : List UInt8) : ∀ (n tag deep its i : Nat), ErrLe (Lard.P l n tag deep its i) := by
  intro n
  induction n with
  | zero => intro tag deep its i; exact ErrLe.err (by omega)
  | succ n ih =>
    intro tag deep its i
    rw [Lard.P]
    unfold Lard.parts
    repeat' first
      | exact ih _ _ _ _
      | exact ErrLe.ok _
      | exact ErrLe.err (by omega)
      | exact ErrLe.expect _ _ _
      | refine ErrLe.ite ?_ ?_
      | refine ErrLe.andThen ?_ (fun j => ?_)

theorem check_small (l : List UInt8) : (Lard.check l).1 ≤ 4 := by
  unfold Lard.check
  split
  · decide
  · have := P_err l (8 * l.length + 5) 0 0 0 (Lard.skip l 0)
    cases hp : Lard.P l (8 * l.length + 5) 0 0 0 (Lard.skip l 0) with
    | ok j =>
      show (if (Lard.tok (l.drop j)).1 = 0 then (0, 0) else (3, j) : Nat × Nat).1 ≤ 4
      split <;> simp
    | error e => exact this e hp

/-- What the plain function says of any text. -/
def ckOf (s : ByteArray) : Nat × Nat := Lard.check s.data.toList

theorem parse_any (s : ByteArray) (w : World) (g : G w) (hmax : s.size ≤ 9223372036854775807) : Calls Tryz.prog 54 #[.string s] w (PostP w (ckOf s).1 (ckOf s).2) := by
  by_cases hs : 200 < s.size
  · have : ckOf s = (2, 0) := by unfold ckOf Lard.check; rw [if_pos (by simpa using hs)]
    rw [this]
    exact parse_long s w hs hmax
  · exact parse_short s w g (by omega)

theorem read_any (s : ByteArray) (w : World) (hmax : s.size ≤ 9223372036854775807) : Calls Tryz.prog 38 #[.string s] w (PostR w (ckOf s).1 (ckOf s).2) := by
  by_cases hs : 200 < s.size
  · have : ckOf s = (2, 0) := by unfold ckOf Lard.check; rw [if_pos (by simpa using hs)]
    rw [this]
    exact read_long s w hs hmax
  · exact read_short s w (by omega)

set_option maxRecDepth 100000 in
set_option maxHeartbeats 1000000 in
theorem check_code (s : ByteArray) (w : World) (g : G w) (hmax : s.size ≤ 9223372036854775807) : Calls Tryz.prog 37 #[.string s] w fun e w' => e = .returned (.tuple #[.int .i64 ((ckOf s).1 : Int), .int .i64 ((ckOf s).2 : Int)]) ∧ Below w.heap.size w w' := by
  have HP := hide (parse_any s w g hmax)
  generalize ckOf s = ck at HP
  go_enter Tryz.func37, Tryz.ntmps37
  go_wp2_with fail
  refine HP.out.mono ?_
  rintro e w1 ⟨⟨q, rfl⟩, hB⟩
  go_wp2_with fail
  exact bodyPost_ret (results_tmp2 rfl _ _ _) rfl ⟨rfl, hB⟩

theorem num_any (c : Nat) (w : World) (h : c ≤ 4) : Calls Tryz.prog 39 #[.int .i64 (c : Int)] w fun e w' => e = .returned (.int .i64 (c : Int)) ∧ w = w' := by
  rcases (by omega : c = 0 ∨ c = 1 ∨ c = 2 ∨ c = 3 ∨ c = 4) with rfl | rfl | rfl | rfl | rfl
  all_goals
    go_enter Tryz.func39, Tryz.ntmps39
    go_wp2_with fail
    go_ret
    exact ⟨rfl, rfl⟩

set_option maxRecDepth 100000 in
set_option maxHeartbeats 1000000 in
theorem check_law (s : ByteArray) (w : World) (g : G w) (hmax : s.size ≤ 9223372036854775807) : Calls Tryz.prog 13 #[.string s] w fun e w' => e = .returned (.bool true) ∧ Below w.heap.size w w' := by
  have HC := hide (check_code s w g hmax)
  have HR := hide (fun w' => read_any s w' hmax)
  have hsm : (ckOf s).1 ≤ 4 := check_small _
  generalize ckOf s = ck at HC HR hsm
  go_enter Tryz.func13, Tryz.ntmps13
  go_wp2_with fail
  refine HC.out.mono ?_
  rintro e w1 ⟨rfl, hB⟩
  go_wp2_with fail
  refine (HR.out w1).mono ?_
  rintro e w2 ⟨⟨p, n, k, rfl⟩, hB2⟩
  go_wp2_with fail
  refine (num_any ck.1 w2 hsm).mono ?_
  rintro e w3 ⟨rfl, rfl⟩
  go_wp2_with fail
  go_ret
  exact ⟨rfl, hB.trans (hB2.mono hB.size)⟩

set_option maxRecDepth 100000 in
set_option maxHeartbeats 1000000 in
theorem checked_any (s t : ByteArray) (w : World) (g : G w) (hs : s.size ≤ 9223372036854775807) (ht : t.size ≤ 9223372036854775807) : Calls Tryz.prog 3 #[.string s, .string t] w fun e w' => e = .returned (.bool true) ∧ Below w.heap.size w w' := by
  have HS := hide (fun w (g : G w) => check_law s w g hs)
  have HT := hide (fun w (g : G w) => check_law t w g ht)
  go_enter Tryz.func3, Tryz.ntmps3
  go_wp2_with fail
  refine (HS.out _ g).mono ?_
  rintro e w1 ⟨rfl, b1⟩
  have g1 := g.below b1 g.size
  go_wp2_with fail
  refine (HT.out _ g1).mono ?_
  rintro e w2 ⟨rfl, b2⟩
  have g2 := g1.below b2 g1.size
  go_wp2_with fail
  refine (HS.out _ g2).mono ?_
  rintro e w3 ⟨rfl, b3⟩
  have g3 := g2.below b3 g2.size
  go_wp2_with fail
  refine (check_law _ _ g3 (by decide)).mono ?_
  rintro e w4 ⟨rfl, b4⟩
  have g4 := g3.below b4 g3.size
  go_wp2_with fail
  refine (check_law _ _ g4 (by decide)).mono ?_
  rintro e w5 ⟨rfl, b5⟩
  have g5 := g4.below b5 g4.size
  go_wp2_with fail
  refine (check_law _ _ g5 (by decide)).mono ?_
  rintro e w6 ⟨rfl, b6⟩
  go_wp2_with fail
  go_ret
  have s1 := b1.size
  have s2 := b2.size
  have s3 := b3.size
  have s4 := b4.size
  have s5 := b5.size
  exact ⟨rfl, b1.trans ((b2.mono (by omega)).trans ((b3.mono (by omega)).trans ((b4.mono (by omega)).trans ((b5.mono (by omega)).trans (b6.mono (by omega))))))⟩
end Go.Proofs.YtpekpdimdelncaaGreatDoor
