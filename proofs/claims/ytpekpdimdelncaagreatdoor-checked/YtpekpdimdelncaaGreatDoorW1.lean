/- The leaves of the tokens' reading: isDigit, isLetter, leading answer as the plain functions do. -/
import Derived.Test.YtpekpdimdelncaaGreatDoorProg
import Derived.Test.YtpekpdimdelncaaGreatDoorSpec
import Derived.WalkKit
import Derived.WalkSpells
import Derived.WalkLawsBesides
namespace Go.Proofs.YtpekpdimdelncaaGreatDoor
open Go.RowKit
theorem hide {p : Prop} (h : p) : Hid p := h
set_option maxHeartbeats 400000 in
theorem isDigit_any (c : Int) (w : World) :
    Calls Tryz.prog 118 #[.int .u8 c] w fun e w' => e = .returned (.bool (Lard.digB c)) ∧ w' = w := by
  go_enter Tryz.func118, Tryz.ntmps118
  go_wp2
  all_goals go_ret
  · exact ⟨by simp [Lard.digB, *], rfl⟩
  · exact ⟨by simp [Lard.digB]; omega, rfl⟩
set_option maxHeartbeats 400000 in
theorem isLetter_any (c : Int) (w : World) :
    Calls Tryz.prog 120 #[.int .u8 c] w fun e w' => e = .returned (.bool (Lard.letB c)) ∧ w' = w := by
  go_enter Tryz.func120, Tryz.ntmps120
  go_wp2
  all_goals go_ret
  · exact ⟨by simp [Lard.letB, *], rfl⟩
  · exact ⟨by simp [Lard.letB]; omega, rfl⟩
set_option maxHeartbeats 400000 in
theorem letDig_any (c : Int) (w : World) :
    Calls Tryz.prog 156 #[.int .u8 c] w fun e w' => e = .returned (.bool (Lard.alB c)) ∧ w' = w := by
  go_enter Tryz.func156, Tryz.ntmps156
  go_wp2_with (first | (go_at_call 118; refine (isDigit_any _ _).mono ?_; rintro e w' ⟨rfl, rfl⟩) | (go_at_call 120; refine (isLetter_any _ _).mono ?_; rintro e w' ⟨rfl, rfl⟩))
  all_goals go_ret
  all_goals exact ⟨by simp [Lard.alB, *], rfl⟩
theorem ext0 (s : ByteArray) {a b : Nat} (h : a = b) : Ending.returned (.string (s.extract 0 a)) = .returned (.string (s.extract 0 b)) := by rw [h]
set_option maxHeartbeats 400000 in
theorem leading_dig (s : ByteArray) (w : World) (hs : s.size ≤ 4611686018427387904) :
    Calls Tryz.prog 155 #[.string s, .func (.func 118) #[] #[]] w fun e w' => e = .returned (.string (s.extract 0 (Lard.lead Lard.isDig s.data.toList))) ∧ w' = w := by
  go_enter Tryz.func155, Tryz.ntmps155
  go_wp2_with fail
  go_loop [5] (fun i => ∃ k : Nat, k ≤ s.size ∧ i = .int .i64 k ∧ k ≤ Lard.lead Lard.isDig s.data.toList) (fun i => s.size - (intOf i).toNat)
  case atStart => exact ⟨0, Nat.zero_le _, rfl, Nat.zero_le _⟩
  case round =>
    obtain ⟨k, hk, rfl, hl⟩ := hrel
    by_cases hlt : k < s.size
    · go_wp2_with (go_at_call 118; refine (isDigit_any _ _).mono ?_; rintro e w' ⟨rfl, rfl⟩)
      · exact ⟨⟨k + 1, by omega, by go_num, Lard.lead_step _ _ k (by simpa using hlt) hl (by rw [← Lard.getElem_data s k hlt]; assumption)⟩, by simp [intOf]; omega⟩
      · go_ret
        exact ⟨ext0 s (Lard.lead_stop _ _ k hl (fun _ => by rw [← Lard.getElem_data s k hlt]; assumption)).symm, rfl⟩
    · go_wp2_with fail
      go_ret
      exact ⟨ext0 s (Lard.lead_stop _ _ k hl (fun h => absurd (by simpa using h) hlt)).symm, rfl⟩
set_option maxHeartbeats 400000 in
theorem leading_al (s : ByteArray) (w : World) (hs : s.size ≤ 4611686018427387904) :
    Calls Tryz.prog 155 #[.string s, .func (.func 156) #[] #[]] w fun e w' => e = .returned (.string (s.extract 0 (Lard.lead Lard.isAl s.data.toList))) ∧ w' = w := by
  go_enter Tryz.func155, Tryz.ntmps155
  go_wp2_with fail
  go_loop [5] (fun i => ∃ k : Nat, k ≤ s.size ∧ i = .int .i64 k ∧ k ≤ Lard.lead Lard.isAl s.data.toList) (fun i => s.size - (intOf i).toNat)
  case atStart => exact ⟨0, Nat.zero_le _, rfl, Nat.zero_le _⟩
  case round =>
    obtain ⟨k, hk, rfl, hl⟩ := hrel
    by_cases hlt : k < s.size
    · go_wp2_with (go_at_call 156; refine (letDig_any _ _).mono ?_; rintro e w' ⟨rfl, rfl⟩)
      · exact ⟨⟨k + 1, by omega, by go_num, Lard.lead_step _ _ k (by simpa using hlt) hl (by rw [← Lard.getElem_data s k hlt]; assumption)⟩, by simp [intOf]; omega⟩
      · go_ret
        exact ⟨ext0 s (Lard.lead_stop _ _ k hl (fun _ => by rw [← Lard.getElem_data s k hlt]; assumption)).symm, rfl⟩
    · go_wp2_with fail
      go_ret
      exact ⟨ext0 s (Lard.lead_stop _ _ k hl (fun h => absurd (by simpa using h) hlt)).symm, rfl⟩
end Go.Proofs.YtpekpdimdelncaaGreatDoor
