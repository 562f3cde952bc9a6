/- Tokens: tokenAt answers the first token that stands at a place or behind it. -/
import Derived.Test.YtpekpdimdelncaaGreatDoorW4
namespace Go.Proofs.YtpekpdimdelncaaGreatDoor
open Go.RowKit
attribute [local go_sem] run_store_isV

theorem extract_tail (s : ByteArray) (i : Nat) : (s.extract i s.size).data.toList = s.data.toList.drop i := by
  rw [Lib.extract_data, List.take_of_length_le]
  rw [List.length_drop, ← Lib.size_eq]; exact Nat.le_refl _

theorem extract_extract (s : ByteArray) (i n : Nat) : (s.extract i s.size).extract 0 n = s.extract i (i + n) := by
  rw [Lib.extract_eq (s.extract i s.size), extract_tail, Lib.extract_eq s i (i + n), List.drop_zero, Nat.sub_zero, Nat.add_sub_cancel_left]

theorem firstV_tail (s : ByteArray) (i : Nat) : firstV (s.extract i s.size) = .agg #[.int .i64 ((Lard.tok (s.data.toList.drop i)).1 : Int), .string (s.extract i (i + (Lard.tok (s.data.toList.drop i)).2)), .int .i64 0, isV (s.data.toList.drop i)] := by
  unfold firstV
  rw [extract_tail, extract_extract]

set_option maxHeartbeats 1000000 in
theorem tokenAt_any (s : ByteArray) (a : Nat) (w : World) (g : G w) (hs : s.size ≤ 281474976710656) (ha : a ≤ s.size) :
    Calls Tryz.prog 88 #[.string s, .int .i64 a] w fun e w' => e = .returned (tokV s (Lard.skip s.data.toList a)) ∧ Below w.heap.size w w' := by
  have hB0 : Below w.heap.size w (w.alloc (Obj.cells #[Value.int IntKind.i64 0, Value.string { data := #[] }, Value.int IntKind.i64 0, Value.nilIface] 172)) := (Below.refl _ _).alloc (Nat.le_refl _) _
  have g0 := g.below hB0 g.size
  go_enter Tryz.func88, Tryz.ntmps88
  go_wp2_with fail
  go_loop [1] (fun i => ∃ k : Nat, k ≤ s.size ∧ i = .int .i64 k ∧ Hid (Lard.skip s.data.toList k = Lard.skip s.data.toList a)) (fun i => s.size - (intOf i).toNat)
  case atStart => exact ⟨a, ha, rfl, rfl⟩
  case round =>
    obtain ⟨k, hk, rfl, hl⟩ := hrel
    by_cases hlt : k < s.size
    · have GE := hide (Lard.getElem_data s k hlt)
      have hln : k < s.data.toList.length := by simpa using hlt
      by_cases hb : ((s[k].toNat : Int) == 32) = true
      · have HS := hide (Lard.skip_step s.data.toList k hln (by rw [← GE.out]; exact hb))
        go_wp2_with fail
        exact ⟨⟨k + 1, by omega, by go_num, HS.out.trans hl⟩, by simp [intOf]; omega⟩
      · have hb' : ((s[k].toNat : Int) == 32) = false := by simpa using hb
        have HS := hide (Lard.skip_stop s.data.toList k (fun _ => by rw [← GE.out]; exact hb'))
        clear hb
        go_wp2_with fail
        refine (firstToken_any (s.extract k s.size) _ g0 (by have := size_ext s k s.size; omega)).mono ?_
        rintro e w1 ⟨rfl, hb1⟩
        rw [firstV_tail]
        obtain ⟨hc, hf⟩ := bcell hb1
        have hz : w.heap.size < w1.heap.size := by have := hb1.size; simp at this; omega
        have hB : Below w.heap.size w w1 := hB0.trans (hb1.mono (by simp))
        go_wp2_with fail
        exact bodyPost_ret (v := tokV s k) (by simp [results, Tryz.results88, go_sem, hc, hz, tokV]) rfl ⟨by rw [← hl.out, HS.out], (set4 hB (Nat.le_refl _) _ _ _ _).alloc (by simp [World.setCell]; omega) _⟩
    · have HS := hide (Lard.skip_stop s.data.toList k (fun h => absurd (by simpa using h) hlt))
      go_wp2_with fail
      refine (firstToken_any (s.extract k s.size) _ g0 (by have := size_ext s k s.size; omega)).mono ?_
      rintro e w1 ⟨rfl, hb1⟩
      rw [firstV_tail]
      obtain ⟨hc, hf⟩ := bcell hb1
      have hz : w.heap.size < w1.heap.size := by have := hb1.size; simp at this; omega
      have hB : Below w.heap.size w w1 := hB0.trans (hb1.mono (by simp))
      go_wp2_with fail
      exact bodyPost_ret (v := tokV s k) (by simp [results, Tryz.results88, go_sem, hc, hz, tokV]) rfl ⟨by rw [← hl.out, HS.out], (set4 hB (Nat.le_refl _) _ _ _ _).alloc (by simp [World.setCell]; omega) _⟩
end Go.Proofs.YtpekpdimdelncaaGreatDoor
