/- Tokens: firstToken and tokenAt answer the token that a text begins with. -/
import Derived.Test.YtpekpdimdelncaaGreatDoorW3
namespace Go.Proofs.YtpekpdimdelncaaGreatDoor
open Go.RowKit
attribute [local go_sem] run_store_isV

/-- The token that a text begins with. -/
def firstV (s : ByteArray) : Value :=
  .agg #[.int .i64 ((Lard.tok s.data.toList).1 : Int), .string (s.extract 0 (Lard.tok s.data.toList).2), .int .i64 0, isV s.data.toList]

theorem firstV_bad (s : ByteArray) (h : Lard.tok s.data.toList = (1, 0)) : badV = firstV s := by
  simp [firstV, isV, h, badV]; rfl

theorem firstV_end (s : ByteArray) (h : Lard.tok s.data.toList = (0, 0)) : (.agg #[.int .i64 0, .string ⟨#[]⟩, .int .i64 0, .nilIface] : Value) = firstV s := by
  simp [firstV, isV, h]; rfl

theorem firstV_sign (s : ByteArray) (h : Lard.tok s.data.toList = (6, 1)) : (.agg #[.int .i64 6, .string (s.extract 0 1), .int .i64 0, .nilIface] : Value) = firstV s := by
  simp [firstV, isV, h]

theorem firstV_dig (s : ByteArray) (h : Lard.tok s.data.toList = if (Lard.numOf (s.data.toList.take (Lard.lead Lard.isDig s.data.toList))).isSome then (2, Lard.lead Lard.isDig s.data.toList) else (1, 0)) : digV s (Lard.numOf (s.data.toList.take (Lard.lead Lard.isDig s.data.toList))) = firstV s := by
  cases ho : Lard.numOf (s.data.toList.take (Lard.lead Lard.isDig s.data.toList)) with
  | none =>
    rw [ho] at h
    exact firstV_bad s (by simpa using h)
  | some v =>
    rw [ho] at h
    simp only [Option.isSome_some, if_true] at h
    simp [firstV, isV, h, digV, ho]

theorem firstV_let (s : ByteArray) (h : Lard.tok s.data.toList = if Lard.termB (s.data.toList.take (Lard.lead Lard.isAl s.data.toList)) = true then (5, Lard.lead Lard.isAl s.data.toList) else if 8 < Lard.lead Lard.isAl s.data.toList then (1, 0) else (4, Lard.lead Lard.isAl s.data.toList)) :
    letV s (Lard.lead Lard.isAl s.data.toList) (Lard.termB (s.data.toList.take (Lard.lead Lard.isAl s.data.toList))) = firstV s := by
  unfold letV
  split at h
  · rename_i hb; rw [if_pos hb]; simp [firstV, isV, h]
  · rename_i hb
    rw [if_neg hb]
    split at h
    · rename_i h8; rw [if_pos h8]; exact firstV_bad s h
    · rename_i h8; rw [if_neg h8]; simp [firstV, isV, h]

theorem firstV_word (s : ByteArray) (h : Lard.tok s.data.toList = Lard.wordTok (Lard.wordOf s.data.toList)) : worV s (Lard.wordOf s.data.toList) = firstV s := by
  cases ho : Lard.wordOf s.data.toList with
  | none => rw [ho] at h; exact firstV_bad s h
  | some n =>
    rw [ho] at h
    simp only [firstV, isV, h, worV, Lard.wordTok]
    rw [Lib.extract_eq s 1 (n + 1)]
    simp

set_option maxHeartbeats 1000000 in
theorem firstToken_any (s : ByteArray) (w : World) (g : G w) (hs : s.size ≤ 281474976710656) :
    Calls Tryz.prog 82 #[.string s] w fun e w' => e = .returned (firstV s) ∧ Below w.heap.size w w' := by
  by_cases h0 : s.size = 0
  · have hl : s.data.toList = [] := by
      rw [← List.length_eq_zero_iff, ← Lib.size_eq]; exact h0
    have he : s = ByteArray.empty := by
      rw [← Lib.mk_data s, hl]; rfl
    have hv := firstV_end s (by rw [hl]; rfl)
    subst he
    have HV := hide hv
    clear hv hl h0
    go_enter Tryz.func82, Tryz.ntmps82
    go_wp2_with fail
    exact bodyPost_ret (v := .agg #[.int .i64 0, .string ⟨#[]⟩, .int .i64 0, .nilIface]) (by simp [results, Tryz.results82, go_sem]) rfl ⟨by rw [HV.out], (Below.refl _ _).alloc (Nat.le_refl _) _⟩
  · have h0' : 0 < s.size := by omega
    obtain ⟨c, r, hl⟩ : ∃ c r, s.data.toList = c :: r := by
      cases hl : s.data.toList with
      | nil => exfalso; rw [Lib.size_eq, hl] at h0; exact h0 rfl
      | cons c r => exact ⟨c, r, rfl⟩
    have hc0 : s[0] = c := by rw [Lard.getElem_data s 0 h0']; simp [hl]
    have hne : s.toList.isEmpty = false := by rw [Lib.toList_data, hl]; rfl
    have hB0 : Below w.heap.size w (w.alloc (Obj.cells #[Value.int IntKind.i64 0, Value.string { data := #[] }, Value.int IntKind.i64 0, Value.nilIface] 172)) := (Below.refl _ _).alloc (Nat.le_refl _) _
    have g0 := g.below hB0 g.size
    have ht := Lard.tok_cons s.data.toList c r hl
    have HL := hide hl
    have HC := hide hc0
    clear hl hc0
    by_cases h1 : Lard.isDig c = true
    · have hv := firstV_dig s (by rw [ht, if_pos h1])
      have hd : Lard.digB (s[0].toNat : Int) = true := by rw [HC.out]; exact h1
      have HV := hide hv
      clear ht hv h1
      go_enter Tryz.func82, Tryz.ntmps82
      go_wp2_with (go_at_call 118; refine (isDigit_any _ _).mono ?_; rintro e w' ⟨rfl, rfl⟩)
      refine (digitsToken_any s _ g0 hs _ rfl).mono ?_
      rintro e w1 ⟨rfl, hb⟩
      rw [HV.out]
      unfold firstV
      obtain ⟨hc, hf⟩ := bcell hb
      have hz : w.heap.size < w1.heap.size := by have := hb.size; simp at this; omega
      have hB : Below w.heap.size w w1 := hB0.trans (hb.mono (by simp))
      go_wp2_with fail
      exact bodyPost_ret (v := firstV s) (by simp [results, Tryz.results82, go_sem, hc, firstV]) rfl ⟨rfl, set4 hB (Nat.le_refl _) _ _ _ _⟩
    · have h1' : Lard.isDig c = false := by simpa using h1
      have hd : Lard.digB (s[0].toNat : Int) = false := by rw [HC.out]; exact h1'
      rw [if_neg h1] at ht
      clear h1 h1'
      by_cases h2 : Lard.isLet c = true
      · have hv := firstV_let s (by rw [ht, if_pos h2])
        have hd2 : Lard.letB (s[0].toNat : Int) = true := by rw [HC.out]; exact h2
        have HV := hide hv
        clear ht hv h2
        go_enter Tryz.func82, Tryz.ntmps82
        go_wp2_with (first | (go_at_call 118; refine (isDigit_any _ _).mono ?_; rintro e w' ⟨rfl, rfl⟩) | (go_at_call 120; refine (isLetter_any _ _).mono ?_; rintro e w' ⟨rfl, rfl⟩))
        refine (letterToken_any s _ hs _ rfl).mono ?_
        rintro e w1 ⟨rfl, hb⟩
        rw [HV.out]
        unfold firstV
        obtain ⟨hc, hf⟩ := bcell hb
        have hz : w.heap.size < w1.heap.size := by have := hb.size; simp at this; omega
        have hB : Below w.heap.size w w1 := hB0.trans (hb.mono (by simp))
        go_wp2_with fail
        exact bodyPost_ret (v := firstV s) (by simp [results, Tryz.results82, go_sem, hc, firstV]) rfl ⟨rfl, set4 hB (Nat.le_refl _) _ _ _ _⟩
      · have h2' : Lard.isLet c = false := by simpa using h2
        have hd2 : Lard.letB (s[0].toNat : Int) = false := by rw [HC.out]; exact h2'
        rw [if_neg h2] at ht
        clear h2 h2'
        by_cases h3 : c = 39
        · have hv := firstV_word s (by rw [ht, if_pos h3])
          have hd3 : ((s[0].toNat : Int) == 39) = true := by rw [HC.out, h3]; rfl
          have HV := hide hv
          clear ht hv h3
          go_enter Tryz.func82, Tryz.ntmps82
          go_wp2_with (first | (go_at_call 118; refine (isDigit_any _ _).mono ?_; rintro e w' ⟨rfl, rfl⟩) | (go_at_call 120; refine (isLetter_any _ _).mono ?_; rintro e w' ⟨rfl, rfl⟩))
          refine (wordToken_any s _ hs _ rfl).mono ?_
          rintro e w1 ⟨rfl, hb⟩
          rw [HV.out]
          unfold firstV
          obtain ⟨hc, hf⟩ := bcell hb
          have hz : w.heap.size < w1.heap.size := by have := hb.size; simp at this; omega
          have hB : Below w.heap.size w w1 := hB0.trans (hb.mono (by simp))
          go_wp2_with fail
          exact bodyPost_ret (v := firstV s) (by simp [results, Tryz.results82, go_sem, hc, firstV]) rfl ⟨rfl, set4 hB (Nat.le_refl _) _ _ _ _⟩
        · have hd3 : ((s[0].toNat : Int) == 39) = false := by
            rw [HC.out, beq_eq_false_iff_ne]
            intro e
            exact h3 (UInt8.toNat_inj.1 (by show c.toNat = 39; omega))
          rw [if_neg h3] at ht
          clear h3
          have hix := Tryz.strings_IndexByte ⟨#[40, 41, 91, 93, 123, 125, 44, 43, 45, 42, 47, 60, 61]⟩ (s[0].toNat : Int)
          have hcc : ((s[0].toNat : Int)).toNat.toUInt8 = c := by rw [HC.out]; simp
          rw [hcc] at hix
          have HX := hide hix
          clear hix hcc
          by_cases h4 : Lard.signB c = true
          · have hv := firstV_sign s (by rw [ht, if_pos h4])
            have hd4 : 0 ≤ Lib.indexByte [40, 41, 91, 93, 123, 125, 44, 43, 45, 42, 47, 60, 61] c := by simpa [Lard.signB] using h4
            have HV := hide hv
            clear ht hv h4
            go_enter Tryz.func82, Tryz.ntmps82
            go_wp2_with (first | (go_at_call 118; refine (isDigit_any _ _).mono ?_; rintro e w' ⟨rfl, rfl⟩) | (go_at_call 120; refine (isLetter_any _ _).mono ?_; rintro e w' ⟨rfl, rfl⟩))
            refine (HX.out _).mono ?_
            rintro e w' ⟨rfl, rfl⟩
            go_wp2_with fail
            exact bodyPost_ret (v := .agg #[.int .i64 6, .string (s.extract 0 1), .int .i64 0, .nilIface]) (by simp [results, Tryz.results82, go_sem]) rfl ⟨by rw [HV.out], (Below.refl _ _).alloc (Nat.le_refl _) _⟩
          · have hv := firstV_bad s (by rw [ht, if_neg h4])
            have hd4 : ¬ 0 ≤ Lib.indexByte [40, 41, 91, 93, 123, 125, 44, 43, 45, 42, 47, 60, 61] c := by simpa [Lard.signB] using h4
            have HV := hide hv
            clear ht hv h4
            go_enter Tryz.func82, Tryz.ntmps82
            go_wp2_with (first | (go_at_call 118; refine (isDigit_any _ _).mono ?_; rintro e w' ⟨rfl, rfl⟩) | (go_at_call 120; refine (isLetter_any _ _).mono ?_; rintro e w' ⟨rfl, rfl⟩))
            refine (HX.out _).mono ?_
            rintro e w' ⟨rfl, rfl⟩
            go_wp2_with fail
            exact bodyPost_ret (v := badV) (by simp [results, Tryz.results82, go_sem, badV]) rfl ⟨by rw [HV.out], (Below.refl _ _).alloc (Nat.le_refl _) _⟩
end Go.Proofs.YtpekpdimdelncaaGreatDoor
