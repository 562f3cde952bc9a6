/- The document's tokens and the program's are one, where they may stand: no Go, no program. -/
import Derived.Test.YtpekpdimdelncaaGreatDoorR3
import Derived.Test.YtpekpdimdelncaaGreatDoorGram
namespace Go.Proofs.YtpekpdimdelncaaGreatDoor

def rsz : List UInt8 → Nat
  | [] => 0
  | c :: r => if c = 39 then max (quotedN (c :: r)) 1 else if Lard.isLet c = true then Lard.lead Lard.isAl (c :: r) else if Lard.isDig c = true then Lard.lead Lard.isDig (c :: r) else 1

theorem lead_all (p : UInt8 → Bool) : ∀ l : List UInt8, ∀ c ∈ l.take (Lard.lead p l), p c = true := by
  intro l
  induction l with
  | nil => intro c hc; simp at hc
  | cons d r ih =>
    intro c hc
    simp only [Lard.lead] at hc
    split at hc
    · rename_i hd
      rw [List.take_succ_cons] at hc
      rcases List.mem_cons.1 hc with rfl | hc
      · exact hd
      · exact ih c hc
    · simp at hc

theorem lead_take (p : UInt8 → Bool) (c : UInt8) (r : List UInt8) (h : p c = true) : ∃ t, (c :: r).take (Lard.lead p (c :: r)) = c :: t := by
  simp only [Lard.lead, h, if_true, List.take_succ_cons]
  exact ⟨_, rfl⟩

theorem refDig_head {c : UInt8} {t : List UInt8} (h : Lard.isDig c = false) : Lard.refDig (c :: t) = none := by
  unfold Lard.refDig
  split
  · rfl
  · simp [Lard.digFold, h]

theorem isWordB_head {c : UInt8} {t : List UInt8} (h : c ≠ 39) : isWordB (c :: t) = false := by
  apply isWordB_no
  rintro ⟨_, _, h1, _⟩
  exact h (by simpa using h1)

theorem nameB_head {c : UInt8} {t : List UInt8} (h : Lard.isLet c = false) : nameB (c :: t) = false := by
  unfold nameB
  rw [decide_eq_false (by rintro ⟨_, _, h1⟩; simp [h] at h1)]
  rfl

theorem not39 {c : UInt8} (h : Lard.isLet c = true ∨ Lard.isDig c = true) : c ≠ 39 := by
  rintro rfl
  rcases h with h | h <;> revert h <;> decide

theorem let_not_dig {c : UInt8} (h : Lard.isLet c = true) : Lard.isDig c = false := by
  rw [let_bd] at h
  cases hd : Lard.isDig c with
  | false => rfl
  | true => rw [dig_bdI] at hd; omega

/-- The shapes that a token may have: its kind and its size by the program, its bytes by the document. -/
theorem tok_shape (c : UInt8) (r : List UInt8) :
    (Lard.isDig c = true ∧ rsz (c :: r) = Lard.lead Lard.isDig (c :: r) ∧ Lard.tok (c :: r) = if (Lard.numOf ((c :: r).take (Lard.lead Lard.isDig (c :: r)))).isSome then (2, Lard.lead Lard.isDig (c :: r)) else (1, 0)) ∨
    (Lard.isLet c = true ∧ rsz (c :: r) = Lard.lead Lard.isAl (c :: r) ∧ Lard.tok (c :: r) = if Lard.termB ((c :: r).take (Lard.lead Lard.isAl (c :: r))) = true then (5, Lard.lead Lard.isAl (c :: r)) else if 8 < Lard.lead Lard.isAl (c :: r) then (1, 0) else (4, Lard.lead Lard.isAl (c :: r))) ∨
    (c = 39 ∧ rsz (c :: r) = max (quotedN (c :: r)) 1 ∧ Lard.tok (c :: r) = Lard.wordTok (Lard.wordOf (c :: r))) ∨
    (Lard.isDig c = false ∧ Lard.isLet c = false ∧ c ≠ 39 ∧ rsz (c :: r) = 1 ∧ Lard.tok (c :: r) = if Lard.signB c = true then (6, 1) else (1, 0)) := by
  have ht := Lard.tok_cons (c :: r) c r rfl
  have hr : rsz (c :: r) = if c = 39 then max (quotedN (c :: r)) 1 else if Lard.isLet c = true then Lard.lead Lard.isAl (c :: r) else if Lard.isDig c = true then Lard.lead Lard.isDig (c :: r) else 1 := rfl
  by_cases h1 : Lard.isDig c = true
  · refine Or.inl ⟨h1, ?_, by rw [ht, if_pos h1]⟩
    have hl : ¬ Lard.isLet c = true := fun h => by rw [let_not_dig h] at h1; cases h1
    rw [hr, if_neg (not39 (Or.inr h1)), if_neg hl, if_pos h1]
  · by_cases h2 : Lard.isLet c = true
    · refine Or.inr (Or.inl ⟨h2, ?_, by rw [ht, if_neg h1, if_pos h2]⟩)
      rw [hr, if_neg (not39 (Or.inl h2)), if_pos h2]
    · by_cases h3 : c = 39
      · refine Or.inr (Or.inr (Or.inl ⟨h3, ?_, by rw [ht, if_neg h1, if_neg h2, if_pos h3]⟩))
        rw [hr, if_pos h3]
      · refine Or.inr (Or.inr (Or.inr ⟨by simpa using h1, by simpa using h2, h3, ?_, by rw [ht, if_neg h1, if_neg h2, if_neg h3]⟩))
        rw [hr, if_neg h3, if_neg h2, if_neg h1]

/-- Where a token may stand, both say the same bytes. -/
theorem tok_rsz (l : List UInt8) (h : 2 ≤ (Lard.tok l).1) : rsz l = (Lard.tok l).2 := by
  cases l with
  | nil => simp [Lard.tok] at h
  | cons c r =>
    rcases tok_shape c r with ⟨_, h2, h3⟩ | ⟨_, h2, h3⟩ | ⟨_, h2, h3⟩ | ⟨_, _, _, h2, h3⟩
    · rw [h3] at h ⊢
      split at h
      · rename_i hx; rw [if_pos hx, h2]
      · simp at h
    · rw [h3] at h ⊢
      split at h
      · rename_i hx; rw [if_pos hx, h2]
      · rename_i hx
        rw [if_neg hx]
        split at h
        · simp at h
        · rename_i hy; rw [if_neg hy, h2]
    · rw [h3] at h ⊢
      rw [h2]
      unfold quotedN
      cases hw : Lard.wordOf (c :: r) with
      | none => rw [hw] at h; simp [Lard.wordTok] at h
      | some n => simp [Lard.wordTok]
    · rw [h3] at h ⊢
      split at h
      · rename_i hx; rw [if_pos hx, h2]
      · simp at h

/-- The tokens that the grammar names. -/
def known (x : List UInt8) : Bool := Lard.termB x || (match x with
  | [c] => Lard.signB c
  | _ => false)

theorem known_let {x : List UInt8} (h : Lard.termB x = true) : ∃ c t, x = c :: t ∧ Lard.isLet c = true := by
  simp only [Lard.termB, Bool.or_eq_true, beq_iff_eq] at h
  rcases h with (((((((((((h | h) | h) | h) | h) | h) | h) | h) | h) | h) | h) | h) | h <;> subst h <;> exact ⟨_, _, rfl, by decide⟩

theorem ix_mem : ∀ (l : List UInt8) (c : UInt8), 0 ≤ Lib.indexByte l c ↔ c ∈ l := by
  intro l c
  induction l with
  | nil => simp [Lib.indexByte]
  | cons b l ih =>
    have hge := Lib.indexByte_ge l c
    rw [Lib.indexByte, List.mem_cons, ← ih]
    by_cases h : b = c
    · subst h; simp
    · have h' : (b == c) = false := by simpa using h
      rw [h']
      simp only [Bool.false_eq_true, if_false, beq_iff_eq]
      constructor
      · intro hx
        split at hx <;> omega
      · rintro (hx | hx)
        · exact absurd hx.symm h
        · split <;> omega

theorem signB_mem (c : UInt8) : Lard.signB c = true ↔ c ∈ ([40, 41, 91, 93, 123, 125, 44, 43, 45, 42, 47, 60, 61] : List UInt8) := by
  unfold Lard.signB; rw [decide_eq_true_iff]; exact ix_mem _ _

theorem sign_dig {c : UInt8} (h : Lard.signB c = true) : Lard.isDig c = false ∧ Lard.isLet c = false ∧ c ≠ 39 := by
  rw [signB_mem] at h
  simp only [List.mem_cons, List.mem_nil_iff, or_false] at h
  rcases h with rfl | rfl | rfl | rfl | rfl | rfl | rfl | rfl | rfl | rfl | rfl | rfl | rfl <;> decide

/-- A known token is there for the one where it is there for the other. -/
theorem known_same (l x : List UInt8) (hx : known x = true) : (l.take (rsz l) = x) ↔ (l.take (Lard.tok l).2 = x) := by
  by_cases h2 : 2 ≤ (Lard.tok l).1
  · rw [tok_rsz l h2]
  · have hxne : x ≠ [] := by rintro rfl; revert hx; decide
    have hxk : (∃ c t, x = c :: t ∧ Lard.isLet c = true ∧ Lard.termB x = true) ∨ (∃ c, x = [c] ∧ Lard.signB c = true) := by
      simp only [known, Bool.or_eq_true] at hx
      rcases hx with hx | hx
      · obtain ⟨c, t, h1, h3⟩ := known_let hx
        exact Or.inl ⟨c, t, h1, h3, hx⟩
      · split at hx
        · rename_i c; exact Or.inr ⟨c, rfl, hx⟩
        · cases hx
    cases l with
    | nil => simp [rsz, Lard.tok]
    | cons c r =>
      have key : (c :: r).take (rsz (c :: r)) ≠ x ∧ (Lard.tok (c :: r)).2 = 0 := by
        rcases tok_shape c r with ⟨h1, h4, h3⟩ | ⟨h1, h4, h3⟩ | ⟨h1, h4, h3⟩ | ⟨h1, h5, h6, h4, h3⟩
        · rw [h3] at h2 ⊢
          split at h2
          · simp at h2
          · rename_i hn
            rw [if_neg hn]
            refine ⟨?_, rfl⟩
            rw [h4]
            obtain ⟨t, ht⟩ := lead_take Lard.isDig c r h1
            rw [ht]
            intro e
            rcases hxk with ⟨c', t', e', hl, _⟩ | ⟨c', e', hsg⟩
            · rw [e'] at e; injection e with e1 _; subst e1; rw [let_not_dig hl] at h1; cases h1
            · rw [e'] at e; injection e with e1 _; subst e1; rw [(sign_dig hsg).1] at h1; cases h1
        · rw [h3] at h2 ⊢
          split at h2
          · simp at h2
          · rename_i hn
            rw [if_neg hn]
            split at h2
            · rename_i h8
              rw [if_pos h8]
              refine ⟨?_, rfl⟩
              rw [h4]
              intro e
              rcases hxk with ⟨c', t', e', hl, htm⟩ | ⟨c', e', hsg⟩
              · rw [e] at hn; exact hn htm
              · obtain ⟨t, ht⟩ := lead_take Lard.isAl c r (by rw [al_or, h1]; rfl)
                rw [ht, e'] at e
                injection e with e1 _; subst e1; rw [(sign_dig hsg).2.1] at h1; cases h1
            · simp at h2
        · rw [h3] at h2 ⊢
          cases hw : Lard.wordOf (c :: r) with
          | some n => rw [hw] at h2; simp [Lard.wordTok] at h2
          | none =>
            refine ⟨?_, rfl⟩
            rw [h4]
            have hq : quotedN (c :: r) = 0 := by unfold quotedN; rw [hw]
            rw [hq]
            intro e
            have e : [c] = x := e
            rcases hxk with ⟨c', t', e', hl, _⟩ | ⟨c', e', hsg⟩
            · rw [e'] at e; injection e with e1 _; subst e1; subst h1; exact absurd rfl (not39 (Or.inl hl))
            · rw [e'] at e; injection e with e1 _; subst e1; exact (sign_dig hsg).2.2 h1
        · rw [h3] at h2 ⊢
          split at h2
          · simp at h2
          · rename_i hn
            rw [if_neg hn]
            refine ⟨?_, rfl⟩
            rw [h4]
            intro e
            have e : [c] = x := e
            rcases hxk with ⟨c', t', e', hl, _⟩ | ⟨c', e', hsg⟩
            · rw [e'] at e; injection e with e1 _; subst e1; rw [h5] at hl; cases hl
            · rw [e'] at e; injection e with e1 _; subst e1; exact hn hsg
      constructor
      · intro e; exact absurd e key.1
      · intro e
        rw [key.2] at e
        exact absurd e.symm hxne
end Go.Proofs.YtpekpdimdelncaaGreatDoor
