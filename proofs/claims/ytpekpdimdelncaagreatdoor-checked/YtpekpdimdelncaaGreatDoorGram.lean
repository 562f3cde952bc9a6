/- The grammar of rules, as a plain function by places: no Go, no program. -/
import Derived.Test.YtpekpdimdelncaaGreatDoorSpec
namespace Go.Proofs.YtpekpdimdelncaaGreatDoor
namespace Lard

/-- This token must come. -/
def expect (l : List UInt8) (t : List UInt8) (i : Nat) : Except (Nat × Nat) Nat :=
  if tx l i = t then .ok (nxt l i) else .error (3, i)

def andThen (r : Except (Nat × Nat) Nat) (f : Nat → Except (Nat × Nat) Nat) : Except (Nat × Nat) Nat :=
  match r with
  | .ok j => f j
  | .error e => .error e

/-- What stands in a FACTOR behind its first token: k its kind, i the place behind that token; R reads a RULE, F a FACTOR, I goes on with a list, W reads a RULE in which it may stand. -/
def parts (l : List UInt8) (k i : Nat) (R F I W : Nat → Except (Nat × Nat) Nat) : Except (Nat × Nat) Nat :=
  if k = 5 then F i
  else if k = 6 then andThen (R i) (expect l [41])
  else if k = 7 then andThen (R i) (expect l [93])
  else if k = 8 then (if tx l i = [125] then .ok (nxt l i) else andThen (R i) I)
  else if k = 9 then andThen (andThen (R i) (expect l [116, 104, 101, 110])) fun j => andThen (andThen (R j) (expect l [101, 108, 115, 101])) F
  else if k = 10 ∨ k = 11 ∨ k = 12 then andThen (expect l [40] i) fun j => andThen (R j) (expect l [41])
  else if k = 13 ∨ k = 14 then andThen (expect l [40] i) fun j => andThen (andThen (R j) (expect l [44])) fun j => andThen (R j) (expect l [41])
  else if k = 15 ∨ k = 16 then andThen (expect l [40] i) fun j => andThen (andThen (R j) (expect l [44])) fun j => andThen (W j) (expect l [41])
  else .ok i

/-- The reader, with fuel: by the tag a RULE (0), a SUM (1), a TERM (2), a FACTOR (3), the rest of a SUM (4), of a TERM (5), of a list (6): from a place to the place behind, or the error and its place. -/
def P (l : List UInt8) : Nat → Nat → Nat → Nat → Nat → Except (Nat × Nat) Nat
  | 0, _, _, _, _ => .error (0, 0)
  | n + 1, tag, deep, its, i =>
    if tag = 0 then andThen (P l n 1 deep its i) fun j => if oneB l j [60, 61] = true then P l n 1 deep its (nxt l j) else .ok j
    else if tag = 1 then andThen (P l n 2 deep its i) fun j => P l n 4 deep its j
    else if tag = 2 then andThen (P l n 3 deep its i) fun j => P l n 5 deep its j
    else if tag = 3 then
      (if kind l i its = 0 then .error (3, i) else if deep = 20 then .error (4, i)
      else parts l (kind l i its) (nxt l i) (fun j => P l n 0 (deep + 1) its j) (fun j => P l n 3 (deep + 1) its j) (fun j => P l n 6 (deep + 1) its j) (fun j => P l n 0 (deep + 1) (its + 1) j))
    else if tag = 4 then (if oneB l i [43, 45] = true then andThen (P l n 2 deep its (nxt l i)) fun j => P l n 4 deep its j else .ok i)
    else if tag = 5 then (if oneB l i [42, 47] = true then andThen (P l n 3 deep its (nxt l i)) fun j => P l n 5 deep its j else .ok i)
    else (if tx l i = [44] then andThen (P l n 0 deep its (nxt l i)) fun j => P l n 6 deep its j else expect l [125] i)

def endOf (l : List UInt8) : Except (Nat × Nat) Nat → Nat × Nat
  | .ok j => if (tok (l.drop j)).1 = 0 then (0, 0) else (3, j)
  | .error e => e

/-- Check: the error and its place. -/
def check (l : List UInt8) : Nat × Nat :=
  if 200 < l.length then (2, 0)
  else endOf l (P l (8 * l.length + 5) 0 0 0 (skip l 0))

/-- How much fuel is enough. -/
def nd (tag : Nat) : Nat := if tag = 0 then 4 else if tag = 1 then 3 else if tag = 2 then 2 else 1

theorem andThen_ok {r : Except (Nat × Nat) Nat} {f : Nat → Except (Nat × Nat) Nat} {k : Nat} (h : andThen r f = .ok k) : ∃ j, r = .ok j ∧ f j = .ok k := by
  cases r with
  | ok j => exact ⟨j, rfl, h⟩
  | error e => cases h

theorem expect_ok {l t : List UInt8} {i k : Nat} (h : expect l t i = .ok k) : tx l i = t ∧ k = nxt l i := by
  unfold expect at h
  split at h
  · rename_i h1; cases h; exact ⟨h1, rfl⟩
  · cases h

theorem tx_pos {l : List UInt8} {i : Nat} (h : tx l i ≠ []) : 1 ≤ (tok (l.drop i)).2 := by
  rcases Nat.eq_zero_or_pos (tok (l.drop i)).2 with h0 | h0
  · exfalso; apply h; rw [tx, h0]; rfl
  · exact h0

theorem nxt_gt {l : List UInt8} {i : Nat} (h : 1 ≤ (tok (l.drop i)).2) : i + 1 ≤ nxt l i := by
  have := skip_ge l (i + (tok (l.drop i)).2)
  unfold nxt; omega

theorem expect_prog {l t : List UInt8} {i k : Nat} (h : expect l t i = .ok k) (ht : t ≠ []) (hi : i ≤ l.length) : i + 1 ≤ k ∧ k ≤ l.length := by
  obtain ⟨h1, rfl⟩ := expect_ok h
  exact ⟨nxt_gt (tx_pos (by rw [h1]; exact ht)), nxt_le l i hi⟩

theorem one_pos {l : List UInt8} {i : Nat} {signs : List UInt8} (h : oneB l i signs = true) : 1 ≤ (tok (l.drop i)).2 := by
  apply tx_pos
  intro h0
  rw [oneB, h0] at h
  cases h

theorem lead_pos (p : UInt8 → Bool) (c : UInt8) (r : List UInt8) (h : p c = true) : 1 ≤ lead p (c :: r) := by
  simp [lead, h]

theorem tok_pos (l : List UInt8) (h : 2 ≤ (tok l).1) : 1 ≤ (tok l).2 := by
  cases l with
  | nil => simp [tok] at h
  | cons c r =>
    rw [tok_cons (c :: r) c r rfl] at h ⊢
    by_cases h1 : isDig c = true
    · rw [if_pos h1] at h ⊢
      have := lead_pos isDig c r h1
      split at h
      · rename_i h2; rw [if_pos h2]; exact this
      · simp at h
    · rw [if_neg h1] at h ⊢
      by_cases h2 : isLet c = true
      · rw [if_pos h2] at h ⊢
        have := lead_pos isAl c r (by unfold isAl alB; unfold isLet at h2; rw [h2]; rfl)
        split
        · exact this
        · rename_i h3
          rw [if_neg h3] at h
          split
          · rename_i h4; rw [if_pos h4] at h; simp at h
          · exact this
      · rw [if_neg h2] at h ⊢
        split
        · rename_i h3
          rw [if_pos h3] at h
          cases hw : wordOf (c :: r) with
          | none => rw [hw] at h; simp [wordTok] at h
          | some n => simp [wordTok]
        · rename_i h3
          rw [if_neg h3] at h
          split
          · simp
          · rename_i h4; rw [if_neg h4] at h; simp at h

theorem kind_pos {l : List UInt8} {i its : Nat} (h : kind l i its ≠ 0) : 1 ≤ (tok (l.drop i)).2 := by
  apply tok_pos
  unfold kind kindOf at h
  split at h
  · rename_i h1; omega
  · split at h
    · omega
    · split at h
      · omega
      · split at h
        · omega
        · exact absurd rfl h

theorem parts_prog {l : List UInt8} {k i j : Nat} {R F I W : Nat → Except (Nat × Nat) Nat} (h : parts l k i R F I W = .ok j) (hi : i ≤ l.length)
    (hR : ∀ a b, R a = .ok b → a ≤ l.length → a ≤ b ∧ b ≤ l.length) (hF : ∀ a b, F a = .ok b → a ≤ l.length → a ≤ b ∧ b ≤ l.length)
    (hI : ∀ a b, I a = .ok b → a ≤ l.length → a ≤ b ∧ b ≤ l.length) (hW : ∀ a b, W a = .ok b → a ≤ l.length → a ≤ b ∧ b ≤ l.length) : i ≤ j ∧ j ≤ l.length := by
  have hE : ∀ (t : List UInt8) (a b : Nat), t ≠ [] → expect l t a = .ok b → a ≤ l.length → a ≤ b ∧ b ≤ l.length := fun t a b ht h ha => by
    have := expect_prog h ht ha; omega
  unfold parts at h
  by_cases h5 : k = 5
  · rw [if_pos h5] at h; exact hF _ _ h hi
  rw [if_neg h5] at h
  by_cases h6 : k = 6
  · rw [if_pos h6] at h
    obtain ⟨a, h1, h2⟩ := andThen_ok h
    have a1 := hR _ _ h1 hi
    have a2 := hE _ _ _ (by simp) h2 a1.2
    omega
  rw [if_neg h6] at h
  by_cases h7 : k = 7
  · rw [if_pos h7] at h
    obtain ⟨a, h1, h2⟩ := andThen_ok h
    have a1 := hR _ _ h1 hi
    have a2 := hE _ _ _ (by simp) h2 a1.2
    omega
  rw [if_neg h7] at h
  by_cases h8 : k = 8
  · rw [if_pos h8] at h
    by_cases hb : tx l i = [125]
    · rw [if_pos hb] at h
      cases h
      have := nxt_gt (tx_pos (l := l) (i := i) (by rw [hb]; simp))
      exact ⟨by omega, nxt_le l i hi⟩
    · rw [if_neg hb] at h
      obtain ⟨a, h1, h2⟩ := andThen_ok h
      have a1 := hR _ _ h1 hi
      have a2 := hI _ _ h2 a1.2
      omega
  rw [if_neg h8] at h
  by_cases h9 : k = 9
  · rw [if_pos h9] at h
    obtain ⟨b, h1, h2⟩ := andThen_ok h
    obtain ⟨a, h3, h4⟩ := andThen_ok h1
    obtain ⟨d, h5, h6⟩ := andThen_ok h2
    obtain ⟨c, h7, h8⟩ := andThen_ok h5
    have a1 := hR _ _ h3 hi
    have a2 := hE _ _ _ (by simp) h4 a1.2
    have a3 := hR _ _ h7 a2.2
    have a4 := hE _ _ _ (by simp) h8 a3.2
    have a5 := hF _ _ h6 a4.2
    omega
  rw [if_neg h9] at h
  by_cases h10 : k = 10 ∨ k = 11 ∨ k = 12
  · rw [if_pos h10] at h
    obtain ⟨a, h1, h2⟩ := andThen_ok h
    obtain ⟨b, h3, h4⟩ := andThen_ok h2
    have a1 := hE _ _ _ (by simp) h1 hi
    have a2 := hR _ _ h3 a1.2
    have a3 := hE _ _ _ (by simp) h4 a2.2
    omega
  rw [if_neg h10] at h
  by_cases h13 : k = 13 ∨ k = 14
  · rw [if_pos h13] at h
    obtain ⟨a, h1, h2⟩ := andThen_ok h
    obtain ⟨c, h3, h4⟩ := andThen_ok h2
    obtain ⟨b, h5, h6⟩ := andThen_ok h3
    obtain ⟨d, h7, h8⟩ := andThen_ok h4
    have a1 := hE _ _ _ (by simp) h1 hi
    have a2 := hR _ _ h5 a1.2
    have a3 := hE _ _ _ (by simp) h6 a2.2
    have a4 := hR _ _ h7 a3.2
    have a5 := hE _ _ _ (by simp) h8 a4.2
    omega
  rw [if_neg h13] at h
  by_cases h15 : k = 15 ∨ k = 16
  · rw [if_pos h15] at h
    obtain ⟨a, h1, h2⟩ := andThen_ok h
    obtain ⟨c, h3, h4⟩ := andThen_ok h2
    obtain ⟨b, h5, h6⟩ := andThen_ok h3
    obtain ⟨d, h7, h8⟩ := andThen_ok h4
    have a1 := hE _ _ _ (by simp) h1 hi
    have a2 := hR _ _ h5 a1.2
    have a3 := hE _ _ _ (by simp) h6 a2.2
    have a4 := hW _ _ h7 a3.2
    have a5 := hE _ _ _ (by simp) h8 a4.2
    omega
  rw [if_neg h15] at h
  cases h
  exact ⟨Nat.le_refl _, hi⟩

/-- The reader goes forth, and not beyond the text. -/
theorem P_prog (l : List UInt8) : ∀ (n tag deep its i j : Nat), P l n tag deep its i = .ok j → i ≤ l.length → i + (if tag ≤ 3 then 1 else 0) ≤ j ∧ j ≤ l.length := by
  intro n
  induction n with
  | zero => intro tag deep its i j h; simp [P] at h
  | succ n ih =>
    intro tag deep its i j h hi
    have ih0 : ∀ (tag deep its i j : Nat), P l n tag deep its i = .ok j → i ≤ l.length → i ≤ j ∧ j ≤ l.length := fun tag deep its i j h hi => by
      have := ih tag deep its i j h hi
      omega
    have ih1 : ∀ (tag deep its i j : Nat), tag ≤ 3 → P l n tag deep its i = .ok j → i ≤ l.length → i + 1 ≤ j ∧ j ≤ l.length := fun tag deep its i j ht h hi => by
      have := ih tag deep its i j h hi
      rw [if_pos ht] at this; exact this
    rw [P] at h
    by_cases t0 : tag = 0
    · rw [if_pos t0] at h
      obtain ⟨a, h1, h2⟩ := andThen_ok h
      have a1 := ih1 _ _ _ _ _ (by omega) h1 hi
      subst t0
      split at h2
      · have a2 := nxt_le l a a1.2
        have a3 := ih0 _ _ _ _ _ h2 a2
        have a4 := skip_ge l (a + (tok (l.drop a)).2)
        have a5 : nxt l a = skip l (a + (tok (l.drop a)).2) := rfl
        simp; omega
      · cases h2; simp; omega
    rw [if_neg t0] at h
    by_cases t1 : tag = 1
    · rw [if_pos t1] at h
      obtain ⟨a, h1, h2⟩ := andThen_ok h
      have a1 := ih1 _ _ _ _ _ (by omega) h1 hi
      have a2 := ih0 _ _ _ _ _ h2 a1.2
      subst t1; simp; omega
    rw [if_neg t1] at h
    by_cases t2 : tag = 2
    · rw [if_pos t2] at h
      obtain ⟨a, h1, h2⟩ := andThen_ok h
      have a1 := ih1 _ _ _ _ _ (by omega) h1 hi
      have a2 := ih0 _ _ _ _ _ h2 a1.2
      subst t2; simp; omega
    rw [if_neg t2] at h
    by_cases t3 : tag = 3
    · rw [if_pos t3] at h
      by_cases hk : kind l i its = 0
      · rw [if_pos hk] at h; cases h
      · rw [if_neg hk] at h
        split at h
        · cases h
        · have a1 := nxt_gt (kind_pos hk)
          have a2 := parts_prog h (nxt_le l i hi) (fun a b => ih0 _ _ _ a b) (fun a b => ih0 _ _ _ a b) (fun a b => ih0 _ _ _ a b) (fun a b => ih0 _ _ _ a b)
          subst t3; simp; omega
    rw [if_neg t3] at h
    have ht : ¬ tag ≤ 3 := by omega
    rw [if_neg ht]
    by_cases t4 : tag = 4
    · rw [if_pos t4] at h
      split at h
      · rename_i ho
        obtain ⟨a, h1, h2⟩ := andThen_ok h
        have a0 := nxt_gt (one_pos ho)
        have a1 := ih0 _ _ _ _ _ h1 (nxt_le l i hi)
        have a2 := ih0 _ _ _ _ _ h2 a1.2
        omega
      · cases h; omega
    rw [if_neg t4] at h
    by_cases t5 : tag = 5
    · rw [if_pos t5] at h
      split at h
      · rename_i ho
        obtain ⟨a, h1, h2⟩ := andThen_ok h
        have a0 := nxt_gt (one_pos ho)
        have a1 := ih0 _ _ _ _ _ h1 (nxt_le l i hi)
        have a2 := ih0 _ _ _ _ _ h2 a1.2
        omega
      · cases h; omega
    rw [if_neg t5] at h
    split at h
    · rename_i ho
      obtain ⟨a, h1, h2⟩ := andThen_ok h
      have a0 := nxt_gt (tx_pos (l := l) (i := i) (by rw [ho]; simp))
      have a1 := ih0 _ _ _ _ _ h1 (nxt_le l i hi)
      have a2 := ih0 _ _ _ _ _ h2 a1.2
      omega
    · have := expect_prog h (by simp) hi
      omega
end Lard
end Go.Proofs.YtpekpdimdelncaaGreatDoor
