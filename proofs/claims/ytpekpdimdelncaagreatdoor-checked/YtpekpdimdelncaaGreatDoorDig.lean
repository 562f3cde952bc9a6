/- Rows of digits: the document's reading and the program's are one: no Go, no program. -/
import Derived.Test.YtpekpdimdelncaaGreatDoorSpec
namespace Go.Proofs.YtpekpdimdelncaaGreatDoor
namespace Lard

/-- The digits' number, from a number on, if none of the numbers on the way is too great. -/
def digFold : List UInt8 → Nat → Option Nat
  | [], n => some n
  | c :: r, n => if isDig c = true then (if (9223372036854775807 - (c.toNat - 48)) / 10 < n then none else digFold r (10 * n + (c.toNat - 48))) else none

/-- The document's reading of digits. -/
def refDig (l : List UInt8) : Option Nat :=
  if l = [] ∨ (l.head? = some 48 ∧ 1 < l.length) then none else digFold l 0

/-- The number that digits say. -/
def val : List UInt8 → Nat → Nat
  | [], n => n
  | c :: r, n => val r (10 * n + (c.toNat - 48))

theorem val_ge : ∀ (l : List UInt8) (n : Nat), n ≤ val l n := by
  intro l
  induction l with
  | nil => intro n; exact Nat.le_refl _
  | cons c r ih => intro n; have := ih (10 * n + (c.toNat - 48)); simp only [val]; omega

theorem dig_bd {c : UInt8} (h : isDig c = true) : 48 ≤ c.toNat ∧ c.toNat ≤ 57 := by
  simp [isDig, digB] at h; omega

theorem digFold_eq : ∀ (l : List UInt8) (n : Nat), (∀ c ∈ l, isDig c = true) → n ≤ 9223372036854775807 → digFold l n = if val l n ≤ 9223372036854775807 then some (val l n) else none := by
  intro l
  induction l with
  | nil => intro n _ h; simp [digFold, val, h]
  | cons c r ih =>
    intro n hd hn
    have hc := hd c (by simp)
    have hb := dig_bd hc
    have hv := val_ge r (10 * n + (c.toNat - 48))
    have e1 : val (c :: r) n = val r (10 * n + (c.toNat - 48)) := rfl
    have e2 : digFold (c :: r) n = if isDig c = true then (if (9223372036854775807 - (c.toNat - 48)) / 10 < n then none else digFold r (10 * n + (c.toNat - 48))) else none := rfl
    rw [e1, e2, if_pos hc]
    by_cases h : (9223372036854775807 - (c.toNat - 48)) / 10 < n
    · have hg : ¬ val r (10 * n + (c.toNat - 48)) ≤ 9223372036854775807 := by omega
      rw [if_pos h, if_neg hg]
    · rw [if_neg h]
      exact ih _ (fun x hx => hd x (by simp [hx])) (by omega)

theorem M_eq : ∀ (l : List UInt8) (n : Nat), (∀ c ∈ l, isDig c = true) → n ≤ 18446744073709551615 → Lib.parseUintM 18446744073709551615 n l = if val l n ≤ 18446744073709551615 then .ok (val l n) else .range := by
  intro l
  induction l with
  | nil =>
    intro n _ h
    have e1 : val [] n = n := rfl
    rw [e1, if_pos h]; rfl
  | cons c r ih =>
    intro n hd hn
    have hc := hd c (by simp)
    have hb := dig_bd hc
    have hv := val_ge r (10 * n + (c.toNat - 48))
    have e1 : val (c :: r) n = val r (10 * n + (c.toNat - 48)) := rfl
    rw [e1, Lib.parseUintM, if_pos hb, show n * 10 + (c.toNat - 48) = 10 * n + (c.toNat - 48) by omega]
    by_cases h1 : 1844674407370955162 ≤ n
    · have hg : ¬ val r (10 * n + (c.toNat - 48)) ≤ 18446744073709551615 := by omega
      rw [if_pos h1, if_neg hg]
    · rw [if_neg h1]
      by_cases h2 : 18446744073709551615 < 10 * n + (c.toNat - 48)
      · have hg : ¬ val r (10 * n + (c.toNat - 48)) ≤ 18446744073709551615 := by omega
        rw [if_pos h2, if_neg hg]
      · rw [if_neg h2]
        exact ih _ (fun x hx => hd x (by simp [hx])) (by omega)

theorem val_snoc (l : List UInt8) (c : UInt8) (n : Nat) : val (l ++ [c]) n = 10 * val l n + (c.toNat - 48) := by
  induction l generalizing n with
  | nil => rfl
  | cons d r ih => exact ih _

/-- Digits of which the first is not nought are the way in which their number is written. -/
theorem dec_val : ∀ (l : List UInt8), (∀ c ∈ l, isDig c = true) → l ≠ [] → (l.head? ≠ some 48 ∨ l.length = 1) → Lib.decDigits (val l 0) = l := by
  intro l
  induction h : l.length using Nat.strongRecOn generalizing l with
  | ind k ih =>
    intro hd hne hh
    obtain ⟨r, c, rfl⟩ : ∃ r c, l = r ++ [c] := ⟨l.dropLast, l.getLast hne, (List.dropLast_concat_getLast hne).symm⟩
    have hc := dig_bd (hd c (by simp))
    have hcc : UInt8.ofNat c.toNat = c := by simp
    cases r with
    | nil =>
      have e : val ([] ++ [c]) 0 = c.toNat - 48 := by rw [val_snoc]; simp [val]
      rw [e, Lib.decDigits, dif_pos (by omega), show 48 + (c.toNat - 48) = c.toNat by omega, hcc]; rfl
    | cons d t =>
      have hd0 := dig_bd (hd d (by simp))
      have hn48 : d ≠ 48 := by
        intro e
        rcases hh with hh | hh
        · apply hh; rw [e]; rfl
        · simp at h; omega
      have hpos : 1 ≤ val (d :: t) 0 := by
        have e1 : val (d :: t) 0 = val t (10 * 0 + (d.toNat - 48)) := rfl
        have := val_ge t (10 * 0 + (d.toNat - 48))
        have hne' : d.toNat ≠ 48 := fun e => hn48 (UInt8.toNat_inj.1 e)
        omega
      have hrec := ih (d :: t).length (by rw [← h]; simp) (d :: t) rfl (fun x hx => hd x (List.mem_append_left _ hx)) (by simp) (Or.inl (by simpa using hn48))
      rw [val_snoc, Lib.decDigits, dif_neg (by omega)]
      rw [show (10 * val (d :: t) 0 + (c.toNat - 48)) / 10 = val (d :: t) 0 by omega, show (10 * val (d :: t) 0 + (c.toNat - 48)) % 10 = c.toNat - 48 by omega, hrec, show 48 + (c.toNat - 48) = c.toNat by omega, hcc]

theorem dec_head : ∀ u : Nat, 10 ≤ u → ∃ c r, Lib.decDigits u = c :: r ∧ c ≠ 48 := by
  intro u
  induction u using Nat.strongRecOn with
  | ind u ih =>
    intro h
    rw [Lib.decDigits, dif_neg (by omega)]
    by_cases h1 : u / 10 < 10
    · rw [Lib.decDigits, dif_pos h1]
      refine ⟨_, _, rfl, ?_⟩
      intro e
      have := congrArg UInt8.toNat e
      rw [UInt8.toNat_ofNat'] at this
      have e48 : (48 : UInt8).toNat = 48 := rfl
      rw [e48] at this
      omega
    · obtain ⟨c, r, hc, hne⟩ := ih (u / 10) (by omega) (by omega)
      rw [hc]
      exact ⟨c, _, rfl, hne⟩

/-- Both readings of a row of digits are one. -/
theorem dig_same (l : List UInt8) (hd : ∀ c ∈ l, isDig c = true) (hne : l ≠ []) : (refDig l).isSome = (numOf l).isSome := by
  have hp : (2 : Nat) ^ (64 - 1) = 9223372036854775808 := by decide
  have hq : (2 : Nat) ^ 64 - 1 = 18446744073709551615 := by decide
  obtain ⟨c, r, rfl⟩ : ∃ c r, l = c :: r := by
    cases l with
    | nil => exact absurd rfl hne
    | cons c r => exact ⟨c, r, rfl⟩
  have hc := dig_bd (hd c (by simp))
  have hM := M_eq (c :: r) 0 hd (by omega)
  have hF := digFold_eq (c :: r) 0 hd (by omega)
  have hdec := dec_val (c :: r) hd (by simp)
  generalize val (c :: r) 0 = v at hM hF hdec
  have hpi : Lib.parseIntB 64 (c :: r) = if v ≤ 9223372036854775807 then .ok (v : Int) else .range := by
    simp only [Lib.parseIntB, hp]
    rw [if_neg (by omega), Lib.parseUintB, if_neg (by simp), hq, hM]
    by_cases h1 : v ≤ 18446744073709551615
    · rw [if_pos h1]
      simp only
      by_cases h2 : v ≤ 9223372036854775807
      · rw [if_neg (by omega), if_neg (by omega), if_pos h2, if_neg (by omega)]
      · rw [if_pos (by omega), if_neg h2]
    · rw [if_neg h1, if_neg (by omega)]
  unfold numOf refDig
  rw [hpi]
  by_cases h2 : v ≤ 9223372036854775807
  · rw [if_pos h2] at hF ⊢
    simp only
    have hit : Lib.itoa (v : Int) = Lib.decDigits v := by unfold Lib.itoa; rw [if_neg (by omega)]; simp
    rw [hit]
    by_cases hz : c = 48 ∧ 1 < (c :: r).length
    · rw [if_pos (Or.inr ⟨by rw [hz.1]; rfl, hz.2⟩)]
      have hne2 : ¬ (Lib.decDigits v == c :: r) = true := by
        intro e
        have e := eq_of_beq e
        by_cases h10 : v < 10
        · rw [Lib.decDigits, dif_pos h10] at e
          have := congrArg List.length e
          simp only [List.length_cons, List.length_nil] at this
          have h3 := hz.2
          simp only [List.length_cons] at h3
          omega
        · obtain ⟨c', r', hc', hne'⟩ := dec_head v (by omega)
          rw [hc'] at e
          injection e with e1 e2
          exact hne' (e1.trans hz.1)
      rw [if_neg hne2]; rfl
    · rw [if_neg (by simp at hz ⊢; exact hz), hF]
      have := hdec (by simp at hz ⊢; by_cases e : c = 48; exact Or.inr (hz e); exact Or.inl e)
      rw [this]; simp
  · rw [if_neg h2] at hF ⊢
    by_cases hz : (c :: r) = [] ∨ ((c :: r).head? = some 48 ∧ 1 < (c :: r).length)
    · rw [if_pos hz]; rfl
    · rw [if_neg hz, hF]; rfl
end Lard
end Go.Proofs.YtpekpdimdelncaaGreatDoor
