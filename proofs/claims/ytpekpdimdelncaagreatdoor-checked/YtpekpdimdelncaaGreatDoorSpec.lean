/- Plain functions on bytes, of which the walks over the rules' tokens speak: no Go, no program. -/
import Derived.Lib.Strings
import Derived.Lib.ParseIntB
import Derived.Lib.ItoaNum
import Derived.Lib.Bytealg
import Derived.RowKit
namespace Go.Proofs.YtpekpdimdelncaaGreatDoor
namespace Lard

def digB (c : Int) : Bool := decide (48 ≤ c) && decide (c ≤ 57)
def letB (c : Int) : Bool := decide (97 ≤ c) && decide (c ≤ 122)
def alB (c : Int) : Bool := letB c || digB c
def isDig (c : UInt8) : Bool := digB c.toNat
def isLet (c : UInt8) : Bool := letB c.toNat
def isAl (c : UInt8) : Bool := alB c.toNat

/-- How many bytes of a row, from its first on, are such. -/
def lead (p : UInt8 → Bool) : List UInt8 → Nat
  | [] => 0
  | c :: r => if p c = true then lead p r + 1 else 0

theorem lead_le (p : UInt8 → Bool) : ∀ l, lead p l ≤ l.length := by
  intro l
  induction l with
  | nil => simp [lead]
  | cons c r ih => simp only [lead]; split <;> simp <;> omega

theorem lead_step (p : UInt8 → Bool) : ∀ (l : List UInt8) (k : Nat) (h : k < l.length), k ≤ lead p l → p l[k] = true → k + 1 ≤ lead p l := by
  intro l
  induction l with
  | nil => intro k h; simp at h
  | cons c r ih =>
    intro k h hk hp
    simp only [lead] at hk ⊢
    cases k with
    | zero => simp at hp; rw [if_pos hp]; omega
    | succ k =>
      by_cases hc : p c = true
      · rw [if_pos hc] at hk ⊢
        have := ih k (by simpa using h) (by omega) (by simpa using hp)
        omega
      · rw [if_neg hc] at hk; omega

theorem lead_stop (p : UInt8 → Bool) : ∀ (l : List UInt8) (k : Nat), k ≤ lead p l → (∀ h : k < l.length, p l[k] = false) → lead p l = k := by
  intro l
  induction l with
  | nil => intro k hk _; simp [lead] at hk ⊢; omega
  | cons c r ih =>
    intro k hk hs
    simp only [lead] at hk ⊢
    cases k with
    | zero =>
      have := hs (by simp)
      simp at this
      simp [this]
    | succ k =>
      by_cases hc : p c = true
      · rw [if_pos hc] at hk ⊢
        rw [ih k (by omega) (fun h => hs (Nat.succ_lt_succ h))]
      · rw [if_neg hc] at hk; omega

def termB (l : List UInt8) : Bool :=
  l == [105, 102] || l == [116, 104, 101, 110] || l == [101, 108, 115, 101] || l == [105, 116] || l == [116, 114, 121] || l == [109, 105, 110] || l == [109, 97, 120] || l == [115, 105, 122, 101] || l == [97, 116] || l == [101, 97, 99, 104] || l == [115, 111, 109, 101] || l == [115, 117, 109] || l == [119, 111, 114, 100]

/-- The number that a row of bytes is as it is written, if it is one. -/
def numOf (l : List UInt8) : Option Int :=
  match Lib.parseIntB 64 l with
  | .ok v => if Lib.itoa v == l then some v else none
  | _ => none

def wordC (c : UInt8) : Bool := decide (32 ≤ (c.toNat : Int)) && decide ((c.toNat : Int) ≤ 126)

/-- Of a text from behind its first quote, with so much room: how many bytes stand ahead of the second quote. -/
def quote : Nat → List UInt8 → Option Nat
  | 0, _ => none
  | _ + 1, [] => none
  | n + 1, c :: r => if c = 39 then some 0 else if wordC c = true then (quote n r).map (· + 1) else none

/-- How many bytes the word has that a text begins with, without its quotes. -/
def wordOf : List UInt8 → Option Nat
  | c :: r => if c = 39 then quote 31 r else none
  | [] => none

def signB (c : UInt8) : Bool := decide (0 ≤ Lib.indexByte [40, 41, 91, 93, 123, 125, 44, 43, 45, 42, 47, 60, 61] c)

def wordTok : Option Nat → Nat × Nat
  | some n => (3, n + 2)
  | none => (1, 0)

/-- The token that a text begins with: its kind (0 the end, 1 bad, 2 digits, 3 a word, 4 a name, 5 a term, 6 a sign) and how many bytes it has. -/
def tok : List UInt8 → Nat × Nat
  | [] => (0, 0)
  | c :: r =>
    if isDig c = true then (if (numOf ((c :: r).take (lead isDig (c :: r)))).isSome then (2, lead isDig (c :: r)) else (1, 0))
    else if isLet c = true then (if termB ((c :: r).take (lead isAl (c :: r))) = true then (5, lead isAl (c :: r)) else if 8 < lead isAl (c :: r) then (1, 0) else (4, lead isAl (c :: r)))
    else if c = 39 then wordTok (wordOf (c :: r))
    else if signB c = true then (6, 1) else (1, 0)

theorem tok_cons (l : List UInt8) (c : UInt8) (r : List UInt8) (h : l = c :: r) : tok l =
    if isDig c = true then (if (numOf (l.take (lead isDig l))).isSome then (2, lead isDig l) else (1, 0))
    else if isLet c = true then (if termB (l.take (lead isAl l)) = true then (5, lead isAl l) else if 8 < lead isAl l then (1, 0) else (4, lead isAl l))
    else if c = 39 then wordTok (wordOf l)
    else if signB c = true then (6, 1) else (1, 0) := by
  subst h; rfl

def blank (c : UInt8) : Bool := (c.toNat : Int) == 32

/-- The first place from i on at which no blank stands. -/
def skip (l : List UInt8) (i : Nat) : Nat := i + lead blank (l.drop i)

theorem skip_le (l : List UInt8) (i : Nat) (h : i ≤ l.length) : skip l i ≤ l.length := by
  have := lead_le blank (l.drop i)
  simp only [List.length_drop] at this
  unfold skip; omega

theorem skip_ge (l : List UInt8) (i : Nat) : i ≤ skip l i := Nat.le_add_right _ _

theorem skip_step (l : List UInt8) (k : Nat) (h : k < l.length) (hb : blank l[k] = true) : skip l (k + 1) = skip l k := by
  unfold skip
  rw [List.drop_eq_getElem_cons h]
  simp only [lead, hb, if_true]
  omega

theorem skip_stop (l : List UInt8) (k : Nat) (h : ∀ h : k < l.length, blank l[k] = false) : skip l k = k := by
  unfold skip
  by_cases hk : k < l.length
  · rw [List.drop_eq_getElem_cons hk]
    simp [lead, h hk]
  · rw [List.drop_eq_nil_of_le (by omega)]
    simp [lead]

theorem skip_skip (l : List UInt8) (i : Nat) (hi : i ≤ l.length) : skip l (skip l i) = skip l i := by
  apply skip_stop
  intro h
  have hk : lead blank (l.drop i) < (l.drop i).length := by
    simp only [List.length_drop]; unfold skip at h; omega
  by_cases hb : blank l[skip l i] = true
  · exfalso
    have := lead_step blank (l.drop i) _ hk (Nat.le_refl _) (by simpa [skip] using hb)
    omega
  · simpa using hb

/-- Where the reading of a word stands, behind k bytes. -/
def QuoteAt (l : List UInt8) (k : Nat) : Prop := 1 ≤ k ∧ k ≤ 32 ∧ wordOf l = (quote (32 - k) (l.drop k)).map (· + (k - 1))

theorem quoteAt_start (l : List UInt8) (h : Lib.hasPrefix l [39] = true) : QuoteAt l 1 := by
  refine ⟨by omega, by omega, ?_⟩
  cases l with
  | nil => simp [Lib.hasPrefix] at h
  | cons c r =>
    simp [Lib.hasPrefix] at h
    subst h
    simp [wordOf]

theorem wordOf_none (l : List UInt8) (h : Lib.hasPrefix l [39] = false) : wordOf l = none := by
  cases l with
  | nil => rfl
  | cons c r =>
    simp only [wordOf]
    rw [if_neg (fun e => by subst e; simp [Lib.hasPrefix] at h)]

theorem quote_end {l : List UInt8} {k : Nat} (h : QuoteAt l k) (hk : l.length ≤ k ∨ 31 < k) : wordOf l = none := by
  obtain ⟨h1, h2, h3⟩ := h
  rw [h3]
  rcases hk with hk | hk
  · rw [List.drop_eq_nil_of_le hk]
    cases 32 - k <;> rfl
  · rw [show 32 - k = 0 by omega]
    rfl

theorem quote_hit {l : List UInt8} {k : Nat} (h : QuoteAt l k) (hk : k < l.length) (hk' : k ≤ 31) (hc : l[k] = 39) : wordOf l = some (k - 1) := by
  obtain ⟨h1, h2, h3⟩ := h
  rw [h3, List.drop_eq_getElem_cons hk, show 32 - k = (31 - k) + 1 by omega]
  simp [quote, hc]

theorem quote_bad {l : List UInt8} {k : Nat} (h : QuoteAt l k) (hk : k < l.length) (hk' : k ≤ 31) (hc : ¬ l[k] = 39) (hw : wordC l[k] = false) : wordOf l = none := by
  obtain ⟨h1, h2, h3⟩ := h
  rw [h3, List.drop_eq_getElem_cons hk, show 32 - k = (31 - k) + 1 by omega]
  simp [quote, hc, hw]

theorem quote_next {l : List UInt8} {k : Nat} (h : QuoteAt l k) (hk : k < l.length) (hk' : k ≤ 31) (hc : ¬ l[k] = 39) (hw : wordC l[k] = true) : QuoteAt l (k + 1) := by
  obtain ⟨h1, h2, h3⟩ := h
  refine ⟨by omega, by omega, ?_⟩
  rw [h3, List.drop_eq_getElem_cons hk, show 32 - k = (31 - k) + 1 by omega, show 32 - (k + 1) = 31 - k by omega]
  simp only [quote, hc, if_false, hw, if_true, Option.map_map]
  congr 1
  funext x
  simp
  omega

theorem quote_le : ∀ (n : Nat) (l : List UInt8) (k : Nat), quote n l = some k → k < l.length := by
  intro n
  induction n with
  | zero => intro l k h; simp [quote] at h
  | succ n ih =>
    intro l k h
    cases l with
    | nil => simp [quote] at h
    | cons c r =>
      simp only [quote] at h
      split at h
      · simp at h; subst h; simp
      · split at h
        · cases hq : quote n r with
          | none => rw [hq] at h; simp at h
          | some m => rw [hq] at h; simp at h; subst h; have := ih r m hq; simp; omega
        · simp at h

theorem wordOf_le {l : List UInt8} {n : Nat} (h : wordOf l = some n) : n + 2 ≤ l.length := by
  cases l with
  | nil => simp [wordOf] at h
  | cons c r =>
    simp only [wordOf] at h
    split at h
    · have := quote_le _ _ _ h; simp; omega
    · simp at h

theorem numOf_none (l : List UInt8) (h : ∀ v, Lib.parseIntB 64 l ≠ .ok v) : numOf l = none := by
  unfold numOf
  split
  · next v hv => exact absurd hv (h v)
  · rfl

theorem parse_range (l : List UInt8) (v : Int) (h : Lib.parseIntB 64 l = .ok v) : -9223372036854775808 ≤ v ∧ v ≤ 9223372036854775807 := by
  have hp : (2 : Nat) ^ (64 - 1) = 9223372036854775808 := by decide
  cases l with
  | nil => simp [Lib.parseIntB] at h
  | cons c r =>
    simp only [Lib.parseIntB, hp] at h
    cases hu : Lib.parseUintB 64 (if c.toNat = 43 ∨ c.toNat = 45 then r else c :: r) with
    | ok u =>
      rw [hu] at h
      simp only at h
      by_cases h1 : ¬ c.toNat = 45 ∧ 9223372036854775808 ≤ u
      · rw [if_pos h1] at h; cases h
      · rw [if_neg h1] at h
        by_cases h2 : c.toNat = 45 ∧ 9223372036854775808 < u
        · rw [if_pos h2] at h; cases h
        · rw [if_neg h2] at h
          injection h with h
          subst h
          split <;> omega
    | _ => rw [hu] at h; cases h

/-- The bytes of the token at a place. -/
def tx (l : List UInt8) (i : Nat) : List UInt8 := (l.drop i).take (tok (l.drop i)).2

/-- The place of the token behind the one at a place. -/
def nxt (l : List UInt8) (i : Nat) : Nat := skip l (i + (tok (l.drop i)).2)

/-- Is the token at a place one of these signs? -/
def oneB (l : List UInt8) (i : Nat) (signs : List UInt8) : Bool :=
  match tx l i with
  | [c] => (tok (l.drop i)).1 == 6 && decide (0 ≤ Lib.indexByte signs c)
  | _ => false

def termK (t : List UInt8) (its : Nat) : Nat :=
  if t = [105, 116] then (if 0 < its then 4 else 0)
  else if t = [105, 102] then 9
  else if t = [115, 105, 122, 101] then 10
  else if t = [115, 117, 109] then 11
  else if t = [119, 111, 114, 100] then 12
  else if t = [109, 105, 110] ∨ t = [109, 97, 120] ∨ t = [97, 116] then 13
  else if t = [116, 114, 121] then 14
  else if t = [101, 97, 99, 104] then 15
  else if t = [115, 111, 109, 101] then 16
  else 0

def signK (t : List UInt8) : Nat :=
  if t = [45] then 5 else if t = [40] then 6 else if t = [91] then 7 else if t = [123] then 8 else 0

/-- What FACTOR a token begins: 0 none, 2 a value, 3 a name, 4 it, 5 minus, 6 a group, 7 a key, 8 a list, 9 if, 10 size, 11 sum, 12 word, 13 min, max, at, 14 try, 15 each, 16 some. -/
def kindOf (k : Nat) (t : List UInt8) (its : Nat) : Nat :=
  if k = 2 ∨ k = 3 then 2 else if k = 4 then 3 else if k = 5 then termK t its else if k = 6 then signK t else 0

def kind (l : List UInt8) (i its : Nat) : Nat := kindOf (tok (l.drop i)).1 (tx l i) its

theorem tok_le (l : List UInt8) : (tok l).2 ≤ l.length := by
  cases l with
  | nil => simp [tok]
  | cons c r =>
    rw [tok_cons (c :: r) c r rfl]
    have h1 := lead_le isDig (c :: r)
    have h2 := lead_le isAl (c :: r)
    split
    · split <;> simp <;> simp at h1 <;> omega
    · split
      · split
        · exact h2
        · split
          · simp
          · exact h2
      · split
        · cases hw : wordOf (c :: r) with
          | none => simp [wordTok]
          | some n => have := wordOf_le hw; simpa [wordTok] using this
        · split <;> simp

theorem tok_sign (l : List UInt8) (h : (tok l).1 = 6) : ∃ c r, l = c :: r ∧ tok l = (6, 1) := by
  cases l with
  | nil => simp [tok] at h
  | cons c r =>
    refine ⟨c, r, rfl, ?_⟩
    rw [tok_cons (c :: r) c r rfl] at h ⊢
    split at h
    · split at h <;> simp at h
    · split at h
      · split at h
        · simp at h
        · split at h <;> simp at h
      · split at h
        · cases hw : wordOf (c :: r) <;> rw [hw] at h <;> simp [wordTok] at h
        · split at h
          · simp_all
          · simp at h

theorem nxt_le (l : List UInt8) (i : Nat) (h : i ≤ l.length) : nxt l i ≤ l.length := by
  apply skip_le
  have := tok_le (l.drop i)
  simp only [List.length_drop] at this
  omega

theorem tok_in (l : List UInt8) (i : Nat) (h : i ≤ l.length) : i + (tok (l.drop i)).2 ≤ l.length := by
  have := tok_le (l.drop i)
  simp only [List.length_drop] at this
  omega

theorem getElem_data (s : ByteArray) (k : Nat) (h : k < s.size) : s[k] = s.data.toList[k]'(by simpa using h) := by
  simp [ByteArray.getElem_eq_getElem_data]

end Lard
end Go.Proofs.YtpekpdimdelncaaGreatDoor
