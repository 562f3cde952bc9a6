/- The document's leaves: how long the word is with which a text begins. -/
import Derived.Test.YtpekpdimdelncaaGreatDoorR2
namespace Go.Proofs.YtpekpdimdelncaaGreatDoor
open Go.RowKit

theorem quote_hit' : ∀ (n m : Nat) (r : List UInt8), m < n → (h : m < r.length) → (∀ j (hj : j < m), r[j]'(by omega) ≠ 39) → r[m] = 39 → Lard.quote n r = if (r.take m).all Lard.wordC = true then some m else none := by
  intro n
  induction n with
  | zero => intro m r h; omega
  | succ n ih =>
    intro m r hn hm hne h39
    cases r with
    | nil => simp at hm
    | cons c t =>
      cases m with
      | zero =>
        have : c = 39 := h39
        simp [Lard.quote, this]
      | succ m =>
        have hc : c ≠ 39 := hne 0 (by omega)
        have hrec := ih m t (by omega) (by simpa using hm) (fun j hj => hne (j + 1) (by omega)) h39
        have eAll : ((c :: t).take (m + 1)).all Lard.wordC = (Lard.wordC c && (t.take m).all Lard.wordC) := by rw [List.take_succ_cons, List.all_cons]
        have eq : Lard.quote (n + 1) (c :: t) = if c = 39 then some 0 else if Lard.wordC c = true then (Lard.quote n t).map (· + 1) else none := rfl
        rw [eAll, eq, if_neg hc]
        by_cases hw : Lard.wordC c = true
        · rw [if_pos hw, hrec, hw, Bool.true_and]
          split <;> rfl
        · have hw' : Lard.wordC c = false := by simpa using hw
          rw [if_neg hw, hw', Bool.false_and]; rfl

theorem quote_none' : ∀ (n : Nat) (r : List UInt8), (∀ j (h : j < r.length), j < n → r[j] ≠ 39) → Lard.quote n r = none := by
  intro n
  induction n with
  | zero => intro r _; rfl
  | succ n ih =>
    intro r hne
    cases r with
    | nil => rfl
    | cons c t =>
      have hc : c ≠ 39 := hne 0 (by simp) (by omega)
      have hrec := ih t (fun j h hj => hne (j + 1) (by simpa using h) (by omega))
      simp only [Lard.quote, hc, if_false, hrec]
      split <;> rfl

/-- No quote stands behind the first byte, up to k. -/
def NoQ (l : List UInt8) (k : Nat) : Prop := ∀ j (h : j < l.length), 1 ≤ j → j < k → l[j] ≠ 39

theorem noQ_hit {l : List UInt8} {k : Nat} (hh : l.head? = some 39) (h : NoQ l k) (h1 : 1 ≤ k) (hk : k < l.length) (hk' : k < 32) (h39 : l[k] = 39) :
    Lard.wordOf l = if isWordB (l.take (k + 1)) = true then some (k - 1) else none := by
  obtain ⟨r, rfl⟩ : ∃ r, l = 39 :: r := by
    cases l with
    | nil => simp at hh
    | cons c r => simp at hh; exact ⟨r, by rw [hh]⟩
  obtain ⟨m, rfl⟩ : ∃ m, k = m + 1 := ⟨k - 1, by omega⟩
  have hm : m < r.length := by simpa using hk
  have hne : ∀ j (hj : j < m), r[j]'(by omega) ≠ 39 := fun j hj => h (j + 1) (by simp; omega) (by omega) (by omega)
  have hq := quote_hit' 31 m r (by omega) hm hne h39
  have e1 : Lard.wordOf (39 :: r) = Lard.quote 31 r := by simp [Lard.wordOf]
  have hlen : ((39 :: r).take (m + 1 + 1)).length = m + 2 := by simp; omega
  have hlast : ((39 :: r).take (m + 1 + 1)).getLast? = some 39 := by
    rw [List.getLast?_eq_getElem?, hlen, List.getElem?_take]
    rw [if_pos (by omega), show m + 2 - 1 = m + 1 by omega, List.getElem?_cons_succ, List.getElem?_eq_getElem hm]
    exact congrArg some h39
  have htail : tailW ((39 :: r).take (m + 1 + 1)) 1 = (r.take m).all Lard.wordC := by
    unfold tailW
    rw [hlen, List.take_succ_cons, List.drop_one, List.tail_cons, List.take_take, show m + 2 - 1 - 1 = m by omega, show min m (m + 1) = m by omega]
    apply Bool.eq_iff_iff.2
    rw [List.all_eq_true, List.all_eq_true]
    constructor
    · intro hx c hc
      have := hx c hc
      simp [goodW] at this
      exact this.1
    · intro hx c hc
      have hw := hx c hc
      obtain ⟨j, hj, rfl⟩ := List.getElem_of_mem hc
      have hj' : j < m := by simp at hj; omega
      have := hne j hj'
      simp only [goodW, hw, Bool.true_and, Bool.not_eq_true', beq_eq_false_iff_ne]
      simpa using this
  have hw : isWordB ((39 :: r).take (m + 1 + 1)) = (r.take m).all Lard.wordC := by
    unfold isWordB
    rw [decide_eq_true ⟨by rw [hlen]; omega, by rw [hlen]; omega, by rw [List.take_succ_cons]; rfl, hlast⟩, Bool.true_and, htail]
  rw [e1, hq, hw]
  rfl

theorem noQ_end {l : List UInt8} {k : Nat} (hh : l.head? = some 39) (h : NoQ l k) (hk : l.length ≤ k ∨ 32 ≤ k) : Lard.wordOf l = none := by
  obtain ⟨r, rfl⟩ : ∃ r, l = 39 :: r := by
    cases l with
    | nil => simp at hh
    | cons c r => simp at hh; exact ⟨r, by rw [hh]⟩
  have e1 : Lard.wordOf (39 :: r) = Lard.quote 31 r := by simp [Lard.wordOf]
  rw [e1]
  apply quote_none'
  intro j hj hn
  exact h (j + 1) (by simpa using hj) (by omega) (by simp at hk; omega)

def quotedN (l : List UInt8) : Nat :=
  match Lard.wordOf l with
  | some n => n + 2
  | none => 0

set_option maxRecDepth 100000 in
set_option maxHeartbeats 1000000 in
theorem quoted_any (s : ByteArray) (w : World) (hs : s.size ≤ 1000) (hh : s.data.toList.head? = some 39) :
    Calls Tryz.prog 102 #[.string s] w fun e w' => e = .returned (.int .i64 (quotedN s.data.toList : Int)) ∧ w = w' := by
  have HH := hide hh
  clear hh
  go_enter Tryz.func102, Tryz.ntmps102
  go_wp2_with fail
  go_loop [3] (fun i => ∃ k : Nat, i = .int .i64 k ∧ 1 ≤ k ∧ k ≤ 32 ∧ Hid (NoQ s.data.toList k)) (fun i => 32 - (intOf i).toNat)
  case atStart => exact ⟨1, rfl, Nat.le_refl _, by omega, fun j h h1 h2 => by omega⟩
  case round =>
    obtain ⟨k, rfl, hk1, hk2, HD⟩ := hrel
    by_cases hlt : k < s.size
    · have hltI : (k : Int) < (s.size : Int) := by omega
      by_cases h32 : k < 32
      · have h32I : (k : Int) < 32 := by omega
        have GE := hide (Lard.getElem_data s k hlt)
        have hln : k < s.data.toList.length := by simpa using hlt
        by_cases hq : ((s[k].toNat : Int) == 39) = true
        · have e39 : s.data.toList[k] = 39 := by rw [← GE.out]; exact UInt8.toNat_inj.1 (by have := eq_of_beq hq; show s[k].toNat = 39; omega)
          have hx := noQ_hit HH.out HD.out hk1 hln h32 e39
          have hw := isWord_any (s.extract 0 (k + 1)) w (by have := size_ext s 0 (k + 1); omega)
          rw [Lib.extract_data, List.drop_zero, Nat.sub_zero] at hw
          generalize isWordB (s.data.toList.take (k + 1)) = b at hx hw
          have HX := hide hx
          have HW := hide hw
          have hk1s : k + 1 ≤ s.size := by omega
          clear HD hx hw e39
          cases b
          · go_wp2_with fail
            refine HW.out.mono ?_
            rintro e w' ⟨rfl, rfl⟩
            go_wp2_with fail
            go_ret
            exact ⟨by unfold quotedN; rw [HX.out]; rfl, rfl⟩
          · go_wp2_with fail
            refine HW.out.mono ?_
            rintro e w' ⟨rfl, rfl⟩
            go_wp2_with fail
            go_ret
            refine ⟨?_, rfl⟩
            unfold quotedN
            rw [HX.out]
            show Ending.returned (.int .i64 ((k : Int) + 1)) = .returned (.int .i64 ((k - 1 + 2 : Nat) : Int))
            rw [show (((k - 1 + 2 : Nat)) : Int) = (k : Int) + 1 by omega]
        · have hq' : ((s[k].toNat : Int) == 39) = false := by simpa using hq
          have hnx : NoQ s.data.toList (k + 1) := fun j h h1 h2 => by
            by_cases hj : j < k
            · exact HD.out j h h1 hj
            · have : j = k := by omega
              subst this
              rw [← GE.out]
              intro e
              rw [e] at hq
              exact hq rfl
          have HN := hide hnx
          clear HD hq hnx
          go_wp2_with fail
          exact ⟨⟨k + 1, by go_num, by omega, by omega, HN⟩, by simp [intOf]; omega⟩
      · have h32I : ¬ (k : Int) < 32 := by omega
        have HX := hide (noQ_end HH.out HD.out (Or.inr (by omega)))
        clear HD
        go_wp2_with fail
        go_ret
        exact ⟨by unfold quotedN; rw [HX.out]; rfl, rfl⟩
    · have hltI : ¬ (k : Int) < (s.size : Int) := by omega
      have HX := hide (noQ_end HH.out HD.out (Or.inl (by simp; omega)))
      clear HD
      go_wp2_with fail
      go_ret
      exact ⟨by unfold quotedN; rw [HX.out]; rfl, rfl⟩
end Go.Proofs.YtpekpdimdelncaaGreatDoor
