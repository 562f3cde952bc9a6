/- With what a FACTOR begins: the document and the program say the same: no Go, no program. -/
import Derived.Test.YtpekpdimdelncaaGreatDoorRTok
namespace Go.Proofs.YtpekpdimdelncaaGreatDoor

theorem quote_inv : ∀ (m : Nat) (r : List UInt8) (n : Nat), Lard.quote m r = some n → n < m ∧ ∃ h : n < r.length, r[n] = 39 ∧ ∀ j (hj : j < n), r[j]'(by omega) ≠ 39 := by
  intro m
  induction m with
  | zero => intro r n h; simp [Lard.quote] at h
  | succ m ih =>
    intro r n h
    cases r with
    | nil => simp [Lard.quote] at h
    | cons c t =>
      have eq : Lard.quote (m + 1) (c :: t) = if c = 39 then some 0 else if Lard.wordC c = true then (Lard.quote m t).map (· + 1) else none := rfl
      rw [eq] at h
      by_cases hc : c = 39
      · rw [if_pos hc] at h
        cases h
        exact ⟨by omega, by simp, hc, fun j hj => by omega⟩
      · rw [if_neg hc] at h
        split at h
        · cases hq : Lard.quote m t with
          | none => rw [hq] at h; cases h
          | some k =>
            rw [hq] at h
            have hk : n = k + 1 := by simpa using h.symm
            subst hk
            obtain ⟨h1, h2, h3, h4⟩ := ih t k hq
            refine ⟨by omega, by simpa using h2, h3, fun j hj => ?_⟩
            cases j with
            | zero => exact hc
            | succ j => exact h4 j (by omega)
        · cases h

theorem isWordB_of {r : List UInt8} {n : Nat} (hw : Lard.wordOf (39 :: r) = some n) : isWordB ((39 :: r).take (n + 2)) = true := by
  have e1 : Lard.wordOf (39 :: r) = Lard.quote 31 r := by simp [Lard.wordOf]
  obtain ⟨h1, h2, h3, h4⟩ := quote_inv 31 r n (e1.symm.trans hw)
  have hq : NoQ (39 :: r) (n + 1) := fun j hj hj1 hj2 => by
    cases j with
    | zero => omega
    | succ j => exact h4 j (by omega)
  have hx := noQ_hit (l := 39 :: r) (k := n + 1) rfl hq (by omega) (by simpa using h2) (by omega) h3
  rw [hw] at hx
  by_cases hb : isWordB ((39 :: r).take (n + 1 + 1)) = true
  · exact hb
  · rw [if_neg hb] at hx; cases hx

/-- What a token is, by its kind. -/
theorem tok_facts (l : List UInt8) (t : List UInt8) (ht : t = l.take (rsz l)) :
    ((Lard.tok l).1 = 2 ∧ (Lard.refDig t).isSome = true) ∨
    ((Lard.tok l).1 = 3 ∧ Lard.refDig t = none ∧ isWordB t = true) ∨
    ((Lard.tok l).1 = 4 ∧ Lard.refDig t = none ∧ isWordB t = false ∧ nameB t = true ∧ Lard.termB t = false ∧ ∃ c r, t = c :: r ∧ Lard.isLet c = true) ∨
    ((Lard.tok l).1 = 5 ∧ Lard.refDig t = none ∧ isWordB t = false ∧ nameB t = false ∧ Lard.termB t = true) ∨
    ((Lard.tok l).1 = 6 ∧ Lard.refDig t = none ∧ isWordB t = false ∧ nameB t = false ∧ ∃ c, t = [c] ∧ Lard.signB c = true) ∨
    ((Lard.tok l).1 ≤ 1 ∧ Lard.refDig t = none ∧ isWordB t = false ∧ nameB t = false ∧ known t = false) := by
  subst ht
  cases l with
  | nil => refine Or.inr (Or.inr (Or.inr (Or.inr (Or.inr ⟨by simp [Lard.tok], rfl, ?_, ?_, ?_⟩)))) <;> rfl
  | cons c r =>
    have hkn : (Lard.tok (c :: r)).1 ≤ 1 → known ((c :: r).take (rsz (c :: r))) = false := by
      intro hle
      cases hk : known ((c :: r).take (rsz (c :: r))) with
      | false => rfl
      | true =>
        exfalso
        have h1 := (known_same (c :: r) _ hk).1 rfl
        have h0 : (Lard.tok (c :: r)).2 = 0 := by
          have h3 := Lard.tok_cons (c :: r) c r rfl
          rw [h3] at hle ⊢
          split at hle
          · split at hle
            · simp at hle
            · rename_i h1 h2; rw [if_pos h1, if_neg h2]
          · rename_i h1
            rw [if_neg h1]
            split at hle
            · rename_i h2
              rw [if_pos h2]
              split at hle
              · simp at hle
              · rename_i h4
                rw [if_neg h4]
                split at hle
                · rename_i h5; rw [if_pos h5]
                · simp at hle
            · rename_i h2
              rw [if_neg h2]
              split at hle
              · rename_i h4
                rw [if_pos h4]
                cases hw : Lard.wordOf (c :: r) with
                | none => rfl
                | some n => rw [hw] at hle; simp [Lard.wordTok] at hle
              · rename_i h4
                rw [if_neg h4]
                split at hle
                · simp at hle
                · rename_i h5; rw [if_neg h5]
        rw [h0, List.take_zero] at h1
        rw [← h1] at hk
        revert hk; decide
    rcases tok_shape c r with ⟨h1, h4, h3⟩ | ⟨h1, h4, h3⟩ | ⟨h1, h4, h3⟩ | ⟨h1, h5, h6, h4, h3⟩
    · obtain ⟨t, ht⟩ := lead_take Lard.isDig c r h1
      have hsame := Lard.dig_same ((c :: r).take (Lard.lead Lard.isDig (c :: r))) (lead_all _ _) (by rw [ht]; simp)
      have hn39 := not39 (Or.inr h1)
      have hnl : Lard.isLet c = false := by
        cases hl : Lard.isLet c with
        | false => rfl
        | true => rw [let_not_dig hl] at h1; cases h1
      by_cases hn : (Lard.numOf ((c :: r).take (Lard.lead Lard.isDig (c :: r)))).isSome = true
      · refine Or.inl ⟨by rw [h3, if_pos hn], ?_⟩
        rw [h4, hsame]; exact hn
      · have hle : (Lard.tok (c :: r)).1 ≤ 1 := by rw [h3, if_neg hn]; exact Nat.le_refl _
        refine Or.inr (Or.inr (Or.inr (Or.inr (Or.inr ⟨hle, ?_, ?_, ?_, hkn hle⟩))))
        · rw [h4]
          have : (Lard.refDig ((c :: r).take (Lard.lead Lard.isDig (c :: r)))).isSome = false := by rw [hsame]; simpa using hn
          simpa using this
        · rw [h4, ht]; exact isWordB_head hn39
        · rw [h4, ht]; exact nameB_head hnl
    · obtain ⟨t, ht⟩ := lead_take Lard.isAl c r (by rw [al_or, h1]; rfl)
      have hn39 := not39 (Or.inl h1)
      have hnd := let_not_dig h1
      have hrd : Lard.refDig ((c :: r).take (rsz (c :: r))) = none := by rw [h4, ht]; exact refDig_head hnd
      have hwd : isWordB ((c :: r).take (rsz (c :: r))) = false := by rw [h4, ht]; exact isWordB_head hn39
      have hlen : ((c :: r).take (Lard.lead Lard.isAl (c :: r))).length = Lard.lead Lard.isAl (c :: r) := by
        rw [List.length_take]; have := Lard.lead_le Lard.isAl (c :: r); omega
      have htail : tailN ((c :: r).take (Lard.lead Lard.isAl (c :: r))) 0 = true := by
        unfold tailN; rw [List.drop_zero, List.all_eq_true]; exact lead_all _ _
      have hpos := Lard.lead_pos Lard.isAl c r (by rw [al_or, h1]; rfl)
      have hhead : ((c :: r).take (Lard.lead Lard.isAl (c :: r))).head?.map Lard.isLet = some true := by rw [ht]; simp [h1]
      by_cases hn : Lard.termB ((c :: r).take (Lard.lead Lard.isAl (c :: r))) = true
      · refine Or.inr (Or.inr (Or.inr (Or.inl ⟨by rw [h3, if_pos hn], hrd, hwd, ?_, by rw [h4]; exact hn⟩)))
        rw [h4]; unfold nameB; rw [hn]; simp
      · have hnf : Lard.termB ((c :: r).take (Lard.lead Lard.isAl (c :: r))) = false := by simpa using hn
        by_cases h8 : 8 < Lard.lead Lard.isAl (c :: r)
        · have hle : (Lard.tok (c :: r)).1 ≤ 1 := by rw [h3, if_neg hn, if_pos h8]; exact Nat.le_refl _
          refine Or.inr (Or.inr (Or.inr (Or.inr (Or.inr ⟨hle, hrd, hwd, ?_, hkn hle⟩))))
          rw [h4]; unfold nameB; rw [decide_eq_false (by rw [hlen]; omega)]; rfl
        · refine Or.inr (Or.inr (Or.inl ⟨by rw [h3, if_neg hn, if_neg h8], hrd, hwd, ?_, by rw [h4]; exact hnf, c, t, by rw [h4, ht], h1⟩))
          rw [h4]; unfold nameB
          rw [decide_eq_true ⟨by rw [hlen]; exact hpos, by rw [hlen]; omega, hhead⟩, htail, hnf]; rfl
    · subst h1
      have hnd : Lard.isDig 39 = false := by decide
      have hnl : Lard.isLet 39 = false := by decide
      cases hw : Lard.wordOf (39 :: r) with
      | some n =>
        have hq : quotedN (39 :: r) = n + 2 := by unfold quotedN; rw [hw]
        have hle := Lard.wordOf_le hw
        obtain ⟨t, ht⟩ : ∃ t, (39 :: r).take (n + 2) = 39 :: t := ⟨_, List.take_succ_cons⟩
        refine Or.inr (Or.inl ⟨by rw [h3, hw]; rfl, ?_, ?_⟩)
        · rw [h4, hq, show max (n + 2) 1 = n + 2 by omega, ht]; exact refDig_head hnd
        · rw [h4, hq, show max (n + 2) 1 = n + 2 by omega]
          exact isWordB_of hw
      | none =>
        have hq : quotedN (39 :: r) = 0 := by unfold quotedN; rw [hw]
        have hle : (Lard.tok (39 :: r)).1 ≤ 1 := by rw [h3, hw]; exact Nat.le_refl _
        have h1t : (39 :: r).take (rsz (39 :: r)) = [39] := by rw [h4, hq]; rfl
        refine Or.inr (Or.inr (Or.inr (Or.inr (Or.inr ⟨hle, ?_, ?_, ?_, hkn hle⟩))))
        · rw [h1t]; exact refDig_head hnd
        · rw [h1t]; rfl
        · rw [h1t]; exact nameB_head hnl
    · have h1t : (c :: r).take (rsz (c :: r)) = [c] := by rw [h4]; rfl
      by_cases hn : Lard.signB c = true
      · refine Or.inr (Or.inr (Or.inr (Or.inr (Or.inl ⟨by rw [h3, if_pos hn], ?_, ?_, ?_, c, h1t, hn⟩))))
        · rw [h1t]; exact refDig_head h1
        · rw [h1t]; exact isWordB_head h6
        · rw [h1t]; exact nameB_head h5
      · have hle : (Lard.tok (c :: r)).1 ≤ 1 := by rw [h3, if_neg hn]; exact Nat.le_refl _
        refine Or.inr (Or.inr (Or.inr (Or.inr (Or.inr ⟨hle, ?_, ?_, ?_, hkn hle⟩))))
        · rw [h1t]; exact refDig_head h1
        · rw [h1t]; exact isWordB_head h6
        · rw [h1t]; exact nameB_head h5

/-- The tokens that begin a FACTOR by themselves. -/
def keyB (t : List UInt8) : Bool :=
  t == [45] || t == [40] || t == [91] || t == [123] || t == [105, 102] || t == [115, 105, 122, 101] || t == [115, 117, 109] || t == [119, 111, 114, 100] || t == [109, 105, 110] || t == [109, 97, 120] || t == [116, 114, 121] || t == [97, 116] || t == [101, 97, 99, 104] || t == [115, 111, 109, 101]

def beginsB (t : List UInt8) (its : Nat) : Bool :=
  (Lard.refDig t).isSome || isWordB t || nameB t || keyB t || (t == [105, 116] && decide (0 < its))

theorem keyB_known {t : List UInt8} (h : keyB t = true) : known t = true := by
  simp only [keyB, Bool.or_eq_true, beq_iff_eq] at h
  rcases h with ((((((((((((h | h) | h) | h) | h) | h) | h) | h) | h) | h) | h) | h) | h) | h <;> subst h <;> decide

theorem termK_key (t : List UInt8) (its : Nat) (h : Lard.termB t = true) : (Lard.termK t its ≠ 0) ↔ (keyB t || (t == [105, 116] && decide (0 < its))) = true := by
  simp only [Lard.termB, Bool.or_eq_true, beq_iff_eq] at h
  rcases h with (((((((((((h | h) | h) | h) | h) | h) | h) | h) | h) | h) | h) | h) | h <;> subst h
  all_goals first
    | (simp [Lard.termK, keyB]; done)
    | (by_cases hi : 0 < its <;> simp [Lard.termK, keyB, hi])

theorem signK_key (c : UInt8) (its : Nat) (h : Lard.signB c = true) : (Lard.signK [c] ≠ 0) ↔ (keyB [c] || ([c] == [105, 116] && decide (0 < its))) = true := by
  rw [signB_mem] at h
  simp only [List.mem_cons, List.mem_nil_iff, or_false] at h
  rcases h with rfl | rfl | rfl | rfl | rfl | rfl | rfl | rfl | rfl | rfl | rfl | rfl | rfl <;> simp [Lard.signK, keyB]

/-- With what a FACTOR begins. -/
theorem begins_kind (l : List UInt8) (i its : Nat) : beginsB ((l.drop i).take (rsz (l.drop i))) its = decide (Lard.kind l i its ≠ 0) := by
  have htx : 2 ≤ (Lard.tok (l.drop i)).1 → (l.drop i).take (rsz (l.drop i)) = Lard.tx l i := fun h => by rw [tok_rsz _ h]; rfl
  have hk : Lard.kind l i its = Lard.kindOf (Lard.tok (l.drop i)).1 (Lard.tx l i) its := rfl
  rcases tok_facts (l.drop i) _ rfl with ⟨h, a⟩ | ⟨h, a, b⟩ | ⟨h, a, b, c, _⟩ | ⟨h, a, b, c, d⟩ | ⟨h, a, b, c, ch, d, e⟩ | ⟨h, a, b, c, d⟩
  · rw [hk, h]; unfold beginsB; rw [a]; simp [Lard.kindOf]
  · rw [hk, h]; unfold beginsB; rw [b]; simp [Lard.kindOf]
  · rw [hk, h]; unfold beginsB; rw [c]; simp [Lard.kindOf]
  · have hk2 : Lard.kind l i its = Lard.termK (Lard.tx l i) its := by rw [hk, h]; simp [Lard.kindOf]
    rw [hk2]
    rw [htx (by omega)] at a b c d ⊢
    have := termK_key _ its d
    unfold beginsB
    rw [a, b, c]
    simp only [Option.isSome_none, Bool.false_or]
    rw [Bool.eq_iff_iff, decide_eq_true_iff, this]
  · have hk2 : Lard.kind l i its = Lard.signK (Lard.tx l i) := by rw [hk, h]; simp [Lard.kindOf]
    rw [hk2]
    rw [htx (by omega)] at a b c d ⊢
    rw [d] at a b c ⊢
    have := signK_key ch its e
    unfold beginsB
    rw [a, b, c]
    simp only [Option.isSome_none, Bool.false_or]
    rw [Bool.eq_iff_iff, decide_eq_true_iff, this]
  · have hk2 : Lard.kind l i its = 0 := by
      rw [hk]; unfold Lard.kindOf
      rw [if_neg (by omega), if_neg (by omega), if_neg (by omega), if_neg (by omega)]
    rw [hk2]
    have hkey : keyB ((l.drop i).take (rsz (l.drop i))) = false := by
      cases hx : keyB ((l.drop i).take (rsz (l.drop i))) with
      | false => rfl
      | true => rw [keyB_known hx] at d; cases d
    have hit : ((l.drop i).take (rsz (l.drop i)) == [105, 116]) = false := by
      cases hx : ((l.drop i).take (rsz (l.drop i)) == [105, 116]) with
      | false => rfl
      | true => rw [eq_of_beq hx] at d; revert d; decide
    unfold beginsB
    rw [a, b, c, hkey, hit]; rfl
end Go.Proofs.YtpekpdimdelncaaGreatDoor
