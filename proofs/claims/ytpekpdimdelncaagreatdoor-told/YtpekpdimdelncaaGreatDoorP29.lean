/- Out of: Rd. -/
import Derived.Test.YtpekpdimdelncaaGreatDoorP01
import Derived.Test.YtpekpdimdelncaaGreatDoorP28
namespace Go.Proofs.YtpekpdimdelncaaGreatDoor
namespace Lard
set_option linter.unusedVariables false
def numC (c : UInt8) : Bool := c == 45 || isDig c
def rdItems (R : List UInt8 → Option (V × List UInt8)) : Nat → List UInt8 → List V → Option (V × List UInt8)
  | 0, _, _ => none
  | k + 1, l, acc => match R l with
    | none => none
    | some (v, r) => match r with
      | [] => none
      | c :: r => if c = 125 then some (vl (acc ++ [v]), r) else if c = 44 then rdItems R k r (acc ++ [v]) else none
def rdNum (l : List UInt8) : Option (V × List UInt8) := (numOf (l.take (lead numC l))).map fun i => (vn i, l.drop (lead numC l))
def rdWord (l : List UInt8) : Option (V × List UInt8) := (wordOf l).map fun n => (vw ((l.drop 1).take n), l.drop (n + 2))
def rdList (R : List UInt8 → Option (V × List UInt8)) (l : List UInt8) : Option (V × List UInt8) :=
  if l.head? = some 125 then some (vl [], l.drop 1) else rdItems R 12 l []
def rdF : Nat → List UInt8 → Option (V × List UInt8)
  | n, l => if l.head? = some 39 then rdWord l else if l.head? = some 123 then (match n with | 0 => none | m + 1 => rdList (rdF m) (l.drop 1)) else rdNum l
def rdV (l : List UInt8) : Option V :=
  match rdF 3 l with
  | some (v, []) => some v
  | _ => none
/-! What is read. -/
def okV : Nat → V → Prop
  | n, v => match v.x with
    | .inl i => -9223372036854775808 ≤ i ∧ i ≤ 9223372036854775807
    | .inr (.inl b) => b.length ≤ 30 ∧ ∀ c ∈ b, wordC c = true ∧ c ≠ 39
    | .inr (.inr l) => match n with
      | 0 => False
      | m + 1 => l.length ≤ 12 ∧ ∀ u ∈ l, okV m u
theorem okV_lev : ∀ (n : Nat) (v : V), okV n v → lev n v = true
  | n, ⟨.inl i⟩, h => by unfold lev; rfl
  | n, ⟨.inr (.inl b)⟩, h => by unfold lev; rfl
  | 0, ⟨.inr (.inr l)⟩, h => by unfold okV at h; exact h.elim
  | n + 1, ⟨.inr (.inr l)⟩, h => by
    unfold okV at h
    unfold lev
    exact List.all_eq_true.2 (fun x hx => okV_lev n x (h.2 x hx))
theorem numOf_some {l : List UInt8} {i : Int} (h : numOf l = some i) : Lib.itoa i = l ∧ Lib.parseIntB 64 l = .ok i := by
  unfold numOf at h
  split at h
  · rename_i v hv
    split at h
    · rename_i h2
      cases h
      exact ⟨by simpa using h2, hv⟩
    · cases h
  · cases h
theorem quote_some : ∀ (n : Nat) (l : List UInt8) (k : Nat), quote n l = some k → k < n ∧ k < l.length ∧ l[k]? = some 39 ∧ ∀ c ∈ l.take k, wordC c = true ∧ c ≠ 39
  | 0, _, _, h => by cases h
  | n + 1, [], _, h => by cases h
  | n + 1, c :: r, k, h => by
    unfold quote at h
    split at h
    · rename_i hc
      cases h
      exact ⟨by omega, by simp, by simp [hc], fun c hc => by simp at hc⟩
    · rename_i hc
      split at h
      · rename_i hw
        cases hq : quote n r with
        | none => rw [hq] at h; cases h
        | some m =>
          rw [hq] at h
          cases h
          obtain ⟨h1, h2, h3, h4⟩ := quote_some n r m hq
          refine ⟨by show m + 1 < n + 1; omega, by show m + 1 < (c :: r).length; simp; omega, by simpa using h3, fun d hd => ?_⟩
          rw [List.take_succ_cons, List.mem_cons] at hd
          rcases hd with rfl | hd
          · exact ⟨hw, hc⟩
          · exact h4 d hd
      · cases h
theorem quote_make : ∀ (b r : List UInt8) (n : Nat), b.length < n → (∀ c ∈ b, wordC c = true ∧ c ≠ 39) → quote n (b ++ 39 :: r) = some b.length
  | [], r, 0, h, _ => by omega
  | [], r, n + 1, _, _ => by simp [quote]
  | c :: b, r, 0, h, _ => by simp at h
  | c :: b, r, n + 1, h, hb => by
    have hc := hb c List.mem_cons_self
    have := quote_make b r n (by simp at h; omega) (fun d hd => hb d (List.mem_cons_of_mem _ hd))
    simp [quote, hc.1, hc.2, this]
theorem val_dec (u : Nat) : val (Lib.decDigits u) 0 = u := by
  induction u using Nat.strongRecOn with
  | ind u ih =>
    rw [Lib.decDigits]
    by_cases h : u < 10
    · rw [dif_pos h]
      show 10 * 0 + ((UInt8.ofNat (48 + u)).toNat - 48) = u
      rw [UInt8.toNat_ofNat']
      omega
    · rw [dif_neg h, val_snoc, ih (u / 10) (by omega), UInt8.toNat_ofNat']
      omega
theorem dec_isDig (u : Nat) : ∀ c ∈ Lib.decDigits u, isDig c = true := by
  induction u using Nat.strongRecOn with
  | ind u ih =>
    rw [Lib.decDigits]
    have hd : ∀ k, k < 10 → isDig (UInt8.ofNat (48 + k)) = true := fun k hk => by
      match k, hk with
      | 0, _ => rfl
      | 1, _ => rfl
      | 2, _ => rfl
      | 3, _ => rfl
      | 4, _ => rfl
      | 5, _ => rfl
      | 6, _ => rfl
      | 7, _ => rfl
      | 8, _ => rfl
      | 9, _ => rfl
    by_cases h : u < 10
    · rw [dif_pos h]
      intro c hc
      rw [List.mem_singleton.1 hc]
      exact hd u h
    · rw [dif_neg h]
      intro c hc
      rcases List.mem_append.1 hc with hc | hc
      · exact ih (u / 10) (by omega) c hc
      · rw [List.mem_singleton.1 hc]
        exact hd _ (by omega)
theorem dec_ne (u : Nat) : Lib.decDigits u ≠ [] := by
  rw [Lib.decDigits]
  split
  · simp
  · simp
theorem parseU_dec (u : Nat) (h : u ≤ 18446744073709551615) : Lib.parseUintB 64 (Lib.decDigits u) = .ok u := by
  unfold Lib.parseUintB
  rw [if_neg (dec_ne u)]
  have := M_eq (Lib.decDigits u) 0 (dec_isDig u) (by omega)
  rw [val_dec, if_pos h] at this
  exact this
theorem parse_itoa (i : Int) (h0 : -9223372036854775808 ≤ i) (h1 : i ≤ 9223372036854775807) : Lib.parseIntB 64 (Lib.itoa i) = .ok i := by
  unfold Lib.itoa
  by_cases hn : i < 0
  · rw [if_pos hn]
    unfold Lib.parseIntB
    have e : (45 : UInt8).toNat = 45 := rfl
    simp only [e]
    rw [if_pos (.inr trivial), parseU_dec i.natAbs (by omega)]
    simp only
    rw [if_neg (by simp), if_neg (by simp; omega), if_pos trivial]
    congr 1
    omega
  · rw [if_neg hn]
    cases hd : Lib.decDigits i.toNat with
    | nil => exact (dec_ne _ hd).elim
    | cons c r =>
      have hc := dig_bd (dec_isDig i.toNat c (by rw [hd]; simp))
      unfold Lib.parseIntB
      simp only
      rw [if_neg (by omega), ← hd, parseU_dec _ (by omega)]
      simp only
      rw [if_neg (by simp; omega), if_neg (by omega), if_neg (by omega)]
      congr 1
      omega
theorem numOf_itoa (i : Int) (h0 : -9223372036854775808 ≤ i) (h1 : i ≤ 9223372036854775807) : numOf (Lib.itoa i) = some i := by
  unfold numOf
  rw [parse_itoa i h0 h1]
  simp
theorem itoa_numC (i : Int) : ∀ c ∈ Lib.itoa i, numC c = true := by
  unfold Lib.itoa
  intro c hc
  split at hc
  · rcases List.mem_cons.1 hc with rfl | hc
    · rfl
    · unfold numC; rw [dec_isDig _ c hc]; simp
  · unfold numC; rw [dec_isDig _ c hc]; simp
theorem itoa_ne (i : Int) : Lib.itoa i ≠ [] := by
  unfold Lib.itoa
  split
  · simp
  · exact dec_ne _
theorem lead_app (p : UInt8 → Bool) : ∀ (a r : List UInt8), (∀ c ∈ a, p c = true) → (∀ c, r.head? = some c → p c = false) → lead p (a ++ r) = a.length
  | [], [], _, _ => rfl
  | [], c :: r, _, h => by
    have := h c rfl
    simp [lead, this]
  | c :: a, r, h, h' => by
    have hc := h c List.mem_cons_self
    have := lead_app p a r (fun d hd => h d (List.mem_cons_of_mem _ hd)) h'
    simp [lead, hc, this]
def Apart (r : List UInt8) : Prop := ∀ c, r.head? = some c → numC c = false
theorem numC_39 : numC 39 = false := by decide
theorem numC_123 : numC 123 = false := by decide
theorem rdNum_itoa (i : Int) (h0 : -9223372036854775808 ≤ i) (h1 : i ≤ 9223372036854775807) (r : List UInt8) (hr : Apart r) : rdNum (Lib.itoa i ++ r) = some (vn i, r) := by
  unfold rdNum
  rw [lead_app numC _ _ (itoa_numC i) hr, List.take_left', numOf_itoa i h0 h1, List.drop_left']
  · rfl
  · rfl
  · rfl
theorem head_itoa (i : Int) (r : List UInt8) : (Lib.itoa i ++ r).head? ≠ some 39 ∧ (Lib.itoa i ++ r).head? ≠ some 123 := by
  cases h : Lib.itoa i with
  | nil => exact (itoa_ne i h).elim
  | cons c t =>
    have := itoa_numC i c (by rw [h]; simp)
    simp only [List.cons_append, List.head?_cons]
    refine ⟨fun e => ?_, fun e => ?_⟩
    · cases e; rw [numC_39] at this; cases this
    · cases e; rw [numC_123] at this; cases this
theorem rdItems_wr (R : List UInt8 → Option (V × List UInt8)) (f : V → List UInt8) : ∀ (l : List V) (acc : List V) (k : Nat) (r : List UInt8), l ≠ [] → l.length ≤ k → (∀ u ∈ l, ∀ r, Apart r → R (f u ++ r) = some (u, r)) → rdItems R k (commas (l.map f) ++ 125 :: r) acc = some (vl (acc ++ l), r)
  | [], acc, k, r, h, _, _ => (h rfl).elim
  | [u], acc, 0, r, _, h, _ => by simp at h
  | [u], acc, k + 1, r, _, _, hR => by
    have h125 : Apart (125 :: r) := fun c hc => by cases hc; decide
    have := hR u (by simp) (125 :: r) h125
    simp [commas, rdItems, this]
  | u :: v :: l, acc, 0, r, _, h, _ => by simp at h
  | u :: v :: l, acc, k + 1, r, _, hk, hR => by
    have h44 : Apart (44 :: (commas ((v :: l).map f) ++ 125 :: r)) := fun c hc => by cases hc; decide
    have h1 := hR u (by simp) _ h44
    have ih := rdItems_wr R f (v :: l) (acc ++ [u]) k r (by simp) (by simp at hk ⊢; omega) (fun x hx => hR x (List.mem_cons_of_mem _ hx))
    have e : commas ((u :: v :: l).map f) ++ 125 :: r = f u ++ 44 :: (commas ((v :: l).map f) ++ 125 :: r) := by simp [commas]
    rw [e]
    unfold rdItems
    rw [h1]
    simp only
    rw [if_neg (by decide), if_pos trivial, ih]
    simp
theorem rdF_wr : ∀ (n : Nat) (v : V) (r : List UInt8), okV n v → Apart r → rdF n (wr n v ++ r) = some (v, r)
  | n, ⟨.inl i⟩, r, h, hr => by
    unfold okV at h
    obtain ⟨a, b⟩ := head_itoa i r
    unfold wr rdF
    simp only
    rw [if_neg a, if_neg b]
    exact rdNum_itoa i h.1 h.2 r hr
  | n, ⟨.inr (.inl b)⟩, r, h, hr => by
    unfold okV at h
    have hq := quote_make b r 31 (by omega) h.2
    unfold wr rdF
    simp only
    have e : (39 :: (b ++ [39])) ++ r = 39 :: (b ++ 39 :: r) := by simp
    rw [e]
    rw [if_pos (show (39 :: (b ++ 39 :: r)).head? = some 39 from rfl)]
    unfold rdWord wordOf
    simp only [if_true, hq, Option.map_some, List.drop_succ_cons, List.drop_zero]
    rw [List.take_left', ← List.drop_drop, List.drop_left']
    · rfl
    · rfl
    · rfl
  | 0, ⟨.inr (.inr l)⟩, r, h, hr => by unfold okV at h; exact h.elim
  | n + 1, ⟨.inr (.inr l)⟩, r, h, hr => by
    unfold okV at h
    unfold wr rdF
    simp only
    have e : (123 :: (commas (l.map (wr n)) ++ [125])) ++ r = 123 :: (commas (l.map (wr n)) ++ 125 :: r) := by simp
    rw [e, if_neg (by simp), if_pos (show (123 :: (commas (l.map (wr n)) ++ 125 :: r)).head? = some 123 from rfl)]
    simp only [List.drop_succ_cons, List.drop_zero]
    unfold rdList
    cases l with
    | nil => simp [commas, vl]
    | cons u l =>
      have hih : ∀ x ∈ u :: l, ∀ r, Apart r → rdF n (wr n x ++ r) = some (x, r) := fun x hx r hr => rdF_wr n x r (h.2 x hx) hr
      have hne : (commas ((u :: l).map (wr n)) ++ 125 :: r).head? ≠ some 125 := by
        have hw : (wr n u).head? ≠ some 125 ∧ wr n u ≠ [] := by
          have hu := h.2 u (by simp)
          obtain ⟨x⟩ := u
          rcases x with i | b | m
          · unfold wr
            simp only
            refine ⟨?_, itoa_ne i⟩
            cases hi : Lib.itoa i with
            | nil => exact (itoa_ne i hi).elim
            | cons c t =>
              have := itoa_numC i c (by rw [hi]; simp)
              intro e
              cases e
              have h125 : numC 125 = false := by decide
              rw [h125] at this
              cases this
          · unfold wr
            simp
          · cases n with
            | zero => unfold okV at hu; exact hu.elim
            | succ n => unfold wr; simp
        have he : ∃ t, commas ((u :: l).map (wr n)) ++ 125 :: r = wr n u ++ t := by
          cases l with
          | nil => exact ⟨125 :: r, by simp [commas]⟩
          | cons v l => exact ⟨44 :: (commas ((v :: l).map (wr n)) ++ 125 :: r), by simp [commas]⟩
        obtain ⟨t, ht⟩ := he
        rw [ht]
        cases hc : wr n u with
        | nil => exact (hw.2 hc).elim
        | cons c q =>
          have := hw.1
          rw [hc] at this
          simpa using this
      rw [if_neg hne, rdItems_wr (rdF n) (wr n) (u :: l) [] 12 r (by simp) h.1 hih]
      rfl
theorem rdV_wr {v : V} (h : okV 3 v) : rdV (wr 3 v) = some v := by
  have := rdF_wr 3 v [] h (fun c hc => by cases hc)
  rw [List.append_nil] at this
  unfold rdV
  rw [this]
theorem rdItems_some (R : List UInt8 → Option (V × List UInt8)) (A : V → Prop) (f : V → List UInt8) (hR : ∀ l v r, R l = some (v, r) → A v ∧ l = f v ++ r) : ∀ (k : Nat) (l : List UInt8) (acc : List V) (v : V) (r : List UInt8), rdItems R k l acc = some (v, r) → ∃ m : List V, m ≠ [] ∧ m.length ≤ k ∧ v = vl (acc ++ m) ∧ (∀ u ∈ m, A u) ∧ l = commas (m.map f) ++ 125 :: r
  | 0, _, _, _, _, h => by cases h
  | k + 1, l, acc, v, r, h => by
    unfold rdItems at h
    cases hl : R l with
    | none => rw [hl] at h; cases h
    | some q =>
      obtain ⟨u, t⟩ := q
      obtain ⟨hA, rfl⟩ := hR l u t hl
      rw [hl] at h
      cases t with
      | nil => cases h
      | cons c t =>
        simp only at h
        split at h
        · rename_i hc
          cases h
          subst hc
          exact ⟨[u], by simp, by simp, rfl, fun x hx => by rw [List.mem_singleton.1 hx]; exact hA, by simp [commas]⟩
        · split at h
          · rename_i hc
            subst hc
            obtain ⟨m, h1, h2, h3, h4, h5⟩ := rdItems_some R A f hR k t (acc ++ [u]) v r h
            refine ⟨u :: m, by simp, by simp; omega, by rw [h3]; simp, fun x hx => ?_, ?_⟩
            · rcases List.mem_cons.1 hx with rfl | hx
              · exact hA
              · exact h4 x hx
            · cases m with
              | nil => exact (h1 rfl).elim
              | cons y m => rw [h5]; simp [commas]
          · cases h
theorem rdF_some : ∀ (n : Nat) (l : List UInt8) (v : V) (r : List UInt8), rdF n l = some (v, r) → okV n v ∧ l = wr n v ++ r := by
  have hleaf : ∀ (n : Nat) (l : List UInt8) (v : V) (r : List UInt8), (l.head? = some 39 ∧ rdWord l = some (v, r)) ∨ rdNum l = some (v, r) → okV n v ∧ l = wr n v ++ r := by
    rintro n l v r (⟨hh, h⟩ | h)
    · unfold rdWord at h
      cases l with
      | nil => cases hh
      | cons c t =>
        cases hh
        have e : wordOf (39 :: t) = quote 31 t := by unfold wordOf; exact if_pos rfl
        rw [e] at h
        cases hq : quote 31 t with
        | none => rw [hq] at h; cases h
        | some k =>
          rw [hq] at h
          cases h
          obtain ⟨h1, h2, h3, h4⟩ := quote_some 31 t k hq
          refine ⟨?_, ?_⟩
          · unfold vw okV
            simp only [List.drop_succ_cons, List.drop_zero]
            exact ⟨by rw [List.length_take]; omega, h4⟩
          · unfold vw wr
            simp only [List.drop_succ_cons, List.drop_zero]
            have ht : t = t.take k ++ 39 :: t.drop (k + 1) := by
              have h5 : t.drop k = 39 :: t.drop (k + 1) := by
                have hlt : k < t.length := h2
                rw [List.drop_eq_getElem_cons hlt]
                rw [List.getElem?_eq_getElem hlt] at h3
                rw [Option.some.inj h3]
              rw [← h5]
              exact (List.take_append_drop k t).symm
            conv => lhs; rw [ht]
            simp
    · unfold rdNum at h
      cases hn : numOf (l.take (lead numC l)) with
      | none => rw [hn] at h; cases h
      | some i =>
        rw [hn] at h
        cases h
        obtain ⟨h1, h2⟩ := numOf_some hn
        refine ⟨?_, ?_⟩
        · unfold vn okV
          exact parse_range _ _ h2
        · unfold vn wr
          simp only
          rw [h1]
          exact (List.take_append_drop _ l).symm
  intro n
  induction n with
  | zero =>
    intro l v r h
    unfold rdF at h
    split at h
    · rename_i hh; exact hleaf 0 l v r (.inl ⟨hh, h⟩)
    · split at h
      · cases h
      · exact hleaf 0 l v r (.inr h)
  | succ n ih =>
    intro l v r h
    unfold rdF at h
    split at h
    · rename_i hh; exact hleaf (n + 1) l v r (.inl ⟨hh, h⟩)
    · split at h
      · rename_i hh
        cases l with
        | nil => cases hh
        | cons c t =>
          cases hh
          simp only [List.drop_succ_cons, List.drop_zero] at h
          unfold rdList at h
          split at h
          · rename_i h125
            cases h
            cases t with
            | nil => cases h125
            | cons d t =>
              cases h125
              refine ⟨?_, ?_⟩
              · unfold vl okV
                exact ⟨by simp, fun u hu => by cases hu⟩
              · unfold vl wr
                simp [commas]
          · obtain ⟨m, h1, h2, h3, h4, h5⟩ := rdItems_some (rdF n) (okV n) (wr n) (fun l v r h => ih l v r h) 12 t [] v r h
            subst h3
            refine ⟨?_, ?_⟩
            · unfold vl okV
              exact ⟨by simpa using h2, by simpa using h4⟩
            · unfold vl wr
              rw [h5]
              simp
      · exact hleaf (n + 1) l v r (.inr h)
theorem rdV_some {l : List UInt8} {v : V} (h : rdV l = some v) : okV 3 v ∧ l = wr 3 v := by
  unfold rdV at h
  split at h
  · rename_i u hu
    cases h
    obtain ⟨h1, h2⟩ := rdF_some 3 l v [] hu
    exact ⟨h1, by rw [h2, List.append_nil]⟩
  · cases h
end Lard
end Go.Proofs.YtpekpdimdelncaaGreatDoor
