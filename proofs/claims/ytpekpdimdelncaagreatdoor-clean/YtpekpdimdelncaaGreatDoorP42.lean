/- Out of: Kp, Rn, Rn2, Fw, D2. -/
import Derived.Test.YtpekpdimdelncaaGreatDoorP32
import Derived.Test.YtpekpdimdelncaaGreatDoorP34
import Derived.Test.YtpekpdimdelncaaGreatDoorP07
import Derived.Test.YtpekpdimdelncaaGreatDoorP39
import Derived.Test.YtpekpdimdelncaaGreatDoorP33
import Derived.Test.YtpekpdimdelncaaGreatDoorP41
namespace Go.Proofs.YtpekpdimdelncaaGreatDoor
open Go.RowKit
namespace Lard
set_option linter.unusedVariables false
def keyText (n : Nat) : By := 107 :: Lib.itoa n
def ruleText (k : Nat) (a b d : By) : By :=
  match k with
  | 0 => a ++ [43, 49]
  | 1 => a ++ [45] ++ b
  | 2 => [105, 102, 32] ++ a ++ [60, 51, 32, 116, 104, 101, 110, 32] ++ b ++ [32, 101, 108, 115, 101, 32, 48, 45] ++ a
  | 3 => [91, 109, 105, 110, 40, 109, 97, 120, 40] ++ a ++ [44, 48, 41, 44, 56, 41, 93]
  | 4 => [116, 114, 121, 40] ++ a ++ [47] ++ b ++ [44, 53, 41]
  | 5 => a ++ [42, 50, 47] ++ b
  | 6 => [40] ++ a ++ [61] ++ b ++ [41, 43] ++ d
  | 7 => [116, 114, 121, 40] ++ a ++ [44, 48, 45, 49, 41]
  | 8 => [123] ++ a ++ [44] ++ b ++ [125]
  | 9 => [101, 97, 99, 104, 40, 123] ++ a ++ [44, 49, 44] ++ b ++ [125, 44, 116, 114, 121, 40, 105, 116, 43] ++ a ++ [44, 105, 116, 41, 41]
  | 10 => [116, 114, 121, 40, 115, 117, 109, 40, 115, 111, 109, 101, 40] ++ a ++ [44, 105, 116, 60, 53, 41, 41, 44, 115, 105, 122, 101, 40] ++ b ++ [41, 41]
  | 11 => [97, 116, 40] ++ a ++ [44] ++ b ++ [41]
  | 12 => [116, 114, 121, 40, 39, 107, 39, 43, 119, 111, 114, 100, 40] ++ a ++ [41, 44, 91, 39, 107, 39, 43, 119, 111, 114, 100, 40] ++ b ++ [41, 93, 41]
  | 13 => [116, 114, 121, 40, 91] ++ a ++ [93, 44] ++ b ++ [43] ++ a ++ [41]
  | 14 => [105, 102, 32, 116, 114, 121, 40] ++ a ++ [60] ++ b ++ [44, 48, 41, 32, 116, 104, 101, 110, 32, 123, 125, 32, 101, 108, 115, 101, 32] ++ b
  | _ => d
def valueText : Nat → By
  | 0 => [48]
  | 1 => [49]
  | 2 => [45, 51]
  | 3 => [53]
  | 4 => [39, 107, 49, 39]
  | 5 => [39, 97, 98, 39]
  | 6 => [123, 125]
  | 7 => [123, 49, 44, 50, 125]
  | 8 => [123, 123, 49, 125, 44, 39, 120, 39, 125]
  | 9 => [57, 50, 50, 51, 51, 55, 50, 48, 51, 54, 56, 53, 52, 55, 55, 53, 56, 48, 55]
  | 10 => [123, 48, 44, 49, 44, 50, 44, 51, 44, 52, 44, 53, 44, 54, 44, 55, 44, 56, 44, 57, 44, 49, 48, 44, 49, 49, 125]
  | _ => [39, 39]
def digitText (n : Nat) : By := [UInt8.ofNat (48 + n)]
def keyT (n : Nat) : By := [107, UInt8.ofNat (48 + n)]
theorem rules_ok : ((List.range 16).all fun k => (List.range 8).all fun a => (List.range 8).all fun b => check (ruleText k (keyT a) (keyT b) (digitText (a % 4))) == (0, 0)) = true := by kernel_rfl
theorem rules_len : ((List.range 16).all fun k => (List.range 8).all fun a => (List.range 8).all fun b => decide ((ruleText k (keyT a) (keyT b) (digitText (a % 4))).length ≤ 60)) = true := by kernel_rfl
theorem digits_ok : ((List.range 10).all fun d => check (digitText d) == (0, 0)) = true := by kernel_rfl
theorem values_ok : ((List.range 12).all fun k => (rdV (valueText k)).isSome) = true := by kernel_rfl
end Lard
end Go.Proofs.YtpekpdimdelncaaGreatDoor
namespace Go.Proofs.YtpekpdimdelncaaGreatDoor
open Go.RowKit
namespace Lard
set_option linter.unusedVariables false
def beqT : Nat → T → T → Bool
  | 0, _, _ => false
  | n + 1, a, b => a.kind == b.kind && a.op == b.op && a.name == b.name && (match a.is, b.is with | .none, .none => true | some u, some v => (match u.x, v.x with | .inl i, .inl j => i == j | _, _ => false) | _, _ => false) && a.parts.length == b.parts.length && (a.parts.zip b.parts).all fun p => beqT n p.1 p.2
theorem beqT_eq : ∀ (n : Nat) (a b : T), beqT n a b = true → a = b
  | 0, _, _, h => by cases h
  | n + 1, ⟨k, o, nm, i, ps⟩, ⟨k', o', nm', i', ps'⟩, h => by
    unfold beqT at h
    simp only [Bool.and_eq_true, beq_iff_eq, List.all_eq_true] at h
    obtain ⟨⟨⟨⟨⟨h1, h2⟩, h3⟩, h4⟩, h5⟩, h6⟩ := h
    have hi : i = i' := by
      cases i with
      | none => cases i' with
        | none => rfl
        | some v => simp at h4
      | some u => cases i' with
        | none => simp at h4
        | some v =>
          obtain ⟨ux⟩ := u
          obtain ⟨vx⟩ := v
          rcases ux with a | a | a <;> rcases vx with b | b | b <;> simp at h4
          rw [h4]
    have hp : ps = ps' := by
      apply List.ext_getElem?
      intro j
      rcases Nat.lt_or_ge j ps.length with hj | hj
      · have hm : j < ps'.length := by omega
        rw [List.getElem?_eq_getElem hj, List.getElem?_eq_getElem hm]
        have h7 := h6 (ps[j], ps'[j]) (by
          apply List.mem_of_getElem? (i := j)
          rw [List.getElem?_zip_eq_some]
          exact ⟨List.getElem?_eq_getElem hj, List.getElem?_eq_getElem hm⟩)
        exact congrArg some (beqT_eq n _ _ h7)
      · rw [List.getElem?_eq_none hj, List.getElem?_eq_none (by omega)]
    rw [h1, h2, h3, hi, hp]
def one : T := ⟨2, 0, [], some (vn 1), []⟩
def nK (m : Nat) : T := ⟨3, 0, keyText m, .none, []⟩
def sumT (l : List Nat) : T := l.foldl (fun t m => ⟨1, 43, [], .none, [t, nK m]⟩) one
def sumText (l : List Nat) : By := l.foldl (fun t m => t ++ 43 :: keyText m) [49]
def goodSum (l : List Nat) : Bool := check (sumText l) == (0, 0) && beqT 6 (treeOf (sumText l)) (sumT l) && okT 6 false (sumT l)
def upTo3 (p : List Nat → Bool) : Bool := p [] && (List.range 12).all fun a => p [a] && (List.range 12).all fun b => p [a, b] && (List.range 12).all fun c => p [a, b, c]
theorem sums_ok : upTo3 goodSum = true := by kernel_rfl
end Lard
end Go.Proofs.YtpekpdimdelncaaGreatDoor
namespace Go.Proofs.YtpekpdimdelncaaGreatDoor
open Go.RowKit
namespace Lard
set_option linter.unusedVariables false
def Out {α : Type} (O : By → Wo → Prop) : Pg α → α → Prop
  | ⟨.inl a⟩, b => a = b
  | ⟨.inr (k, c)⟩, b => ∃ u, O k u ∧ Out O (c u) b
theorem out_bind {α β : Type} (O : By → Wo → Prop) : ∀ (p : Pg α) (f : α → Pg β) (b : β), Out O (p.bind f) b ↔ ∃ a, Out O p a ∧ Out O (f a) b
  | ⟨.inl a⟩, f, b => ⟨fun h => ⟨a, rfl, h⟩, fun ⟨a', h1, h2⟩ => by cases h1; exact h2⟩
  | ⟨.inr (k, c)⟩, f, b => by
    constructor
    · rintro ⟨u, h1, h2⟩
      obtain ⟨a, h3, h4⟩ := (out_bind O (c u) f b).1 h2
      exact ⟨a, ⟨u, h1, h3⟩, h4⟩
    · rintro ⟨a, ⟨u, h1, h3⟩, h4⟩
      exact ⟨u, h1, (out_bind O (c u) f b).2 ⟨a, h3, h4⟩⟩
theorem rn_out (O : By → Wo → Prop) : ∀ (p : Pe V) (w : Wo), Rn O p.worth w ↔ w ≠ .error 12 ∧ ∃ f, Out O p (w, f)
  | ⟨.inl (r, f)⟩, w => by
    constructor
    · rintro ⟨h1, h2⟩
      have h1 : r = w := h1
      subst h1
      exact ⟨h2, f, rfl⟩
    · rintro ⟨h1, f', h2⟩
      cases h2
      exact ⟨rfl, h1⟩
  | ⟨.inr (k, c)⟩, w => by
    constructor
    · rintro ⟨u, h1, h2⟩
      obtain ⟨h3, f, h4⟩ := (rn_out O (c u) w).1 h2
      exact ⟨h3, f, u, h1, h4⟩
    · rintro ⟨h1, f, u, h2, h3⟩
      exact ⟨u, h2, (rn_out O (c u) w).2 ⟨h1, f, h3⟩⟩
def AllK {α : Type} (S : By → Prop) : Pg α → Prop
  | ⟨.inl _⟩ => True
  | ⟨.inr (k, c)⟩ => S k ∧ ∀ w, AllK S (c w)
theorem allK_bind {α β : Type} (S : By → Prop) : ∀ (p : Pg α) (f : α → Pg β), AllK S p → (∀ a, AllK S (f a)) → AllK S (p.bind f)
  | ⟨.inl a⟩, f, _, hf => hf a
  | ⟨.inr (k, c)⟩, f, h, hf => ⟨h.1, fun w => allK_bind S (c w) f (h.2 w) hf⟩
theorem allK_then {α β : Type} (S : By → Prop) (p : Pe α) (k : α → Nat → Pe β) (h : AllK S p) (hk : ∀ a f, AllK S (k a f)) : AllK S (thenP p k) := by
  unfold thenP
  refine allK_bind S p _ h (fun q => ?_)
  obtain ⟨r, f⟩ := q
  cases r with
  | ok a => exact hk a f
  | error e => trivial
theorem allK_worth (S : By → Prop) : ∀ (p : Pe V), AllK S p → AllK S p.worth
  | ⟨.inl (r, f)⟩, _ => trivial
  | ⟨.inr (k, c)⟩, h => ⟨h.1, fun w => allK_worth S (c w) (h.2 w)⟩
theorem asks_allK {e : Src} {S : By → Prop} {k' : By} : ∀ (p : Pg Wo), AllK S p → Asks e p k' → S k'
  | ⟨.inl _⟩, _, h => h.elim
  | ⟨.inr (k, c)⟩, hs, h => by
    rcases h with rfl | ⟨u, _, h⟩
    · exact hs.1
    · exact asks_allK (c u) (hs.2 u) h
theorem sumT_snoc (l : List Nat) (m : Nat) : sumT (l ++ [m]) = ⟨1, 43, [], .none, [sumT l, nK m]⟩ := by simp [sumT]
theorem tr_snoc (n : Nat) (l : List Nat) (m f : Nat) : tr (n + 1) (sumT (l ++ [m])) none f = thenP (tr n (sumT l) none f) fun v f => thenP (tr n (nK m) none f) fun u f => .ret (make 43 v u, f) := by
  rw [sumT_snoc]
  rfl
theorem tr_key (n m f : Nat) : tr (n + 1) (nK m) none (f + 1) = needP (keyText m) f := rfl
theorem tr_one (n f : Nat) : tr (n + 1) (sumT []) none (f + 1) = .ret (.ok (vn 1), f) := rfl
theorem sum_keys (S : By → Prop) : ∀ (k : Nat) (l : List Nat), l.length = k → (∀ a ∈ l, S (keyText a)) → ∀ (n f : Nat), k + 1 ≤ n → AllK S (tr n (sumT l) none f) := by
  have hk : ∀ m n f, S (keyText m) → AllK S (tr (n + 1) (nK m) none f) := fun m n f h => by
    cases f with
    | zero => trivial
    | succ f => exact ⟨h, fun _ => trivial⟩
  intro k
  induction k with
  | zero =>
    intro l hl _ n f hn
    obtain rfl := List.eq_nil_of_length_eq_zero hl
    obtain ⟨n, rfl⟩ : ∃ m, n = m + 1 := ⟨n - 1, by omega⟩
    cases f with
    | zero => trivial
    | succ f => trivial
  | succ k ih =>
    intro l hl hS n f hn
    obtain ⟨r, m, rfl⟩ : ∃ r c, l = r ++ [c] := by
      have hne : l ≠ [] := fun e => by rw [e] at hl; simp at hl
      exact ⟨l.dropLast, l.getLast hne, (List.dropLast_concat_getLast hne).symm⟩
    obtain ⟨n, rfl⟩ : ∃ m, n = m + 1 + 1 := ⟨n - 2, by omega⟩
    rw [tr_snoc]
    refine allK_then S _ _ (ih r (by simpa using hl) (fun a ha => hS a (List.mem_append_left _ ha)) _ f (by omega)) (fun v f => allK_then S _ _ (hk m _ f (hS m (by simp))) (fun u f => trivial))
theorem out_then {α β : Type} {O : By → Wo → Prop} {p : Pe α} {k : α → Nat → Pe β} {b : Except Nat β × Nat} (h : Out O (thenP p k) b) : (∃ a f, Out O p (.ok a, f) ∧ Out O (k a f) b) ∨ ∃ e f, Out O p (.error e, f) ∧ b = (.error e, f) := by
  unfold thenP at h
  obtain ⟨⟨r, f⟩, h1, h2⟩ := (out_bind O _ _ _).1 h
  cases r with
  | ok a => exact .inl ⟨a, f, h1, h2⟩
  | error e => exact .inr ⟨e, f, h1, h2.symm⟩
theorem then_out {α β : Type} {O : By → Wo → Prop} {p : Pe α} {k : α → Nat → Pe β} {a : α} {f : Nat} {b : Except Nat β × Nat} (h1 : Out O p (.ok a, f)) (h2 : Out O (k a f) b) : Out O (thenP p k) b := by
  unfold thenP
  exact (out_bind O _ _ _).2 ⟨(.ok a, f), h1, h2⟩
theorem sum_out {O : By → Wo → Prop} (hO : ∀ k u, O k u → ∃ i, u = .ok (vn i)) : ∀ (k : Nat) (l : List Nat), l.length = k → ∀ (n f : Nat) (r : Wo) (f' : Nat), k + 1 ≤ n → Out O (tr n (sumT l) none (f + (k + 1))) (r, f') → (∃ z, r = .ok (vn z)) ∧ f' = f ∧ ∀ a ∈ l, ∃ u, O (keyText a) u := by
  intro k
  induction k with
  | zero =>
    intro l hl n f r f' hn h
    obtain rfl := List.eq_nil_of_length_eq_zero hl
    obtain ⟨n, rfl⟩ : ∃ m, n = m + 1 := ⟨n - 1, by omega⟩
    rw [Nat.zero_add, tr_one] at h
    cases h
    exact ⟨⟨1, rfl⟩, rfl, fun a ha => by cases ha⟩
  | succ k ih =>
    intro l hl n f r f' hn h
    obtain ⟨q, m, rfl⟩ : ∃ r c, l = r ++ [c] := by
      have hne : l ≠ [] := fun e => by rw [e] at hl; simp at hl
      exact ⟨l.dropLast, l.getLast hne, (List.dropLast_concat_getLast hne).symm⟩
    obtain ⟨n, rfl⟩ : ∃ m, n = m + 1 + 1 := ⟨n - 2, by omega⟩
    rw [tr_snoc, show f + (k + 1 + 1) = (f + 1) + (k + 1) by omega] at h
    have hq : q.length = k := by simpa using hl
    rcases out_then h with ⟨v, f1, h1, h2⟩ | ⟨e, f1, h1, h2⟩
    · obtain ⟨⟨z, hz⟩, hf, ha⟩ := ih q hq (n + 1) (f + 1) (.ok v) f1 (by omega) h1
      cases hz
      subst hf
      rw [tr_key] at h2
      rcases out_then h2 with ⟨u, f2, h3, h4⟩ | ⟨e, f2, h3, h4⟩
      · obtain ⟨w, h5, h6⟩ := h3
        obtain ⟨i, rfl⟩ := hO _ _ h5
        cases h6
        cases h4
        refine ⟨⟨_, rfl⟩, rfl, fun a ha' => ?_⟩
        rcases List.mem_append.1 ha' with ha' | ha'
        · exact ha a ha'
        · rw [List.mem_singleton.1 ha']; exact ⟨_, h5⟩
      · obtain ⟨w, h5, h6⟩ := h3
        obtain ⟨i, rfl⟩ := hO _ _ h5
        cases h6
    · obtain ⟨⟨z, hz⟩, _⟩ := ih q hq (n + 1) (f + 1) (.error e) f1 (by omega) h1
      cases hz
theorem out_sum {O : By → Wo → Prop} : ∀ (k : Nat) (l : List Nat), l.length = k → (∀ a ∈ l, ∃ i, O (keyText a) (.ok (vn i))) → ∀ (n f : Nat), k + 1 ≤ n → ∃ z, Out O (tr n (sumT l) none (f + (k + 1))) (.ok (vn z), f) := by
  intro k
  induction k with
  | zero =>
    intro l hl _ n f hn
    obtain rfl := List.eq_nil_of_length_eq_zero hl
    obtain ⟨n, rfl⟩ : ∃ m, n = m + 1 := ⟨n - 1, by omega⟩
    exact ⟨1, rfl⟩
  | succ k ih =>
    intro l hl ha n f hn
    obtain ⟨q, m, rfl⟩ : ∃ r c, l = r ++ [c] := by
      have hne : l ≠ [] := fun e => by rw [e] at hl; simp at hl
      exact ⟨l.dropLast, l.getLast hne, (List.dropLast_concat_getLast hne).symm⟩
    obtain ⟨n, rfl⟩ : ∃ m, n = m + 1 + 1 := ⟨n - 2, by omega⟩
    obtain ⟨z, hz⟩ := ih q (by simpa using hl) (fun a h => ha a (List.mem_append_left _ h)) (n + 1) (f + 1) (by omega)
    obtain ⟨i, hi⟩ := ha m (by simp)
    rw [tr_snoc, show f + (k + 1 + 1) = (f + 1) + (k + 1) by omega]
    exact ⟨_, then_out hz (by rw [tr_key]; exact then_out (show Out O (needP (keyText m) f) (.ok (vn i), f) from ⟨_, hi, rfl⟩) rfl)⟩
structure Gr (e : Src) (n : Nat) (nd : Nat → List Nat) : Prop where
  rule : ∀ i, i < n → e (keyText i) = some (.inr (sumT (nd i)))
  few : ∀ i, i < n → (nd i).length ≤ 3
  lt : ∀ i, i < n → ∀ a ∈ nd i, a < n
theorem okT_sum {l : List Nat} (h : ∀ a ∈ l, a < 12) (hl : l.length ≤ 3) : check (sumText l) = (0, 0) ∧ treeOf (sumText l) = sumT l ∧ okT 6 false (sumT l) = true := by
  have key : goodSum l = true := by
    have hs := sums_ok
    unfold upTo3 at hs
    simp only [Bool.and_eq_true, List.all_eq_true, List.mem_range] at hs
    obtain ⟨h0, h1⟩ := hs
    match l, h, hl with
    | [], _, _ => exact h0
    | [a], h, _ => exact (h1 a (h a (by simp))).1
    | [a, b], h, _ => exact ((h1 a (h a (by simp))).2 b (h b (by simp))).1
    | [a, b, c], h, _ => exact ((h1 a (h a (by simp))).2 b (h b (by simp))).2 c (h c (by simp))
    | _ :: _ :: _ :: _ :: _, _, hl => simp at hl
  unfold goodSum at key
  simp only [Bool.and_eq_true, beq_iff_eq] at key
  exact ⟨key.1.1, beqT_eq 6 _ _ key.1.2, key.2⟩
section
variable {e : Src} {n : Nat} {nd : Nat → List Nat}
theorem Gr.ok (h : Gr e n nd) (hn : n ≤ 12) {i : Nat} (hi : i < n) : okT 6 false (sumT (nd i)) = true := (okT_sum (fun a ha => by have := h.lt i hi a ha; omega) (h.few i hi)).2.2
theorem prog_sum {l : List Nat} (hok : okT 6 false (sumT l) = true) : prog (sumT l) = (tr 6 (sumT l) none 400).worth := by
  unfold prog
  have h6 : 6 ≤ hM (sumT l) := by
    unfold hM
    rw [Nat.zero_mul, Nat.add_zero]
    have : ∀ n, n ≤ hT n := by
      intro n
      induction n with
      | zero => exact Nat.zero_le _
      | succ n ih => show n + 1 ≤ hT n + n + 2; omega
    exact Nat.le_trans (by omega) (this 1605)
  rw [tr_high 6 (hM _) false _ none 400 hok h6]
theorem Gr.down (h : Gr e n nd) (hn : n ≤ 12) : ∀ (m : Nat) (i : Nat) (u : Wo), i < n → Wn e m (keyText i) u → (∃ z, u = .ok (vn z)) ∧ 0 < m ∧ ∀ a ∈ nd i, ∃ z, Wn e (m - 1) (keyText a) (.ok (vn z)) := by
  intro m
  induction m with
  | zero =>
    intro i u hi hw
    exact (Base.noRule hw (h.rule i hi)).elim
  | succ m ih =>
    intro i u hi hw
    rcases hw with hw | ⟨t, h1, h2⟩
    · exact (Base.noRule hw (h.rule i hi)).elim
    · rw [h.rule i hi] at h1
      cases h1
      rw [prog_sum (h.ok hn hi)] at h2
      obtain ⟨_, f, h3⟩ := (rn_out _ _ _).1 h2
      have hf := h.few i hi
      -- only such keys are asked for
      have hO : ∀ k w, (Wn e m k w ∧ ∃ a ∈ nd i, k = keyText a) → ∃ z, w = .ok (vn z) := by
        rintro k w ⟨hk, a, ha, rfl⟩
        exact (ih a w (h.lt i hi a ha) hk).1
      have hall := sum_keys (fun k => ∃ a ∈ nd i, k = keyText a) (nd i).length (nd i) rfl (fun a ha => ⟨a, ha, rfl⟩) 6 400 (by omega)
      have hres : ∀ {α : Type} (p : Pg α) (b : α), AllK (fun k => ∃ a ∈ nd i, k = keyText a) p → Out (Wn e m) p b → Out (fun k w => Wn e m k w ∧ ∃ a ∈ nd i, k = keyText a) p b := by
        intro α p
        exact Pg.ind (P := fun p => ∀ (b : α), AllK (fun k => ∃ a ∈ nd i, k = keyText a) p → Out (Wn e m) p b → Out (fun k w => Wn e m k w ∧ ∃ a ∈ nd i, k = keyText a) p b) (fun a b _ hb => hb) (fun k c ihc b hk hb => by
          obtain ⟨u, h1, h2⟩ := hb
          exact ⟨u, ⟨h1, hk.1⟩, ihc u b (hk.2 u) h2⟩) p
      have h4 := hres _ _ hall h3
      obtain ⟨hz, -, ha⟩ := sum_out hO (nd i).length (nd i) rfl 6 (400 - ((nd i).length + 1)) u f (by omega) (by rw [show 400 - ((nd i).length + 1) + ((nd i).length + 1) = 400 by omega]; exact h4)
      refine ⟨hz, by omega, fun a ha' => ?_⟩
      obtain ⟨w, hw, _⟩ := ha a ha'
      obtain ⟨⟨z, rfl⟩, _⟩ := ih a w (h.lt i hi a ha') hw
      exact ⟨z, hw⟩
theorem Gr.up (h : Gr e n nd) (hn : n ≤ 12) {i : Nat} (hi : i < n) (ha : ∀ a ∈ nd i, ∃ u, W e (keyText a) u) : ∃ z, W e (keyText i) (.ok (vn z)) := by
  have hf := h.few i hi
  obtain ⟨z, hz⟩ := out_sum (O := W e) (nd i).length (nd i) rfl (fun a ha' => by
    obtain ⟨u, m, hm⟩ := ha a ha'
    obtain ⟨⟨z, rfl⟩, _⟩ := h.down hn m a u (h.lt i hi a ha') hm
    exact ⟨z, m, hm⟩) 6 (400 - ((nd i).length + 1)) (by omega)
  rw [show 400 - ((nd i).length + 1) + ((nd i).length + 1) = 400 by omega] at hz
  refine ⟨z, W.rule (h.rule i hi) ?_⟩
  rw [prog_sum (h.ok hn hi)]
  exact (rn_out _ _ _).2 ⟨(fun e => by cases e), _, hz⟩
theorem Gr.nxt (h : Gr e n nd) (hn : n ≤ 12) {i : Nat} (hi : i < n) {k' : By} (hk : Nxt e (keyText i) k') : ∃ a ∈ nd i, k' = keyText a := by
  obtain ⟨t, h1, h2⟩ := hk
  rw [h.rule i hi] at h1
  cases h1
  rw [prog_sum (h.ok hn hi)] at h2
  have hf := h.few i hi
  exact asks_allK _ (allK_worth _ _ (sum_keys (fun k => ∃ a ∈ nd i, k = keyText a) (nd i).length (nd i) rfl (fun a ha => ⟨a, ha, rfl⟩) 6 400 (by omega))) h2
def Way (nd : Nat → List Nat) : Nat → Nat → Nat → Prop
  | 0, i, k => k ∈ nd i
  | m + 1, i, k => ∃ j, j ∈ nd i ∧ Way nd m j k
theorem Gr.way_down (h : Gr e n nd) (hn : n ≤ 12) : ∀ (m i k : Nat) (d : Nat) (u : Wo), i < n → Way nd m i k → Wn e d (keyText i) u → ∃ d' z, d' < d ∧ Wn e d' (keyText k) (.ok (vn z))
  | 0, i, k, d, u, hi, hw, hu => by
    obtain ⟨_, hd, ha⟩ := h.down hn d i u hi hu
    obtain ⟨z, hz⟩ := ha k hw
    exact ⟨d - 1, z, by omega, hz⟩
  | m + 1, i, k, d, u, hi, ⟨j, hj, hw⟩, hu => by
    obtain ⟨_, hd, ha⟩ := h.down hn d i u hi hu
    obtain ⟨z, hz⟩ := ha j hj
    obtain ⟨d', z', h1, h2⟩ := h.way_down hn m j k (d - 1) _ (h.lt i hi j hj) hw hz
    exact ⟨d', z', by omega, h2⟩
theorem Gr.round (h : Gr e n nd) (hn : n ≤ 12) {k m : Nat} (hk : k < n) (hw : Way nd m k k) : ∀ u, ¬ W e (keyText k) u := by
  have : ∀ d u, ¬ Wn e d (keyText k) u := by
    intro d
    induction d using Nat.strongRecOn with
    | ind d ih =>
      intro u hu
      obtain ⟨d', z, h1, h2⟩ := h.way_down hn m k k d u hk hw hu
      exact ih d' h1 _ h2
  rintro u ⟨d, hd⟩
  exact this d u hd
theorem Gr.row (h : Gr e n nd) (hn : n ≤ 12) : ∀ (L i : Nat), i < n → (∀ u, ¬ W e (keyText i) u) → ∃ p : List Nat, p.length = L ∧ (∀ x ∈ p, x < n) ∧ ∀ (a b : Nat) (x y : Nat), a < b → (i :: p)[a]? = some x → (i :: p)[b]? = some y → ∃ m, Way nd m x y := by
  intro L
  induction L with
  | zero =>
    intro i hi _
    refine ⟨[], rfl, (fun x hx => by cases hx), fun a b x y hab ha hb => ?_⟩
    have := (List.getElem?_eq_some_iff.1 hb).1
    simp at this
    omega
  | succ L ih =>
    intro i hi hno
    have hex : ∃ a ∈ nd i, ∀ u, ¬ W e (keyText a) u := by
      refine Classical.byContradiction fun hc => ?_
      obtain ⟨z, hz⟩ := h.up hn hi (fun a ha => Classical.byContradiction fun h2 => hc ⟨a, ha, fun u hu => h2 ⟨u, hu⟩⟩)
      exact hno _ hz
    obtain ⟨a, ha, hna⟩ := hex
    have han := h.lt i hi a ha
    obtain ⟨p, h1, h2, h3⟩ := ih a han hna
    refine ⟨a :: p, by simp [h1], fun x hx => ?_, fun s t x y hst hs ht => ?_⟩
    · rcases List.mem_cons.1 hx with rfl | hx
      · exact han
      · exact h2 x hx
    · obtain ⟨t, rfl⟩ : ∃ t', t = t' + 1 := ⟨t - 1, by omega⟩
      rw [List.getElem?_cons_succ] at ht
      cases s with
      | zero =>
        simp at hs
        subst hs
        cases t with
        | zero =>
          simp at ht
          subst ht
          exact ⟨0, ha⟩
        | succ t =>
          obtain ⟨m, hm⟩ := h3 0 (t + 1) a y (by omega) (by simp) ht
          exact ⟨m + 1, a, ha, hm⟩
      | succ s =>
        rw [List.getElem?_cons_succ] at hs
        exact h3 s t x y (by omega) hs ht
theorem nodup_le : ∀ (n : Nat) (l : List Nat), l.Nodup → (∀ x ∈ l, x < n) → l.length ≤ n
  | 0, l, _, h => by
    cases l with
    | nil => exact Nat.le_refl _
    | cons a l => have := h a (by simp); omega
  | n + 1, l, hd, h => by
    have h1 := nodup_le n (l.filter fun x => !(x == n)) (hd.filter _) (fun x hx => by
      obtain ⟨h2, h3⟩ := List.mem_filter.1 hx
      have := h x h2
      have h4 : x ≠ n := by simpa using h3
      omega)
    have h2 : l.length ≤ (l.filter fun x => !(x == n)).length + 1 := by
      have h3 : (l.filter fun x => x == n).length ≤ 1 := by
        have h4 : (l.filter fun x => x == n) = List.replicate (l.count n) n := List.filter_beq n
        rw [h4, List.length_replicate]
        exact List.nodup_iff_count.1 hd n
      have h5 : ∀ l : List Nat, l.length = (l.filter fun x => x == n).length + (l.filter fun x => !(x == n)).length := by
        intro l
        induction l with
        | nil => rfl
        | cons a l ih =>
          by_cases ha : (a == n) = true
          · simp only [List.filter_cons, ha, if_true, Bool.not_true, List.length_cons, if_neg Bool.false_ne_true]
            omega
          · have ha' : (a == n) = false := by simpa using ha
            simp only [List.filter_cons, ha', Bool.not_false, if_true, List.length_cons, if_neg Bool.false_ne_true]
            omega
      have := h5 l
      omega
    omega
theorem Gr.find (h : Gr e n nd) (hn : n ≤ 12) {i : Nat} (hi : i < n) (hno : ∀ u, ¬ W e (keyText i) u) : ∃ k, (k = i ∨ ∃ m, Way nd m i k) ∧ ∃ m, Way nd m k k := by
  obtain ⟨p, h1, h2, h3⟩ := h.row hn n i hi hno
  have hnd : ¬ (i :: p).Nodup := fun hd => by
    have := nodup_le n (i :: p) hd (fun x hx => by
      rcases List.mem_cons.1 hx with rfl | hx
      · exact hi
      · exact h2 x hx)
    simp at this
    omega
  have hrep : ∃ (a b x : Nat), a < b ∧ (i :: p)[a]? = some x ∧ (i :: p)[b]? = some x := by
    refine Classical.byContradiction fun hc => hnd ?_
    show List.Pairwise _ (i :: p)
    rw [List.pairwise_iff_getElem]
    intro a b ha hb hab he
    exact hc ⟨a, b, (i :: p)[a], hab, List.getElem?_eq_getElem ha, by rw [List.getElem?_eq_getElem hb, he]⟩
  obtain ⟨a, b, x, hab, ha, hb⟩ := hrep
  refine ⟨x, ?_, h3 a b x x hab ha hb⟩
  cases a with
  | zero => simp at ha; exact .inl ha.symm
  | succ a => exact .inr (h3 0 (a + 1) i x (by omega) (by simp) ha)
end
end Lard
end Go.Proofs.YtpekpdimdelncaaGreatDoor
namespace Go.Proofs.YtpekpdimdelncaaGreatDoor
namespace Lard
set_option linter.unusedVariables false
def Thr (nd : Nat → List Nat) (x : Nat) : Nat → Nat → Nat → Prop
  | 0, a, c => c ∈ nd a
  | m + 1, a, c => ∃ j, j < x ∧ j ∈ nd a ∧ Thr nd x m j c
variable {nd : Nat → List Nat}
theorem thr_split {x : Nat} : ∀ (m a c : Nat), Thr nd (x + 1) m a c → (∃ m', Thr nd x m' a c) ∨ ((∃ m', Thr nd x m' a x) ∧ ∃ m', Thr nd x m' x c)
  | 0, a, c, h => .inl ⟨0, h⟩
  | m + 1, a, c, ⟨j, hj, h1, h2⟩ => by
    rcases Nat.lt_or_ge j x with hlt | hge
    · rcases thr_split m j c h2 with ⟨m', h3⟩ | ⟨⟨m1, h3⟩, m2, h4⟩
      · exact .inl ⟨m' + 1, j, hlt, h1, h3⟩
      · exact .inr ⟨⟨m1 + 1, j, hlt, h1, h3⟩, m2, h4⟩
    · obtain rfl : j = x := by omega
      rcases thr_split m j c h2 with ⟨m', h3⟩ | ⟨_, m2, h4⟩
      · exact .inr ⟨⟨0, h1⟩, m', h3⟩
      · exact .inr ⟨⟨0, h1⟩, m2, h4⟩
theorem way_thr {n : Nat} (hn : ∀ i, i < n → ∀ a ∈ nd i, a < n) : ∀ (m a c : Nat), a < n → Way nd m a c → Thr nd n m a c
  | 0, a, c, _, h => h
  | m + 1, a, c, ha, ⟨j, h1, h2⟩ => ⟨j, hn a ha j h1, h1, way_thr hn m j c (hn a ha j h1) h2⟩
theorem way_trans : ∀ (m m' a b c : Nat), Way nd m a b → Way nd m' b c → ∃ k, Way nd k a c
  | 0, m', a, b, c, h, h' => ⟨m' + 1, b, h, h'⟩
  | m + 1, m', a, b, c, ⟨j, h1, h2⟩, h' => by
    obtain ⟨k, hk⟩ := way_trans m m' j b c h2 h'
    exact ⟨k + 1, j, h1, hk⟩
structure Far (nd : Nat → List Nat) (n x i k : Nat) (M : Nat → Nat → Bool) : Prop where
  sound : ∀ a c, a < n → c < n → M a c = true → ∃ m, Way nd m a c
  all : ∀ a c m, a < n → c < n → Thr nd x m a c → M a c = true
  part : ∀ a c m, a < n → c < n → a < i ∨ (a = i ∧ c < k) → Thr nd (x + 1) m a c → M a c = true
def upd (M : Nat → Nat → Bool) (i k : Nat) (b : Bool) : Nat → Nat → Bool := fun a c => if a = i ∧ c = k then b else M a c
theorem Far.step {n x i k : Nat} {M : Nat → Nat → Bool} (h : Far nd n x i k M) (hx : x < n) (hi : i < n) (hk : k < n) : Far nd n x i (k + 1) (upd M i k (M i k || (M i x && M x k))) := by
  have hle : ∀ a c, M a c = true → upd M i k (M i k || (M i x && M x k)) a c = true := fun a c hm => by
    unfold upd
    split
    · rename_i h1; obtain ⟨rfl, rfl⟩ := h1; simp [hm]
    · exact hm
  refine ⟨fun a c ha hc hm => ?_, fun a c m ha hc hm => hle a c (h.all a c m ha hc hm), fun a c m ha hc hp hm => ?_⟩
  · unfold upd at hm
    split at hm
    · rename_i h1
      obtain ⟨rfl, rfl⟩ := h1
      simp only [Bool.or_eq_true, Bool.and_eq_true] at hm
      rcases hm with hm | ⟨h1, h2⟩
      · exact h.sound a c ha hc hm
      · obtain ⟨m1, w1⟩ := h.sound a x ha hx h1
        obtain ⟨m2, w2⟩ := h.sound x c hx hc h2
        exact way_trans m1 m2 a x c w1 w2
    · exact h.sound a c ha hc hm
  · by_cases he : a = i ∧ c = k
    · obtain ⟨rfl, rfl⟩ := he
      unfold upd
      rw [if_pos ⟨rfl, rfl⟩]
      rcases thr_split m a c hm with ⟨m', h3⟩ | ⟨⟨m1, h3⟩, m2, h4⟩
      · simp [h.all a c m' ha hc h3]
      · simp [h.all a x m1 ha hx h3, h.all x c m2 hx hc h4]
    · exact hle a c (h.part a c m ha hc (by omega) hm)
theorem Far.done {n : Nat} {M : Nat → Nat → Bool} (h : Far nd n n 0 0 M) (hn : ∀ i, i < n → ∀ a ∈ nd i, a < n) {a c : Nat} (ha : a < n) (hc : c < n) : M a c = true ↔ ∃ m, Way nd m a c :=
  ⟨h.sound a c ha hc, fun ⟨m, hm⟩ => h.all a c m ha hc (way_thr hn m a c ha hm)⟩
end Lard
end Go.Proofs.YtpekpdimdelncaaGreatDoor
namespace Go.Proofs.YtpekpdimdelncaaGreatDoor
open Go.RowKit Go.Shelf
set_option linter.unusedVariables false
set_option linter.unusedSimpArgs false
def keyB (m : Nat) : ByteArray := ⟨(Lard.keyText m).toArray⟩
theorem keyB_list (m : Nat) : (keyB m).data.toList = Lard.keyText m := by simp [keyB]
theorem keyB_name : ∀ k, k < 12 → Lard.isName (keyB k).data.toList = true := by
  intro k hk
  rw [keyB_list]
  have : ∀ k, k < 12 → Lard.isName (Lard.keyText k) = true := by decide +kernel
  exact this k hk
set_option maxRecDepth 100000 in
set_option maxHeartbeats 1000000 in
theorem key_any (m : Nat) (w : World) (hm : m ≤ 1000000) : Calls Tryz.prog 19 #[.int .i64 m] w fun e w' => e = .returned (.string (keyB m)) ∧ Below w.heap.size w w' := by
  have HD := hide (dec_any (m : Int) w (by omega) (by omega))
  have hz : (⟨(Lib.itoa (m : Int)).toArray⟩ : ByteArray).size ≤ 20 := by
    have := Lard.itoa_len8 (x := (m : Int)) (by omega)
    rw [size_data]
    simpa using Nat.le_trans this (by omega)
  have e : (⟨#[107]⟩ : ByteArray) ++ ⟨(Lib.itoa (m : Int)).toArray⟩ = keyB m := by
    unfold keyB Lard.keyText
    apply ByteArray.ext
    simp
  have HE := hide e
  clear e
  generalize (⟨(Lib.itoa (m : Int)).toArray⟩ : ByteArray) = d at HD HE hz
  generalize keyB m = kb at HE
  go_enter Tryz.func19, Tryz.ntmps19
  go_wp2_with fail
  refine HD.out.mono ?_
  rintro e w' ⟨rfl, hB⟩
  clear HD
  go_wp2_with fail
  go_ret
  exact ⟨by rw [← HE.out]; rfl, hB⟩
end Go.Proofs.YtpekpdimdelncaaGreatDoor
