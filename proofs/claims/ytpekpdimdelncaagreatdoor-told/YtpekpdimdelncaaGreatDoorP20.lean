/- Out of: Th1, L10, L11. -/
import Derived.Test.YtpekpdimdelncaaGreatDoorP07
import Derived.Test.YtpekpdimdelncaaGreatDoorP19
namespace Go.Proofs.YtpekpdimdelncaaGreatDoor
namespace Lard
set_option linter.unusedVariables false
abbrev Src := By → Option (Sum V T)
def srcOf (h : List (By × Thing)) : Src := fun k => (look h k).map fun th => match th.tree with | .none => .inl th.value | .some t => .inr t
theorem fin_prog (t : T) : Fin (prog t) := fin_worth _ (good_tr _ _ _ _)
def Rn (O : By → Wo → Prop) : Pg Wo → Wo → Prop
  | ⟨.inl u⟩, w => u = w ∧ w ≠ .error 12
  | ⟨.inr (k, c)⟩, w => ∃ u, O k u ∧ Rn O (c u) w
section
variable (e : Src)
def Base (k : By) (w : Wo) : Prop := (e k = none ∧ w = .error 7) ∨ ∃ v, e k = some (.inl v) ∧ w = .ok v
def Wn : Nat → By → Wo → Prop
  | 0, k, w => Base e k w
  | n + 1, k, w => Base e k w ∨ ∃ t, e k = some (.inr t) ∧ Rn (Wn n) (prog t) w
def W (k : By) (w : Wo) : Prop := ∃ n, Wn e n k w
def Is (k : By) (w : Wo) : Prop := W e k w ∨ (w = .error 12 ∧ ∀ u, ¬ W e k u)
def Asks : Pg Wo → By → Prop
  | ⟨.inl _⟩, _ => False
  | ⟨.inr (k, c)⟩, k' => k = k' ∨ ∃ u, W e k u ∧ Asks (c u) k'
def Nxt (k k' : By) : Prop := ∃ t, e k = some (.inr t) ∧ Asks e (prog t) k'
end
theorem Rn.mono {O O' : By → Wo → Prop} (h : ∀ k u, O k u → O' k u) : ∀ (p : Pg Wo) (w : Wo), Rn O p w → Rn O' p w
  | ⟨.inl _⟩, _, hp => hp
  | ⟨.inr (k, c)⟩, w, ⟨u, h1, h2⟩ => ⟨u, h k u h1, Rn.mono h (c u) w h2⟩
theorem Rn.not12 {O : By → Wo → Prop} : ∀ (p : Pg Wo) (w : Wo), Rn O p w → w ≠ .error 12
  | ⟨.inl _⟩, _, hp => hp.2
  | ⟨.inr (_, c)⟩, w, ⟨u, _, h2⟩ => Rn.not12 (c u) w h2
theorem Rn.det {O O' : By → Wo → Prop} (h : ∀ k u u', O k u → O' k u' → u = u') : ∀ (p : Pg Wo) (w w' : Wo), Rn O p w → Rn O' p w' → w = w'
  | ⟨.inl _⟩, _, _, hp, hp' => hp.1.symm.trans hp'.1
  | ⟨.inr (k, c)⟩, w, w', ⟨u, h1, h2⟩, ⟨u', h1', h2'⟩ => by
    obtain rfl := h k u u' h1 h1'
    exact Rn.det h (c u) w w' h2 h2'
variable {e : Src}
theorem Base.not12 {k : By} {w : Wo} (h : Base e k w) : w ≠ .error 12 := by
  rcases h with ⟨_, rfl⟩ | ⟨v, _, rfl⟩
  · intro h; cases h
  · intro h; cases h
theorem Base.det {k : By} {w w' : Wo} (h : Base e k w) (h' : Base e k w') : w = w' := by
  rcases h with ⟨h, rfl⟩ | ⟨v, h, rfl⟩ <;> rcases h' with ⟨h', rfl⟩ | ⟨v', h', rfl⟩
  · rfl
  · rw [h] at h'; cases h'
  · rw [h] at h'; cases h'
  · rw [h] at h'; cases h'; rfl
theorem Base.noRule {k : By} {w : Wo} {t : T} (h : Base e k w) (h' : e k = some (.inr t)) : False := by
  rcases h with ⟨h, _⟩ | ⟨v, h, _⟩
  · rw [h] at h'; cases h'
  · rw [h] at h'; cases h'
theorem Wn.not12 {n : Nat} {k : By} {w : Wo} (h : Wn e n k w) : w ≠ .error 12 := by
  cases n with
  | zero => exact Base.not12 h
  | succ n =>
    rcases h with h | ⟨t, _, h⟩
    · exact h.not12
    · exact Rn.not12 _ _ h
theorem Wn.up : ∀ {n : Nat} {k : By} {w : Wo}, Wn e n k w → Wn e (n + 1) k w
  | 0, _, _, h => .inl h
  | n + 1, k, w, h => by
    rcases h with h | ⟨t, h1, h2⟩
    · exact .inl h
    · exact .inr ⟨t, h1, h2.mono (fun _ _ h => Wn.up h)⟩
theorem Wn.le {n m : Nat} {k : By} {w : Wo} (h : Wn e n k w) (hm : n ≤ m) : Wn e m k w := by
  induction hm with
  | refl => exact h
  | step _ ih => exact ih.up
theorem Wn.det : ∀ {n : Nat} {m : Nat} {k : By} {w w' : Wo}, Wn e n k w → Wn e m k w' → w = w'
  | 0, m, k, w, w', h, h' => by
    cases m with
    | zero => exact Base.det h h'
    | succ m =>
      rcases h' with h' | ⟨t, h1, _⟩
      · exact Base.det h h'
      · exact (Base.noRule h h1).elim
  | n + 1, m, k, w, w', h, h' => by
    rcases h with h | ⟨t, h1, h2⟩
    · cases m with
      | zero => exact Base.det h h'
      | succ m =>
        rcases h' with h' | ⟨t, h1, _⟩
        · exact Base.det h h'
        · exact (Base.noRule h h1).elim
    · cases m with
      | zero => exact (Base.noRule h' h1).elim
      | succ m =>
        rcases h' with h' | ⟨t', h1', h2'⟩
        · exact (Base.noRule h' h1).elim
        · rw [h1] at h1'; cases h1'
          exact Rn.det (O := Wn e n) (O' := Wn e m) (fun k u u' a b => Wn.det (n := n) (m := m) (k := k) a b) _ _ _ h2 h2'
theorem W.det {k : By} {w w' : Wo} : W e k w → W e k w' → w = w'
  | ⟨_, h⟩, ⟨_, h'⟩ => h.det h'
theorem W.not12 {k : By} {w : Wo} : W e k w → w ≠ .error 12
  | ⟨_, h⟩ => h.not12
theorem Is.det {k : By} {w w' : Wo} (h : Is e k w) (h' : Is e k w') : w = w' := by
  rcases h with h | ⟨rfl, h⟩ <;> rcases h' with h' | ⟨rfl, h'⟩
  · exact h.det h'
  · exact (h' _ h).elim
  · exact (h _ h').elim
  · rfl
theorem Is.w {k : By} {w : Wo} (h : Is e k w) (h12 : w ≠ .error 12) : W e k w := by
  rcases h with h | ⟨rfl, _⟩
  · exact h
  · exact (h12 rfl).elim
theorem Is.no {k : By} {u : Wo} (h : Is e k (.error 12)) : ¬ W e k u := by
  rcases h with h | ⟨_, h⟩
  · exact (h.not12 rfl).elim
  · exact h u
theorem Rn.height : ∀ (p : Pg Wo) (w : Wo), Rn (W e) p w → ∃ n, Rn (Wn e n) p w
  | ⟨.inl _⟩, _, h => ⟨0, h⟩
  | ⟨.inr (k, c)⟩, w, ⟨u, ⟨n, h1⟩, h2⟩ => by
    obtain ⟨m, hm⟩ := Rn.height (c u) w h2
    exact ⟨max n m, u, h1.le (Nat.le_max_left _ _), hm.mono (fun _ _ h => h.le (Nat.le_max_right _ _))⟩
theorem W.rule {k : By} {t : T} {w : Wo} (h : e k = some (.inr t)) (hr : Rn (W e) (prog t) w) : W e k w := by
  obtain ⟨n, hn⟩ := Rn.height _ _ hr
  exact ⟨n + 1, .inr ⟨t, h, hn⟩⟩
theorem asks_down {n : Nat} {k' : By} : ∀ (p : Pg Wo) (w : Wo), Rn (Wn e n) p w → Asks e p k' → ∃ w', Wn e n k' w'
  | ⟨.inl _⟩, _, _, h => h.elim
  | ⟨.inr (k, c)⟩, w, ⟨u, h1, h2⟩, h => by
    rcases h with rfl | ⟨u', h3, h4⟩
    · exact ⟨u, h1⟩
    · obtain rfl := W.det ⟨n, h1⟩ h3
      exact asks_down (c u) w h2 h4
theorem Nxt.down {n : Nat} {k k' : By} {w : Wo} (h : Nxt e k k') (hw : Wn e n k w) : ∃ m w', m < n ∧ Wn e m k' w' := by
  obtain ⟨t, h1, h2⟩ := h
  cases n with
  | zero => exact (Base.noRule hw h1).elim
  | succ n =>
    rcases hw with hw | ⟨t', h1', h3⟩
    · exact (Base.noRule hw h1).elim
    · rw [h1] at h1'; cases h1'
      obtain ⟨w', h⟩ := asks_down _ _ h3 h2
      exact ⟨n, w', Nat.lt_succ_self n, h⟩
def Lnk (R : By → By → Prop) : List By → Prop
  | [] => True
  | [_] => True
  | a :: b :: r => R a b ∧ Lnk R (b :: r)
theorem lnk_down {l : List By} : ∀ {a : By} {n : Nat} {w : Wo}, Lnk (Nxt e) (a :: l) → Wn e n a w → ∀ x ∈ l, ∃ m w', m < n ∧ Wn e m x w' := by
  induction l with
  | nil => intro a n w _ _ x hx; simp at hx
  | cons b r ih =>
    intro a n w hl hw x hx
    obtain ⟨h1, h2⟩ := hl
    obtain ⟨m, w', hm, hw'⟩ := h1.down hw
    rcases List.mem_cons.1 hx with rfl | hx
    · exact ⟨m, w', hm, hw'⟩
    · obtain ⟨m2, w2, hm2, hw2⟩ := ih h2 hw' x hx
      exact ⟨m2, w2, by omega, hw2⟩
theorem round_none {k : By} {l : List By} (hl : Lnk (Nxt e) (k :: l ++ [k])) : ∀ u, ¬ W e k u := by
  intro u ⟨n, hn⟩
  induction n using Nat.strongRecOn generalizing u with
  | ind n ih =>
    obtain ⟨m, w', hm, hw'⟩ := lnk_down (l := l ++ [k]) (by simpa using hl) hn k (by simp)
    exact ih m hm w' hw'
theorem lnk_drop {R : By → By → Prop} : ∀ (l m : List By), Lnk R (l ++ m) → Lnk R m
  | [], m, h => h
  | [a], [], _ => trivial
  | [a], b :: m, h => h.2
  | a :: b :: r, m, h => lnk_drop (b :: r) m h.2
theorem lnk_snoc {R : By → By → Prop} : ∀ (l : List By) (a b : By), Lnk R (l ++ [a]) → R a b → Lnk R (l ++ [a] ++ [b])
  | [], a, b, _, h => ⟨h, trivial⟩
  | [x], a, b, h, h' => ⟨h.1, h', trivial⟩
  | x :: y :: r, a, b, h, h' => ⟨h.1, lnk_snoc (y :: r) a b h.2 h'⟩
theorem fromKey_split : ∀ (l : List By) (k : By), k ∈ l → ∃ m r, l = m ++ k :: r ∧ fromKey l k = k :: r
  | [], _, h => by simp at h
  | x :: l, k, h => by
    by_cases hx : x = k
    · subst hx
      exact ⟨[], l, rfl, by unfold fromKey; rw [List.dropWhile_cons]; simp⟩
    · obtain ⟨m, r, h1, h2⟩ := fromKey_split l k (by rcases List.mem_cons.1 h with h | h; exact (hx h.symm).elim; exact h)
      refine ⟨x :: m, r, by rw [h1]; rfl, ?_⟩
      unfold fromKey at h2 ⊢
      rw [List.dropWhile_cons, if_pos (by simp [hx]), h2]
def Ring (e : Src) (l : List By) : Prop := ∃ k r, l = k :: r ∧ Lnk (Nxt e) (k :: r ++ [k])
theorem ring_met {l : List By} {k : By} (h : Lnk (Nxt e) (l ++ [k])) (hk : k ∈ l) : Ring e (fromKey l k) ∧ ∀ u, ¬ W e k u := by
  obtain ⟨m, r, h1, h2⟩ := fromKey_split l k hk
  have h3 : Lnk (Nxt e) (k :: r ++ [k]) := lnk_drop m _ (by rw [h1] at h; simpa using h)
  exact ⟨⟨k, r, h2, h3⟩, round_none h3⟩
/-! What is kept was a run. -/
def Hon : Pg Wo → List (By × Wo) → List (By × Wo) → Wo → Prop
  | ⟨.inl u⟩, acc, ns, w => u = w ∧ w ≠ .error 12 ∧ acc = ns
  | ⟨.inr (k, c)⟩, acc, ns, w => (∃ u, look acc k = some u ∧ Hon (c u) acc ns w) ∨ (look acc k = none ∧ ∃ u, u ≠ .error 12 ∧ Hon (c u) (acc ++ [(k, u)]) ns w)
theorem Hon.pre : ∀ {p : Pg Wo} {acc ns : List (By × Wo)} {w : Wo}, Hon p acc ns w → ∃ r, ns = acc ++ r
  | ⟨.inl _⟩, acc, ns, w, h => ⟨[], by simp [h.2.2]⟩
  | ⟨.inr (k, c)⟩, acc, ns, w, h => by
    rcases h with ⟨u, _, h⟩ | ⟨_, u, _, h⟩
    · exact Hon.pre h
    · obtain ⟨r, hr⟩ := Hon.pre h
      exact ⟨(k, u) :: r, by rw [hr]; simp⟩
theorem Hon.not12 : ∀ {p : Pg Wo} {acc ns : List (By × Wo)} {w : Wo}, Hon p acc ns w → w ≠ .error 12
  | ⟨.inl _⟩, _, _, _, h => h.2.1
  | ⟨.inr (k, c)⟩, acc, ns, w, h => by
    rcases h with ⟨u, _, h⟩ | ⟨_, u, _, h⟩
    · exact Hon.not12 h
    · exact Hon.not12 h
theorem Hon.needs12 : ∀ {p : Pg Wo} {acc ns : List (By × Wo)} {w : Wo}, Hon p acc ns w → (∀ n ∈ acc, n.2 ≠ .error 12) → ∀ n ∈ ns, n.2 ≠ .error 12
  | ⟨.inl _⟩, _, _, _, h, ha => by rw [← h.2.2]; exact ha
  | ⟨.inr (k, c)⟩, acc, ns, w, h, ha => by
    rcases h with ⟨u, _, h⟩ | ⟨_, u, hu, h⟩
    · exact Hon.needs12 h ha
    · refine Hon.needs12 h (fun n hn => ?_)
      rcases List.mem_append.1 hn with hn | hn
      · exact ha n hn
      · rw [List.mem_singleton.1 hn]; exact hu
theorem look_mem {α : Type} : ∀ {l : List (By × α)} {k : By} {a : α}, look l k = some a → (k, a) ∈ l
  | [], _, _, h => by cases h
  | p :: l, k, a, h => by
    rw [look_cons] at h
    by_cases hp : p.1 = k
    · rw [if_pos hp] at h; cases h; subst hp; exact List.mem_cons_self
    · rw [if_neg hp] at h; exact List.mem_cons_of_mem _ (look_mem h)
theorem Hon.all : ∀ {p : Pg Wo} {acc ns : List (By × Wo)} {w : Wo}, Hon p acc ns w → (∀ n ∈ ns, W e n.1 n.2) → Rn (W e) p w
  | ⟨.inl _⟩, _, _, _, h, _ => ⟨h.1, h.2.1⟩
  | ⟨.inr (k, c)⟩, acc, ns, w, h, hn => by
    rcases h with ⟨u, hu, h⟩ | ⟨_, u, _, h⟩
    · obtain ⟨r, hr⟩ := h.pre
      exact ⟨u, hn (k, u) (by rw [hr]; exact List.mem_append_left _ (look_mem hu)), Hon.all h hn⟩
    · obtain ⟨r, hr⟩ := h.pre
      exact ⟨u, hn (k, u) (by rw [hr]; simp), Hon.all h hn⟩
theorem Hon.next : ∀ {p : Pg Wo} {acc pre post : List (By × Wo)} {k : By} {u w : Wo}, Hon p acc (pre ++ (k, u) :: post) w → acc.length ≤ pre.length → (∀ n ∈ pre, W e n.1 n.2) → Asks e p k
  | ⟨.inl _⟩, acc, pre, post, k, u, w, h, hl, _ => by
    have := congrArg List.length h.2.2
    simp at this
    omega
  | ⟨.inr (k', c)⟩, acc, pre, post, k, u, w, h, hl, hp => by
    rcases h with ⟨u', hu, h⟩ | ⟨_, u', _, h⟩
    · obtain ⟨r, hr⟩ := h.pre
      have hin : (k', u') ∈ pre := by
        have := look_mem hu
        have h2 : acc = pre.take acc.length := by
          have h3 := congrArg (List.take acc.length) hr
          rw [List.take_append_of_le_length hl, List.take_left] at h3
          exact h3.symm
        rw [h2] at this
        exact List.mem_of_mem_take this
      exact .inr ⟨u', hp _ hin, Hon.next h hl hp⟩
    · obtain ⟨r, hr⟩ := h.pre
      have h2 : (pre ++ (k, u) :: post)[acc.length]? = some (k', u') := by rw [hr]; simp
      rcases Nat.lt_or_ge acc.length pre.length with hlt | hge
      · rw [List.getElem?_append_left hlt] at h2
        exact .inr ⟨u', hp _ (List.mem_of_getElem? h2), Hon.next h (by simp; omega) hp⟩
      · have he : acc.length = pre.length := by omega
        rw [he, List.getElem?_append_right (Nat.le_refl _)] at h2
        simp at h2
        exact .inl h2.1.symm
end Lard
end Go.Proofs.YtpekpdimdelncaaGreatDoor
namespace Go.Proofs.YtpekpdimdelncaaGreatDoor
open Go.RowKit Go.Shelf
set_option linter.unusedVariables false
set_option linter.unusedSimpArgs false
theorem nodup_inj {α β : Type} (f : α → β) : ∀ {l : List α}, (l.map f).Nodup → ∀ {a b : α}, a ∈ l → b ∈ l → f a = f b → a = b
  | [], _, _, _, h, _, _ => by simp at h
  | x :: l, hn, a, b, ha, hb, hab => by
    simp only [List.map_cons, List.nodup_cons] at hn
    rcases List.mem_cons.1 ha with h1 | h1
    · rcases List.mem_cons.1 hb with h2 | h2
      · exact h1.trans h2.symm
      · exact (hn.1 (by rw [← h1, hab]; exact List.mem_map.2 ⟨b, h2, rfl⟩)).elim
    · rcases List.mem_cons.1 hb with h2 | h2
      · exact (hn.1 (by rw [← h2, ← hab]; exact List.mem_map.2 ⟨a, h1, rfl⟩)).elim
      · exact nodup_inj f hn.2 h1 h2 hab
theorem lk_thing (hp : List (List UInt8 × (Lard.Thing × Nat))) (k : List UInt8) : Lard.look (hp.map fun x => (x.1, x.2.1)) k = (Lard.look hp k).map (fun x => x.1) :=
  Lard.look_map (fun x : List UInt8 × (Lard.Thing × Nat) => (x.1, x.2.1)) (fun _ x => x.1) (fun _ => rfl) hp k
theorem lk_ptr (hp : List (List UInt8 × (Lard.Thing × Nat))) (k : List UInt8) : Lard.look (hp.map fun x => (x.1, ptr x.2.2)) k = (Lard.look hp k).map (fun x => ptr x.2) :=
  Lard.look_map (fun x : List UInt8 × (Lard.Thing × Nat) => (x.1, ptr x.2.2)) (fun _ x => ptr x.2) (fun _ => rfl) hp k
theorem mem_look {α : Type} {l : List (List UInt8 × α)} {k : List UInt8} {a : α} (hn : (l.map (·.1)).Nodup) (h : (k, a) ∈ l) : Lard.look l k = some a := by
  obtain ⟨j, hj⟩ := List.getElem?_of_mem h
  exact look_at hn hj
theorem HasAt.at {w : World} {L : Nat → Prop} {hb : Nat} {has : List (List UInt8 × Lard.Thing)} (h : HasAt w L hb has) {key : List UInt8} {th : Lard.Thing} (hl : Lard.look has key = some th) :
    ∃ p, ThingAt w L th p ∧ (∀ (c : Bool), key.length ≤ maxLen → (Instr.lookup 104 (.map (some hb)) (str key) c).run Tryz.prog w = .ok (if c = true then .tuple #[ptr p, .bool true] else ptr p) w) := by
  obtain ⟨hp, h1, h2, h3, h4, h5, h6⟩ := h
  have hlk : (Lard.look hp key).map (fun x => x.1) = some th := by
    rw [← hl, h1, lk_thing]
  cases hx : Lard.look hp key with
  | none => rw [hx] at hlk; cases hlk
  | some x =>
    rw [hx] at hlk
    have e : x.1 = th := by simpa using hlk
    subst e
    have hm := Lard.look_mem hx
    refine ⟨x.2, h4 _ hm, fun c hk => ?_⟩
    have hml : Lard.look (hp.map fun x => (x.1, ptr x.2.2)) key = some (ptr x.2) := by
      rw [lk_ptr, hx]; rfl
    cases c
    · have := h2.look1 Tryz.underlying104 hk (z := .pointer none) (by kernel_rfl)
      rw [this, hml]
      rfl
    · have := h2.look Tryz.underlying104 hk (z := .pointer none) (by kernel_rfl)
      rw [this, hml]
      rfl
theorem HasAt.absent {w : World} {L : Nat → Prop} {hb : Nat} {has : List (List UInt8 × Lard.Thing)} (h : HasAt w L hb has) {key : List UInt8} (hl : Lard.look has key = none) (hk : key.length ≤ maxLen) :
    (Instr.lookup 104 (.map (some hb)) (str key) true).run Tryz.prog w = .ok (.tuple #[.pointer none, .bool false]) w := by
  obtain ⟨hp, h1, h2, h3, h4, h5, h6⟩ := h
  have hx : Lard.look hp key = Option.none := by
    rw [h1, lk_thing] at hl
    cases hx : Lard.look hp key with
    | none => rfl
    | some x => rw [hx] at hl; cases hl
  have hml : Lard.look (hp.map fun x => (x.1, ptr x.2.2)) key = Option.none := by
    rw [lk_ptr, hx]; rfl
  have := h2.look Tryz.underlying104 hk (z := .pointer Option.none) (by kernel_rfl)
  rw [this, hml]
theorem HasAt.set {w : World} {L : Nat → Prop} {hb : Nat} {has : List (List UInt8 × Lard.Thing)} (h : HasAt w L hb has) {key : List UInt8} {th : Lard.Thing} {p : Nat} (hl : Lard.look has key = some th) (o : Option Lard.Keep) (v : Value)
    (ho : (o = none ∧ v = .pointer none) ∨ ∃ kp kb, o = some kp ∧ v = ptr kb ∧ KeepAt w L kp kb ∧ th.tree ≠ none) (hp0 : (Instr.lookup 104 (.map (some hb)) (str key) false).run Tryz.prog w = .ok (ptr p) w) (hk : key.length ≤ maxLen) :
    HasAt (w.setCell ⟨p, 3, none⟩ v) L hb (Lard.setKept has key o) := by
  obtain ⟨p', ht', hr'⟩ := h.at hl
  have hpp : p' = p := by
    have := hr' false hk
    rw [hp0] at this
    simp [ptr] at this
    exact this.symm
  subst hpp
  obtain ⟨hp, h1, h2, h3, h4, h5, h6⟩ := h
  obtain ⟨v0, r0, k0, hb0, hL0, h200, h7, h8⟩ := ht'
  have ht := tn_set hb0 3 v
  have hkn := h2.nodup
  rw [List.map_map] at hkn
  have hkn : (hp.map (·.1)).Nodup := hkn
  have hx : ∃ x ∈ hp, x.1 = key ∧ x.2.1 = th ∧ x.2.2 = p' := by
    have hlk : (Lard.look hp key).map (fun x => x.1) = some th := by
      rw [← hl, h1, lk_thing]
    cases hx : Lard.look hp key with
    | none => rw [hx] at hlk; cases hlk
    | some x =>
      rw [hx] at hlk
      have e : x.1 = th := by simpa using hlk
      refine ⟨_, Lard.look_mem hx, rfl, e, ?_⟩
      have hml : Lard.look (hp.map fun x => (x.1, ptr x.2.2)) key = some (ptr x.2) := by
        rw [lk_ptr, hx]; rfl
      have := h2.look1 Tryz.underlying104 hk (z := .pointer none) (by kernel_rfl)
      rw [hp0, hml] at this
      simp [ptr] at this
      exact this.symm
  obtain ⟨x0, hx0, e1, e2, e3⟩ := hx
  have hst : Stay w (w.setCell ⟨p', 3, none⟩ v) := ht.stay (.inr (.inr (.inr (.inr (.inl rfl)))))
  have hk2 : K2 L w (w.setCell ⟨p', 3, none⟩ v) := fun k _ cs t fz hc hkt => ht.cells hc (fun e => by rcases hkt with hkt | hkt <;> (rw [hkt] at e; revert e; decide))
  refine ⟨hp.map (fun x => if x.1 == key then (x.1, ({ x.2.1 with kept := o }, x.2.2)) else x), ?_, ?_, ?_, ?_, ?_, h6⟩
  · rw [h1, Lard.setKept, List.map_map, List.map_map]
    refine List.map_congr_left (fun x _ => ?_)
    simp only [Function.comp_def]
    split <;> rfl
  · have e : (hp.map (fun x => if x.1 == key then (x.1, ({ x.2.1 with kept := o }, x.2.2)) else x)).map (fun x => (x.1, ptr x.2.2)) = hp.map (fun x => (x.1, ptr x.2.2)) := by
      rw [List.map_map]
      refine List.map_congr_left (fun x _ => ?_)
      simp only [Function.comp_def]
      split <;> rfl
    rw [e]
    exact h2.same (ht.map h2)
  · have e : (hp.map (fun x => if x.1 == key then (x.1, ({ x.2.1 with kept := o }, x.2.2)) else x)).map (·.2.2) = hp.map (·.2.2) := by
      rw [List.map_map]
      refine List.map_congr_left (fun x _ => ?_)
      simp only [Function.comp_def]
      split <;> rfl
    rw [e]
    exact h3
  · intro x' hx'
    obtain ⟨x, hx, rfl⟩ := List.mem_map.1 hx'
    by_cases hkk : x.1 = key
    · have hxe : x = x0 := nodup_inj (fun y : List UInt8 × (Lard.Thing × Nat) => y.1) hkn hx hx0 (hkk.trans e1.symm)
      subst hxe
      rw [if_pos (by simp [hkk])]
      refine ⟨v0, r0, v, ?_, ?_, ?_, ?_, ?_⟩
      · show (w.setCell _ _).heap[x.2.2]? = _
        rw [e3, blk_cell hb0 3 v, e2]
        rfl
      · show L x.2.2
        rw [e3]; exact hL0
      · show x.2.1.came.length ≤ 200
        rw [e2]; exact h200
      · show (x.2.1.tree = none ∧ _) ∨ _
        rw [e2]
        rcases h7 with ⟨a, b, c, d⟩ | ⟨t, a, b, c, d, e, f⟩
        · refine .inl ⟨a, b, c.st hst, ?_⟩
          rcases ho with ⟨ho, _⟩ | ⟨kp, kb, _, _, _, ho⟩
          · exact ho
          · exact (ho a).elim
        · exact .inr ⟨t, a, b, c, d, e, f.st hst⟩
      · rcases ho with ⟨ho, hv⟩ | ⟨kp, kb, ho, hv, hkp, _⟩
        · exact .inl ⟨ho, hv⟩
        · exact .inr ⟨kp, kb, ho, hv, hkp.st hk2 hst⟩
    · rw [if_neg (by simp [hkk])]
      have hne : x.2.2 ≠ p' := fun e => hkk (by
        have := nodup_inj (fun y : List UInt8 × (Lard.Thing × Nat) => y.2.2) h3 hx hx0 (e.trans e3.symm)
        rw [this]; exact e1)
      exact (h4 x hx).st (Below.heap_setCell w ⟨p', 3, none⟩ v x.2.2 hne) hk2 hst
  · intro x' hx'
    obtain ⟨x, hx, rfl⟩ := List.mem_map.1 hx'
    split
    · exact h5 x hx
    · exact h5 x hx
theorem LP.kept {w : World} {lb : Nat} {s : Lard.LS} {L : Nat → Prop} {hb db : Nat} {vb vr vn vj : Value} (h : LP w lb s L hb db vb vr vn vj) {key : List UInt8} {th : Lard.Thing} {p : Nat} (hl : Lard.look s.has key = some th) (o : Option Lard.Keep) (v : Value)
    (ho : (o = none ∧ v = .pointer none) ∨ ∃ kp kb, o = some kp ∧ v = ptr kb ∧ KeepAt w L kp kb ∧ th.tree ≠ none) (hp0 : (Instr.lookup 104 (.map (some hb)) (str key) false).run Tryz.prog w = .ok (ptr p) w) (hk : key.length ≤ maxLen) :
    LPost w lb L { s with has := Lard.setKept s.has key o } (w.setCell ⟨p, 3, none⟩ v) := by
  have hpe : ∃ cs, w.heap[p]? = some (.cells cs 124 (0, 0)) ∧ L p := by
    obtain ⟨p', ht', hr'⟩ := h.has.at hl
    have := hr' false hk
    rw [hp0] at this
    simp [ptr] at this
    subst this
    obtain ⟨h1, cs, h2⟩ := ht'.block
    exact ⟨cs, h2, h1⟩
  obtain ⟨cs, hcs, hLp⟩ := hpe
  have ht := tn_set hcs 3 v
  have hth : LT 124 := .inr (.inr (.inr (.inr (.inl rfl))))
  have hlp : LP (w.setCell ⟨p, 3, none⟩ v) lb { s with has := Lard.setKept s.has key o } L hb db vb vr vn vj := {
    blk := ht.cells h.blk (by decide)
    here := h.here
    ne := h.ne
    has := h.has.set hl o v ho hp0 hk
    done := h.done.tn ht hth
    begun := row_tn h.begun ht (by decide)
    ring := row_tn h.ring ht (by decide)
    ran := row_tn h.ran ht (by decide)
    jr := row_tn h.jr ht (by decide)
    mine := h.mine
    apart := h.apart
    rnil := h.rnil
    typed := typed_tn h.typed ht hth (fun b hb => by cases hb; exact ⟨_, _, blk_cell hcs 3 v⟩) }
  refine ⟨L, ⟨hb, db, vb, vr, vn, vj, hlp⟩, fun k hk => .inl hk, fun k hk => hk, h.frw hlp (Frm.grown ht.g hLp) (fun k hk cs t fz hc hkt => ht.cells hc (by rcases hkt with rfl | rfl <;> decide)) ?_⟩
  obtain ⟨hp, q1, q2, _⟩ := h.has
  exact ht.map q2
end Go.Proofs.YtpekpdimdelncaaGreatDoor
namespace Go.Proofs.YtpekpdimdelncaaGreatDoor
set_option maxRecDepth 100000
set_option maxHeartbeats 1000000
open Go.RowKit Go.Shelf
set_option linter.unusedVariables false
set_option linter.unusedSimpArgs false
theorem LPost.size {w w' : World} {lb : Nat} {s : Lard.LS} {L : Nat → Prop} (h : LPost w lb L s w') : w.heap.size ≤ w'.heap.size := by
  obtain ⟨_, _, _, _, h⟩ := h
  exact h.size
theorem LPost.g {w w' : World} {lb : Nat} {s s0 : Lard.LS} {L : Nat → Prop} (h : LPost w lb L s w') (h0 : LAt w lb s0 L) (g : G w) : G w' := by
  obtain ⟨_, _, _, _, h⟩ := h
  exact frm_g h0 h.toFrm g
theorem LPost.deb {w w' : World} {lb : Nat} {s s0 : Lard.LS} {L : Nat → Prop} (h : LPost w lb L s w') (h0 : LAt w lb s0 L) (g : G w) (hd : Deb w) : Deb w' := by
  obtain ⟨_, _, _, _, h⟩ := h
  exact frm_deb h0 h.toFrm g hd
theorem LPost.keeps {w w' : World} {lb : Nat} {s s0 : Lard.LS} {L : Nat → Prop} (h : LPost w lb L s w') (h0 : LAt w lb s0 L) : Keeps w w' := by
  obtain ⟨_, _, _, _, h⟩ := h
  exact frm_keeps h0 h.toFrm
theorem LPost.then {w w1 : World} {lb : Nat} {s1 : Lard.LS} {L : Nat → Prop} (h : LPost w lb L s1 w1) : ∃ L1, LAt w1 lb s1 L1 ∧ (∀ k, L k → L1 k) ∧ ∀ s2 w2, LPost w1 lb L1 s2 w2 → LPost w lb L s2 w2 := by
  obtain ⟨L1, h1, h2, h3, h4⟩ := h
  refine ⟨L1, h1, h3, fun s2 w2 hx => ?_⟩
  obtain ⟨L2, g1, g2, g3, g4⟩ := hx
  refine ⟨L2, g1, fun k hk => ?_, fun k hk => g3 k (h3 k hk), h4.trans g4 h2 h3⟩
  rcases g2 k hk with hk | hk
  · exact h2 k hk
  · have := h4.size
    exact .inr (by omega)
theorem lose_any (w : World) (lb : Nat) (s : Lard.LS) (L : Nat → Prop) (key : ByteArray) (th : Lard.Thing) (h : LAt w lb s L) (g : G w) (hd : Deb w) (hl : Lard.look s.has key.data.toList = some th) (hk : key.size ≤ 200) (hj : (jbytes (s.lose key.data.toList).jr).length ≤ 140737488355328) :
    Calls Tryz.prog 114 #[ptr lb, .string key] w fun e w' => e = .returned (.tuple #[]) ∧ LPost w lb L (s.lose key.data.toList) w' := by
  obtain ⟨hb, db, vb, vr, vn, vj, h⟩ := h
  have hkl : key.data.toList.length ≤ maxLen := by rw [← size_data]; unfold maxLen; omega
  obtain ⟨p, hth, hrun⟩ := h.has.at hl
  have hr := hrun false hkl
  have hr' : (Instr.lookup 104 (.map (some hb)) (str key.data.toList) false).run Tryz.prog w = .ok (ptr p) w := hr
  have hP := h.kept hl none (.pointer none) (.inl ⟨rfl, rfl⟩) hr' hkl
  have c0 : w.cell? ⟨lb, 0, none⟩ = some (.map (some hb)) := by simp [World.cell?, h.blk]
  obtain ⟨v0, r0, k0, hb0, _⟩ := hth
  have c3 : w.cell? ⟨p, 3, none⟩ = some k0 := by simp [World.cell?, hb0]
  have z3 : w.frozen? ⟨p, 3, none⟩ = false := by simp [World.frozen?, hb0]
  have hA : LAt w lb s L := ⟨_, _, _, _, _, _, h⟩
  have hw : ∀ L', LAt (w.setCell ⟨p, 3, none⟩ (.pointer none)) lb { s with has := Lard.setKept s.has key.data.toList none } L' → Calls Tryz.prog 59 #[ptr lb, .string (⟨#[108, 111, 115, 101, 32]⟩ ++ key)] (w.setCell ⟨p, 3, none⟩ (.pointer none)) (fun e w' => e = .returned (.tuple #[]) ∧ LPost (w.setCell ⟨p, 3, none⟩ (.pointer none)) lb L' (s.lose key.data.toList) w') := by
    intro L' h'
    have ht : (⟨#[108, 111, 115, 101, 32]⟩ ++ key : ByteArray).data.toList = [108, 111, 115, 101, 32] ++ key.data.toList := by simp
    have hsz : (⟨#[108, 111, 115, 101, 32]⟩ ++ key : ByteArray).size = 5 + key.size := by rw [size_data, ht, List.length_append, ← size_data]; rfl
    have := write_any _ lb { s with has := Lard.setKept s.has key.data.toList none } L' (⟨#[108, 111, 115, 101, 32]⟩ ++ key) h' (hP.g hA g) (hP.deb hA g hd) (by omega) (by rw [ht]; exact hj)
    rw [ht] at this
    exact this
  obtain ⟨L1, h1, _, hthen⟩ := hP.then
  have HW := hide (hw L1 h1)
  have HF := hide (fun w' => hthen (s.lose key.data.toList) w')
  rw [str_bytes] at hr
  simp only [Bool.false_eq_true, if_false] at hr
  clear hw hrun hr' h1 hthen h hA hb0 hP
  unfold ptr at *
  go_enter Tryz.func114, Tryz.ntmps114
  go_wp2_with fail
  refine HW.out.mono ?_
  rintro e w2 ⟨rfl, hx⟩
  have hfin := HF.out w2 hx
  clear HW HF hx
  go_wp2_with fail
  go_end0
  exact ⟨rfl, hfin⟩
theorem keep_any (w : World) (lb : Nat) (s : Lard.LS) (L : Nat → Prop) (key : ByteArray) (th : Lard.Thing) (kp : Lard.Keep) (kb : Nat) (h : LAt w lb s L) (g : G w) (hd : Deb w) (hl : Lard.look s.has key.data.toList = some th) (htr : th.tree ≠ none) (hkp : KeepAt w L kp kb) (hk : key.size ≤ 200) (hj : (jbytes (s.keep key.data.toList kp).jr).length ≤ 140737488355328) :
    Calls Tryz.prog 143 #[ptr lb, .string key, ptr kb] w fun e w' => e = .returned (.tuple #[]) ∧ LPost w lb L (s.keep key.data.toList kp) w' := by
  obtain ⟨hb, db, vb, vr, vn, vj, h⟩ := h
  have hkl : key.data.toList.length ≤ maxLen := by rw [← size_data]; unfold maxLen; omega
  obtain ⟨p, hth, hrun⟩ := h.has.at hl
  have hr := hrun false hkl
  have hr' : (Instr.lookup 104 (.map (some hb)) (str key.data.toList) false).run Tryz.prog w = .ok (ptr p) w := hr
  have hP := h.kept hl (some kp) (ptr kb) (.inr ⟨kp, kb, rfl, rfl, hkp, htr⟩) hr' hkl
  have c0 : w.cell? ⟨lb, 0, none⟩ = some (.map (some hb)) := by simp [World.cell?, h.blk]
  obtain ⟨v0, r0, k0, hb0, _⟩ := hth
  have c3 : w.cell? ⟨p, 3, none⟩ = some k0 := by simp [World.cell?, hb0]
  have z3 : w.frozen? ⟨p, 3, none⟩ = false := by simp [World.frozen?, hb0]
  have hA : LAt w lb s L := ⟨_, _, _, _, _, _, h⟩
  have ht := tn_set hb0 3 (ptr kb)
  have hkp1 : KeepAt (w.setCell ⟨p, 3, none⟩ (ptr kb)) L kp kb := hkp.st (fun k _ cs t fz hc hkt => ht.cells hc (fun e => by rcases hkt with hkt | hkt <;> (rw [hkt] at e; revert e; decide))) (ht.stay (.inr (.inr (.inr (.inr (.inl rfl))))))
  have htx := keepText_any _ L kp kb key hkp1 (hP.g hA g) hk
  have hklen : (Lard.keepText key.data.toList kp).length ≤ 140737488355328 := by
    have : (jbytes (s.keep key.data.toList kp).jr) = jbytes s.jr ++ Lard.line (Lard.keepText key.data.toList kp) := by
      show jbytes (s.jr ++ [Lard.keepText key.data.toList kp]) = _
      rw [jbytes_snoc]
    rw [this, List.length_append, line_len] at hj
    omega
  obtain ⟨L1, h1, _, hthen⟩ := hP.then
  have hw : ∀ w2, Below (w.setCell ⟨p, 3, none⟩ (ptr kb)).heap.size (w.setCell ⟨p, 3, none⟩ (ptr kb)) w2 → Calls Tryz.prog 59 #[ptr lb, str (Lard.keepText key.data.toList kp)] w2 (fun e w' => e = .returned (.tuple #[]) ∧ LPost w lb L (s.keep key.data.toList kp) w') := by
    intro w2 hB
    have hP2 := LPost.below h1 hB
    have g2 := hP2.g h1 (hP.g hA g)
    have d2 := hP2.deb h1 (hP.g hA g) (hP.deb hA g hd)
    obtain ⟨L2, h2, _, hthen2⟩ := hP2.then
    have := write_any w2 lb { s with has := Lard.setKept s.has key.data.toList (some kp) } L2 ⟨(Lard.keepText key.data.toList kp).toArray⟩ h2 g2 d2 (by rw [size_mk]; exact hklen) (by rw [data_mk]; exact hj)
    rw [data_mk] at this
    refine this.mono ?_
    rintro e w' ⟨rfl, hx⟩
    exact ⟨rfl, hthen _ _ (hthen2 _ _ hx)⟩
  have HW := hide hw
  have HT := hide htx
  rw [str_bytes] at hr
  simp only [Bool.false_eq_true, if_false] at hr
  clear hw htx hrun hr' h1 hthen h hA hb0 hP hkp hkp1 ht
  unfold ptr at *
  go_enter Tryz.func143, Tryz.ntmps143
  go_wp2_with fail
  refine HT.out.mono ?_
  rintro e w2 ⟨rfl, hB⟩
  have HW2 := hide (HW.out w2 hB)
  clear HT HW hB
  go_wp2_with fail
  refine HW2.out.mono ?_
  rintro e w3 ⟨rfl, hfin⟩
  have HFI := hide hfin
  clear HW2 hfin
  go_wp2_with fail
  go_end0
  exact ⟨rfl, HFI.out⟩
def KeptPtr (w : World) (L : Nat → Prop) (o : Option Lard.Keep) (v : Value) : Prop := (o = none ∧ v = .pointer none) ∨ ∃ kp kb, o = some kp ∧ v = ptr kb ∧ KeepAt w L kp kb
theorem keptOf_any (w : World) (lb : Nat) (s : Lard.LS) (L : Nat → Prop) (key : ByteArray) (h : LAt w lb s L) (hk : key.size ≤ 200) :
    Calls Tryz.prog 56 #[ptr lb, .string key] w fun e w' => (∃ v, e = .returned v ∧ KeptPtr w L (Lard.keptOf s.has key.data.toList) v) ∧ w' = w := by
  obtain ⟨hb, db, vb, vr, vn, vj, h⟩ := h
  have hkl : key.data.toList.length ≤ maxLen := by rw [← size_data]; unfold maxLen; omega
  have c0 : w.cell? ⟨lb, 0, none⟩ = some (.map (some hb)) := by simp [World.cell?, h.blk]
  cases hl : Lard.look s.has key.data.toList with
  | none =>
    have hr := h.has.absent hl hkl
    rw [str_bytes] at hr
    have hko : Lard.keptOf s.has key.data.toList = none := by unfold Lard.keptOf; rw [hl]; rfl
    rw [hko]
    clear h hl hko
    unfold ptr
    go_enter Tryz.func56, Tryz.ntmps56
    go_wp2_with fail
    go_ret
    exact ⟨⟨_, rfl, .inl ⟨rfl, rfl⟩⟩, rfl⟩
  | some th =>
    obtain ⟨p, hth, hrun⟩ := h.has.at hl
    have hr := hrun true hkl
    rw [str_bytes] at hr
    simp only [if_true] at hr
    have hko : Lard.keptOf s.has key.data.toList = th.kept := by unfold Lard.keptOf; rw [hl]; rfl
    rw [hko]
    obtain ⟨v0, r0, k0, hb0, _, _, _, h8⟩ := hth
    have c3 : w.cell? ⟨p, 3, none⟩ = some k0 := by simp [World.cell?, hb0]
    have hform : ∃ q, k0 = .pointer q := by
      rcases h8 with ⟨_, rfl⟩ | ⟨kp, kb, _, rfl, _⟩
      · exact ⟨_, rfl⟩
      · exact ⟨_, rfl⟩
    have H8 := hide (show KeptPtr w L th.kept k0 from h8)
    obtain ⟨q0, rfl⟩ := hform
    clear h hl hko hb0 h8 hrun
    unfold ptr at *
    go_enter Tryz.func56, Tryz.ntmps56
    go_wp2_with fail
    go_ret
    exact ⟨⟨_, rfl, H8.out⟩, rfl⟩
end Go.Proofs.YtpekpdimdelncaaGreatDoor
