/- Out of: Th2, Th3. -/
import Derived.Test.YtpekpdimdelncaaGreatDoorP20
namespace Go.Proofs.YtpekpdimdelncaaGreatDoor
namespace Lard
set_option linter.unusedVariables false
def Fine (w : Wo) : Prop := sameO w w = true
def Clo : Pg Wo → Prop
  | ⟨.inl w⟩ => Fine w
  | ⟨.inr (_, c)⟩ => ∀ w, Fine w → Clo (c w)
structure EF (e : Src) : Prop where
  val : ∀ k v, e k = some (.inl v) → Fine (.ok v)
  rule : ∀ k t, e k = some (.inr t) → Clo (prog t)
theorem same_eq : ∀ (n : Nat) (v u : V), same n v u = true → v = u
  | n, ⟨.inl i⟩, ⟨.inl j⟩, h => by unfold same at h; simp at h; rw [h]
  | n, ⟨.inl i⟩, ⟨.inr (.inl b)⟩, h => by unfold same at h; simp at h
  | n, ⟨.inl i⟩, ⟨.inr (.inr b)⟩, h => by unfold same at h; simp at h
  | n, ⟨.inr (.inl i)⟩, ⟨.inl j⟩, h => by unfold same at h; simp at h
  | n, ⟨.inr (.inl i)⟩, ⟨.inr (.inl j)⟩, h => by unfold same at h; simp at h; rw [h]
  | n, ⟨.inr (.inl i)⟩, ⟨.inr (.inr j)⟩, h => by unfold same at h; simp at h
  | n, ⟨.inr (.inr i)⟩, ⟨.inl j⟩, h => by unfold same at h; simp at h
  | n, ⟨.inr (.inr i)⟩, ⟨.inr (.inl j)⟩, h => by unfold same at h; simp at h
  | 0, ⟨.inr (.inr i)⟩, ⟨.inr (.inr j)⟩, h => by unfold same at h; simp at h
  | n + 1, ⟨.inr (.inr l)⟩, ⟨.inr (.inr m)⟩, h => by
    unfold same at h
    simp only [Bool.and_eq_true, beq_iff_eq, List.all_eq_true] at h
    obtain ⟨h1, h2⟩ := h
    have : l = m := by
      apply List.ext_getElem? 
      intro i
      rcases Nat.lt_or_ge i l.length with hi | hi
      · have hm : i < m.length := by omega
        rw [List.getElem?_eq_getElem hi, List.getElem?_eq_getElem hm]
        have h3 := h2 (l[i], m[i]) (by
          apply List.mem_of_getElem? (i := i)
          rw [List.getElem?_zip_eq_some]
          exact ⟨List.getElem?_eq_getElem hi, List.getElem?_eq_getElem hm⟩)
        rw [same_eq n l[i] m[i] h3]
      · rw [List.getElem?_eq_none hi, List.getElem?_eq_none (by omega)]
    rw [this]
theorem sameO_eq {a b : Wo} (h : sameO a b = true) : a = b := by
  cases a <;> cases b <;> simp [sameO] at h
  · rw [h]
  · rw [same_eq _ _ _ h]
theorem Rn.fine {O : By → Wo → Prop} (h : ∀ k u, O k u → Fine u) : ∀ (p : Pg Wo) (w : Wo), Rn O p w → Clo p → Fine w
  | ⟨.inl _⟩, _, hp, hc => hp.1 ▸ hc
  | ⟨.inr (k, c)⟩, w, ⟨u, h1, h2⟩, hc => Rn.fine h (c u) w h2 (hc u (h k u h1))
variable {e : Src}
theorem Wn.fine (he : EF e) : ∀ {n : Nat} {k : By} {w : Wo}, Wn e n k w → Fine w := by
  have hb : ∀ {k w}, Base e k w → Fine w := by
    intro k w h
    rcases h with ⟨_, rfl⟩ | ⟨v, h, rfl⟩
    · rfl
    · exact he.val k v h
  intro n
  induction n with
  | zero => intro k w h; exact hb h
  | succ n ih =>
    intro k w h
    rcases h with h | ⟨t, h1, h2⟩
    · exact hb h
    · exact Rn.fine (fun k u h => ih h) _ _ h2 (he.rule k t h1)
theorem W.fine (he : EF e) {k : By} {w : Wo} : W e k w → Fine w
  | ⟨_, h⟩ => h.fine he
/-! Up to date. -/
def UtdN (e : Src) (h : List (By × Thing)) : Nat → By → Prop
  | 0, k => ∀ t, e k ≠ some (.inr t)
  | n + 1, k => (∀ t, e k ≠ some (.inr t)) ∨ ∃ t kp, e k = some (.inr t) ∧ keptOf h k = some kp ∧ ∀ q ∈ kp.needs, W e q.1 q.2 ∧ UtdN e h n q.1
def Utd (e : Src) (h : List (By × Thing)) (k : By) : Prop := ∃ n, UtdN e h n k
theorem UtdN.up {h : List (By × Thing)} : ∀ {n : Nat} {k : By}, UtdN e h n k → UtdN e h (n + 1) k
  | 0, _, hu => .inl hu
  | n + 1, k, hu => by
    rcases hu with hu | ⟨t, kp, h1, h2, h3⟩
    · exact .inl hu
    · exact .inr ⟨t, kp, h1, h2, fun q hq => ⟨(h3 q hq).1, UtdN.up (h3 q hq).2⟩⟩
theorem UtdN.le {h : List (By × Thing)} {n m : Nat} {k : By} (hu : UtdN e h n k) (hm : n ≤ m) : UtdN e h m k := by
  induction hm with
  | refl => exact hu
  | step _ ih => exact ih.up
theorem utd_none {h : List (By × Thing)} {k : By} (hk : ∀ t, e k ≠ some (.inr t)) : Utd e h k := ⟨0, hk⟩
theorem utd_all {h : List (By × Thing)} : ∀ (l : List (By × Wo)), (∀ q ∈ l, Utd e h q.1) → ∃ n, ∀ q ∈ l, UtdN e h n q.1
  | [], _ => ⟨0, fun q hq => by simp at hq⟩
  | q :: l, hl => by
    obtain ⟨n, hn⟩ := hl q List.mem_cons_self
    obtain ⟨m, hm⟩ := utd_all l (fun q hq => hl q (List.mem_cons_of_mem _ hq))
    refine ⟨max n m, fun q' hq => ?_⟩
    rcases List.mem_cons.1 hq with rfl | hq
    · exact hn.le (Nat.le_max_left _ _)
    · exact (hm q' hq).le (Nat.le_max_right _ _)
theorem utd_rule {h : List (By × Thing)} {k : By} {t : T} {kp : Keep} (h1 : e k = some (.inr t)) (h2 : keptOf h k = some kp) (h3 : ∀ q ∈ kp.needs, W e q.1 q.2 ∧ Utd e h q.1) : Utd e h k := by
  obtain ⟨n, hn⟩ := utd_all kp.needs (fun q hq => (h3 q hq).2)
  exact ⟨n + 1, .inr ⟨t, kp, h1, h2, fun q hq => ⟨(h3 q hq).1, hn q hq⟩⟩⟩
theorem Utd.rule {h : List (By × Thing)} {k : By} {t : T} (hu : Utd e h k) (h1 : e k = some (.inr t)) : ∃ kp, keptOf h k = some kp ∧ ∀ q ∈ kp.needs, W e q.1 q.2 ∧ Utd e h q.1 := by
  obtain ⟨n, hn⟩ := hu
  cases n with
  | zero => exact (hn t h1).elim
  | succ n =>
    rcases hn with hn | ⟨t', kp, h1', h2, h3⟩
    · exact (hn t h1).elim
    · exact ⟨kp, h2, fun q hq => ⟨(h3 q hq).1, n, (h3 q hq).2⟩⟩
theorem utd_same {h h' : List (By × Thing)} (hs : ∀ k, Utd e h k → keptOf h' k = keptOf h k) {k : By} (hu : Utd e h k) : Utd e h' k := by
  obtain ⟨n, hn⟩ := hu
  have : ∀ n k, UtdN e h n k → UtdN e h' n k := by
    intro n
    induction n with
    | zero => intro k hk; exact hk
    | succ n ih =>
      intro k hk
      have hu : Utd e h k := ⟨n + 1, hk⟩
      rcases hk with hk | ⟨t, kp, h1, h2, h3⟩
      · exact .inl hk
      · exact .inr ⟨t, kp, h1, (hs k hu).trans h2, fun q hq => ⟨(h3 q hq).1, ih _ (h3 q hq).2⟩⟩
  exact ⟨n, this n k hn⟩
/-! A larder in an Ask. -/
structure Inv (e : Src) (s : LS) : Prop where
  src : srcOf s.has = e
  done : ∀ k w, look s.done k = some w → Is e k w
  utd : ∀ k w, look s.done k = some w → w ≠ .error 12 → Utd e s.has k
  hon : ∀ k t kp, e k = some (.inr t) → keptOf s.has k = some kp → Hon (prog t) [] kp.needs kp.worth
  only : ∀ k kp, keptOf s.has k = some kp → ∃ t, e k = some (.inr t)
  fine : ∀ k kp, keptOf s.has k = some kp → ∀ q ∈ kp.needs, Fine q.2
  ring : s.ring ≠ [] → Ring e s.ring
  rr : ∀ k, look s.done k = some (.error 12) → s.ring ≠ []
def WhyOk (e : Src) (y : Why) : Prop := (y.need = [] ∧ y.was = .error 0 ∧ y.now = .error 0) ∨ (Is e y.need y.now ∧ sameO y.now y.was = false)
structure On (e : Src) (s s' : LS) (new : List Why) : Prop where
  inv : Inv e s'
  begun : s'.begun = s.begun
  done : ∀ k w, look s.done k = some w → look s'.done k = some w
  ring : s.ring ≠ [] → s'.ring = s.ring
  ran : s'.ran = s.ran ++ new
  why : ∀ y ∈ new, WhyOk e y
  old : ∀ y ∈ new, look s.done y.key = none ∧ y.key ∉ s.begun ∧ ¬ Utd e s.has y.key ∧ ∃ w, look s'.done y.key = some w
  nodup : (new.map (·.key)).Nodup
  chg : ∀ k, (∀ y ∈ new, y.key ≠ k) → look s'.has k = look s.has k
  quiet : new = [] → s'.has = s.has ∧ s'.jr = s.jr
theorem On.refl {s : LS} (h : Inv e s) : On e s s [] :=
  ⟨h, rfl, fun _ _ h => h, fun _ => rfl, by simp, fun _ h => by simp at h, fun _ h => by simp at h, by simp, fun _ _ => rfl, fun _ => ⟨rfl, rfl⟩⟩
theorem On.kept {s s' : LS} {new : List Why} (h : On e s s' new) {k : By} (hk : Utd e s.has k) : keptOf s'.has k = keptOf s.has k := by
  unfold keptOf
  rw [h.chg k (fun y hy he => (h.old y hy).2.2.1 (he ▸ hk))]
theorem On.utd {s s' : LS} {new : List Why} (h : On e s s' new) {k : By} (hk : Utd e s.has k) : Utd e s'.has k :=
  utd_same (fun _ hu => h.kept hu) hk
theorem On.trans {s s1 s2 : LS} {n1 n2 : List Why} (h : On e s s1 n1) (h' : On e s1 s2 n2) : On e s s2 (n1 ++ n2) where
  inv := h'.inv
  begun := h'.begun.trans h.begun
  done k w hk := h'.done k w (h.done k w hk)
  ring hr := (h'.ring (by rw [h.ring hr]; exact hr)).trans (h.ring hr)
  ran := by rw [h'.ran, h.ran, List.append_assoc]
  why y hy := (List.mem_append.1 hy).elim (h.why y) (h'.why y)
  old y hy := by
    rcases List.mem_append.1 hy with hy | hy
    · obtain ⟨h1, h2, h3, w, h4⟩ := h.old y hy
      exact ⟨h1, h2, h3, w, h'.done _ _ h4⟩
    · obtain ⟨h1, h2, h3, h4⟩ := h'.old y hy
      refine ⟨?_, h.begun ▸ h2, fun hu => h3 (h.utd hu), h4⟩
      cases hd : look s.done y.key with
      | none => rfl
      | some w => rw [h.done _ _ hd] at h1; cases h1
  nodup := by
    rw [List.map_append, List.nodup_append]
    refine ⟨h.nodup, h'.nodup, ?_⟩
    intro a ha b hb hab
    obtain ⟨y, hy, rfl⟩ := List.mem_map.1 ha
    obtain ⟨z, hz, rfl⟩ := List.mem_map.1 hb
    obtain ⟨_, _, _, w, hw⟩ := h.old y hy
    have := (h'.old z hz).1
    rw [← hab, hw] at this
    cases this
  chg k hk := (h'.chg k (fun y hy => hk y (List.mem_append_right _ hy))).trans (h.chg k (fun y hy => hk y (List.mem_append_left _ hy)))
  quiet hn := by
    obtain ⟨h1, h2⟩ := List.append_eq_nil_iff.1 hn
    obtain ⟨a, b⟩ := h.quiet h1
    obtain ⟨c, d⟩ := h'.quiet h2
    exact ⟨c.trans a, d.trans b⟩
def BP (e : Src) (key : By) (s : LS) (q : Wo × LS) : Prop :=
  ∃ new, On e s q.2 new ∧ Is e key q.1 ∧ (q.1 = .error 12 → q.2.ring ≠ []) ∧ (q.1 ≠ .error 12 → Utd e q.2.has key ∧ ∀ y ∈ new, Utd e q.2.has y.key) ∧ (Utd e s.has key → new = []) ∧ (key ∈ s.begun ∨ look q.2.done key = some q.1)
def Fuel (K : List By) (b : List By) (n : Nat) : Prop := (K.filter fun k => !b.contains k).length < n
theorem fuel_next {K b : List By} {n : Nat} {key : By} (h : Fuel K b (n + 1)) (hk : key ∈ K) (hb : key ∉ b) : Fuel K (b ++ [key]) n := by
  unfold Fuel at *
  have : (K.filter fun k => !(b ++ [key]).contains k).length < (K.filter fun k => !b.contains k).length := by
    have h2 : (K.filter fun k => !(b ++ [key]).contains k) = (K.filter fun k => !b.contains k).filter fun k => !(k == key) := by
      rw [List.filter_filter]
      apply List.filter_congr
      intro x _
      by_cases hx : x = key
      · simp [hx]
      · simp [hx]
    rw [h2]
    apply List.length_filter_lt_length_iff_exists.2
    exact ⟨key, List.mem_filter.2 ⟨hk, by simp [hb]⟩, by simp⟩
  omega
section
structure Res (e : Src) (key : By) (p : Pg Wo) : Prop where
  down : ∀ n w, Wn e (n + 1) key w → Rn (Wn e n) p w
  up : ∀ w, Rn (W e) p w → W e key w
  asks : ∀ k', Asks e p k' → Nxt e key k'
theorem Res.start {key : By} {t : T} (h : e key = some (.inr t)) : Res e key (prog t) where
  down n w hw := by
    rcases hw with hw | ⟨t', h1, h2⟩
    · exact (Base.noRule hw h).elim
    · rw [h] at h1; cases h1; exact h2
  up w hw := W.rule h hw
  asks k' ha := ⟨t, h, ha⟩
theorem Res.step {key k : By} {c : Wo → Pg Wo} {u : Wo} (h : Res e key ⟨.inr (k, c)⟩) (hu : W e k u) : Res e key (c u) where
  down n w hw := by
    obtain ⟨u', h1, h2⟩ := h.down n w hw
    obtain rfl := W.det ⟨n, h1⟩ hu
    exact h2
  up w hw := h.up w ⟨u, hu, hw⟩
  asks k' ha := h.asks k' (.inr ⟨u, hu, ha⟩)
theorem Res.no {key k : By} {c : Wo → Pg Wo} (h : Res e key ⟨.inr (k, c)⟩) (hk : ∀ u, ¬ W e k u) : ∀ w, ¬ W e key w := by
  rintro w ⟨n, hn⟩
  obtain ⟨u, h1, _⟩ := h.down n w hn.up
  exact hk u ⟨n, h1⟩
def Brings (e : Src) (Br : By → LS → Wo × LS) (b : List By) : Prop := ∀ k s, Inv e s → s.begun = b → Lnk (Nxt e) (b ++ [k]) → BP e k s (Br k s)
theorem run_ok (he : EF e) {Br : By → LS → Wo × LS} {b : List By} {key : By} (hB : Brings e Br (b ++ [key])) (hl : Lnk (Nxt e) (b ++ [key])) :
    ∀ (p : Pg Wo) (s : LS) (acc : List (By × Wo)), Inv e s → s.begun = b ++ [key] → Res e key p → Fin p → (∀ q ∈ acc, W e q.1 q.2 ∧ Utd e s.has q.1 ∧ Fine q.2) →
    ∃ new, On e s (p.run (needL Br) (s, acc)).2.1 new ∧
      (((p.run (needL Br) (s, acc)).1 = .error 12 ∧ (p.run (needL Br) (s, acc)).2.1.ring ≠ [] ∧ ∀ u, ¬ W e key u) ∨
       ((p.run (needL Br) (s, acc)).1 ≠ .error 12 ∧ W e key (p.run (needL Br) (s, acc)).1 ∧ Hon p acc (p.run (needL Br) (s, acc)).2.2 (p.run (needL Br) (s, acc)).1 ∧ (∀ q ∈ (p.run (needL Br) (s, acc)).2.2, W e q.1 q.2 ∧ Utd e (p.run (needL Br) (s, acc)).2.1.has q.1 ∧ Fine q.2) ∧ ∀ y ∈ new, Utd e (p.run (needL Br) (s, acc)).2.1.has y.key)) := by
  intro p
  induction p using Pg.ind with
  | h1 w =>
    intro s acc hi hb hr hf ha
    have h12 : w ≠ .error 12 := hf
    exact ⟨[], On.refl hi, .inr ⟨h12, hr.up w ⟨rfl, h12⟩, ⟨rfl, h12, rfl⟩, ha, fun _ h => by simp at h⟩⟩
  | h2 k c ih =>
    intro s acc hi hb hr hf ha
    have hrun : (Pg.ask k c).run (needL Br) (s, acc) = (c (Br k s).1).run (needL Br) ((Br k s).2, withNeed acc k (Br k s).1) := rfl
    rw [hrun]
    have hlk : Lnk (Nxt e) (b ++ [key] ++ [k]) := lnk_snoc b key k hl (hr.asks k (.inl rfl))
    obtain ⟨new, hon, his, h12, hne, hq, hd⟩ := hB k s hi hb hlk
    generalize Br k s = q at hon his h12 hne hd ⊢
    obtain ⟨u, s1⟩ := q
    simp only at hon his h12 hne hd ⊢
    by_cases hu : u = .error 12
    · subst hu
      have hc : c (.error 12) = .ret (.error 12) := hf.1
      rw [hc]
      exact ⟨new, hon, .inl ⟨rfl, h12 rfl, hr.no (fun u hw => his.no hw)⟩⟩
    · have hw := his.w hu
      obtain ⟨hu1, hu2⟩ := hne hu
      have hacc : ∀ q ∈ withNeed acc k u, W e q.1 q.2 ∧ Utd e s1.has q.1 ∧ Fine q.2 := by
        intro q hq
        have h1 : q ∈ acc ∨ q = (k, u) := by
          unfold withNeed at hq
          split at hq
          · exact .inl hq
          · rcases List.mem_append.1 hq with hq | hq
            · exact .inl hq
            · exact .inr (List.mem_singleton.1 hq)
        rcases h1 with h1 | rfl
        · exact ⟨(ha q h1).1, hon.utd (ha q h1).2.1, (ha q h1).2.2⟩
        · exact ⟨hw, hu1, hw.fine he⟩
      obtain ⟨new2, hon2, hcase⟩ := ih u s1 (withNeed acc k u) hon.inv (hon.begun.trans hb) (hr.step hw) (hf.2 u hu) hacc
      refine ⟨new ++ new2, hon.trans hon2, ?_⟩
      rcases hcase with hcase | ⟨g1, g2, g3, g4, g5⟩
      · exact .inl hcase
      · refine .inr ⟨g1, g2, ?_, g4, fun y hy => ?_⟩
        · unfold withNeed at g3 ⊢
          cases hlk : look acc k with
          | some u0 =>
            rw [hlk] at g3
            have : u0 = u := (ha _ (look_mem hlk)).1.det hw
            subst this
            exact .inl ⟨u0, hlk, by simpa using g3⟩
          | none =>
            rw [hlk] at g3
            exact .inr ⟨hlk, u, hu, by simpa using g3⟩
        · rcases List.mem_append.1 hy with hy | hy
          · exact hon2.utd (hu2 y hy)
          · exact g5 y hy
theorem due_ok {Br : By → LS → Wo × LS} {b : List By} {key : By} {t : T} {kp : Keep} (hB : Brings e Br (b ++ [key])) (hl : Lnk (Nxt e) (b ++ [key])) (ht : e key = some (.inr t)) (hh : Hon (prog t) [] kp.needs kp.worth) (hfi : ∀ q ∈ kp.needs, Fine q.2) :
    ∀ (rest pre : List (By × Wo)) (s : LS), kp.needs = pre ++ rest → Inv e s → s.begun = b ++ [key] → (∀ q ∈ pre, W e q.1 q.2 ∧ Utd e s.has q.1) →
    ∃ new, On e s (dueL Br key rest s).2 new ∧ ((∀ u, W e key u → ∀ y ∈ new, Utd e (dueL Br key rest s).2.has y.key)) ∧ ((∀ q ∈ rest, W e q.1 q.2 ∧ Utd e s.has q.1) → (dueL Br key rest s).1 = none ∧ new = []) ∧
      (((dueL Br key rest s).1 = none ∧ ∀ q ∈ kp.needs, W e q.1 q.2 ∧ Utd e (dueL Br key rest s).2.has q.1) ∨
       ∃ y, (dueL Br key rest s).1 = some y ∧ y.key = key ∧ Is e y.need y.now ∧ sameO y.now y.was = false ∧ (y.need, y.was) ∈ kp.needs)
  | [], pre, s, hn, hi, hb, hp => by
    rw [List.append_nil] at hn
    exact ⟨[], On.refl hi, fun _ _ _ h => by simp at h, fun _ => ⟨rfl, rfl⟩, .inl ⟨rfl, hn ▸ hp⟩⟩
  | (k, w) :: rest, pre, s, hn, hi, hb, hp => by
    have hask : Asks e (prog t) k := Hon.next (hn ▸ hh) (Nat.zero_le _) (fun q hq => (hp q hq).1)
    have hlk : Lnk (Nxt e) (b ++ [key] ++ [k]) := lnk_snoc b key k hl ⟨t, ht, hask⟩
    obtain ⟨new, hon, his, h12, hne, hq, hd⟩ := hB k s hi hb hlk
    have hdue : dueL Br key ((k, w) :: rest) s = if sameO (Br k s).1 w = true then dueL Br key rest (Br k s).2 else (some ⟨key, k, w, (Br k s).1⟩, (Br k s).2) := rfl
    rw [hdue]
    generalize Br k s = q at hon his h12 hne hd ⊢
    obtain ⟨u, s1⟩ := q
    simp only at hon his h12 hne hd ⊢
    have hin : (k, w) ∈ kp.needs := by rw [hn]; simp
    have hkeyW : ∀ v, W e key v → u ≠ .error 12 := by
      rintro v ⟨n, hv⟩ rfl
      obtain ⟨m, w', _, hw'⟩ := Nxt.down ⟨t, ht, hask⟩ hv
      exact his.no ⟨m, hw'⟩
    by_cases hs : sameO u w = true
    · rw [if_pos hs]
      obtain rfl := sameO_eq hs
      have hu : u ≠ .error 12 := hh.needs12 (fun _ h => by simp at h) _ hin
      obtain ⟨hu1, hu2⟩ := hne hu
      have hp' : ∀ q ∈ pre ++ [(k, u)], W e q.1 q.2 ∧ Utd e s1.has q.1 := by
        intro q hq
        rcases List.mem_append.1 hq with hq | hq
        · exact ⟨(hp q hq).1, hon.utd (hp q hq).2⟩
        · rw [List.mem_singleton.1 hq]; exact ⟨his.w hu, hu1⟩
      obtain ⟨new2, hon2, g1, g2, g3⟩ := due_ok hB hl ht hh hfi rest (pre ++ [(k, u)]) s1 (by rw [hn]; simp) hon.inv (hon.begun.trans hb) hp'
      refine ⟨new ++ new2, hon.trans hon2, fun v hv y hy => ?_, fun hall => ?_, g3⟩
      · rcases List.mem_append.1 hy with hy | hy
        · exact hon2.utd (hu2 y hy)
        · exact g1 v hv y hy
      · have hk := hq (hall (k, u) List.mem_cons_self).2
        obtain ⟨h5, h6⟩ := g2 (fun q hq => ⟨(hall q (List.mem_cons_of_mem _ hq)).1, hon.utd (hall q (List.mem_cons_of_mem _ hq)).2⟩)
        exact ⟨h5, by rw [hk, h6]; rfl⟩
    · rw [if_neg hs]
      refine ⟨new, hon, fun v hv y hy => (hne (hkeyW v hv)).2 y hy, fun hall => ?_, .inr ⟨_, rfl, rfl, his, by simpa using hs, hin⟩⟩
      exfalso
      obtain ⟨h1, h2⟩ := hall (k, w) List.mem_cons_self
      have : u = w := his.det (.inl h1)
      subst this
      exact hs (hfi _ hin)
end
end Lard
end Go.Proofs.YtpekpdimdelncaaGreatDoor
namespace Go.Proofs.YtpekpdimdelncaaGreatDoor
namespace Lard
set_option linter.unusedVariables false
variable {e : Src}
theorem srcOf_setKept (h : List (By × Thing)) (k : By) (o : Option Keep) : srcOf (setKept h k o) = srcOf h := by
  funext k'
  unfold srcOf
  rw [look_setKept]
  by_cases hk : k = k'
  · rw [if_pos hk]
    cases look h k' <;> rfl
  · rw [if_neg hk]
theorem look_src {h : List (By × Thing)} {k : By} {th : Thing} (hl : look h k = some th) : srcOf h k = some (match th.tree with | .none => .inl th.value | .some t => .inr t) := by
  unfold srcOf; rw [hl]; rfl
structure Mid (e : Src) (s : LS) (key : By) (r : Wo) (s4 : LS) (new : List Why) : Prop where
  inv : Inv e s4
  begun : s4.begun = s.begun ++ [key]
  done : ∀ k w, look s.done k = some w → look s4.done k = some w
  ring : s.ring ≠ [] → s4.ring = s.ring
  ran : s4.ran = s.ran ++ new
  why : ∀ y ∈ new, WhyOk e y
  old : ∀ y ∈ new, look s.done y.key = none ∧ y.key ∉ s.begun ∧ ¬ Utd e s.has y.key ∧ (y.key = key ∨ ∃ w, look s4.done y.key = some w)
  nodup : (new.map (·.key)).Nodup
  chg : ∀ k, (∀ y ∈ new, y.key ≠ k) → look s4.has k = look s.has k
  quiet : new = [] → s4.has = s.has ∧ s4.jr = s.jr
  is : Is e key r
  r12 : r = .error 12 → s4.ring ≠ []
  utd : r ≠ .error 12 → Utd e s4.has key ∧ ∀ y ∈ new, Utd e s4.has y.key
  q : Utd e s.has key → new = []
theorem Mid.finish {s s4 : LS} {key : By} {r : Wo} {new : List Why} (hd : look s.done key = none) (h : Mid e s key r s4 new) :
    BP e key s (r, { s4 with begun := s4.begun.dropLast, done := put s4.done key r }) := by
  have hbe : s4.begun.dropLast = s.begun := by rw [h.begun]; simp
  refine ⟨new, ⟨⟨h.inv.src, fun k w hk => ?_, fun k w hk h12 => ?_, h.inv.hon, h.inv.only, h.inv.fine, h.inv.ring, fun k hk => ?_⟩, hbe, fun k w hk => ?_, h.ring, h.ran, h.why, fun y hy => ?_, h.nodup, h.chg, h.quiet⟩, h.is, h.r12, h.utd, h.q, .inr ?_⟩
  · rw [look_put] at hk
    split at hk
    · rename_i h1; cases hk; subst h1; exact h.is
    · exact h.inv.done k w hk
  · rw [look_put] at hk
    split at hk
    · rename_i h1; cases hk; subst h1; exact (h.utd h12).1
    · exact h.inv.utd k w hk h12
  · rw [look_put] at hk
    split at hk
    · rename_i h1; cases hk; exact h.r12 rfl
    · exact h.inv.rr k hk
  · rw [look_put]
    split
    · rename_i h1; subst h1; rw [hd] at hk; cases hk
    · exact h.done k w hk
  · obtain ⟨h1, h2, h3, h4⟩ := h.old y hy
    refine ⟨h1, h2, h3, ?_⟩
    rw [look_put]
    split
    · exact ⟨r, rfl⟩
    · rename_i h5
      rcases h4 with h4 | h4
      · exact (h5 h4.symm).elim
      · exact h4
  · rw [look_put, if_pos rfl]
theorem mid_on {s s4 : LS} {key : By} {r : Wo} {new : List Why} (h : On e { s with begun := s.begun ++ [key] } s4 new) (his : Is e key r) (h12 : r = .error 12 → s4.ring ≠ []) (hu : r ≠ .error 12 → Utd e s4.has key ∧ ∀ y ∈ new, Utd e s4.has y.key) (hq : Utd e s.has key → new = []) : Mid e s key r s4 new where
  inv := h.inv
  begun := h.begun
  done := h.done
  ring := h.ring
  ran := h.ran
  why := h.why
  old y hy := by
    obtain ⟨h1, h2, h3, h4⟩ := h.old y hy
    exact ⟨h1, fun h5 => h2 (List.mem_append_left _ h5), h3, .inr h4⟩
  nodup := h.nodup
  chg := h.chg
  quiet := h.quiet
  is := his
  r12 := h12
  utd := hu
  q := hq
theorem Inv.ranBy {s : LS} (h : Inv e s) (r : List Why) : Inv e { s with ran := r } := ⟨h.src, h.done, h.utd, h.hon, h.only, h.fine, h.ring, h.rr⟩
theorem Inv.begunBy {s : LS} (h : Inv e s) (r : List By) : Inv e { s with begun := r } := ⟨h.src, h.done, h.utd, h.hon, h.only, h.fine, h.ring, h.rr⟩
theorem Inv.setKept {s : LS} {key : By} {o : Option Keep} {j : List By} (h : Inv e s) (hn : ¬ Utd e s.has key) (ho : ∀ kp, o = some kp → ∀ t, e key = some (.inr t) → Hon (prog t) [] kp.needs kp.worth) (hr : ∃ t, e key = some (.inr t)) (hf : ∀ kp, o = some kp → ∀ q ∈ kp.needs, Fine q.2) :
    Inv e { s with has := setKept s.has key o, jr := j } where
  src := (srcOf_setKept _ _ _).trans h.src
  done := h.done
  utd k w hk h12 := by
    refine utd_same (fun k hu => ?_) (h.utd k w hk h12)
    show keptOf (Lard.setKept s.has key o) k = _
    rw [keptOf_setKept, if_neg (fun (h0 : key = k) => hn (h0 ▸ hu))]
  hon k t kp hk hkp := by
    have hkp : keptOf (Lard.setKept s.has key o) k = some kp := hkp
    rw [keptOf_setKept] at hkp
    split at hkp
    · rename_i h1
      subst h1
      cases hl : look s.has key with
      | none => rw [hl] at hkp; cases hkp
      | some th => rw [hl] at hkp; exact ho kp hkp t hk
    · exact h.hon k t kp hk hkp
  only k kp hkp := by
    have hkp : keptOf (Lard.setKept s.has key o) k = some kp := hkp
    rw [keptOf_setKept] at hkp
    split at hkp
    · rename_i h1
      subst h1
      exact hr
    · exact h.only k kp hkp
  fine k kp hkp := by
    have hkp : keptOf (Lard.setKept s.has key o) k = some kp := hkp
    rw [keptOf_setKept] at hkp
    split at hkp
    · rename_i h1
      subst h1
      cases hl : look s.has key with
      | none => rw [hl] at hkp; cases hkp
      | some th => rw [hl] at hkp; exact hf kp hkp
    · exact h.fine k kp hkp
  ring := h.ring
  rr := h.rr
theorem ran_ok (he : EF e) {Br : By → LS → Wo × LS} {s s2 : LS} {key : By} {t : T} {y : Why} {new1 : List Why} (hB : Brings e Br (s.begun ++ [key])) (hl : Lnk (Nxt e) (s.begun ++ [key])) (ht : e key = some (.inr t)) (hd : look s.done key = none) (hkb : key ∉ s.begun)
    (h1 : On e { s with begun := s.begun ++ [key] } s2 new1) (hy : y.key = key) (hwhy : WhyOk e y) (hnu : ∀ h, keptOf h key = keptOf s.has key → ¬ Utd e h key) (hnew1 : ∀ u, W e key u → ∀ z ∈ new1, Utd e s2.has z.key) :
    ∃ new, Mid e s key (runL Br key t y s2).1 (runL Br key t y s2).2 new := by
  unfold runL
  have hsz : ∀ z ∈ new1, z.key ≠ key := fun z hz hk => (h1.old z hz).2.1 (by rw [hk]; simp)
  obtain ⟨new2, hon, hcase⟩ := run_ok he hB hl (prog t) { s2 with ran := s2.ran ++ [y] } [] (h1.inv.ranBy _) h1.begun (Res.start ht) (fin_prog t) (fun _ h => by simp at h)
  generalize (prog t).run (needL Br) ({ s2 with ran := s2.ran ++ [y] }, []) = q at hon hcase ⊢
  obtain ⟨r, s4, ns⟩ := q
  simp only at hon hcase
  have hs4z : ∀ z ∈ new2, z.key ≠ key := fun z hz hk => (hon.old z hz).2.1 (by show z.key ∈ s2.begun; rw [h1.begun, hk]; simp)
  have hlook : look s4.has key = look s.has key := (hon.chg key hs4z).trans (h1.chg key hsz)
  have hk4 : keptOf s4.has key = keptOf s.has key := by unfold keptOf; rw [hlook]
  have hnu4 : ¬ Utd e s4.has key := hnu _ hk4
  have hset : ∀ (o : Option Keep) (k : By), k ≠ key → look (setKept s4.has key o) k = look s4.has k := fun o k hk => by rw [look_setKept, if_neg (fun e => hk e.symm)]
  have build : ∀ (s5 : LS), (∀ k, k ≠ key → look s5.has k = look s4.has k) → s5.done = s4.done → s5.begun = s4.begun → s5.ring = s4.ring → s5.ran = s4.ran → Inv e s5 → Is e key r → (r = .error 12 → s5.ring ≠ []) → (r ≠ .error 12 → Utd e s5.has key ∧ (∀ z ∈ new2, Utd e s4.has z.key)) → Mid e s key r s5 (new1 ++ [y] ++ new2) := by
    intro s5 hsame hdone hbegun hring5 hran hinv his h12 hu
    have hup : ∀ k, Utd e s4.has k → Utd e s5.has k := fun k hk => utd_same (fun k hu => by
      unfold keptOf; rw [hsame k (fun (h0 : k = key) => hnu4 (h0 ▸ hu))]) hk
    exact {
      inv := hinv
      begun := by rw [hbegun]; exact hon.begun.trans h1.begun
      done := fun k w hk => by rw [hdone]; exact hon.done k w (h1.done k w hk)
      ring := fun hr => by
        rw [hring5]
        have := h1.ring hr
        exact (hon.ring (by show s2.ring ≠ []; rw [this]; exact hr)).trans this
      ran := by
        rw [hran, hon.ran]
        show s2.ran ++ [y] ++ new2 = _
        rw [h1.ran]
        simp
      why := fun z hz => by
        rcases List.mem_append.1 hz with hz | hz
        · rcases List.mem_append.1 hz with hz | hz
          · exact h1.why z hz
          · rw [List.mem_singleton.1 hz]; exact hwhy
        · exact hon.why z hz
      old := fun z hz => by
        rcases List.mem_append.1 hz with hz | hz
        · rcases List.mem_append.1 hz with hz | hz
          · obtain ⟨g1, g2, g3, w, g4⟩ := h1.old z hz
            exact ⟨g1, fun h => g2 (List.mem_append_left _ h), g3, .inr ⟨w, by rw [hdone]; exact hon.done _ _ g4⟩⟩
          · rw [List.mem_singleton.1 hz, hy]
            exact ⟨hd, hkb, hnu _ rfl, .inl rfl⟩
        · obtain ⟨g1, g2, g3, g4⟩ := hon.old z hz
          refine ⟨?_, fun h => g2 (by show z.key ∈ s2.begun; rw [h1.begun]; exact List.mem_append_left _ h), fun hu => g3 (h1.utd hu), .inr (by rw [hdone]; exact g4)⟩
          cases hdz : look s.done z.key with
          | none => rfl
          | some w => rw [show look s2.done z.key = some w from h1.done _ _ hdz] at g1; cases g1
      nodup := by
        rw [List.map_append, List.map_append, List.nodup_append, List.nodup_append]
        refine ⟨⟨h1.nodup, by simp, ?_⟩, hon.nodup, ?_⟩
        · intro a ha b hb hab
          obtain ⟨z, hz, rfl⟩ := List.mem_map.1 ha
          simp at hb
          exact hsz z hz (hab.trans (hb.trans hy))
        · intro a ha b hb hab
          obtain ⟨x, hx, rfl⟩ := List.mem_map.1 hb
          rcases List.mem_append.1 ha with ha | ha
          · obtain ⟨z, hz, rfl⟩ := List.mem_map.1 ha
            obtain ⟨_, _, _, w, hw⟩ := h1.old z hz
            have := (hon.old x hx).1
            rw [show look s2.done x.key = some w by rw [← hab]; exact hw] at this
            cases this
          · simp at ha
            exact hs4z x hx (hab.symm.trans (ha.trans hy))
      chg := fun k hk => by
        have hkk : k ≠ key := fun h => hk y (by simp) (hy.trans h.symm)
        rw [hsame k hkk]
        exact (hon.chg k (fun z hz => hk z (by simp [hz]))).trans (h1.chg k (fun z hz => hk z (by simp [hz])))
      quiet := fun h => by simp at h
      is := his
      r12 := h12
      utd := fun h12 => by
        obtain ⟨g1, g2⟩ := hu h12
        refine ⟨g1, fun z hz => ?_⟩
        rcases List.mem_append.1 hz with hz | hz
        · rcases List.mem_append.1 hz with hz | hz
          · exact hup _ (hon.utd (hnew1 r (his.w h12) z hz))
          · rw [List.mem_singleton.1 hz, hy]; exact g1
        · exact hup _ (g2 z hz)
      q := fun hu => (hnu _ rfl hu).elim }
  rcases hcase with ⟨rfl, hring, hno⟩ | ⟨hr, hW, hH, hns, hnew2⟩
  · have h12 : isRound (.error 12 : Wo) = true := rfl
    simp only [ranL, h12, if_true]
    by_cases hk : (keptOf s4.has key).isSome = true
    · rw [if_pos hk]
      refine ⟨_, build _ (fun k hk => hset none k hk) rfl rfl rfl rfl ?_ (.inr ⟨rfl, hno⟩) (fun _ => hring) (fun h => (h rfl).elim)⟩
      exact hon.inv.setKept hnu4 (fun _ h => by cases h) ⟨t, ht⟩ (fun _ h => by cases h)
    · rw [if_neg hk]
      refine ⟨_, build s4 (fun _ _ => rfl) rfl rfl rfl rfl hon.inv (.inr ⟨rfl, hno⟩) (fun _ => hring) (fun h => (h rfl).elim)⟩
  · have h12 : isRound r = false := by
      cases r with
      | ok v => rfl
      | error c => exact beq_eq_false_iff_ne.2 (fun h => hr (by rw [h]))
    simp only [ranL, h12]
    refine ⟨_, build _ (fun k hk => hset (some ⟨r, ns⟩) k hk) rfl rfl rfl rfl ?_ (.inl hW) (fun h => (hr h).elim) (fun _ => ⟨?_, hnew2⟩)⟩
    · refine hon.inv.setKept hnu4 (fun kp h t' ht' => ?_) ⟨t, ht⟩ (fun kp h => ?_)
      · cases h; rw [ht] at ht'; cases ht'; exact hH
      · cases h; exact fun q hq => (hns q hq).2.2
    · have hth : ∃ th, look s4.has key = some th := by
        cases hl4 : look s4.has key with
        | some th => exact ⟨th, rfl⟩
        | none =>
          have := congrFun hon.inv.src key
          unfold srcOf at this
          rw [show look s4.has key = none from hl4, ht] at this
          cases this
      obtain ⟨th, hth⟩ := hth
      refine utd_rule ht (kp := ⟨r, ns⟩) ?_ (fun q hq => ⟨(hns q hq).1, ?_⟩)
      · show keptOf (setKept s4.has key _) key = _
        rw [keptOf_setKept, if_pos rfl, hth]; rfl
      · refine utd_same (fun k hu => ?_) (hns q hq).2.1
        show keptOf (setKept s4.has key _) k = _
        rw [keptOf_setKept, if_neg (fun (h0 : key = k) => hnu4 (h0 ▸ hu))]
theorem bring_ok (he : EF e) {K : List By} (hK : ∀ k t, e k = some (.inr t) → k ∈ K) : ∀ (n : Nat) (key : By) (s : LS), Inv e s → Lnk (Nxt e) (s.begun ++ [key]) → Fuel K s.begun n → BP e key s (bring n key s)
  | 0, _, _, _, _, h => by unfold Fuel at h; omega
  | n + 1, key, s, hi, hl, hf => by
    show BP e key s (bringW (workL (bring n)) key s)
    unfold bringW
    cases hd : look s.done key with
    | some w =>
      simp only
      exact ⟨[], On.refl hi, hi.done key w hd, fun h => hi.rr key (h ▸ hd), fun h => ⟨hi.utd key w hd h, fun _ h => by simp at h⟩, fun _ => rfl, .inr hd⟩
    | none =>
      simp only
      by_cases hb : s.begun.contains key = true
      · rw [if_pos hb]
        have hmem : key ∈ s.begun := by simpa using hb
        obtain ⟨h1, h2⟩ := ring_met hl hmem
        have hne : (s.meet key).ring ≠ [] := by
          unfold LS.meet
          split
          · obtain ⟨k, r, h3, _⟩ := h1; show fromKey s.begun key ≠ []; rw [h3]; simp
          · assumption
        refine ⟨[], ?_, .inr ⟨rfl, h2⟩, fun _ => hne, fun h => (h rfl).elim, fun _ => rfl, .inl hmem⟩
        unfold LS.meet
        split
        · rename_i h3
          exact { inv := ⟨hi.src, hi.done, hi.utd, hi.hon, hi.only, hi.fine, fun _ => h1, fun k hk => (hi.rr k hk h3).elim⟩, begun := rfl, done := fun _ _ h => h, ring := fun h => (h h3).elim, ran := by simp, why := fun _ h => by simp at h, old := fun _ h => by simp at h, nodup := by simp, chg := fun _ _ => rfl, quiet := fun _ => ⟨rfl, rfl⟩ }
        · exact On.refl hi
      · rw [if_neg hb]
        have hkb : key ∉ s.begun := by simpa using hb
        suffices h : ∃ new, Mid e s key (workL (bring n) key { s with begun := s.begun ++ [key] }).1 (workL (bring n) key { s with begun := s.begun ++ [key] }).2 new by
          obtain ⟨new, h⟩ := h
          exact h.finish hd
        have hi1 : Inv e { s with begun := s.begun ++ [key] } := hi.begunBy _
        unfold workL
        cases hlk : look s.has key with
        | none =>
          have hek : e key = none := by rw [← hi.src]; unfold srcOf; rw [hlk]; rfl
          have hnr : ∀ t, e key ≠ some (.inr t) := fun t h => by rw [hek] at h; cases h
          exact ⟨[], mid_on (On.refl hi1) (.inl ⟨0, .inl ⟨hek, rfl⟩⟩) (fun h => by cases h) (fun _ => ⟨utd_none hnr, fun _ h => by simp at h⟩) (fun _ => rfl)⟩
        | some th =>
          have hsrc := look_src hlk
          rw [hi.src] at hsrc
          cases htr : th.tree with
          | none =>
            rw [htr] at hsrc
            have hnr : ∀ t, e key ≠ some (.inr t) := fun t h => by rw [hsrc] at h; cases h
            simp only [htr]
            exact ⟨[], mid_on (On.refl hi1) (.inl ⟨0, .inr ⟨th.value, hsrc, rfl⟩⟩) (fun h => by cases h) (fun _ => ⟨utd_none hnr, fun _ h => by simp at h⟩) (fun _ => rfl)⟩
          | some t =>
            rw [htr] at hsrc
            simp only [htr]
            have hB : Brings e (bring n) (s.begun ++ [key]) := fun k s' hi' hb' hl' => bring_ok he hK n k s' hi' (hb' ▸ hl') (hb' ▸ fuel_next hf (hK key t hsrc) hkb)
            have hko : keptOf s.has key = th.kept := by unfold keptOf; rw [hlk]; rfl
            cases hkp : th.kept with
            | none =>
              rw [hkp] at hko
              have hnu : ∀ h, keptOf h key = keptOf s.has key → ¬ Utd e h key := by
                intro h hh hu
                obtain ⟨kp, h1, _⟩ := hu.rule hsrc
                rw [hh, hko] at h1
                cases h1
              exact ran_ok he hB hl hsrc hd hkb (On.refl hi1) rfl (.inl ⟨rfl, rfl, rfl⟩) hnu (fun _ _ _ h => by simp at h)
            | some kp =>
              rw [hkp] at hko
              have hhon := hi.hon key t kp hsrc hko
              have hfin := hi.fine key kp hko
              obtain ⟨new, hon, hnew, hq, hcase⟩ := due_ok hB hl hsrc hhon hfin kp.needs [] { s with begun := s.begun ++ [key] } rfl hi1 rfl (fun _ h => by simp at h)
              have hdue : ruleL (bring n) key t (some kp) { s with begun := s.begun ++ [key] } = match dueL (bring n) key kp.needs { s with begun := s.begun ++ [key] } with | (.none, s) => (kp.worth, s) | (.some y, s) => runL (bring n) key t y s := rfl
              rw [hdue]
              have hq' : Utd e s.has key → (dueL (bring n) key kp.needs { s with begun := s.begun ++ [key] }).1 = none ∧ new = [] := fun hu => by
                obtain ⟨kp', h1, h2⟩ := hu.rule hsrc
                rw [hko] at h1
                cases h1
                exact hq h2
              clear hq
              generalize dueL (bring n) key kp.needs { s with begun := s.begun ++ [key] } = q at hon hnew hq' hcase ⊢
              obtain ⟨o, s2⟩ := q
              simp only at hon hnew hq' hcase
              rcases hcase with ⟨rfl, hall⟩ | ⟨y, rfl, hyk, his, hsame, hin⟩
              · have hW : W e key kp.worth := W.rule hsrc (hhon.all (fun q hq => (hall q hq).1))
                have hk2 : keptOf s2.has key = some kp := by
                  have : look s2.has key = look s.has key := hon.chg key (fun z hz h => (hon.old z hz).2.1 (by rw [h]; simp))
                  unfold keptOf at hko ⊢; rw [this, hko]
                exact ⟨new, mid_on hon (.inl hW) (fun h => (hhon.not12 h).elim) (fun _ => ⟨utd_rule hsrc hk2 hall, hnew _ hW⟩) (fun hu => (hq' hu).2)⟩
              · have hnu : ∀ h, keptOf h key = keptOf s.has key → ¬ Utd e h key := by
                  intro h hh hu
                  obtain ⟨kp', h1, h2⟩ := hu.rule hsrc
                  rw [hh, hko] at h1
                  cases h1
                  have h3 := (h2 _ hin).1
                  have h4 : y.now = y.was := his.det (.inl h3)
                  rw [h4] at hsame
                  have := hfin _ hin
                  unfold Fine at this
                  rw [this] at hsame
                  cases hsame
                exact ran_ok he hB hl hsrc hd hkb hon hyk (.inr ⟨his, hsame⟩) hnu hnew
end Lard
end Go.Proofs.YtpekpdimdelncaaGreatDoor
