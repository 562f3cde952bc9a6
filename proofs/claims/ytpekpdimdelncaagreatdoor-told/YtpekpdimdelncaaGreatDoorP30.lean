/- Out of: Th2. -/
import Derived.Test.YtpekpdimdelncaaGreatDoorP20
import Derived.Test.YtpekpdimdelncaaGreatDoorP29
namespace Go.Proofs.YtpekpdimdelncaaGreatDoor
namespace Lard
set_option linter.unusedVariables false
def Fine (w : Wo) : Prop := ∀ v, w = .ok v → okV 3 v
def isKey (k : By) : Bool := isName k || (k.head? == some 107 && (numOf (k.drop 1)).isSome)
theorem zip_self_all {α : Type} (p : α × α → Bool) : ∀ (l : List α), ((l.zip l).all p) = l.all fun x => p (x, x)
  | [] => rfl
  | a :: l => by simp only [List.zip_cons_cons, List.all_cons, zip_self_all p l]
theorem same_self : ∀ (n : Nat) (v : V), same n v v = lev n v
  | n, ⟨.inl i⟩ => by unfold same lev; simp
  | n, ⟨.inr (.inl b)⟩ => by unfold same lev; simp
  | 0, ⟨.inr (.inr l)⟩ => by unfold same lev; rfl
  | n + 1, ⟨.inr (.inr l)⟩ => by
    unfold same lev
    simp only [beq_self_eq_true, Bool.true_and]
    rw [zip_self_all]
    congr 1
    funext x
    exact same_self n x
theorem Fine.same {w : Wo} (h : Fine w) : sameO w w = true := by
  cases w with
  | ok v => show Lard.same 3 v v = true; rw [same_self]; exact okV_lev 3 v (h v rfl)
  | error c => simp [sameO]
def Clo : Pg Wo → Prop
  | ⟨.inl w⟩ => Fine w
  | ⟨.inr (k, c)⟩ => isKey k = true ∧ ∀ w, Fine w → Clo (c w)
structure EF (e : Src) : Prop where
  val : ∀ k v, e k = some (.inl v) → Fine (.ok v)
  rule : ∀ k t, e k = some (.inr t) → Clo (prog t)
theorem same_eq : ∀ (n : Nat) (v u : V), same n v u = true → v = u
  | n, ⟨.inl i⟩, ⟨.inl j⟩, h => by unfold same at h; simp at h; rw [h]
  | n, ⟨.inl i⟩, ⟨.inr (.inl b)⟩, h => by unfold same at h; simp at h
  | n, ⟨.inl i⟩, ⟨.inr (.inr b)⟩, h => by unfold same at h; simp at h
  | n, ⟨.inr (.inl i)⟩, ⟨.inl j⟩, h => by unfold same at h; simp at h
  | n, ⟨.inr (.inl i)⟩, ⟨.inr (.inl j)⟩, h => by unfold same at h; simp at h; rw [h]
  | n, ⟨.inr (.inl i)⟩, ⟨.inr (.inr j)⟩, h => by unfold same at h; simp at h
  | n, ⟨.inr (.inr i)⟩, ⟨.inl j⟩, h => by unfold same at h; simp at h
  | n, ⟨.inr (.inr i)⟩, ⟨.inr (.inl j)⟩, h => by unfold same at h; simp at h
  | 0, ⟨.inr (.inr i)⟩, ⟨.inr (.inr j)⟩, h => by unfold same at h; simp at h
  | n + 1, ⟨.inr (.inr l)⟩, ⟨.inr (.inr m)⟩, h => by
    unfold same at h
    simp only [Bool.and_eq_true, beq_iff_eq, List.all_eq_true] at h
    obtain ⟨h1, h2⟩ := h
    have : l = m := by
      apply List.ext_getElem? 
      intro i
      rcases Nat.lt_or_ge i l.length with hi | hi
      · have hm : i < m.length := by omega
        rw [List.getElem?_eq_getElem hi, List.getElem?_eq_getElem hm]
        have h3 := h2 (l[i], m[i]) (by
          apply List.mem_of_getElem? (i := i)
          rw [List.getElem?_zip_eq_some]
          exact ⟨List.getElem?_eq_getElem hi, List.getElem?_eq_getElem hm⟩)
        rw [same_eq n l[i] m[i] h3]
      · rw [List.getElem?_eq_none hi, List.getElem?_eq_none (by omega)]
    rw [this]
theorem sameO_eq {a b : Wo} (h : sameO a b = true) : a = b := by
  cases a <;> cases b <;> simp [sameO] at h
  · rw [h]
  · rw [same_eq _ _ _ h]
theorem Rn.fine {O : By → Wo → Prop} (h : ∀ k u, O k u → Fine u) : ∀ (p : Pg Wo) (w : Wo), Rn O p w → Clo p → Fine w
  | ⟨.inl _⟩, _, hp, hc => hp.1 ▸ hc
  | ⟨.inr (k, c)⟩, w, ⟨u, h1, h2⟩, hc => Rn.fine h (c u) w h2 (hc.2 u (h k u h1))
variable {e : Src}
theorem Wn.fine (he : EF e) : ∀ {n : Nat} {k : By} {w : Wo}, Wn e n k w → Fine w := by
  have hb : ∀ {k w}, Base e k w → Fine w := by
    intro k w h
    rcases h with ⟨_, rfl⟩ | ⟨v, h, rfl⟩
    · exact fun v hv => by cases hv
    · exact he.val k v h
  intro n
  induction n with
  | zero => intro k w h; exact hb h
  | succ n ih =>
    intro k w h
    rcases h with h | ⟨t, h1, h2⟩
    · exact hb h
    · exact Rn.fine (fun k u h => ih h) _ _ h2 (he.rule k t h1)
theorem W.fine (he : EF e) {k : By} {w : Wo} : W e k w → Fine w
  | ⟨_, h⟩ => h.fine he
/-! Up to date. -/
def UtdN (e : Src) (h : List (By × Thing)) : Nat → By → Prop
  | 0, k => ∀ t, e k ≠ some (.inr t)
  | n + 1, k => (∀ t, e k ≠ some (.inr t)) ∨ ∃ t kp, e k = some (.inr t) ∧ keptOf h k = some kp ∧ ∀ q ∈ kp.needs, W e q.1 q.2 ∧ UtdN e h n q.1
def Utd (e : Src) (h : List (By × Thing)) (k : By) : Prop := ∃ n, UtdN e h n k
theorem UtdN.up {h : List (By × Thing)} : ∀ {n : Nat} {k : By}, UtdN e h n k → UtdN e h (n + 1) k
  | 0, _, hu => .inl hu
  | n + 1, k, hu => by
    rcases hu with hu | ⟨t, kp, h1, h2, h3⟩
    · exact .inl hu
    · exact .inr ⟨t, kp, h1, h2, fun q hq => ⟨(h3 q hq).1, UtdN.up (h3 q hq).2⟩⟩
theorem UtdN.le {h : List (By × Thing)} {n m : Nat} {k : By} (hu : UtdN e h n k) (hm : n ≤ m) : UtdN e h m k := by
  induction hm with
  | refl => exact hu
  | step _ ih => exact ih.up
theorem utd_none {h : List (By × Thing)} {k : By} (hk : ∀ t, e k ≠ some (.inr t)) : Utd e h k := ⟨0, hk⟩
theorem utd_all {h : List (By × Thing)} : ∀ (l : List (By × Wo)), (∀ q ∈ l, Utd e h q.1) → ∃ n, ∀ q ∈ l, UtdN e h n q.1
  | [], _ => ⟨0, fun q hq => by simp at hq⟩
  | q :: l, hl => by
    obtain ⟨n, hn⟩ := hl q List.mem_cons_self
    obtain ⟨m, hm⟩ := utd_all l (fun q hq => hl q (List.mem_cons_of_mem _ hq))
    refine ⟨max n m, fun q' hq => ?_⟩
    rcases List.mem_cons.1 hq with rfl | hq
    · exact hn.le (Nat.le_max_left _ _)
    · exact (hm q' hq).le (Nat.le_max_right _ _)
theorem utd_rule {h : List (By × Thing)} {k : By} {t : T} {kp : Keep} (h1 : e k = some (.inr t)) (h2 : keptOf h k = some kp) (h3 : ∀ q ∈ kp.needs, W e q.1 q.2 ∧ Utd e h q.1) : Utd e h k := by
  obtain ⟨n, hn⟩ := utd_all kp.needs (fun q hq => (h3 q hq).2)
  exact ⟨n + 1, .inr ⟨t, kp, h1, h2, fun q hq => ⟨(h3 q hq).1, hn q hq⟩⟩⟩
theorem Utd.rule {h : List (By × Thing)} {k : By} {t : T} (hu : Utd e h k) (h1 : e k = some (.inr t)) : ∃ kp, keptOf h k = some kp ∧ ∀ q ∈ kp.needs, W e q.1 q.2 ∧ Utd e h q.1 := by
  obtain ⟨n, hn⟩ := hu
  cases n with
  | zero => exact (hn t h1).elim
  | succ n =>
    rcases hn with hn | ⟨t', kp, h1', h2, h3⟩
    · exact (hn t h1).elim
    · exact ⟨kp, h2, fun q hq => ⟨(h3 q hq).1, n, (h3 q hq).2⟩⟩
theorem utd_same {h h' : List (By × Thing)} (hs : ∀ k, Utd e h k → keptOf h' k = keptOf h k) {k : By} (hu : Utd e h k) : Utd e h' k := by
  obtain ⟨n, hn⟩ := hu
  have : ∀ n k, UtdN e h n k → UtdN e h' n k := by
    intro n
    induction n with
    | zero => intro k hk; exact hk
    | succ n ih =>
      intro k hk
      have hu : Utd e h k := ⟨n + 1, hk⟩
      rcases hk with hk | ⟨t, kp, h1, h2, h3⟩
      · exact .inl hk
      · exact .inr ⟨t, kp, h1, (hs k hu).trans h2, fun q hq => ⟨(h3 q hq).1, ih _ (h3 q hq).2⟩⟩
  exact ⟨n, this n k hn⟩
/-! A larder in an Ask. -/
structure Inv (e : Src) (s : LS) : Prop where
  src : srcOf s.has = e
  done : ∀ k w, look s.done k = some w → Is e k w
  utd : ∀ k w, look s.done k = some w → w ≠ .error 12 → Utd e s.has k
  hon : ∀ k t kp, e k = some (.inr t) → keptOf s.has k = some kp → Hon (prog t) [] kp.needs kp.worth
  only : ∀ k kp, keptOf s.has k = some kp → ∃ t, e k = some (.inr t)
  fine : ∀ k kp, keptOf s.has k = some kp → ∀ q ∈ kp.needs, Fine q.2
  ring : s.ring ≠ [] → Ring e s.ring
  rr : ∀ k, look s.done k = some (.error 12) → s.ring ≠ []
def WhyOk (e : Src) (y : Why) : Prop := (y.need = [] ∧ y.was = .error 0 ∧ y.now = .error 0) ∨ (Is e y.need y.now ∧ sameO y.now y.was = false ∧ Fine y.was)
def Lns (e : Src) (h : List (By × Thing)) (jr : List By) (h' : List (By × Thing)) (jr' : List By) : Prop :=
  ∀ P : List (By × Thing) → List By → Prop, P h jr →
    (∀ {h1 : List (By × Thing)} {jr1 : List By} {key : By} {t : T} {kp : Keep}, P h1 jr1 → e key = some (.inr t) → Hon (prog t) [] kp.needs kp.worth → (∀ q ∈ kp.needs, W e q.1 q.2) → W e key kp.worth → P (setKept h1 key (some kp)) (jr1 ++ [keepText key kp])) →
    (∀ {h1 : List (By × Thing)} {jr1 : List By} {key : By} {kp : Keep}, P h1 jr1 → keptOf h1 key = some kp → P (setKept h1 key none) (jr1 ++ [[108, 111, 115, 101, 32] ++ key])) → P h' jr'
theorem Lns.refl {h : List (By × Thing)} {jr : List By} : Lns e h jr h jr := fun P a b c => a
theorem Lns.keep {h h1 : List (By × Thing)} {jr jr1 : List By} {key : By} {t : T} {kp : Keep} (hl : Lns e h jr h1 jr1) (h3 : e key = some (.inr t)) (h4 : Hon (prog t) [] kp.needs kp.worth) (h5 : ∀ q ∈ kp.needs, W e q.1 q.2) (h6 : W e key kp.worth) : Lns e h jr (setKept h1 key (some kp)) (jr1 ++ [keepText key kp]) :=
  fun P a b c => b (hl P a b c) h3 h4 h5 h6
theorem Lns.lose {h h1 : List (By × Thing)} {jr jr1 : List By} {key : By} {kp : Keep} (hl : Lns e h jr h1 jr1) (h3 : keptOf h1 key = some kp) : Lns e h jr (setKept h1 key none) (jr1 ++ [[108, 111, 115, 101, 32] ++ key]) :=
  fun P a b c => c (hl P a b c) h3
theorem Lns.trans {h h1 h2 : List (By × Thing)} {j j1 j2 : List By} (a : Lns e h j h1 j1) (b : Lns e h1 j1 h2 j2) : Lns e h j h2 j2 :=
  b (fun h2 j2 => Lns e h j h2 j2) a (fun ih h3 h4 h5 h6 => ih.keep h3 h4 h5 h6) (fun ih h3 => ih.lose h3)
def Wd (h : List (By × Thing)) (y : Why) : Prop := y.need = [] ∨ ∃ kp, keptOf h y.key = some kp ∧ (y.need, y.was) ∈ kp.needs
structure On (e : Src) (s s' : LS) (new : List Why) : Prop where
  inv : Inv e s'
  begun : s'.begun = s.begun
  done : ∀ k w, look s.done k = some w → look s'.done k = some w
  ring : s.ring ≠ [] → s'.ring = s.ring
  ran : s'.ran = s.ran ++ new
  why : ∀ y ∈ new, WhyOk e y
  old : ∀ y ∈ new, look s.done y.key = none ∧ y.key ∉ s.begun ∧ ¬ Utd e s.has y.key ∧ ∃ w, look s'.done y.key = some w
  nodup : (new.map (·.key)).Nodup
  chg : ∀ k, (∀ y ∈ new, y.key ≠ k) → look s'.has k = look s.has k
  quiet : new = [] → s'.has = s.has ∧ s'.jr = s.jr
  was : ∀ y ∈ new, Wd s.has y
  jr : Lns e s.has s.jr s'.has s'.jr
theorem On.refl {s : LS} (h : Inv e s) : On e s s [] :=
  ⟨h, rfl, fun _ _ h => h, fun _ => rfl, by simp, fun _ h => by simp at h, fun _ h => by simp at h, by simp, fun _ _ => rfl, fun _ => ⟨rfl, rfl⟩, fun _ h => by simp at h, .refl⟩
theorem On.kept {s s' : LS} {new : List Why} (h : On e s s' new) {k : By} (hk : Utd e s.has k) : keptOf s'.has k = keptOf s.has k := by
  unfold keptOf
  rw [h.chg k (fun y hy he => (h.old y hy).2.2.1 (he ▸ hk))]
theorem On.utd {s s' : LS} {new : List Why} (h : On e s s' new) {k : By} (hk : Utd e s.has k) : Utd e s'.has k :=
  utd_same (fun _ hu => h.kept hu) hk
theorem On.trans {s s1 s2 : LS} {n1 n2 : List Why} (h : On e s s1 n1) (h' : On e s1 s2 n2) : On e s s2 (n1 ++ n2) where
  inv := h'.inv
  begun := h'.begun.trans h.begun
  done k w hk := h'.done k w (h.done k w hk)
  ring hr := (h'.ring (by rw [h.ring hr]; exact hr)).trans (h.ring hr)
  ran := by rw [h'.ran, h.ran, List.append_assoc]
  why y hy := (List.mem_append.1 hy).elim (h.why y) (h'.why y)
  old y hy := by
    rcases List.mem_append.1 hy with hy | hy
    · obtain ⟨h1, h2, h3, w, h4⟩ := h.old y hy
      exact ⟨h1, h2, h3, w, h'.done _ _ h4⟩
    · obtain ⟨h1, h2, h3, h4⟩ := h'.old y hy
      refine ⟨?_, h.begun ▸ h2, fun hu => h3 (h.utd hu), h4⟩
      cases hd : look s.done y.key with
      | none => rfl
      | some w => rw [h.done _ _ hd] at h1; cases h1
  nodup := by
    rw [List.map_append, List.nodup_append]
    refine ⟨h.nodup, h'.nodup, ?_⟩
    intro a ha b hb hab
    obtain ⟨y, hy, rfl⟩ := List.mem_map.1 ha
    obtain ⟨z, hz, rfl⟩ := List.mem_map.1 hb
    obtain ⟨_, _, _, w, hw⟩ := h.old y hy
    have := (h'.old z hz).1
    rw [← hab, hw] at this
    cases this
  chg k hk := (h'.chg k (fun y hy => hk y (List.mem_append_right _ hy))).trans (h.chg k (fun y hy => hk y (List.mem_append_left _ hy)))
  quiet hn := by
    obtain ⟨h1, h2⟩ := List.append_eq_nil_iff.1 hn
    obtain ⟨a, b⟩ := h.quiet h1
    obtain ⟨c, d⟩ := h'.quiet h2
    exact ⟨c.trans a, d.trans b⟩
  was y hy := by
    rcases List.mem_append.1 hy with hy | hy
    · exact h.was y hy
    · rcases h'.was y hy with h0 | ⟨kp, h1, h2⟩
      · exact .inl h0
      · refine .inr ⟨kp, ?_, h2⟩
        rw [← h1]
        unfold keptOf
        rw [h.chg y.key (fun z hz e => by
          obtain ⟨_, _, _, w, hw⟩ := h.old z hz
          have := (h'.old y hy).1
          rw [← e, hw] at this
          cases this)]
  jr := h.jr.trans h'.jr
def BP (e : Src) (key : By) (s : LS) (q : Wo × LS) : Prop :=
  ∃ new, On e s q.2 new ∧ Is e key q.1 ∧ (q.1 = .error 12 → q.2.ring ≠ []) ∧ (q.1 ≠ .error 12 → Utd e q.2.has key ∧ ∀ y ∈ new, Utd e q.2.has y.key) ∧ (Utd e s.has key → new = []) ∧ (key ∈ s.begun ∨ look q.2.done key = some q.1)
def Fuel (K : List By) (b : List By) (n : Nat) : Prop := (K.filter fun k => !b.contains k).length < n
theorem fuel_next {K b : List By} {n : Nat} {key : By} (h : Fuel K b (n + 1)) (hk : key ∈ K) (hb : key ∉ b) : Fuel K (b ++ [key]) n := by
  unfold Fuel at *
  have : (K.filter fun k => !(b ++ [key]).contains k).length < (K.filter fun k => !b.contains k).length := by
    have h2 : (K.filter fun k => !(b ++ [key]).contains k) = (K.filter fun k => !b.contains k).filter fun k => !(k == key) := by
      rw [List.filter_filter]
      apply List.filter_congr
      intro x _
      by_cases hx : x = key
      · simp [hx]
      · simp [hx]
    rw [h2]
    apply List.length_filter_lt_length_iff_exists.2
    exact ⟨key, List.mem_filter.2 ⟨hk, by simp [hb]⟩, by simp⟩
  omega
section
structure Res (e : Src) (key : By) (p : Pg Wo) : Prop where
  down : ∀ n w, Wn e (n + 1) key w → Rn (Wn e n) p w
  up : ∀ w, Rn (W e) p w → W e key w
  asks : ∀ k', Asks e p k' → Nxt e key k'
theorem Res.start {key : By} {t : T} (h : e key = some (.inr t)) : Res e key (prog t) where
  down n w hw := by
    rcases hw with hw | ⟨t', h1, h2⟩
    · exact (Base.noRule hw h).elim
    · rw [h] at h1; cases h1; exact h2
  up w hw := W.rule h hw
  asks k' ha := ⟨t, h, ha⟩
theorem Res.step {key k : By} {c : Wo → Pg Wo} {u : Wo} (h : Res e key ⟨.inr (k, c)⟩) (hu : W e k u) : Res e key (c u) where
  down n w hw := by
    obtain ⟨u', h1, h2⟩ := h.down n w hw
    obtain rfl := W.det ⟨n, h1⟩ hu
    exact h2
  up w hw := h.up w ⟨u, hu, hw⟩
  asks k' ha := h.asks k' (.inr ⟨u, hu, ha⟩)
theorem Res.no {key k : By} {c : Wo → Pg Wo} (h : Res e key ⟨.inr (k, c)⟩) (hk : ∀ u, ¬ W e k u) : ∀ w, ¬ W e key w := by
  rintro w ⟨n, hn⟩
  obtain ⟨u, h1, _⟩ := h.down n w hn.up
  exact hk u ⟨n, h1⟩
def Brings (e : Src) (Br : By → LS → Wo × LS) (b : List By) : Prop := ∀ k s, Inv e s → s.begun = b → Lnk (Nxt e) (b ++ [k]) → BP e k s (Br k s)
theorem run_ok (he : EF e) {Br : By → LS → Wo × LS} {b : List By} {key : By} (hB : Brings e Br (b ++ [key])) (hl : Lnk (Nxt e) (b ++ [key])) :
    ∀ (p : Pg Wo) (s : LS) (acc : List (By × Wo)), Inv e s → s.begun = b ++ [key] → Res e key p → Fin p → (∀ q ∈ acc, W e q.1 q.2 ∧ Utd e s.has q.1 ∧ Fine q.2) →
    ∃ new, On e s (p.run (needL Br) (s, acc)).2.1 new ∧
      (((p.run (needL Br) (s, acc)).1 = .error 12 ∧ (p.run (needL Br) (s, acc)).2.1.ring ≠ [] ∧ ∀ u, ¬ W e key u) ∨
       ((p.run (needL Br) (s, acc)).1 ≠ .error 12 ∧ W e key (p.run (needL Br) (s, acc)).1 ∧ Hon p acc (p.run (needL Br) (s, acc)).2.2 (p.run (needL Br) (s, acc)).1 ∧ (∀ q ∈ (p.run (needL Br) (s, acc)).2.2, W e q.1 q.2 ∧ Utd e (p.run (needL Br) (s, acc)).2.1.has q.1 ∧ Fine q.2) ∧ ∀ y ∈ new, Utd e (p.run (needL Br) (s, acc)).2.1.has y.key)) := by
  intro p
  induction p using Pg.ind with
  | h1 w =>
    intro s acc hi hb hr hf ha
    have h12 : w ≠ .error 12 := hf
    exact ⟨[], On.refl hi, .inr ⟨h12, hr.up w ⟨rfl, h12⟩, ⟨rfl, h12, rfl⟩, ha, fun _ h => by simp at h⟩⟩
  | h2 k c ih =>
    intro s acc hi hb hr hf ha
    have hrun : (Pg.ask k c).run (needL Br) (s, acc) = (c (Br k s).1).run (needL Br) ((Br k s).2, withNeed acc k (Br k s).1) := rfl
    rw [hrun]
    have hlk : Lnk (Nxt e) (b ++ [key] ++ [k]) := lnk_snoc b key k hl (hr.asks k (.inl rfl))
    obtain ⟨new, hon, his, h12, hne, hq, hd⟩ := hB k s hi hb hlk
    generalize Br k s = q at hon his h12 hne hd ⊢
    obtain ⟨u, s1⟩ := q
    simp only at hon his h12 hne hd ⊢
    by_cases hu : u = .error 12
    · subst hu
      have hc : c (.error 12) = .ret (.error 12) := hf.1
      rw [hc]
      exact ⟨new, hon, .inl ⟨rfl, h12 rfl, hr.no (fun u hw => his.no hw)⟩⟩
    · have hw := his.w hu
      obtain ⟨hu1, hu2⟩ := hne hu
      have hacc : ∀ q ∈ withNeed acc k u, W e q.1 q.2 ∧ Utd e s1.has q.1 ∧ Fine q.2 := by
        intro q hq
        have h1 : q ∈ acc ∨ q = (k, u) := by
          unfold withNeed at hq
          split at hq
          · exact .inl hq
          · rcases List.mem_append.1 hq with hq | hq
            · exact .inl hq
            · exact .inr (List.mem_singleton.1 hq)
        rcases h1 with h1 | rfl
        · exact ⟨(ha q h1).1, hon.utd (ha q h1).2.1, (ha q h1).2.2⟩
        · exact ⟨hw, hu1, hw.fine he⟩
      obtain ⟨new2, hon2, hcase⟩ := ih u s1 (withNeed acc k u) hon.inv (hon.begun.trans hb) (hr.step hw) (hf.2 u hu) hacc
      refine ⟨new ++ new2, hon.trans hon2, ?_⟩
      rcases hcase with hcase | ⟨g1, g2, g3, g4, g5⟩
      · exact .inl hcase
      · refine .inr ⟨g1, g2, ?_, g4, fun y hy => ?_⟩
        · unfold withNeed at g3 ⊢
          cases hlk : look acc k with
          | some u0 =>
            rw [hlk] at g3
            have : u0 = u := (ha _ (look_mem hlk)).1.det hw
            subst this
            exact .inl ⟨u0, hlk, by simpa using g3⟩
          | none =>
            rw [hlk] at g3
            exact .inr ⟨hlk, u, hu, by simpa using g3⟩
        · rcases List.mem_append.1 hy with hy | hy
          · exact hon2.utd (hu2 y hy)
          · exact g5 y hy
theorem due_ok {Br : By → LS → Wo × LS} {b : List By} {key : By} {t : T} {kp : Keep} (hB : Brings e Br (b ++ [key])) (hl : Lnk (Nxt e) (b ++ [key])) (ht : e key = some (.inr t)) (hh : Hon (prog t) [] kp.needs kp.worth) (hfi : ∀ q ∈ kp.needs, Fine q.2) :
    ∀ (rest pre : List (By × Wo)) (s : LS), kp.needs = pre ++ rest → Inv e s → s.begun = b ++ [key] → (∀ q ∈ pre, W e q.1 q.2 ∧ Utd e s.has q.1) →
    ∃ new, On e s (dueL Br key rest s).2 new ∧ ((∀ u, W e key u → ∀ y ∈ new, Utd e (dueL Br key rest s).2.has y.key)) ∧ ((∀ q ∈ rest, W e q.1 q.2 ∧ Utd e s.has q.1) → (dueL Br key rest s).1 = none ∧ new = []) ∧
      (((dueL Br key rest s).1 = none ∧ ∀ q ∈ kp.needs, W e q.1 q.2 ∧ Utd e (dueL Br key rest s).2.has q.1) ∨
       ∃ y, (dueL Br key rest s).1 = some y ∧ y.key = key ∧ Is e y.need y.now ∧ sameO y.now y.was = false ∧ (y.need, y.was) ∈ kp.needs)
  | [], pre, s, hn, hi, hb, hp => by
    rw [List.append_nil] at hn
    exact ⟨[], On.refl hi, fun _ _ _ h => by simp at h, fun _ => ⟨rfl, rfl⟩, .inl ⟨rfl, hn ▸ hp⟩⟩
  | (k, w) :: rest, pre, s, hn, hi, hb, hp => by
    have hask : Asks e (prog t) k := Hon.next (hn ▸ hh) (Nat.zero_le _) (fun q hq => (hp q hq).1)
    have hlk : Lnk (Nxt e) (b ++ [key] ++ [k]) := lnk_snoc b key k hl ⟨t, ht, hask⟩
    obtain ⟨new, hon, his, h12, hne, hq, hd⟩ := hB k s hi hb hlk
    have hdue : dueL Br key ((k, w) :: rest) s = if sameO (Br k s).1 w = true then dueL Br key rest (Br k s).2 else (some ⟨key, k, w, (Br k s).1⟩, (Br k s).2) := rfl
    rw [hdue]
    generalize Br k s = q at hon his h12 hne hd ⊢
    obtain ⟨u, s1⟩ := q
    simp only at hon his h12 hne hd ⊢
    have hin : (k, w) ∈ kp.needs := by rw [hn]; simp
    have hkeyW : ∀ v, W e key v → u ≠ .error 12 := by
      rintro v ⟨n, hv⟩ rfl
      obtain ⟨m, w', _, hw'⟩ := Nxt.down ⟨t, ht, hask⟩ hv
      exact his.no ⟨m, hw'⟩
    by_cases hs : sameO u w = true
    · rw [if_pos hs]
      obtain rfl := sameO_eq hs
      have hu : u ≠ .error 12 := hh.needs12 (fun _ h => by simp at h) _ hin
      obtain ⟨hu1, hu2⟩ := hne hu
      have hp' : ∀ q ∈ pre ++ [(k, u)], W e q.1 q.2 ∧ Utd e s1.has q.1 := by
        intro q hq
        rcases List.mem_append.1 hq with hq | hq
        · exact ⟨(hp q hq).1, hon.utd (hp q hq).2⟩
        · rw [List.mem_singleton.1 hq]; exact ⟨his.w hu, hu1⟩
      obtain ⟨new2, hon2, g1, g2, g3⟩ := due_ok hB hl ht hh hfi rest (pre ++ [(k, u)]) s1 (by rw [hn]; simp) hon.inv (hon.begun.trans hb) hp'
      refine ⟨new ++ new2, hon.trans hon2, fun v hv y hy => ?_, fun hall => ?_, g3⟩
      · rcases List.mem_append.1 hy with hy | hy
        · exact hon2.utd (hu2 y hy)
        · exact g1 v hv y hy
      · have hk := hq (hall (k, u) List.mem_cons_self).2
        obtain ⟨h5, h6⟩ := g2 (fun q hq => ⟨(hall q (List.mem_cons_of_mem _ hq)).1, hon.utd (hall q (List.mem_cons_of_mem _ hq)).2⟩)
        exact ⟨h5, by rw [hk, h6]; rfl⟩
    · rw [if_neg hs]
      refine ⟨new, hon, fun v hv y hy => (hne (hkeyW v hv)).2 y hy, fun hall => ?_, .inr ⟨_, rfl, rfl, his, by simpa using hs, hin⟩⟩
      exfalso
      obtain ⟨h1, h2⟩ := hall (k, w) List.mem_cons_self
      have : u = w := his.det (.inl h1)
      subst this
      exact hs (hfi _ hin).same
end
end Lard
end Go.Proofs.YtpekpdimdelncaaGreatDoor
