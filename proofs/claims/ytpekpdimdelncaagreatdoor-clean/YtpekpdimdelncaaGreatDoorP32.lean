/- Out of: Th3, Ef. -/
import Derived.Test.YtpekpdimdelncaaGreatDoorP31
import Derived.Test.YtpekpdimdelncaaGreatDoorP06
namespace Go.Proofs.YtpekpdimdelncaaGreatDoor
namespace Lard
set_option linter.unusedVariables false
variable {e : Src}
theorem srcOf_setKept (h : List (By × Thing)) (k : By) (o : Option Keep) : srcOf (setKept h k o) = srcOf h := by
  funext k'
  unfold srcOf
  rw [look_setKept]
  by_cases hk : k = k'
  · rw [if_pos hk]
    cases look h k' <;> rfl
  · rw [if_neg hk]
theorem look_src {h : List (By × Thing)} {k : By} {th : Thing} (hl : look h k = some th) : srcOf h k = some (match th.tree with | .none => .inl th.value | .some t => .inr t) := by
  unfold srcOf; rw [hl]; rfl
structure Mid (e : Src) (s : LS) (key : By) (r : Wo) (s4 : LS) (new : List Why) : Prop where
  inv : Inv e s4
  begun : s4.begun = s.begun ++ [key]
  done : ∀ k w, look s.done k = some w → look s4.done k = some w
  ring : s.ring ≠ [] → s4.ring = s.ring
  ran : s4.ran = s.ran ++ new
  why : ∀ y ∈ new, WhyOk e y
  old : ∀ y ∈ new, look s.done y.key = none ∧ y.key ∉ s.begun ∧ ¬ Utd e s.has y.key ∧ (y.key = key ∨ ∃ w, look s4.done y.key = some w)
  nodup : (new.map (·.key)).Nodup
  chg : ∀ k, (∀ y ∈ new, y.key ≠ k) → look s4.has k = look s.has k
  quiet : new = [] → s4.has = s.has ∧ s4.jr = s.jr
  is : Is e key r
  r12 : r = .error 12 → s4.ring ≠ []
  utd : r ≠ .error 12 → Utd e s4.has key ∧ ∀ y ∈ new, Utd e s4.has y.key
  q : Utd e s.has key → new = []
theorem Mid.finish {s s4 : LS} {key : By} {r : Wo} {new : List Why} (hd : look s.done key = none) (h : Mid e s key r s4 new) :
    BP e key s (r, { s4 with begun := s4.begun.dropLast, done := put s4.done key r }) := by
  have hbe : s4.begun.dropLast = s.begun := by rw [h.begun]; simp
  refine ⟨new, ⟨⟨h.inv.src, fun k w hk => ?_, fun k w hk h12 => ?_, h.inv.hon, h.inv.only, h.inv.fine, h.inv.ring, fun k hk => ?_⟩, hbe, fun k w hk => ?_, h.ring, h.ran, h.why, fun y hy => ?_, h.nodup, h.chg, h.quiet⟩, h.is, h.r12, h.utd, h.q, .inr ?_⟩
  · rw [look_put] at hk
    split at hk
    · rename_i h1; cases hk; subst h1; exact h.is
    · exact h.inv.done k w hk
  · rw [look_put] at hk
    split at hk
    · rename_i h1; cases hk; subst h1; exact (h.utd h12).1
    · exact h.inv.utd k w hk h12
  · rw [look_put] at hk
    split at hk
    · rename_i h1; cases hk; exact h.r12 rfl
    · exact h.inv.rr k hk
  · rw [look_put]
    split
    · rename_i h1; subst h1; rw [hd] at hk; cases hk
    · exact h.done k w hk
  · obtain ⟨h1, h2, h3, h4⟩ := h.old y hy
    refine ⟨h1, h2, h3, ?_⟩
    rw [look_put]
    split
    · exact ⟨r, rfl⟩
    · rename_i h5
      rcases h4 with h4 | h4
      · exact (h5 h4.symm).elim
      · exact h4
  · rw [look_put, if_pos rfl]
theorem mid_on {s s4 : LS} {key : By} {r : Wo} {new : List Why} (h : On e { s with begun := s.begun ++ [key] } s4 new) (his : Is e key r) (h12 : r = .error 12 → s4.ring ≠ []) (hu : r ≠ .error 12 → Utd e s4.has key ∧ ∀ y ∈ new, Utd e s4.has y.key) (hq : Utd e s.has key → new = []) : Mid e s key r s4 new where
  inv := h.inv
  begun := h.begun
  done := h.done
  ring := h.ring
  ran := h.ran
  why := h.why
  old y hy := by
    obtain ⟨h1, h2, h3, h4⟩ := h.old y hy
    exact ⟨h1, fun h5 => h2 (List.mem_append_left _ h5), h3, .inr h4⟩
  nodup := h.nodup
  chg := h.chg
  quiet := h.quiet
  is := his
  r12 := h12
  utd := hu
  q := hq
theorem Inv.ranBy {s : LS} (h : Inv e s) (r : List Why) : Inv e { s with ran := r } := ⟨h.src, h.done, h.utd, h.hon, h.only, h.fine, h.ring, h.rr⟩
theorem Inv.begunBy {s : LS} (h : Inv e s) (r : List By) : Inv e { s with begun := r } := ⟨h.src, h.done, h.utd, h.hon, h.only, h.fine, h.ring, h.rr⟩
theorem Inv.setKept {s : LS} {key : By} {o : Option Keep} {j : List By} (h : Inv e s) (hn : ¬ Utd e s.has key) (ho : ∀ kp, o = some kp → ∀ t, e key = some (.inr t) → Hon (prog t) [] kp.needs kp.worth) (hr : ∃ t, e key = some (.inr t)) (hf : ∀ kp, o = some kp → ∀ q ∈ kp.needs, Fine q.2) :
    Inv e { s with has := setKept s.has key o, jr := j } where
  src := (srcOf_setKept _ _ _).trans h.src
  done := h.done
  utd k w hk h12 := by
    refine utd_same (fun k hu => ?_) (h.utd k w hk h12)
    show keptOf (Lard.setKept s.has key o) k = _
    rw [keptOf_setKept, if_neg (fun (h0 : key = k) => hn (h0 ▸ hu))]
  hon k t kp hk hkp := by
    have hkp : keptOf (Lard.setKept s.has key o) k = some kp := hkp
    rw [keptOf_setKept] at hkp
    split at hkp
    · rename_i h1
      subst h1
      cases hl : look s.has key with
      | none => rw [hl] at hkp; cases hkp
      | some th => rw [hl] at hkp; exact ho kp hkp t hk
    · exact h.hon k t kp hk hkp
  only k kp hkp := by
    have hkp : keptOf (Lard.setKept s.has key o) k = some kp := hkp
    rw [keptOf_setKept] at hkp
    split at hkp
    · rename_i h1
      subst h1
      exact hr
    · exact h.only k kp hkp
  fine k kp hkp := by
    have hkp : keptOf (Lard.setKept s.has key o) k = some kp := hkp
    rw [keptOf_setKept] at hkp
    split at hkp
    · rename_i h1
      subst h1
      cases hl : look s.has key with
      | none => rw [hl] at hkp; cases hkp
      | some th => rw [hl] at hkp; exact hf kp hkp
    · exact h.fine k kp hkp
  ring := h.ring
  rr := h.rr
theorem ran_ok (he : EF e) {Br : By → LS → Wo × LS} {s s2 : LS} {key : By} {t : T} {y : Why} {new1 : List Why} (hB : Brings e Br (s.begun ++ [key])) (hl : Lnk (Nxt e) (s.begun ++ [key])) (ht : e key = some (.inr t)) (hd : look s.done key = none) (hkb : key ∉ s.begun)
    (h1 : On e { s with begun := s.begun ++ [key] } s2 new1) (hy : y.key = key) (hwhy : WhyOk e y) (hnu : ∀ h, keptOf h key = keptOf s.has key → ¬ Utd e h key) (hnew1 : ∀ u, W e key u → ∀ z ∈ new1, Utd e s2.has z.key) :
    ∃ new, Mid e s key (runL Br key t y s2).1 (runL Br key t y s2).2 new := by
  unfold runL
  have hsz : ∀ z ∈ new1, z.key ≠ key := fun z hz hk => (h1.old z hz).2.1 (by rw [hk]; simp)
  obtain ⟨new2, hon, hcase⟩ := run_ok he hB hl (prog t) { s2 with ran := s2.ran ++ [y] } [] (h1.inv.ranBy _) h1.begun (Res.start ht) (fin_prog t) (fun _ h => by simp at h)
  generalize (prog t).run (needL Br) ({ s2 with ran := s2.ran ++ [y] }, []) = q at hon hcase ⊢
  obtain ⟨r, s4, ns⟩ := q
  simp only at hon hcase
  have hs4z : ∀ z ∈ new2, z.key ≠ key := fun z hz hk => (hon.old z hz).2.1 (by show z.key ∈ s2.begun; rw [h1.begun, hk]; simp)
  have hlook : look s4.has key = look s.has key := (hon.chg key hs4z).trans (h1.chg key hsz)
  have hk4 : keptOf s4.has key = keptOf s.has key := by unfold keptOf; rw [hlook]
  have hnu4 : ¬ Utd e s4.has key := hnu _ hk4
  have hset : ∀ (o : Option Keep) (k : By), k ≠ key → look (setKept s4.has key o) k = look s4.has k := fun o k hk => by rw [look_setKept, if_neg (fun e => hk e.symm)]
  have build : ∀ (s5 : LS), (∀ k, k ≠ key → look s5.has k = look s4.has k) → s5.done = s4.done → s5.begun = s4.begun → s5.ring = s4.ring → s5.ran = s4.ran → Inv e s5 → Is e key r → (r = .error 12 → s5.ring ≠ []) → (r ≠ .error 12 → Utd e s5.has key ∧ (∀ z ∈ new2, Utd e s4.has z.key)) → Mid e s key r s5 (new1 ++ [y] ++ new2) := by
    intro s5 hsame hdone hbegun hring5 hran hinv his h12 hu
    have hup : ∀ k, Utd e s4.has k → Utd e s5.has k := fun k hk => utd_same (fun k hu => by
      unfold keptOf; rw [hsame k (fun (h0 : k = key) => hnu4 (h0 ▸ hu))]) hk
    exact {
      inv := hinv
      begun := by rw [hbegun]; exact hon.begun.trans h1.begun
      done := fun k w hk => by rw [hdone]; exact hon.done k w (h1.done k w hk)
      ring := fun hr => by
        rw [hring5]
        have := h1.ring hr
        exact (hon.ring (by show s2.ring ≠ []; rw [this]; exact hr)).trans this
      ran := by
        rw [hran, hon.ran]
        show s2.ran ++ [y] ++ new2 = _
        rw [h1.ran]
        simp
      why := fun z hz => by
        rcases List.mem_append.1 hz with hz | hz
        · rcases List.mem_append.1 hz with hz | hz
          · exact h1.why z hz
          · rw [List.mem_singleton.1 hz]; exact hwhy
        · exact hon.why z hz
      old := fun z hz => by
        rcases List.mem_append.1 hz with hz | hz
        · rcases List.mem_append.1 hz with hz | hz
          · obtain ⟨g1, g2, g3, w, g4⟩ := h1.old z hz
            exact ⟨g1, fun h => g2 (List.mem_append_left _ h), g3, .inr ⟨w, by rw [hdone]; exact hon.done _ _ g4⟩⟩
          · rw [List.mem_singleton.1 hz, hy]
            exact ⟨hd, hkb, hnu _ rfl, .inl rfl⟩
        · obtain ⟨g1, g2, g3, g4⟩ := hon.old z hz
          refine ⟨?_, fun h => g2 (by show z.key ∈ s2.begun; rw [h1.begun]; exact List.mem_append_left _ h), fun hu => g3 (h1.utd hu), .inr (by rw [hdone]; exact g4)⟩
          cases hdz : look s.done z.key with
          | none => rfl
          | some w => rw [show look s2.done z.key = some w from h1.done _ _ hdz] at g1; cases g1
      nodup := by
        rw [List.map_append, List.map_append, List.nodup_append, List.nodup_append]
        refine ⟨⟨h1.nodup, by simp, ?_⟩, hon.nodup, ?_⟩
        · intro a ha b hb hab
          obtain ⟨z, hz, rfl⟩ := List.mem_map.1 ha
          simp at hb
          exact hsz z hz (hab.trans (hb.trans hy))
        · intro a ha b hb hab
          obtain ⟨x, hx, rfl⟩ := List.mem_map.1 hb
          rcases List.mem_append.1 ha with ha | ha
          · obtain ⟨z, hz, rfl⟩ := List.mem_map.1 ha
            obtain ⟨_, _, _, w, hw⟩ := h1.old z hz
            have := (hon.old x hx).1
            rw [show look s2.done x.key = some w by rw [← hab]; exact hw] at this
            cases this
          · simp at ha
            exact hs4z x hx (hab.symm.trans (ha.trans hy))
      chg := fun k hk => by
        have hkk : k ≠ key := fun h => hk y (by simp) (hy.trans h.symm)
        rw [hsame k hkk]
        exact (hon.chg k (fun z hz => hk z (by simp [hz]))).trans (h1.chg k (fun z hz => hk z (by simp [hz])))
      quiet := fun h => by simp at h
      is := his
      r12 := h12
      utd := fun h12 => by
        obtain ⟨g1, g2⟩ := hu h12
        refine ⟨g1, fun z hz => ?_⟩
        rcases List.mem_append.1 hz with hz | hz
        · rcases List.mem_append.1 hz with hz | hz
          · exact hup _ (hon.utd (hnew1 r (his.w h12) z hz))
          · rw [List.mem_singleton.1 hz, hy]; exact g1
        · exact hup _ (g2 z hz)
      q := fun hu => (hnu _ rfl hu).elim }
  rcases hcase with ⟨rfl, hring, hno⟩ | ⟨hr, hW, hH, hns, hnew2⟩
  · have h12 : isRound (.error 12 : Wo) = true := rfl
    simp only [ranL, h12, if_true]
    by_cases hk : (keptOf s4.has key).isSome = true
    · rw [if_pos hk]
      refine ⟨_, build _ (fun k hk => hset none k hk) rfl rfl rfl rfl ?_ (.inr ⟨rfl, hno⟩) (fun _ => hring) (fun h => (h rfl).elim)⟩
      exact hon.inv.setKept hnu4 (fun _ h => by cases h) ⟨t, ht⟩ (fun _ h => by cases h)
    · rw [if_neg hk]
      refine ⟨_, build s4 (fun _ _ => rfl) rfl rfl rfl rfl hon.inv (.inr ⟨rfl, hno⟩) (fun _ => hring) (fun h => (h rfl).elim)⟩
  · have h12 : isRound r = false := by
      cases r with
      | ok v => rfl
      | error c => exact beq_eq_false_iff_ne.2 (fun h => hr (by rw [h]))
    simp only [ranL, h12]
    refine ⟨_, build _ (fun k hk => hset (some ⟨r, ns⟩) k hk) rfl rfl rfl rfl ?_ (.inl hW) (fun h => (hr h).elim) (fun _ => ⟨?_, hnew2⟩)⟩
    · refine hon.inv.setKept hnu4 (fun kp h t' ht' => ?_) ⟨t, ht⟩ (fun kp h => ?_)
      · cases h; rw [ht] at ht'; cases ht'; exact hH
      · cases h; exact fun q hq => (hns q hq).2.2
    · have hth : ∃ th, look s4.has key = some th := by
        cases hl4 : look s4.has key with
        | some th => exact ⟨th, rfl⟩
        | none =>
          have := congrFun hon.inv.src key
          unfold srcOf at this
          rw [show look s4.has key = none from hl4, ht] at this
          cases this
      obtain ⟨th, hth⟩ := hth
      refine utd_rule ht (kp := ⟨r, ns⟩) ?_ (fun q hq => ⟨(hns q hq).1, ?_⟩)
      · show keptOf (setKept s4.has key _) key = _
        rw [keptOf_setKept, if_pos rfl, hth]; rfl
      · refine utd_same (fun k hu => ?_) (hns q hq).2.1
        show keptOf (setKept s4.has key _) k = _
        rw [keptOf_setKept, if_neg (fun (h0 : key = k) => hnu4 (h0 ▸ hu))]
theorem bring_ok (he : EF e) {K : List By} (hK : ∀ k t, e k = some (.inr t) → k ∈ K) : ∀ (n : Nat) (key : By) (s : LS), Inv e s → Lnk (Nxt e) (s.begun ++ [key]) → Fuel K s.begun n → BP e key s (bring n key s)
  | 0, _, _, _, _, h => by unfold Fuel at h; omega
  | n + 1, key, s, hi, hl, hf => by
    show BP e key s (bringW (workL (bring n)) key s)
    unfold bringW
    cases hd : look s.done key with
    | some w =>
      simp only
      exact ⟨[], On.refl hi, hi.done key w hd, fun h => hi.rr key (h ▸ hd), fun h => ⟨hi.utd key w hd h, fun _ h => by simp at h⟩, fun _ => rfl, .inr hd⟩
    | none =>
      simp only
      by_cases hb : s.begun.contains key = true
      · rw [if_pos hb]
        have hmem : key ∈ s.begun := by simpa using hb
        obtain ⟨h1, h2⟩ := ring_met hl hmem
        have hne : (s.meet key).ring ≠ [] := by
          unfold LS.meet
          split
          · obtain ⟨k, r, h3, _⟩ := h1; show fromKey s.begun key ≠ []; rw [h3]; simp
          · assumption
        refine ⟨[], ?_, .inr ⟨rfl, h2⟩, fun _ => hne, fun h => (h rfl).elim, fun _ => rfl, .inl hmem⟩
        unfold LS.meet
        split
        · rename_i h3
          exact { inv := ⟨hi.src, hi.done, hi.utd, hi.hon, hi.only, hi.fine, fun _ => h1, fun k hk => (hi.rr k hk h3).elim⟩, begun := rfl, done := fun _ _ h => h, ring := fun h => (h h3).elim, ran := by simp, why := fun _ h => by simp at h, old := fun _ h => by simp at h, nodup := by simp, chg := fun _ _ => rfl, quiet := fun _ => ⟨rfl, rfl⟩ }
        · exact On.refl hi
      · rw [if_neg hb]
        have hkb : key ∉ s.begun := by simpa using hb
        suffices h : ∃ new, Mid e s key (workL (bring n) key { s with begun := s.begun ++ [key] }).1 (workL (bring n) key { s with begun := s.begun ++ [key] }).2 new by
          obtain ⟨new, h⟩ := h
          exact h.finish hd
        have hi1 : Inv e { s with begun := s.begun ++ [key] } := hi.begunBy _
        unfold workL
        cases hlk : look s.has key with
        | none =>
          have hek : e key = none := by rw [← hi.src]; unfold srcOf; rw [hlk]; rfl
          have hnr : ∀ t, e key ≠ some (.inr t) := fun t h => by rw [hek] at h; cases h
          exact ⟨[], mid_on (On.refl hi1) (.inl ⟨0, .inl ⟨hek, rfl⟩⟩) (fun h => by cases h) (fun _ => ⟨utd_none hnr, fun _ h => by simp at h⟩) (fun _ => rfl)⟩
        | some th =>
          have hsrc := look_src hlk
          rw [hi.src] at hsrc
          cases htr : th.tree with
          | none =>
            rw [htr] at hsrc
            have hnr : ∀ t, e key ≠ some (.inr t) := fun t h => by rw [hsrc] at h; cases h
            simp only [htr]
            exact ⟨[], mid_on (On.refl hi1) (.inl ⟨0, .inr ⟨th.value, hsrc, rfl⟩⟩) (fun h => by cases h) (fun _ => ⟨utd_none hnr, fun _ h => by simp at h⟩) (fun _ => rfl)⟩
          | some t =>
            rw [htr] at hsrc
            simp only [htr]
            have hB : Brings e (bring n) (s.begun ++ [key]) := fun k s' hi' hb' hl' => bring_ok he hK n k s' hi' (hb' ▸ hl') (hb' ▸ fuel_next hf (hK key t hsrc) hkb)
            have hko : keptOf s.has key = th.kept := by unfold keptOf; rw [hlk]; rfl
            cases hkp : th.kept with
            | none =>
              rw [hkp] at hko
              have hnu : ∀ h, keptOf h key = keptOf s.has key → ¬ Utd e h key := by
                intro h hh hu
                obtain ⟨kp, h1, _⟩ := hu.rule hsrc
                rw [hh, hko] at h1
                cases h1
              exact ran_ok he hB hl hsrc hd hkb (On.refl hi1) rfl (.inl ⟨rfl, rfl, rfl⟩) hnu (fun _ _ _ h => by simp at h)
            | some kp =>
              rw [hkp] at hko
              have hhon := hi.hon key t kp hsrc hko
              have hfin := hi.fine key kp hko
              obtain ⟨new, hon, hnew, hq, hcase⟩ := due_ok hB hl hsrc hhon hfin kp.needs [] { s with begun := s.begun ++ [key] } rfl hi1 rfl (fun _ h => by simp at h)
              have hdue : ruleL (bring n) key t (some kp) { s with begun := s.begun ++ [key] } = match dueL (bring n) key kp.needs { s with begun := s.begun ++ [key] } with | (.none, s) => (kp.worth, s) | (.some y, s) => runL (bring n) key t y s := rfl
              rw [hdue]
              have hq' : Utd e s.has key → (dueL (bring n) key kp.needs { s with begun := s.begun ++ [key] }).1 = none ∧ new = [] := fun hu => by
                obtain ⟨kp', h1, h2⟩ := hu.rule hsrc
                rw [hko] at h1
                cases h1
                exact hq h2
              clear hq
              generalize dueL (bring n) key kp.needs { s with begun := s.begun ++ [key] } = q at hon hnew hq' hcase ⊢
              obtain ⟨o, s2⟩ := q
              simp only at hon hnew hq' hcase
              rcases hcase with ⟨rfl, hall⟩ | ⟨y, rfl, hyk, his, hsame, hin⟩
              · have hW : W e key kp.worth := W.rule hsrc (hhon.all (fun q hq => (hall q hq).1))
                have hk2 : keptOf s2.has key = some kp := by
                  have : look s2.has key = look s.has key := hon.chg key (fun z hz h => (hon.old z hz).2.1 (by rw [h]; simp))
                  unfold keptOf at hko ⊢; rw [this, hko]
                exact ⟨new, mid_on hon (.inl hW) (fun h => (hhon.not12 h).elim) (fun _ => ⟨utd_rule hsrc hk2 hall, hnew _ hW⟩) (fun hu => (hq' hu).2)⟩
              · have hnu : ∀ h, keptOf h key = keptOf s.has key → ¬ Utd e h key := by
                  intro h hh hu
                  obtain ⟨kp', h1, h2⟩ := hu.rule hsrc
                  rw [hh, hko] at h1
                  cases h1
                  have h3 := (h2 _ hin).1
                  have h4 : y.now = y.was := his.det (.inl h3)
                  rw [h4] at hsame
                  have := hfin _ hin
                  unfold Fine at this
                  rw [this] at hsame
                  cases hsame
                exact ran_ok he hB hl hsrc hd hkb hon hyk (.inr ⟨his, hsame⟩) hnu hnew
end Lard
end Go.Proofs.YtpekpdimdelncaaGreatDoor
namespace Go.Proofs.YtpekpdimdelncaaGreatDoor
namespace Lard
set_option linter.unusedVariables false
theorem zip_self_all {α : Type} (p : α × α → Bool) : ∀ (l : List α), ((l.zip l).all p) = l.all fun x => p (x, x)
  | [] => rfl
  | a :: l => by simp only [List.zip_cons_cons, List.all_cons, zip_self_all p l]
theorem same_self : ∀ (n : Nat) (v : V), same n v v = lev n v
  | n, ⟨.inl i⟩ => by unfold same lev; simp
  | n, ⟨.inr (.inl b)⟩ => by unfold same lev; simp
  | 0, ⟨.inr (.inr l)⟩ => by unfold same lev; rfl
  | n + 1, ⟨.inr (.inr l)⟩ => by
    unfold same lev
    simp only [beq_self_eq_true, Bool.true_and]
    rw [zip_self_all]
    congr 1
    funext x
    exact same_self n x
theorem lev_up : ∀ (n : Nat) (v : V), lev n v = true → lev (n + 1) v = true
  | n, ⟨.inl i⟩, h => by unfold lev; rfl
  | n, ⟨.inr (.inl b)⟩, h => by unfold lev; rfl
  | 0, ⟨.inr (.inr l)⟩, h => by unfold lev at h; cases h
  | n + 1, ⟨.inr (.inr l)⟩, h => by
    unfold lev at h ⊢
    simp only [List.all_eq_true] at h ⊢
    exact fun x hx => lev_up n x (h x hx)
def L3 (v : V) : Prop := lev 3 v = true
theorem fine_ok {v : V} (h : L3 v) : Fine (.ok v) := by
  show same 3 v v = true
  rw [same_self]
  exact h
theorem fine_l3 {w : Wo} (h : Fine w) : ∀ v, w = .ok v → L3 v := by
  intro v hv
  subst hv
  have h : same 3 v v = true := h
  rw [same_self] at h
  exact h
theorem fine_error (c : Nat) : Fine (.error c) := by simp [Fine, sameO]
theorem l3_n (i : Int) : L3 (vn i) := rfl
theorem l3_w (b : By) : L3 (vw b) := rfl
theorem l3_l {l : List V} (h : ∀ x ∈ l, lev 2 x = true) : L3 (vl l) := by
  unfold L3 vl lev
  exact List.all_eq_true.2 h
theorem l3_in {l : List V} (h : L3 (vl l)) : ∀ x ∈ l, lev 2 x = true := by
  unfold L3 vl lev at h
  exact List.all_eq_true.1 h
def PP {α : Type} (A : α → Prop) : Pe α → Prop
  | ⟨.inl q⟩ => ∀ v, q.1 = .ok v → A v
  | ⟨.inr (_, c)⟩ => ∀ w, (∀ v, w = .ok v → L3 v) → PP A (c w)
theorem pp_ret {α : Type} {A : α → Prop} {r : Except Nat α} {f : Nat} (h : ∀ v, r = .ok v → A v) : PP A (.ret (r, f)) := h
theorem pp_then {α β : Type} {A : α → Prop} {B : β → Prop} : ∀ (p : Pe α) (k : α → Nat → Pe β), PP A p → (∀ v f, A v → PP B (k v f)) → PP B (thenP p k)
  | ⟨.inl (.ok a, f)⟩, k, h, hk => hk a f (h a rfl)
  | ⟨.inl (.error e, f)⟩, k, h, hk => fun v hv => by cases hv
  | ⟨.inr (q, c)⟩, k, h, hk => fun w hw => pp_then (c w) k (h w hw) hk
theorem pp_try {A : V → Prop} : ∀ (p : Pe V) (k : Nat → Pe V), PP A p → (∀ f, PP A (k f)) → PP A (tryP p k)
  | ⟨.inl (.ok a, f)⟩, k, h, hk => h
  | ⟨.inl (.error e, f)⟩, k, h, hk => by
    unfold tryP
    simp only [Pg.bind]
    by_cases he : e = 7 ∨ e = 8 ∨ e = 9 ∨ e = 10
    · rw [if_pos he]; exact hk f
    · rw [if_neg he]; exact h
  | ⟨.inr (q, c)⟩, k, h, hk => fun w hw => pp_try (c w) k (h w hw) hk
theorem l3_listOf {l : List V} {v : V} (h : listOf l = .ok v) : L3 v := by
  unfold listOf at h
  split at h
  · cases h
  · rename_i hn
    cases h
    refine l3_l (fun x hx => ?_)
    have h2 : l.all (lev 2) = true := by
      cases hb : l.all (lev 2) with
      | true => rfl
      | false => exact (hn (.inr hb)).elim
    exact List.all_eq_true.1 h2 x hx
theorem pp_seq {α : Type} (P : α → Nat → Pe V) : ∀ (l : List α) (acc : List V) (f : Nat), (∀ a ∈ l, ∀ f, PP L3 (P a f)) → PP L3 (seqP P l acc f)
  | [], acc, f, _ => fun v hv => l3_listOf hv
  | a :: r, acc, f, hP => pp_then _ _ (hP a List.mem_cons_self f) fun v f _ => pp_seq P r _ f (fun a ha => hP a (List.mem_cons_of_mem _ ha))
theorem pp_some (P : V → Nat → Pe V) : ∀ (l : List V) (acc : List V) (f : Nat), (∀ a ∈ l, ∀ f, PP L3 (P a f)) → PP L3 (someP P l acc f)
  | [], acc, f, _ => fun v hv => l3_listOf hv
  | a :: r, acc, f, hP => pp_then _ _ (hP a List.mem_cons_self f) fun v f _ => by
    cases h : numIn v with
    | ok i =>
      show PP L3 (if i = 0 then _ else _)
      by_cases h0 : i = 0
      · rw [if_pos h0]; exact pp_some P r _ f (fun a ha => hP a (List.mem_cons_of_mem _ ha))
      · rw [if_neg h0]; exact pp_some P r _ f (fun a ha => hP a (List.mem_cons_of_mem _ ha))
    | error e => exact fun v hv => by cases hv
theorem pp_need (k : By) (f : Nat) : PP L3 (needP k f) := fun w hw v hv => hw v hv
theorem l3_nums {x y v : V} {g : Int → Int → Except Nat V} (hg : ∀ i j u, g i j = .ok u → L3 u) (h : nums x y g = .ok v) : L3 v := by
  unfold nums at h
  split at h
  · exact hg _ _ _ h
  · cases h
theorem l3_make {op : Nat} {x y v : V} (hx : L3 x) (h : make op x y = .ok v) : L3 v := by
  unfold make at h
  split at h
  · unfold plus at h
    split at h
    · cases h; exact l3_n _
    · split at h
      · cases h
      · cases h; exact l3_w _
    · exact l3_listOf h
    · cases h
  · split at h
    · exact l3_nums (fun _ _ _ h => by cases h; exact l3_n _) h
    · split at h
      · exact l3_nums (fun _ _ _ h => by cases h; exact l3_n _) h
      · split at h
        · refine l3_nums (fun _ _ _ h => ?_) h
          split at h
          · cases h
          · cases h; exact l3_n _
        · split at h
          · unfold less at h
            split at h
            · cases h; exact l3_n _
            · cases h; exact l3_n _
            · cases h
          · split at h
            · cases h; exact l3_n _
            · split at h
              · exact l3_nums (fun _ _ _ h => by cases h; exact l3_n _) h
              · split at h
                · exact l3_nums (fun _ _ _ h => by cases h; exact l3_n _) h
                · unfold atPlace at h
                  split at h
                  · split at h
                    · split at h
                      · cases h; exact l3_w _
                      · cases h
                    · rename_i l hl
                      split at h
                      · rename_i k hk
                        cases h
                        have hx' : x = vl l := by cases x; simp only at hl; rw [hl]; rfl
                        rw [hx'] at hx
                        cases hg : l[k]? with
                        | none => exact l3_n 0
                        | some u => exact lev_up 2 u (l3_in hx u (List.mem_of_getElem? hg))
                      · cases h
                    · cases h
                  · cases h
theorem l3_size {x v : V} (h : size x = .ok v) : L3 v := by
  unfold size at h
  split at h
  · cases h
  · cases h; exact l3_n _
  · cases h; exact l3_n _
theorem l3_sumFrom : ∀ (l : List V) (a : Int) (v : V), sumFrom a l = .ok v → L3 v
  | [], a, v, h => by cases h; exact l3_n _
  | u :: r, a, v, h => by
    unfold sumFrom at h
    split at h
    · exact l3_sumFrom r _ v h
    · cases h
theorem l3_sumUp {x v : V} (h : sumUp x = .ok v) : L3 v := by
  unfold sumUp at h
  split at h
  · exact l3_sumFrom _ _ _ h
  · cases h
theorem l3_asWord {x v : V} (h : asWord x = .ok v) : L3 v := by
  unfold asWord at h
  split at h
  · cases h; exact l3_w _
  · cases h; exact l3_w _
  · cases h
theorem l3_listIn {v : V} {l : List V} (hv : L3 v) (h : listIn v = .ok l) : ∀ x ∈ l, L3 x := by
  unfold listIn at h
  split at h
  · rename_i l' hl
    cases h
    have : v = vl l := by cases v; simp only at hl; rw [hl]; rfl
    rw [this] at hv
    exact fun x hx => lev_up 2 x (l3_in hv x hx)
  · cases h
theorem pp_first (P : T → Nat → Pe V) (t : T) (f : Nat) (hP : ∀ i f, PP L3 (P (t.part i) f)) : PP L3 (firstP P t f) := by
  unfold firstP
  refine pp_then _ _ (hP 0 f) fun v f hv => ?_
  split
  · exact pp_then _ _ (hP 1 f) fun u f hu => pp_ret fun r hr => l3_make hv hr
  · split
    · exact pp_ret fun r hr => l3_make (l3_n 0) hr
    · split
      · split
        · exact pp_need _ _
        · exact pp_ret fun r hr => by cases hr
      · split
        · split
          · split
            · exact hP 2 f
            · exact hP 1 f
          · exact pp_ret fun r hr => by cases hr
        · split
          · exact pp_ret fun r hr => l3_size hr
          · split
            · exact pp_ret fun r hr => l3_sumUp hr
            · split
              · exact pp_ret fun r hr => l3_asWord hr
              · exact pp_ret fun r hr => by cases hr; exact hv
def lit : Nat → T → Bool
  | 0, _ => true
  | n + 1, t => (match t.is with | some v => lev 3 v | .none => true) && t.parts.all (lit n)
theorem lit_part {n : Nat} {t : T} (h : lit (n + 1) t = true) (i : Nat) : lit n (t.part i) = true := by
  unfold lit at h
  simp only [Bool.and_eq_true] at h
  unfold T.part
  cases hg : t.parts[i]? with
  | none =>
    simp only [Option.getD_none]
    cases n <;> simp [lit, T.none]
  | some u => exact List.all_eq_true.1 h.2 u (List.mem_of_getElem? hg)
theorem pp_tr : ∀ (n : Nat) (t : T) (it : Option V) (f : Nat), lit n t = true → (∀ v, it = some v → L3 v) → PP L3 (tr n t it f)
  | 0, t, it, f, _, _ => fun v hv => by cases hv
  | n + 1, t, it, f, h, hit => by
    have hp : ∀ i f, PP L3 (tr n (t.part i) it f) := fun i f => pp_tr n _ it f (lit_part h i) hit
    have hp2 : ∀ i u f, L3 u → PP L3 (tr n (t.part i) (some u) f) := fun i u f hu => pp_tr n _ _ f (lit_part h i) (fun v hv => by cases hv; exact hu)
    unfold tr
    split
    · exact pp_first _ t f hp
    · split
      · exact pp_ret fun r hr => by cases hr
      · split
        · refine pp_ret fun r hr => ?_
          unfold lit at h
          simp only [Bool.and_eq_true] at h
          cases hi : t.is with
          | none => rw [hi] at hr; cases hr
          | some v =>
            rw [hi] at hr h
            cases hr
            exact h.1
        · split
          · exact pp_need _ _
          · split
            · refine pp_ret fun r hr => ?_
              cases it with
              | none => cases hr
              | some v => cases hr; exact hit _ rfl
            · split
              · exact pp_try _ _ (hp 0 _) (fun f => hp 1 f)
              · split
                · refine pp_then _ _ (hp 0 _) fun v f hv => ?_
                  cases hl : listIn v with
                  | ok l => exact pp_seq _ l [] f (fun a ha f => hp2 1 a f (l3_listIn hv hl a ha))
                  | error e => exact pp_ret fun r hr => by cases hr
                · split
                  · refine pp_then _ _ (hp 0 _) fun v f hv => ?_
                    cases hl : listIn v with
                    | ok l => exact pp_some _ l [] f (fun a ha f => hp2 1 a f (l3_listIn hv hl a ha))
                    | error e => exact pp_ret fun r hr => by cases hr
                  · split
                    · refine pp_seq _ _ _ _ (fun a ha f => pp_tr n a it f ?_ hit)
                      unfold lit at h
                      simp only [Bool.and_eq_true] at h
                      exact List.all_eq_true.1 h.2 a ha
                    · exact pp_first _ t _ hp
theorem clo_worth : ∀ (p : Pe V), PP L3 p → Clo p.worth
  | ⟨.inl (.ok v, f)⟩, h => fine_ok (h v rfl)
  | ⟨.inl (.error c, f)⟩, h => fine_error c
  | ⟨.inr (k, c)⟩, h => fun w hw => clo_worth (c w) (h w (fine_l3 hw))
theorem clo_prog {t : T} (h : lit (hM t) t = true) : Clo (prog t) := clo_worth _ (pp_tr _ t none 400 h (fun _ hv => by cases hv))
/-! The trees that a reader makes. -/
def LA (t : T) : Prop := ∀ n, lit n t = true
theorem la_make {t : T} (h1 : (match t.is with | some v => lev 3 v | .none => true) = true) (h2 : ∀ u ∈ t.parts, LA u) : LA t := fun n => by
  cases n with
  | zero => rfl
  | succ n =>
    unfold lit
    rw [Bool.and_eq_true]
    exact ⟨h1, List.all_eq_true.2 (fun u hu => h2 u hu n)⟩
theorem isOf_fine (l : By) : (match isOf l with | some v => lev 3 v | .none => true) = true := by
  unfold isOf
  split <;> rename_i h
  · split at h <;> first | (cases h; rfl) | cases h
  · rfl
theorem la_node (l : By) (k i : Nat) (ts : List T) (h : ∀ u ∈ ts, LA u) : LA (nodeT l k i ts) := la_make (isOf_fine _) h
theorem la_oper (l : By) (i : Nat) (ts us : List T) (h : ∀ u ∈ ts, LA u) (h' : ∀ u ∈ us, LA u) : LA (operT l i ts us) := la_make rfl (fun u hu => by
  rcases List.mem_append.1 hu with hu | hu
  · exact h u hu
  · exact h' u hu)
def RTA (r : RT) : Prop := ∀ j ts, r = .ok (j, ts) → ∀ u ∈ ts, LA u
theorem rta_ok {j : Nat} {ts : List T} (h : ∀ u ∈ ts, LA u) : RTA (.ok (j, ts)) := fun _ _ e => by cases e; exact h
theorem rta_err {e : Nat × Nat} : RTA (.error e) := fun _ _ h => by cases h
theorem rta_then {r : RT} {f : Nat → List T → RT} (h : RTA r) (hf : ∀ j ts, (∀ u ∈ ts, LA u) → RTA (f j ts)) : RTA (thenT r f) := by
  rcases r with e | ⟨j, ts⟩
  · exact rta_err
  · exact hf j ts (h j ts rfl)
theorem rta_exp (l t : By) (i : Nat) (ts : List T) (h : ∀ u ∈ ts, LA u) : RTA (expT l t i ts) := by
  unfold expT
  split
  · exact rta_ok h
  · exact rta_err
theorem mem_app {α : Type} {P : α → Prop} {a b : List α} (h : ∀ u ∈ a, P u) (h' : ∀ u ∈ b, P u) : ∀ u ∈ a ++ b, P u := fun u hu => by
  rcases List.mem_append.1 hu with hu | hu
  · exact h u hu
  · exact h' u hu
theorem no_mem {α : Type} {P : α → Prop} : ∀ u ∈ ([] : List α), P u := fun u hu => by cases hu
theorem rta_parts (l : By) (k i : Nat) (R F W : Nat → RT) (I : Nat → List T → RT) (hR : ∀ j, RTA (R j)) (hF : ∀ j, RTA (F j)) (hW : ∀ j, RTA (W j)) (hI : ∀ j ts, (∀ u ∈ ts, LA u) → RTA (I j ts)) : RTA (partsT l k i R F W I) := by
  unfold partsT
  split
  · exact hF i
  split
  · exact rta_then (hR i) (rta_exp l _)
  split
  · exact rta_then (hR i) (rta_exp l _)
  split
  · split
    · exact rta_ok no_mem
    · exact rta_then (hR i) hI
  split
  · exact rta_then (rta_then (hR i) (rta_exp l _)) fun j ts h1 => rta_then (rta_then (hR j) (rta_exp l _)) fun j us h2 => rta_then (hF j) fun j vs h3 => rta_ok (mem_app h1 (mem_app h2 h3))
  split
  · exact rta_then (rta_exp l _ _ _ no_mem) fun j _ _ => rta_then (hR j) (rta_exp l _)
  split
  · exact rta_then (rta_exp l _ _ _ no_mem) fun j _ _ => rta_then (rta_then (hR j) (rta_exp l _)) fun j ts h1 => rta_then (rta_then (hR j) (rta_exp l _)) fun j us h2 => rta_ok (mem_app h1 h2)
  split
  · exact rta_then (rta_exp l _ _ _ no_mem) fun j _ _ => rta_then (rta_then (hR j) (rta_exp l _)) fun j ts h1 => rta_then (rta_then (hW j) (rta_exp l _)) fun j us h2 => rta_ok (mem_app h1 h2)
  · exact rta_ok no_mem
theorem one_mem {α : Type} {P : α → Prop} {a : α} (h : P a) : ∀ u ∈ [a], P u := fun u hu => by rw [List.mem_singleton.1 hu]; exact h
theorem rta_PT (l : By) : ∀ (n tag deep its i : Nat) (acc : List T), (∀ u ∈ acc, LA u) → RTA (PT l n tag deep its i acc) := by
  intro n
  induction n with
  | zero => intros; exact rta_err
  | succ n ih =>
    intro tag deep its i acc hacc
    unfold PT
    split
    · refine rta_then (ih _ _ _ _ _ no_mem) fun j ts h1 => ?_
      split
      · exact rta_then (ih _ _ _ _ _ no_mem) fun k us h2 => rta_ok (one_mem (la_oper l j ts us h1 h2))
      · exact rta_ok h1
    split
    · exact rta_then (ih _ _ _ _ _ no_mem) fun j ts h1 => ih _ _ _ _ _ h1
    split
    · exact rta_then (ih _ _ _ _ _ no_mem) fun j ts h1 => ih _ _ _ _ _ h1
    split
    · split
      · exact rta_err
      split
      · exact rta_err
      · exact rta_then (rta_parts l _ _ _ _ _ _ (fun j => ih _ _ _ _ _ no_mem) (fun j => ih _ _ _ _ _ no_mem) (fun j => ih _ _ _ _ _ no_mem) (fun j ts h => ih _ _ _ _ _ h)) fun j ts h1 => rta_ok (one_mem (la_node l _ _ ts h1))
    split
    · split
      · exact rta_then (ih _ _ _ _ _ no_mem) fun j us h1 => ih _ _ _ _ _ (one_mem (la_oper l i acc us hacc h1))
      · exact rta_ok hacc
    split
    · split
      · exact rta_then (ih _ _ _ _ _ no_mem) fun j us h1 => ih _ _ _ _ _ (one_mem (la_oper l i acc us hacc h1))
      · exact rta_ok hacc
    · split
      · exact rta_then (ih _ _ _ _ _ no_mem) fun j us h1 => ih _ _ _ _ _ (mem_app hacc h1)
      · exact rta_exp l _ _ _ hacc
theorem la_none : LA T.none := la_make rfl (fun u hu => by cases hu)
theorem la_treeOf (l : By) : LA (treeOf l) := by
  unfold treeOf
  cases h : PT l (8 * l.length + 5) 0 0 0 (skip l 0) [] with
  | error e => exact la_none
  | ok q =>
    obtain ⟨j, ts⟩ := q
    have := rta_PT l _ _ _ _ _ [] no_mem j ts h
    cases ts with
    | nil => exact la_none
    | cons t r => exact this t List.mem_cons_self
theorem clo_treeOf (l : By) : Clo (prog (treeOf l)) := clo_prog (la_treeOf l _)
end Lard
end Go.Proofs.YtpekpdimdelncaaGreatDoor
