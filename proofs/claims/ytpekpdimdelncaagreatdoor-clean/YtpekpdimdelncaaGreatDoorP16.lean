/- Out of: U14. -/
import Derived.Test.YtpekpdimdelncaaGreatDoorP12
import Derived.Test.YtpekpdimdelncaaGreatDoorP14
import Derived.Test.YtpekpdimdelncaaGreatDoorP15
namespace Go.Proofs.YtpekpdimdelncaaGreatDoor
open Go.RowKit Go.Shelf
set_option linter.unusedVariables false
theorem okT_node {n : Nat} {b : Bool} {t : Lard.T} (h : Lard.okT (n + 1) b t = true) :
    1 ≤ t.kind ∧ t.kind ≤ 16 ∧ (t.kind = 8 ∨ t.parts.length = Lard.partsOf t.kind) ∧ t.parts.length ≤ 200 ∧ (t.kind = 1 → t.op = 43 ∨ t.op = 45 ∨ t.op = 42 ∨ t.op = 47 ∨ t.op = 60 ∨ t.op = 61) ∧ (t.kind = 13 → t.op = 109 ∨ t.op = 120 ∨ t.op = 64) ∧ (t.kind = 2 → t.is.isSome = true) ∧ (t.kind = 4 → b = true) ∧
    (t.kind = 15 ∨ t.kind = 16 → Lard.okT n b (t.part 0) = true ∧ Lard.okT n true (t.part 1) = true) ∧ (t.kind ≠ 15 → t.kind ≠ 16 → ∀ j, j < t.parts.length → Lard.okT n b (t.part j) = true) := by
  unfold Lard.okT at h
  simp only [Bool.and_eq_true, decide_eq_true_eq, Bool.or_eq_true, beq_iff_eq, bne_iff_ne, ne_eq] at h
  obtain ⟨⟨⟨⟨⟨⟨⟨⟨h1, h2⟩, h3⟩, h4⟩, h5⟩, h6⟩, h7⟩, h8⟩, h9⟩ := h
  refine ⟨h1, h2, h3, h4, fun hk => ?_, fun hk => ?_, fun hk => ?_, fun hk => ?_, fun hk => ?_, fun hk hk' j hj => ?_⟩
  · rcases h5 with h5 | h5
    · exact absurd hk h5
    · simpa using h5
  · rcases h6 with h6 | h6
    · exact absurd hk h6
    · simpa using h6
  · rcases h7 with h7 | h7
    · exact absurd hk h7
    · exact h7
  · rcases h8 with h8 | h8
    · exact absurd hk h8
    · exact h8
  · rw [if_pos hk] at h9
    simpa using h9
  · rw [if_neg (by omega)] at h9
    have hu : t.parts[j]? = some (t.part j) := by
      rw [Lard.T.part, List.getElem?_eq_getElem hj]; rfl
    exact (List.all_eq_true.1 h9) _ (List.mem_of_getElem? hu)
theorem ev_def {σ : Type} (N : List UInt8 → σ → Except Nat Lard.V × σ) (n : Nat) (t : Lard.T) (it : Option Lard.V) (s : Nat × σ) : Lard.ev N (n + 1) t it s =
    (if t.kind = 1 then Lard.firstE N (fun u s => Lard.ev N n u it s) t s
    else if s.1 = 0 then (.error 11, s)
    else if t.kind = 2 then ((match t.is with | some v => .ok v | .none => .error 11), (s.1 - 1, s.2))
    else if t.kind = 3 then Lard.needE N t.name (s.1 - 1, s.2)
    else if t.kind = 4 then ((match it with | some v => .ok v | .none => .error 11), (s.1 - 1, s.2))
    else if t.kind = 14 then
      (match Lard.ev N n (t.part 0) it (s.1 - 1, s.2) with
      | (.ok v, s) => (.ok v, s)
      | (.error e, s) => if e = 7 ∨ e = 8 ∨ e = 9 ∨ e = 10 then Lard.ev N n (t.part 1) it s else (.error e, s))
    else if t.kind = 15 then Lard.thenR (Lard.ev N n (t.part 0) it (s.1 - 1, s.2)) fun v s =>
      (match Lard.listIn v with
      | .ok l => Lard.seqE (fun u s => Lard.ev N n (t.part 1) (some u) s) l [] s
      | .error e => (.error e, s))
    else if t.kind = 16 then Lard.thenR (Lard.ev N n (t.part 0) it (s.1 - 1, s.2)) fun v s =>
      (match Lard.listIn v with
      | .ok l => Lard.someE (fun u s => Lard.ev N n (t.part 1) (some u) s) l [] s
      | .error e => (.error e, s))
    else if t.kind = 8 then Lard.seqE (fun u s => Lard.ev N n u it s) t.parts [] (s.1 - 1, s.2)
    else Lard.firstE N (fun u s => Lard.ev N n u it s) t (s.1 - 1, s.2)) := rfl
def workKinds : Nat := 16
set_option maxRecDepth 100000 in
set_option maxHeartbeats 2000000 in
theorem work_5 (E : Env) (ok : EnvOK E) (n : Nat) (ih : WorkSays E n) (t : Lard.T) (it : Option Lard.V) (x xi : Value) (F : Nat → Prop) (st : Nat × E.σ) (w : World) (hk : t.kind = 5) (hok : Lard.okT (n + 1) it.isSome t = true) (hx : IsTree w (n + 1) t x) (hi : IsOpt w it xi) (h : St E F st w) :
    Calls Tryz.prog 203 #[.pointer (some ⟨E.rb, 0, none⟩), x, xi] w (PW (Ψ E F w (Lard.ev E.N (n + 1) t it st))) := by
  obtain ⟨f, s⟩ := st
  obtain ⟨_, _, hparts, h200, hop1, hop13, his, hit, hth, hpt⟩ := okT_node hok
  obtain ⟨b, i, o, m, c, rfl, nd⟩ := hx.node
  have hform := hi.form
  have NC := hide (fun w' hk' => (nd.cells w' hk'))
  obtain ⟨c0, _, _, _, _⟩ := nd.cells w (Keeps.refl w)
  rw [hk] at c0
  by_cases hz : f = 0
  · have hev : Lard.ev E.N (n + 1) t it (f, s) = (.error 11, (f, s)) := by
      rw [ev_def, hk, if_neg (by decide), if_pos hz]
    rw [hev]
    subst hz
    have HS := hide (spend_none E F s w h)
    have HFIN := hide (show PW (Ψ E F w (.error 11, (0, s))) (broken 11) w from ⟨.error 11, ⟨rfl, F, h, fun k hk => .inl hk, Fm.refl _ _⟩, .inr ⟨11, rfl, rfl, by omega, by omega⟩⟩)
    generalize hrb : E.rb = rb at HS
    clear hrb h hx hi nd
    go_enter Tryz.func203, Tryz.ntmps203
    go_wp2_with fail
    refine HS.out.mono ?_
    rintro e w1 ⟨rfl, rfl⟩
    exact ⟨rfl, HFIN.out⟩
  · have hev : Lard.ev E.N (n + 1) t it (f, s) = Lard.firstE E.N (fun u s => Lard.ev E.N n u it s) t (f - 1, s) := by
      rw [ev_def, hk, if_neg (by decide), if_neg hz]; rfl
    rw [hev]
    have HS := hide (spend_some E ok F f s w h (by omega))
    have HNEXT := hide (fun (w1 : World) (hst : St E F (f - 1, s) w1) (hfm : Fm E.base w w1) => show Calls Tryz.prog 251 #[.pointer (some ⟨E.rb, 0, none⟩), .pointer (some ⟨b, 0, none⟩), xi] w1 (PW (Ψ E F w (Lard.firstE E.N (fun u s => Lard.ev E.N n u it s) t (f - 1, s)))) from (workFirst_minus E ok n ih t it _ xi F (f - 1, s) w1 hk (by rcases hparts with h' | h'; (· omega); (· rw [h', hk]; rfl)) (hpt (by omega) (by omega)) (hx.keeps hfm.keeps) (hi.keeps hfm.keeps) hst).mono (fun e w3 hp => PW.after (fun k hk => .inl hk) hfm hp))
    generalize hrb : E.rb = rb at HS HNEXT
    generalize Lard.firstE E.N (fun u s => Lard.ev E.N n u it s) t (f - 1, s) = fin at HNEXT ⊢
    clear hrb h hx hi nd hev ih
    go_enter Tryz.func203, Tryz.ntmps203
    go_wp2_with fail
    refine HS.out.mono ?_
    rintro e w1 ⟨rfl, hst, hfm, _⟩
    obtain ⟨k0, k1, k2, k3, k4⟩ := NC.out w1 hfm.keeps
    rw [hk] at k0
    have HN := hide (HNEXT.out w1 hst hfm)
    clear HNEXT HS NC
    go_wp2_with fail
    refine HN.out.mono ?_
    rintro e w3 hp
    have hfin := hp
    obtain ⟨r3, _, ⟨v3, y3, _, rfl, hv3⟩ | ⟨c3, _, rfl, _⟩⟩ := hp
    · obtain ⟨t3, a3, rfl⟩ := hv3.one
      have HFIN := hide hfin
      clear hfin hv3 HN
      go_wp2_with fail
      go_ret
      exact HFIN.out
    · exact ⟨rfl, hfin⟩
set_option maxRecDepth 100000 in
set_option maxHeartbeats 2000000 in
theorem work_6 (E : Env) (ok : EnvOK E) (n : Nat) (ih : WorkSays E n) (t : Lard.T) (it : Option Lard.V) (x xi : Value) (F : Nat → Prop) (st : Nat × E.σ) (w : World) (hk : t.kind = 6) (hok : Lard.okT (n + 1) it.isSome t = true) (hx : IsTree w (n + 1) t x) (hi : IsOpt w it xi) (h : St E F st w) :
    Calls Tryz.prog 203 #[.pointer (some ⟨E.rb, 0, none⟩), x, xi] w (PW (Ψ E F w (Lard.ev E.N (n + 1) t it st))) := by
  obtain ⟨f, s⟩ := st
  obtain ⟨_, _, hparts, h200, hop1, hop13, his, hit, hth, hpt⟩ := okT_node hok
  obtain ⟨b, i, o, m, c, rfl, nd⟩ := hx.node
  have hform := hi.form
  have NC := hide (fun w' hk' => (nd.cells w' hk'))
  obtain ⟨c0, _, _, _, _⟩ := nd.cells w (Keeps.refl w)
  rw [hk] at c0
  by_cases hz : f = 0
  · have hev : Lard.ev E.N (n + 1) t it (f, s) = (.error 11, (f, s)) := by
      rw [ev_def, hk, if_neg (by decide), if_pos hz]
    rw [hev]
    subst hz
    have HS := hide (spend_none E F s w h)
    have HFIN := hide (show PW (Ψ E F w (.error 11, (0, s))) (broken 11) w from ⟨.error 11, ⟨rfl, F, h, fun k hk => .inl hk, Fm.refl _ _⟩, .inr ⟨11, rfl, rfl, by omega, by omega⟩⟩)
    generalize hrb : E.rb = rb at HS
    clear hrb h hx hi nd
    go_enter Tryz.func203, Tryz.ntmps203
    go_wp2_with fail
    refine HS.out.mono ?_
    rintro e w1 ⟨rfl, rfl⟩
    exact ⟨rfl, HFIN.out⟩
  · have hev : Lard.ev E.N (n + 1) t it (f, s) = Lard.firstE E.N (fun u s => Lard.ev E.N n u it s) t (f - 1, s) := by
      rw [ev_def, hk, if_neg (by decide), if_neg hz]; rfl
    rw [hev]
    have HS := hide (spend_some E ok F f s w h (by omega))
    have HNEXT := hide (fun (w1 : World) (hst : St E F (f - 1, s) w1) (hfm : Fm E.base w w1) => show Calls Tryz.prog 251 #[.pointer (some ⟨E.rb, 0, none⟩), .pointer (some ⟨b, 0, none⟩), xi] w1 (PW (Ψ E F w (Lard.firstE E.N (fun u s => Lard.ev E.N n u it s) t (f - 1, s)))) from (workFirst_group E ok n ih t it _ xi F (f - 1, s) w1 hk (by rcases hparts with h' | h'; (· omega); (· rw [h', hk]; rfl)) (hpt (by omega) (by omega)) (hx.keeps hfm.keeps) (hi.keeps hfm.keeps) hst).mono (fun e w3 hp => PW.after (fun k hk => .inl hk) hfm hp))
    generalize hrb : E.rb = rb at HS HNEXT
    generalize Lard.firstE E.N (fun u s => Lard.ev E.N n u it s) t (f - 1, s) = fin at HNEXT ⊢
    clear hrb h hx hi nd hev ih
    go_enter Tryz.func203, Tryz.ntmps203
    go_wp2_with fail
    refine HS.out.mono ?_
    rintro e w1 ⟨rfl, hst, hfm, _⟩
    obtain ⟨k0, k1, k2, k3, k4⟩ := NC.out w1 hfm.keeps
    rw [hk] at k0
    have HN := hide (HNEXT.out w1 hst hfm)
    clear HNEXT HS NC
    go_wp2_with fail
    refine HN.out.mono ?_
    rintro e w3 hp
    have hfin := hp
    obtain ⟨r3, _, ⟨v3, y3, _, rfl, hv3⟩ | ⟨c3, _, rfl, _⟩⟩ := hp
    · obtain ⟨t3, a3, rfl⟩ := hv3.one
      have HFIN := hide hfin
      clear hfin hv3 HN
      go_wp2_with fail
      go_ret
      exact HFIN.out
    · exact ⟨rfl, hfin⟩
set_option maxRecDepth 100000 in
set_option maxHeartbeats 2000000 in
theorem work_7 (E : Env) (ok : EnvOK E) (n : Nat) (ih : WorkSays E n) (t : Lard.T) (it : Option Lard.V) (x xi : Value) (F : Nat → Prop) (st : Nat × E.σ) (w : World) (hk : t.kind = 7) (hok : Lard.okT (n + 1) it.isSome t = true) (hx : IsTree w (n + 1) t x) (hi : IsOpt w it xi) (h : St E F st w) :
    Calls Tryz.prog 203 #[.pointer (some ⟨E.rb, 0, none⟩), x, xi] w (PW (Ψ E F w (Lard.ev E.N (n + 1) t it st))) := by
  obtain ⟨f, s⟩ := st
  obtain ⟨_, _, hparts, h200, hop1, hop13, his, hit, hth, hpt⟩ := okT_node hok
  obtain ⟨b, i, o, m, c, rfl, nd⟩ := hx.node
  have hform := hi.form
  have NC := hide (fun w' hk' => (nd.cells w' hk'))
  obtain ⟨c0, _, _, _, _⟩ := nd.cells w (Keeps.refl w)
  rw [hk] at c0
  by_cases hz : f = 0
  · have hev : Lard.ev E.N (n + 1) t it (f, s) = (.error 11, (f, s)) := by
      rw [ev_def, hk, if_neg (by decide), if_pos hz]
    rw [hev]
    subst hz
    have HS := hide (spend_none E F s w h)
    have HFIN := hide (show PW (Ψ E F w (.error 11, (0, s))) (broken 11) w from ⟨.error 11, ⟨rfl, F, h, fun k hk => .inl hk, Fm.refl _ _⟩, .inr ⟨11, rfl, rfl, by omega, by omega⟩⟩)
    generalize hrb : E.rb = rb at HS
    clear hrb h hx hi nd
    go_enter Tryz.func203, Tryz.ntmps203
    go_wp2_with fail
    refine HS.out.mono ?_
    rintro e w1 ⟨rfl, rfl⟩
    exact ⟨rfl, HFIN.out⟩
  · have hev : Lard.ev E.N (n + 1) t it (f, s) = Lard.firstE E.N (fun u s => Lard.ev E.N n u it s) t (f - 1, s) := by
      rw [ev_def, hk, if_neg (by decide), if_neg hz]; rfl
    rw [hev]
    have HS := hide (spend_some E ok F f s w h (by omega))
    have HNEXT := hide (fun (w1 : World) (hst : St E F (f - 1, s) w1) (hfm : Fm E.base w w1) => show Calls Tryz.prog 251 #[.pointer (some ⟨E.rb, 0, none⟩), .pointer (some ⟨b, 0, none⟩), xi] w1 (PW (Ψ E F w (Lard.firstE E.N (fun u s => Lard.ev E.N n u it s) t (f - 1, s)))) from (workFirst_key E ok n ih t it _ xi F (f - 1, s) w1 hk (by rcases hparts with h' | h'; (· omega); (· rw [h', hk]; rfl)) (hpt (by omega) (by omega)) (hx.keeps hfm.keeps) (hi.keeps hfm.keeps) hst (by have : E.cnt s + f ≤ 400 := h.le; show E.cnt s + (f - 1) < 400; omega)).mono (fun e w3 hp => PW.after (fun k hk => .inl hk) hfm hp))
    generalize hrb : E.rb = rb at HS HNEXT
    generalize Lard.firstE E.N (fun u s => Lard.ev E.N n u it s) t (f - 1, s) = fin at HNEXT ⊢
    clear hrb h hx hi nd hev ih
    go_enter Tryz.func203, Tryz.ntmps203
    go_wp2_with fail
    refine HS.out.mono ?_
    rintro e w1 ⟨rfl, hst, hfm, _⟩
    obtain ⟨k0, k1, k2, k3, k4⟩ := NC.out w1 hfm.keeps
    rw [hk] at k0
    have HN := hide (HNEXT.out w1 hst hfm)
    clear HNEXT HS NC
    go_wp2_with fail
    refine HN.out.mono ?_
    rintro e w3 hp
    have hfin := hp
    obtain ⟨r3, _, ⟨v3, y3, _, rfl, hv3⟩ | ⟨c3, _, rfl, _⟩⟩ := hp
    · obtain ⟨t3, a3, rfl⟩ := hv3.one
      have HFIN := hide hfin
      clear hfin hv3 HN
      go_wp2_with fail
      go_ret
      exact HFIN.out
    · exact ⟨rfl, hfin⟩
set_option maxRecDepth 100000 in
set_option maxHeartbeats 2000000 in
theorem work_9 (E : Env) (ok : EnvOK E) (n : Nat) (ih : WorkSays E n) (t : Lard.T) (it : Option Lard.V) (x xi : Value) (F : Nat → Prop) (st : Nat × E.σ) (w : World) (hk : t.kind = 9) (hok : Lard.okT (n + 1) it.isSome t = true) (hx : IsTree w (n + 1) t x) (hi : IsOpt w it xi) (h : St E F st w) :
    Calls Tryz.prog 203 #[.pointer (some ⟨E.rb, 0, none⟩), x, xi] w (PW (Ψ E F w (Lard.ev E.N (n + 1) t it st))) := by
  obtain ⟨f, s⟩ := st
  obtain ⟨_, _, hparts, h200, hop1, hop13, his, hit, hth, hpt⟩ := okT_node hok
  obtain ⟨b, i, o, m, c, rfl, nd⟩ := hx.node
  have hform := hi.form
  have NC := hide (fun w' hk' => (nd.cells w' hk'))
  obtain ⟨c0, _, _, _, _⟩ := nd.cells w (Keeps.refl w)
  rw [hk] at c0
  by_cases hz : f = 0
  · have hev : Lard.ev E.N (n + 1) t it (f, s) = (.error 11, (f, s)) := by
      rw [ev_def, hk, if_neg (by decide), if_pos hz]
    rw [hev]
    subst hz
    have HS := hide (spend_none E F s w h)
    have HFIN := hide (show PW (Ψ E F w (.error 11, (0, s))) (broken 11) w from ⟨.error 11, ⟨rfl, F, h, fun k hk => .inl hk, Fm.refl _ _⟩, .inr ⟨11, rfl, rfl, by omega, by omega⟩⟩)
    generalize hrb : E.rb = rb at HS
    clear hrb h hx hi nd
    go_enter Tryz.func203, Tryz.ntmps203
    go_wp2_with fail
    refine HS.out.mono ?_
    rintro e w1 ⟨rfl, rfl⟩
    exact ⟨rfl, HFIN.out⟩
  · have hev : Lard.ev E.N (n + 1) t it (f, s) = Lard.firstE E.N (fun u s => Lard.ev E.N n u it s) t (f - 1, s) := by
      rw [ev_def, hk, if_neg (by decide), if_neg hz]; rfl
    rw [hev]
    have HS := hide (spend_some E ok F f s w h (by omega))
    have HNEXT := hide (fun (w1 : World) (hst : St E F (f - 1, s) w1) (hfm : Fm E.base w w1) => show Calls Tryz.prog 251 #[.pointer (some ⟨E.rb, 0, none⟩), .pointer (some ⟨b, 0, none⟩), xi] w1 (PW (Ψ E F w (Lard.firstE E.N (fun u s => Lard.ev E.N n u it s) t (f - 1, s)))) from (workFirst_if E ok n ih t it _ xi F (f - 1, s) w1 hk (by rcases hparts with h' | h'; (· omega); (· rw [h', hk]; rfl)) (hpt (by omega) (by omega)) (hx.keeps hfm.keeps) (hi.keeps hfm.keeps) hst).mono (fun e w3 hp => PW.after (fun k hk => .inl hk) hfm hp))
    generalize hrb : E.rb = rb at HS HNEXT
    generalize Lard.firstE E.N (fun u s => Lard.ev E.N n u it s) t (f - 1, s) = fin at HNEXT ⊢
    clear hrb h hx hi nd hev ih
    go_enter Tryz.func203, Tryz.ntmps203
    go_wp2_with fail
    refine HS.out.mono ?_
    rintro e w1 ⟨rfl, hst, hfm, _⟩
    obtain ⟨k0, k1, k2, k3, k4⟩ := NC.out w1 hfm.keeps
    rw [hk] at k0
    have HN := hide (HNEXT.out w1 hst hfm)
    clear HNEXT HS NC
    go_wp2_with fail
    refine HN.out.mono ?_
    rintro e w3 hp
    have hfin := hp
    obtain ⟨r3, _, ⟨v3, y3, _, rfl, hv3⟩ | ⟨c3, _, rfl, _⟩⟩ := hp
    · obtain ⟨t3, a3, rfl⟩ := hv3.one
      have HFIN := hide hfin
      clear hfin hv3 HN
      go_wp2_with fail
      go_ret
      exact HFIN.out
    · exact ⟨rfl, hfin⟩
set_option maxRecDepth 100000 in
set_option maxHeartbeats 2000000 in
theorem work_10 (E : Env) (ok : EnvOK E) (n : Nat) (ih : WorkSays E n) (t : Lard.T) (it : Option Lard.V) (x xi : Value) (F : Nat → Prop) (st : Nat × E.σ) (w : World) (hk : t.kind = 10) (hok : Lard.okT (n + 1) it.isSome t = true) (hx : IsTree w (n + 1) t x) (hi : IsOpt w it xi) (h : St E F st w) :
    Calls Tryz.prog 203 #[.pointer (some ⟨E.rb, 0, none⟩), x, xi] w (PW (Ψ E F w (Lard.ev E.N (n + 1) t it st))) := by
  obtain ⟨f, s⟩ := st
  obtain ⟨_, _, hparts, h200, hop1, hop13, his, hit, hth, hpt⟩ := okT_node hok
  obtain ⟨b, i, o, m, c, rfl, nd⟩ := hx.node
  have hform := hi.form
  have NC := hide (fun w' hk' => (nd.cells w' hk'))
  obtain ⟨c0, _, _, _, _⟩ := nd.cells w (Keeps.refl w)
  rw [hk] at c0
  by_cases hz : f = 0
  · have hev : Lard.ev E.N (n + 1) t it (f, s) = (.error 11, (f, s)) := by
      rw [ev_def, hk, if_neg (by decide), if_pos hz]
    rw [hev]
    subst hz
    have HS := hide (spend_none E F s w h)
    have HFIN := hide (show PW (Ψ E F w (.error 11, (0, s))) (broken 11) w from ⟨.error 11, ⟨rfl, F, h, fun k hk => .inl hk, Fm.refl _ _⟩, .inr ⟨11, rfl, rfl, by omega, by omega⟩⟩)
    generalize hrb : E.rb = rb at HS
    clear hrb h hx hi nd
    go_enter Tryz.func203, Tryz.ntmps203
    go_wp2_with fail
    refine HS.out.mono ?_
    rintro e w1 ⟨rfl, rfl⟩
    exact ⟨rfl, HFIN.out⟩
  · have hev : Lard.ev E.N (n + 1) t it (f, s) = Lard.firstE E.N (fun u s => Lard.ev E.N n u it s) t (f - 1, s) := by
      rw [ev_def, hk, if_neg (by decide), if_neg hz]; rfl
    rw [hev]
    have HS := hide (spend_some E ok F f s w h (by omega))
    have HNEXT := hide (fun (w1 : World) (hst : St E F (f - 1, s) w1) (hfm : Fm E.base w w1) => show Calls Tryz.prog 251 #[.pointer (some ⟨E.rb, 0, none⟩), .pointer (some ⟨b, 0, none⟩), xi] w1 (PW (Ψ E F w (Lard.firstE E.N (fun u s => Lard.ev E.N n u it s) t (f - 1, s)))) from (workFirst_size E ok n ih t it _ xi F (f - 1, s) w1 hk (by rcases hparts with h' | h'; (· omega); (· rw [h', hk]; rfl)) (hpt (by omega) (by omega)) (hx.keeps hfm.keeps) (hi.keeps hfm.keeps) hst).mono (fun e w3 hp => PW.after (fun k hk => .inl hk) hfm hp))
    generalize hrb : E.rb = rb at HS HNEXT
    generalize Lard.firstE E.N (fun u s => Lard.ev E.N n u it s) t (f - 1, s) = fin at HNEXT ⊢
    clear hrb h hx hi nd hev ih
    go_enter Tryz.func203, Tryz.ntmps203
    go_wp2_with fail
    refine HS.out.mono ?_
    rintro e w1 ⟨rfl, hst, hfm, _⟩
    obtain ⟨k0, k1, k2, k3, k4⟩ := NC.out w1 hfm.keeps
    rw [hk] at k0
    have HN := hide (HNEXT.out w1 hst hfm)
    clear HNEXT HS NC
    go_wp2_with fail
    refine HN.out.mono ?_
    rintro e w3 hp
    have hfin := hp
    obtain ⟨r3, _, ⟨v3, y3, _, rfl, hv3⟩ | ⟨c3, _, rfl, _⟩⟩ := hp
    · obtain ⟨t3, a3, rfl⟩ := hv3.one
      have HFIN := hide hfin
      clear hfin hv3 HN
      go_wp2_with fail
      go_ret
      exact HFIN.out
    · exact ⟨rfl, hfin⟩
set_option maxRecDepth 100000 in
set_option maxHeartbeats 2000000 in
theorem work_11 (E : Env) (ok : EnvOK E) (n : Nat) (ih : WorkSays E n) (t : Lard.T) (it : Option Lard.V) (x xi : Value) (F : Nat → Prop) (st : Nat × E.σ) (w : World) (hk : t.kind = 11) (hok : Lard.okT (n + 1) it.isSome t = true) (hx : IsTree w (n + 1) t x) (hi : IsOpt w it xi) (h : St E F st w) :
    Calls Tryz.prog 203 #[.pointer (some ⟨E.rb, 0, none⟩), x, xi] w (PW (Ψ E F w (Lard.ev E.N (n + 1) t it st))) := by
  obtain ⟨f, s⟩ := st
  obtain ⟨_, _, hparts, h200, hop1, hop13, his, hit, hth, hpt⟩ := okT_node hok
  obtain ⟨b, i, o, m, c, rfl, nd⟩ := hx.node
  have hform := hi.form
  have NC := hide (fun w' hk' => (nd.cells w' hk'))
  obtain ⟨c0, _, _, _, _⟩ := nd.cells w (Keeps.refl w)
  rw [hk] at c0
  by_cases hz : f = 0
  · have hev : Lard.ev E.N (n + 1) t it (f, s) = (.error 11, (f, s)) := by
      rw [ev_def, hk, if_neg (by decide), if_pos hz]
    rw [hev]
    subst hz
    have HS := hide (spend_none E F s w h)
    have HFIN := hide (show PW (Ψ E F w (.error 11, (0, s))) (broken 11) w from ⟨.error 11, ⟨rfl, F, h, fun k hk => .inl hk, Fm.refl _ _⟩, .inr ⟨11, rfl, rfl, by omega, by omega⟩⟩)
    generalize hrb : E.rb = rb at HS
    clear hrb h hx hi nd
    go_enter Tryz.func203, Tryz.ntmps203
    go_wp2_with fail
    refine HS.out.mono ?_
    rintro e w1 ⟨rfl, rfl⟩
    exact ⟨rfl, HFIN.out⟩
  · have hev : Lard.ev E.N (n + 1) t it (f, s) = Lard.firstE E.N (fun u s => Lard.ev E.N n u it s) t (f - 1, s) := by
      rw [ev_def, hk, if_neg (by decide), if_neg hz]; rfl
    rw [hev]
    have HS := hide (spend_some E ok F f s w h (by omega))
    have HNEXT := hide (fun (w1 : World) (hst : St E F (f - 1, s) w1) (hfm : Fm E.base w w1) => show Calls Tryz.prog 251 #[.pointer (some ⟨E.rb, 0, none⟩), .pointer (some ⟨b, 0, none⟩), xi] w1 (PW (Ψ E F w (Lard.firstE E.N (fun u s => Lard.ev E.N n u it s) t (f - 1, s)))) from (workFirst_sum E ok n ih t it _ xi F (f - 1, s) w1 hk (by rcases hparts with h' | h'; (· omega); (· rw [h', hk]; rfl)) (hpt (by omega) (by omega)) (hx.keeps hfm.keeps) (hi.keeps hfm.keeps) hst).mono (fun e w3 hp => PW.after (fun k hk => .inl hk) hfm hp))
    generalize hrb : E.rb = rb at HS HNEXT
    generalize Lard.firstE E.N (fun u s => Lard.ev E.N n u it s) t (f - 1, s) = fin at HNEXT ⊢
    clear hrb h hx hi nd hev ih
    go_enter Tryz.func203, Tryz.ntmps203
    go_wp2_with fail
    refine HS.out.mono ?_
    rintro e w1 ⟨rfl, hst, hfm, _⟩
    obtain ⟨k0, k1, k2, k3, k4⟩ := NC.out w1 hfm.keeps
    rw [hk] at k0
    have HN := hide (HNEXT.out w1 hst hfm)
    clear HNEXT HS NC
    go_wp2_with fail
    refine HN.out.mono ?_
    rintro e w3 hp
    have hfin := hp
    obtain ⟨r3, _, ⟨v3, y3, _, rfl, hv3⟩ | ⟨c3, _, rfl, _⟩⟩ := hp
    · obtain ⟨t3, a3, rfl⟩ := hv3.one
      have HFIN := hide hfin
      clear hfin hv3 HN
      go_wp2_with fail
      go_ret
      exact HFIN.out
    · exact ⟨rfl, hfin⟩
set_option maxRecDepth 100000 in
set_option maxHeartbeats 2000000 in
theorem work_12 (E : Env) (ok : EnvOK E) (n : Nat) (ih : WorkSays E n) (t : Lard.T) (it : Option Lard.V) (x xi : Value) (F : Nat → Prop) (st : Nat × E.σ) (w : World) (hk : t.kind = 12) (hok : Lard.okT (n + 1) it.isSome t = true) (hx : IsTree w (n + 1) t x) (hi : IsOpt w it xi) (h : St E F st w) :
    Calls Tryz.prog 203 #[.pointer (some ⟨E.rb, 0, none⟩), x, xi] w (PW (Ψ E F w (Lard.ev E.N (n + 1) t it st))) := by
  obtain ⟨f, s⟩ := st
  obtain ⟨_, _, hparts, h200, hop1, hop13, his, hit, hth, hpt⟩ := okT_node hok
  obtain ⟨b, i, o, m, c, rfl, nd⟩ := hx.node
  have hform := hi.form
  have NC := hide (fun w' hk' => (nd.cells w' hk'))
  obtain ⟨c0, _, _, _, _⟩ := nd.cells w (Keeps.refl w)
  rw [hk] at c0
  by_cases hz : f = 0
  · have hev : Lard.ev E.N (n + 1) t it (f, s) = (.error 11, (f, s)) := by
      rw [ev_def, hk, if_neg (by decide), if_pos hz]
    rw [hev]
    subst hz
    have HS := hide (spend_none E F s w h)
    have HFIN := hide (show PW (Ψ E F w (.error 11, (0, s))) (broken 11) w from ⟨.error 11, ⟨rfl, F, h, fun k hk => .inl hk, Fm.refl _ _⟩, .inr ⟨11, rfl, rfl, by omega, by omega⟩⟩)
    generalize hrb : E.rb = rb at HS
    clear hrb h hx hi nd
    go_enter Tryz.func203, Tryz.ntmps203
    go_wp2_with fail
    refine HS.out.mono ?_
    rintro e w1 ⟨rfl, rfl⟩
    exact ⟨rfl, HFIN.out⟩
  · have hev : Lard.ev E.N (n + 1) t it (f, s) = Lard.firstE E.N (fun u s => Lard.ev E.N n u it s) t (f - 1, s) := by
      rw [ev_def, hk, if_neg (by decide), if_neg hz]; rfl
    rw [hev]
    have HS := hide (spend_some E ok F f s w h (by omega))
    have HNEXT := hide (fun (w1 : World) (hst : St E F (f - 1, s) w1) (hfm : Fm E.base w w1) => show Calls Tryz.prog 251 #[.pointer (some ⟨E.rb, 0, none⟩), .pointer (some ⟨b, 0, none⟩), xi] w1 (PW (Ψ E F w (Lard.firstE E.N (fun u s => Lard.ev E.N n u it s) t (f - 1, s)))) from (workFirst_word E ok n ih t it _ xi F (f - 1, s) w1 hk (by rcases hparts with h' | h'; (· omega); (· rw [h', hk]; rfl)) (hpt (by omega) (by omega)) (hx.keeps hfm.keeps) (hi.keeps hfm.keeps) hst).mono (fun e w3 hp => PW.after (fun k hk => .inl hk) hfm hp))
    generalize hrb : E.rb = rb at HS HNEXT
    generalize Lard.firstE E.N (fun u s => Lard.ev E.N n u it s) t (f - 1, s) = fin at HNEXT ⊢
    clear hrb h hx hi nd hev ih
    go_enter Tryz.func203, Tryz.ntmps203
    go_wp2_with fail
    refine HS.out.mono ?_
    rintro e w1 ⟨rfl, hst, hfm, _⟩
    obtain ⟨k0, k1, k2, k3, k4⟩ := NC.out w1 hfm.keeps
    rw [hk] at k0
    have HN := hide (HNEXT.out w1 hst hfm)
    clear HNEXT HS NC
    go_wp2_with fail
    refine HN.out.mono ?_
    rintro e w3 hp
    have hfin := hp
    obtain ⟨r3, _, ⟨v3, y3, _, rfl, hv3⟩ | ⟨c3, _, rfl, _⟩⟩ := hp
    · obtain ⟨t3, a3, rfl⟩ := hv3.one
      have HFIN := hide hfin
      clear hfin hv3 HN
      go_wp2_with fail
      go_ret
      exact HFIN.out
    · exact ⟨rfl, hfin⟩
set_option maxRecDepth 100000 in
set_option maxHeartbeats 2000000 in
theorem work_13 (E : Env) (ok : EnvOK E) (n : Nat) (ih : WorkSays E n) (t : Lard.T) (it : Option Lard.V) (x xi : Value) (F : Nat → Prop) (st : Nat × E.σ) (w : World) (hk : t.kind = 13) (hok : Lard.okT (n + 1) it.isSome t = true) (hx : IsTree w (n + 1) t x) (hi : IsOpt w it xi) (h : St E F st w) :
    Calls Tryz.prog 203 #[.pointer (some ⟨E.rb, 0, none⟩), x, xi] w (PW (Ψ E F w (Lard.ev E.N (n + 1) t it st))) := by
  obtain ⟨f, s⟩ := st
  obtain ⟨_, _, hparts, h200, hop1, hop13, his, hit, hth, hpt⟩ := okT_node hok
  obtain ⟨b, i, o, m, c, rfl, nd⟩ := hx.node
  have hform := hi.form
  have NC := hide (fun w' hk' => (nd.cells w' hk'))
  obtain ⟨c0, _, _, _, _⟩ := nd.cells w (Keeps.refl w)
  rw [hk] at c0
  by_cases hz : f = 0
  · have hev : Lard.ev E.N (n + 1) t it (f, s) = (.error 11, (f, s)) := by
      rw [ev_def, hk, if_neg (by decide), if_pos hz]
    rw [hev]
    subst hz
    have HS := hide (spend_none E F s w h)
    have HFIN := hide (show PW (Ψ E F w (.error 11, (0, s))) (broken 11) w from ⟨.error 11, ⟨rfl, F, h, fun k hk => .inl hk, Fm.refl _ _⟩, .inr ⟨11, rfl, rfl, by omega, by omega⟩⟩)
    generalize hrb : E.rb = rb at HS
    clear hrb h hx hi nd
    go_enter Tryz.func203, Tryz.ntmps203
    go_wp2_with fail
    refine HS.out.mono ?_
    rintro e w1 ⟨rfl, rfl⟩
    exact ⟨rfl, HFIN.out⟩
  · have hev : Lard.ev E.N (n + 1) t it (f, s) = Lard.firstE E.N (fun u s => Lard.ev E.N n u it s) t (f - 1, s) := by
      rw [ev_def, hk, if_neg (by decide), if_neg hz]; rfl
    rw [hev]
    have HS := hide (spend_some E ok F f s w h (by omega))
    have HNEXT := hide (fun (w1 : World) (hst : St E F (f - 1, s) w1) (hfm : Fm E.base w w1) => show Calls Tryz.prog 251 #[.pointer (some ⟨E.rb, 0, none⟩), .pointer (some ⟨b, 0, none⟩), xi] w1 (PW (Ψ E F w (Lard.firstE E.N (fun u s => Lard.ev E.N n u it s) t (f - 1, s)))) from (workFirst_both E ok n ih t it _ xi F (f - 1, s) w1 hk (by rcases hparts with h' | h'; (· omega); (· rw [h', hk]; rfl)) (hpt (by omega) (by omega)) (by have := hop13 hk; omega) (hx.keeps hfm.keeps) (hi.keeps hfm.keeps) hst).mono (fun e w3 hp => PW.after (fun k hk => .inl hk) hfm hp))
    generalize hrb : E.rb = rb at HS HNEXT
    generalize Lard.firstE E.N (fun u s => Lard.ev E.N n u it s) t (f - 1, s) = fin at HNEXT ⊢
    clear hrb h hx hi nd hev ih
    go_enter Tryz.func203, Tryz.ntmps203
    go_wp2_with fail
    refine HS.out.mono ?_
    rintro e w1 ⟨rfl, hst, hfm, _⟩
    obtain ⟨k0, k1, k2, k3, k4⟩ := NC.out w1 hfm.keeps
    rw [hk] at k0
    have HN := hide (HNEXT.out w1 hst hfm)
    clear HNEXT HS NC
    go_wp2_with fail
    refine HN.out.mono ?_
    rintro e w3 hp
    have hfin := hp
    obtain ⟨r3, _, ⟨v3, y3, _, rfl, hv3⟩ | ⟨c3, _, rfl, _⟩⟩ := hp
    · obtain ⟨t3, a3, rfl⟩ := hv3.one
      have HFIN := hide hfin
      clear hfin hv3 HN
      go_wp2_with fail
      go_ret
      exact HFIN.out
    · exact ⟨rfl, hfin⟩
set_option maxRecDepth 100000 in
set_option maxHeartbeats 2000000 in
theorem work_8 (E : Env) (ok : EnvOK E) (n : Nat) (ih : WorkSays E n) (t : Lard.T) (it : Option Lard.V) (x xi : Value) (F : Nat → Prop) (st : Nat × E.σ) (w : World) (hk : t.kind = 8) (hok : Lard.okT (n + 1) it.isSome t = true) (hx : IsTree w (n + 1) t x) (hi : IsOpt w it xi) (h : St E F st w) :
    Calls Tryz.prog 203 #[.pointer (some ⟨E.rb, 0, none⟩), x, xi] w (PW (Ψ E F w (Lard.ev E.N (n + 1) t it st))) := by
  obtain ⟨f, s⟩ := st
  obtain ⟨_, _, hparts, h200, hop1, hop13, his, hit, hth, hpt⟩ := okT_node hok
  obtain ⟨b, i, o, m, c, rfl, nd⟩ := hx.node
  have hform := hi.form
  have NC := hide (fun w' hk' => (nd.cells w' hk'))
  obtain ⟨c0, _, _, _, _⟩ := nd.cells w (Keeps.refl w)
  rw [hk] at c0
  by_cases hz : f = 0
  · have hev : Lard.ev E.N (n + 1) t it (f, s) = (.error 11, (f, s)) := by
      rw [ev_def, hk, if_neg (by decide), if_pos hz]
    rw [hev]
    subst hz
    have HS := hide (spend_none E F s w h)
    have HFIN := hide (show PW (Ψ E F w (.error 11, (0, s))) (broken 11) w from ⟨.error 11, ⟨rfl, F, h, fun k hk => .inl hk, Fm.refl _ _⟩, .inr ⟨11, rfl, rfl, by omega, by omega⟩⟩)
    generalize hrb : E.rb = rb at HS
    clear hrb h hx hi nd
    go_enter Tryz.func203, Tryz.ntmps203
    go_wp2_with fail
    refine HS.out.mono ?_
    rintro e w1 ⟨rfl, rfl⟩
    exact ⟨rfl, HFIN.out⟩
  · have hev : Lard.ev E.N (n + 1) t it (f, s) = Lard.seqE (fun u s => Lard.ev E.N n u it s) t.parts [] (f - 1, s) := by
      rw [ev_def, hk, if_neg (by decide), if_neg hz]; rfl
    rw [hev]
    have HS := hide (spend_some E ok F f s w h (by omega))
    have HNEXT := hide (fun (w1 : World) (hst : St E F (f - 1, s) w1) (hfm : Fm E.base w w1) => show Calls Tryz.prog 250 #[.pointer (some ⟨E.rb, 0, none⟩), .pointer (some ⟨b, 0, none⟩), xi] w1 (PW (Ψ E F w (Lard.seqE (fun u s => Lard.ev E.N n u it s) t.parts [] (f - 1, s)))) from (list_any E ok n ih t it _ xi F (f - 1, s) w1 h200 (hpt (by omega) (by omega)) (hx.keeps hfm.keeps) (hi.keeps hfm.keeps) hst).mono (fun e w3 hp => PW.after (fun k hk => .inl hk) hfm hp))
    generalize hrb : E.rb = rb at HS HNEXT
    generalize Lard.seqE (fun u s => Lard.ev E.N n u it s) t.parts [] (f - 1, s) = fin at HNEXT ⊢
    clear hrb h hx hi nd hev ih
    go_enter Tryz.func203, Tryz.ntmps203
    go_wp2_with fail
    refine HS.out.mono ?_
    rintro e w1 ⟨rfl, hst, hfm, _⟩
    obtain ⟨k0, k1, k2, k3, k4⟩ := NC.out w1 hfm.keeps
    rw [hk] at k0
    have HN := hide (HNEXT.out w1 hst hfm)
    clear HNEXT HS NC
    go_wp2_with fail
    refine HN.out.mono ?_
    rintro e w3 hp
    have hfin := hp
    obtain ⟨r3, _, ⟨v3, y3, _, rfl, hv3⟩ | ⟨c3, _, rfl, _⟩⟩ := hp
    · obtain ⟨t3, a3, rfl⟩ := hv3.one
      have HFIN := hide hfin
      clear hfin hv3 HN
      go_wp2_with fail
      go_ret
      exact HFIN.out
    · exact ⟨rfl, hfin⟩
set_option maxRecDepth 100000 in
set_option maxHeartbeats 2000000 in
theorem work_14 (E : Env) (ok : EnvOK E) (n : Nat) (ih : WorkSays E n) (t : Lard.T) (it : Option Lard.V) (x xi : Value) (F : Nat → Prop) (st : Nat × E.σ) (w : World) (hk : t.kind = 14) (hok : Lard.okT (n + 1) it.isSome t = true) (hx : IsTree w (n + 1) t x) (hi : IsOpt w it xi) (h : St E F st w) :
    Calls Tryz.prog 203 #[.pointer (some ⟨E.rb, 0, none⟩), x, xi] w (PW (Ψ E F w (Lard.ev E.N (n + 1) t it st))) := by
  obtain ⟨f, s⟩ := st
  obtain ⟨_, _, hparts, h200, hop1, hop13, his, hit, hth, hpt⟩ := okT_node hok
  obtain ⟨b, i, o, m, c, rfl, nd⟩ := hx.node
  have hform := hi.form
  have NC := hide (fun w' hk' => (nd.cells w' hk'))
  obtain ⟨c0, _, _, _, _⟩ := nd.cells w (Keeps.refl w)
  rw [hk] at c0
  by_cases hz : f = 0
  · have hev : Lard.ev E.N (n + 1) t it (f, s) = (.error 11, (f, s)) := by
      rw [ev_def, hk, if_neg (by decide), if_pos hz]
    rw [hev]
    subst hz
    have HS := hide (spend_none E F s w h)
    have HFIN := hide (show PW (Ψ E F w (.error 11, (0, s))) (broken 11) w from ⟨.error 11, ⟨rfl, F, h, fun k hk => .inl hk, Fm.refl _ _⟩, .inr ⟨11, rfl, rfl, by omega, by omega⟩⟩)
    generalize hrb : E.rb = rb at HS
    clear hrb h hx hi nd
    go_enter Tryz.func203, Tryz.ntmps203
    go_wp2_with fail
    refine HS.out.mono ?_
    rintro e w1 ⟨rfl, rfl⟩
    exact ⟨rfl, HFIN.out⟩
  · have hev : Lard.ev E.N (n + 1) t it (f, s) = tryE E n t it (f - 1, s) := by
      rw [ev_def, hk, if_neg (by decide), if_neg hz, if_neg (by decide), if_neg (by decide), if_neg (by decide), if_pos rfl]
      unfold tryE
      dsimp only
      generalize Lard.ev E.N n (t.part 0) it (f - 1, s) = q
      obtain ⟨r, s'⟩ := q
      cases r <;> rfl
    rw [hev]
    have HS := hide (spend_some E ok F f s w h (by omega))
    have HNEXT := hide (fun (w1 : World) (hst : St E F (f - 1, s) w1) (hfm : Fm E.base w w1) => show Calls Tryz.prog 247 #[.pointer (some ⟨E.rb, 0, none⟩), .pointer (some ⟨b, 0, none⟩), xi] w1 (PW (Ψ E F w (tryE E n t it (f - 1, s)))) from (try_any E ok n ih t it _ xi F (f - 1, s) w1 (by rcases hparts with h' | h'; (· omega); (· rw [h', hk]; rfl)) (hpt (by omega) (by omega)) (hx.keeps hfm.keeps) (hi.keeps hfm.keeps) hst).mono (fun e w3 hp => PW.after (fun k hk => .inl hk) hfm hp))
    generalize hrb : E.rb = rb at HS HNEXT
    generalize tryE E n t it (f - 1, s) = fin at HNEXT ⊢
    clear hrb h hx hi nd hev ih
    go_enter Tryz.func203, Tryz.ntmps203
    go_wp2_with fail
    refine HS.out.mono ?_
    rintro e w1 ⟨rfl, hst, hfm, _⟩
    obtain ⟨k0, k1, k2, k3, k4⟩ := NC.out w1 hfm.keeps
    rw [hk] at k0
    have HN := hide (HNEXT.out w1 hst hfm)
    clear HNEXT HS NC
    go_wp2_with fail
    refine HN.out.mono ?_
    rintro e w3 hp
    have hfin := hp
    obtain ⟨r3, _, ⟨v3, y3, _, rfl, hv3⟩ | ⟨c3, _, rfl, _⟩⟩ := hp
    · obtain ⟨t3, a3, rfl⟩ := hv3.one
      have HFIN := hide hfin
      clear hfin hv3 HN
      go_wp2_with fail
      go_ret
      exact HFIN.out
    · exact ⟨rfl, hfin⟩
set_option maxRecDepth 100000 in
set_option maxHeartbeats 2000000 in
theorem work_15 (E : Env) (ok : EnvOK E) (n : Nat) (ih : WorkSays E n) (t : Lard.T) (it : Option Lard.V) (x xi : Value) (F : Nat → Prop) (st : Nat × E.σ) (w : World) (hk : t.kind = 15) (hok : Lard.okT (n + 1) it.isSome t = true) (hx : IsTree w (n + 1) t x) (hi : IsOpt w it xi) (h : St E F st w) :
    Calls Tryz.prog 203 #[.pointer (some ⟨E.rb, 0, none⟩), x, xi] w (PW (Ψ E F w (Lard.ev E.N (n + 1) t it st))) := by
  obtain ⟨f, s⟩ := st
  obtain ⟨_, _, hparts, h200, hop1, hop13, his, hit, hth, hpt⟩ := okT_node hok
  obtain ⟨b, i, o, m, c, rfl, nd⟩ := hx.node
  have hform := hi.form
  have NC := hide (fun w' hk' => (nd.cells w' hk'))
  obtain ⟨c0, _, _, _, _⟩ := nd.cells w (Keeps.refl w)
  rw [hk] at c0
  by_cases hz : f = 0
  · have hev : Lard.ev E.N (n + 1) t it (f, s) = (.error 11, (f, s)) := by
      rw [ev_def, hk, if_neg (by decide), if_pos hz]
    rw [hev]
    subst hz
    have HS := hide (spend_none E F s w h)
    have HFIN := hide (show PW (Ψ E F w (.error 11, (0, s))) (broken 11) w from ⟨.error 11, ⟨rfl, F, h, fun k hk => .inl hk, Fm.refl _ _⟩, .inr ⟨11, rfl, rfl, by omega, by omega⟩⟩)
    generalize hrb : E.rb = rb at HS
    clear hrb h hx hi nd
    go_enter Tryz.func203, Tryz.ntmps203
    go_wp2_with fail
    refine HS.out.mono ?_
    rintro e w1 ⟨rfl, rfl⟩
    exact ⟨rfl, HFIN.out⟩
  · have hev : Lard.ev E.N (n + 1) t it (f, s) = Lard.thenR (Lard.ev E.N n (t.part 0) it (f - 1, s)) fun v s => match Lard.listIn v with | .ok l => Lard.seqE (fun u s => Lard.ev E.N n (t.part 1) (some u) s) l [] s | .error e => (.error e, s) := by
      rw [ev_def, hk, if_neg (by decide), if_neg hz]; rfl
    rw [hev]
    have HS := hide (spend_some E ok F f s w h (by omega))
    have HNEXT := hide (fun (w1 : World) (hst : St E F (f - 1, s) w1) (hfm : Fm E.base w w1) => show Calls Tryz.prog 248 #[.pointer (some ⟨E.rb, 0, none⟩), .pointer (some ⟨b, 0, none⟩), xi] w1 (PW (Ψ E F w (Lard.thenR (Lard.ev E.N n (t.part 0) it (f - 1, s)) fun v s => match Lard.listIn v with | .ok l => Lard.seqE (fun u s => Lard.ev E.N n (t.part 1) (some u) s) l [] s | .error e => (.error e, s)))) from (each_any E ok n ih t it _ xi F (f - 1, s) w1 (by rcases hparts with h' | h'; (· omega); (· rw [h', hk]; rfl)) (hth (.inl hk)).1 (hth (.inl hk)).2 (hx.keeps hfm.keeps) (hi.keeps hfm.keeps) hst).mono (fun e w3 hp => PW.after (fun k hk => .inl hk) hfm hp))
    generalize hrb : E.rb = rb at HS HNEXT
    generalize (Lard.thenR (Lard.ev E.N n (t.part 0) it (f - 1, s)) fun v s => match Lard.listIn v with | .ok l => Lard.seqE (fun u s => Lard.ev E.N n (t.part 1) (some u) s) l [] s | .error e => (.error e, s)) = fin at HNEXT ⊢
    clear hrb h hx hi nd hev ih
    go_enter Tryz.func203, Tryz.ntmps203
    go_wp2_with fail
    refine HS.out.mono ?_
    rintro e w1 ⟨rfl, hst, hfm, _⟩
    obtain ⟨k0, k1, k2, k3, k4⟩ := NC.out w1 hfm.keeps
    rw [hk] at k0
    have HN := hide (HNEXT.out w1 hst hfm)
    clear HNEXT HS NC
    go_wp2_with fail
    refine HN.out.mono ?_
    rintro e w3 hp
    have hfin := hp
    obtain ⟨r3, _, ⟨v3, y3, _, rfl, hv3⟩ | ⟨c3, _, rfl, _⟩⟩ := hp
    · obtain ⟨t3, a3, rfl⟩ := hv3.one
      have HFIN := hide hfin
      clear hfin hv3 HN
      go_wp2_with fail
      go_ret
      exact HFIN.out
    · exact ⟨rfl, hfin⟩
set_option maxRecDepth 100000 in
set_option maxHeartbeats 2000000 in
theorem work_16 (E : Env) (ok : EnvOK E) (n : Nat) (ih : WorkSays E n) (t : Lard.T) (it : Option Lard.V) (x xi : Value) (F : Nat → Prop) (st : Nat × E.σ) (w : World) (hk : t.kind = 16) (hok : Lard.okT (n + 1) it.isSome t = true) (hx : IsTree w (n + 1) t x) (hi : IsOpt w it xi) (h : St E F st w) :
    Calls Tryz.prog 203 #[.pointer (some ⟨E.rb, 0, none⟩), x, xi] w (PW (Ψ E F w (Lard.ev E.N (n + 1) t it st))) := by
  obtain ⟨f, s⟩ := st
  obtain ⟨_, _, hparts, h200, hop1, hop13, his, hit, hth, hpt⟩ := okT_node hok
  obtain ⟨b, i, o, m, c, rfl, nd⟩ := hx.node
  have hform := hi.form
  have NC := hide (fun w' hk' => (nd.cells w' hk'))
  obtain ⟨c0, _, _, _, _⟩ := nd.cells w (Keeps.refl w)
  rw [hk] at c0
  by_cases hz : f = 0
  · have hev : Lard.ev E.N (n + 1) t it (f, s) = (.error 11, (f, s)) := by
      rw [ev_def, hk, if_neg (by decide), if_pos hz]
    rw [hev]
    subst hz
    have HS := hide (spend_none E F s w h)
    have HFIN := hide (show PW (Ψ E F w (.error 11, (0, s))) (broken 11) w from ⟨.error 11, ⟨rfl, F, h, fun k hk => .inl hk, Fm.refl _ _⟩, .inr ⟨11, rfl, rfl, by omega, by omega⟩⟩)
    generalize hrb : E.rb = rb at HS
    clear hrb h hx hi nd
    go_enter Tryz.func203, Tryz.ntmps203
    go_wp2_with fail
    refine HS.out.mono ?_
    rintro e w1 ⟨rfl, rfl⟩
    exact ⟨rfl, HFIN.out⟩
  · have hev : Lard.ev E.N (n + 1) t it (f, s) = Lard.thenR (Lard.ev E.N n (t.part 0) it (f - 1, s)) fun v s => match Lard.listIn v with | .ok l => Lard.someE (fun u s => Lard.ev E.N n (t.part 1) (some u) s) l [] s | .error e => (.error e, s) := by
      rw [ev_def, hk, if_neg (by decide), if_neg hz]; rfl
    rw [hev]
    have HS := hide (spend_some E ok F f s w h (by omega))
    have HNEXT := hide (fun (w1 : World) (hst : St E F (f - 1, s) w1) (hfm : Fm E.base w w1) => show Calls Tryz.prog 249 #[.pointer (some ⟨E.rb, 0, none⟩), .pointer (some ⟨b, 0, none⟩), xi] w1 (PW (Ψ E F w (Lard.thenR (Lard.ev E.N n (t.part 0) it (f - 1, s)) fun v s => match Lard.listIn v with | .ok l => Lard.someE (fun u s => Lard.ev E.N n (t.part 1) (some u) s) l [] s | .error e => (.error e, s)))) from (some_any E ok n ih t it _ xi F (f - 1, s) w1 (by rcases hparts with h' | h'; (· omega); (· rw [h', hk]; rfl)) (hth (.inr hk)).1 (hth (.inr hk)).2 (hx.keeps hfm.keeps) (hi.keeps hfm.keeps) hst).mono (fun e w3 hp => PW.after (fun k hk => .inl hk) hfm hp))
    generalize hrb : E.rb = rb at HS HNEXT
    generalize (Lard.thenR (Lard.ev E.N n (t.part 0) it (f - 1, s)) fun v s => match Lard.listIn v with | .ok l => Lard.someE (fun u s => Lard.ev E.N n (t.part 1) (some u) s) l [] s | .error e => (.error e, s)) = fin at HNEXT ⊢
    clear hrb h hx hi nd hev ih
    go_enter Tryz.func203, Tryz.ntmps203
    go_wp2_with fail
    refine HS.out.mono ?_
    rintro e w1 ⟨rfl, hst, hfm, _⟩
    obtain ⟨k0, k1, k2, k3, k4⟩ := NC.out w1 hfm.keeps
    rw [hk] at k0
    have HN := hide (HNEXT.out w1 hst hfm)
    clear HNEXT HS NC
    go_wp2_with fail
    refine HN.out.mono ?_
    rintro e w3 hp
    have hfin := hp
    obtain ⟨r3, _, ⟨v3, y3, _, rfl, hv3⟩ | ⟨c3, _, rfl, _⟩⟩ := hp
    · obtain ⟨t3, a3, rfl⟩ := hv3.one
      have HFIN := hide hfin
      clear hfin hv3 HN
      go_wp2_with fail
      go_ret
      exact HFIN.out
    · exact ⟨rfl, hfin⟩
set_option maxRecDepth 100000 in
set_option maxHeartbeats 2000000 in
theorem work_3 (E : Env) (ok : EnvOK E) (n : Nat) (ih : WorkSays E n) (t : Lard.T) (it : Option Lard.V) (x xi : Value) (F : Nat → Prop) (st : Nat × E.σ) (w : World) (hk : t.kind = 3) (hok : Lard.okT (n + 1) it.isSome t = true) (hx : IsTree w (n + 1) t x) (hi : IsOpt w it xi) (h : St E F st w) :
    Calls Tryz.prog 203 #[.pointer (some ⟨E.rb, 0, none⟩), x, xi] w (PW (Ψ E F w (Lard.ev E.N (n + 1) t it st))) := by
  obtain ⟨f, s⟩ := st
  obtain ⟨_, _, hparts, h200, hop1, hop13, his, hit, hth, hpt⟩ := okT_node hok
  obtain ⟨b, i, o, m, c, rfl, nd⟩ := hx.node
  have hform := hi.form
  have NC := hide (fun w' hk' => (nd.cells w' hk'))
  obtain ⟨c0, _, _, _, _⟩ := nd.cells w (Keeps.refl w)
  rw [hk] at c0
  by_cases hz : f = 0
  · have hev : Lard.ev E.N (n + 1) t it (f, s) = (.error 11, (f, s)) := by
      rw [ev_def, hk, if_neg (by decide), if_pos hz]
    rw [hev]
    subst hz
    have HS := hide (spend_none E F s w h)
    have HFIN := hide (show PW (Ψ E F w (.error 11, (0, s))) (broken 11) w from ⟨.error 11, ⟨rfl, F, h, fun k hk => .inl hk, Fm.refl _ _⟩, .inr ⟨11, rfl, rfl, by omega, by omega⟩⟩)
    generalize hrb : E.rb = rb at HS
    clear hrb h hx hi nd
    go_enter Tryz.func203, Tryz.ntmps203
    go_wp2_with fail
    refine HS.out.mono ?_
    rintro e w1 ⟨rfl, rfl⟩
    exact ⟨rfl, HFIN.out⟩
  · have hev : Lard.ev E.N (n + 1) t it (f, s) = Lard.needE E.N t.name (f - 1, s) := by
      rw [ev_def, hk, if_neg (by decide), if_neg hz]; rfl
    rw [hev]
    have HS := hide (spend_some E ok F f s w h (by omega))
    have HNEXT := hide (fun (w1 : World) (hst : St E F (f - 1, s) w1) (hfm : Fm E.base w w1) => show Calls Tryz.prog 246 #[.pointer (some ⟨E.rb, 0, none⟩), .string ⟨t.name.toArray⟩] w1 (PW (Ψ E F w (Lard.needE E.N t.name (f - 1, s)))) from (needS_any E ok F (f - 1, s) ⟨t.name.toArray⟩ w1 hst (by show t.name.toArray.size ≤ 200; simpa using nd.name) (by have := h.le; show E.cnt s + (f - 1) < 400; have : E.cnt s + f ≤ 400 := this; omega)).mono (fun e w3 hp => PW.after (fun k hk => .inl hk) hfm hp))
    generalize hrb : E.rb = rb at HS HNEXT
    generalize Lard.needE E.N t.name (f - 1, s) = fin at HNEXT ⊢
    clear hrb h hx hi nd hev ih
    go_enter Tryz.func203, Tryz.ntmps203
    go_wp2_with fail
    refine HS.out.mono ?_
    rintro e w1 ⟨rfl, hst, hfm, _⟩
    obtain ⟨k0, k1, k2, k3, k4⟩ := NC.out w1 hfm.keeps
    rw [hk] at k0
    have HN := hide (HNEXT.out w1 hst hfm)
    clear HNEXT HS NC
    go_wp2_with fail
    refine HN.out.mono ?_
    rintro e w3 hp
    have hfin := hp
    obtain ⟨r3, _, ⟨v3, y3, _, rfl, hv3⟩ | ⟨c3, _, rfl, _⟩⟩ := hp
    · obtain ⟨t3, a3, rfl⟩ := hv3.one
      have HFIN := hide hfin
      clear hfin hv3 HN
      go_wp2_with fail
      go_ret
      exact HFIN.out
    · exact ⟨rfl, hfin⟩
set_option maxRecDepth 100000 in
set_option maxHeartbeats 2000000 in
theorem work_2 (E : Env) (ok : EnvOK E) (n : Nat) (ih : WorkSays E n) (t : Lard.T) (it : Option Lard.V) (x xi : Value) (F : Nat → Prop) (st : Nat × E.σ) (w : World) (hk : t.kind = 2) (hok : Lard.okT (n + 1) it.isSome t = true) (hx : IsTree w (n + 1) t x) (hi : IsOpt w it xi) (h : St E F st w) :
    Calls Tryz.prog 203 #[.pointer (some ⟨E.rb, 0, none⟩), x, xi] w (PW (Ψ E F w (Lard.ev E.N (n + 1) t it st))) := by
  obtain ⟨f, s⟩ := st
  obtain ⟨_, _, hparts, h200, hop1, hop13, his, hit, hth, hpt⟩ := okT_node hok
  obtain ⟨b, i, o, m, c, rfl, nd⟩ := hx.node
  have hform := hi.form
  obtain ⟨vv, hvv0, hvv⟩ : ∃ vv, t.is = some vv ∧ IsVal w 3 vv i := by
    rcases nd.is with ⟨hn, _⟩ | hs
    · have := his hk; rw [hn] at this; cases this
    · exact hs
  have NC := hide (fun w' hk' => (nd.cells w' hk'))
  obtain ⟨c0, _, _, _, _⟩ := nd.cells w (Keeps.refl w)
  rw [hk] at c0
  by_cases hz : f = 0
  · have hev : Lard.ev E.N (n + 1) t it (f, s) = (.error 11, (f, s)) := by
      rw [ev_def, hk, if_neg (by decide), if_pos hz]
    rw [hev]
    subst hz
    have HS := hide (spend_none E F s w h)
    have HFIN := hide (show PW (Ψ E F w (.error 11, (0, s))) (broken 11) w from ⟨.error 11, ⟨rfl, F, h, fun k hk => .inl hk, Fm.refl _ _⟩, .inr ⟨11, rfl, rfl, by omega, by omega⟩⟩)
    generalize hrb : E.rb = rb at HS
    clear hrb h hx hi nd
    go_enter Tryz.func203, Tryz.ntmps203
    go_wp2_with fail
    refine HS.out.mono ?_
    rintro e w1 ⟨rfl, rfl⟩
    exact ⟨rfl, HFIN.out⟩
  · have hev : Lard.ev E.N (n + 1) t it (f, s) = (.ok vv, (f - 1, s)) := by
      rw [ev_def, hk, if_neg (by decide), if_neg hz, hvv0]; rfl
    rw [hev]
    have HS := hide (spend_some E ok F f s w h (by omega))
    have HV := hide (fun (w1 : World) (hst : St E F (f - 1, s) w1) (hfm : Fm E.base w w1) => show PW (Ψ E F w (.ok vv, (f - 1, s))) (.returned i) w1 from ⟨.ok vv, ⟨rfl, F, hst, fun k hk => .inl hk, hfm⟩, .inl ⟨vv, _, rfl, rfl, hvv.keeps hfm.keeps⟩⟩)
    obtain ⟨tv, av, rfl⟩ := hvv.one
    generalize hrb : E.rb = rb at HS
    clear hvv
    clear hrb h hx hi nd hev ih
    go_enter Tryz.func203, Tryz.ntmps203
    go_wp2_with fail
    refine HS.out.mono ?_
    rintro e w1 ⟨rfl, hst, hfm, _⟩
    obtain ⟨k0, k1, k2, k3, k4⟩ := NC.out w1 hfm.keeps
    rw [hk] at k0
    have HFIN := hide (HV.out w1 hst hfm)
    clear HS NC HV
    go_wp2_with fail
    go_ret
    exact HFIN.out
set_option maxRecDepth 100000 in
set_option maxHeartbeats 2000000 in
theorem work_4 (E : Env) (ok : EnvOK E) (n : Nat) (ih : WorkSays E n) (t : Lard.T) (it : Option Lard.V) (x xi : Value) (F : Nat → Prop) (st : Nat × E.σ) (w : World) (hk : t.kind = 4) (hok : Lard.okT (n + 1) it.isSome t = true) (hx : IsTree w (n + 1) t x) (hi : IsOpt w it xi) (h : St E F st w) :
    Calls Tryz.prog 203 #[.pointer (some ⟨E.rb, 0, none⟩), x, xi] w (PW (Ψ E F w (Lard.ev E.N (n + 1) t it st))) := by
  obtain ⟨f, s⟩ := st
  obtain ⟨_, _, hparts, h200, hop1, hop13, his, hit, hth, hpt⟩ := okT_node hok
  obtain ⟨b, i, o, m, c, rfl, nd⟩ := hx.node
  have hform := hi.form
  obtain ⟨vv, hvv0, hvv⟩ : ∃ vv, it = some vv ∧ IsVal w 3 vv xi := by
    rcases hi with ⟨hn, _⟩ | hs
    · have := hit hk; rw [hn] at this; cases this
    · exact hs
  have NC := hide (fun w' hk' => (nd.cells w' hk'))
  obtain ⟨c0, _, _, _, _⟩ := nd.cells w (Keeps.refl w)
  rw [hk] at c0
  by_cases hz : f = 0
  · have hev : Lard.ev E.N (n + 1) t it (f, s) = (.error 11, (f, s)) := by
      rw [ev_def, hk, if_neg (by decide), if_pos hz]
    rw [hev]
    subst hz
    have HS := hide (spend_none E F s w h)
    have HFIN := hide (show PW (Ψ E F w (.error 11, (0, s))) (broken 11) w from ⟨.error 11, ⟨rfl, F, h, fun k hk => .inl hk, Fm.refl _ _⟩, .inr ⟨11, rfl, rfl, by omega, by omega⟩⟩)
    generalize hrb : E.rb = rb at HS
    clear hrb h hx hi nd
    go_enter Tryz.func203, Tryz.ntmps203
    go_wp2_with fail
    refine HS.out.mono ?_
    rintro e w1 ⟨rfl, rfl⟩
    exact ⟨rfl, HFIN.out⟩
  · have hev : Lard.ev E.N (n + 1) t it (f, s) = (.ok vv, (f - 1, s)) := by
      rw [ev_def, hk, if_neg (by decide), if_neg hz, hvv0]; rfl
    rw [hev]
    have HS := hide (spend_some E ok F f s w h (by omega))
    have HV := hide (fun (w1 : World) (hst : St E F (f - 1, s) w1) (hfm : Fm E.base w w1) => show PW (Ψ E F w (.ok vv, (f - 1, s))) (.returned xi) w1 from ⟨.ok vv, ⟨rfl, F, hst, fun k hk => .inl hk, hfm⟩, .inl ⟨vv, _, rfl, rfl, hvv.keeps hfm.keeps⟩⟩)
    obtain ⟨tv, av, rfl⟩ := hvv.one
    generalize hrb : E.rb = rb at HS
    clear hvv
    clear hrb h hx hi nd hev ih
    go_enter Tryz.func203, Tryz.ntmps203
    go_wp2_with fail
    refine HS.out.mono ?_
    rintro e w1 ⟨rfl, hst, hfm, _⟩
    obtain ⟨k0, k1, k2, k3, k4⟩ := NC.out w1 hfm.keeps
    rw [hk] at k0
    have HFIN := hide (HV.out w1 hst hfm)
    clear HS NC HV
    go_wp2_with fail
    go_ret
    exact HFIN.out
set_option maxRecDepth 100000 in
set_option maxHeartbeats 2000000 in
theorem work_1 (E : Env) (ok : EnvOK E) (n : Nat) (ih : WorkSays E n) (t : Lard.T) (it : Option Lard.V) (x xi : Value) (F : Nat → Prop) (st : Nat × E.σ) (w : World) (hk : t.kind = 1) (hok : Lard.okT (n + 1) it.isSome t = true) (hx : IsTree w (n + 1) t x) (hi : IsOpt w it xi) (h : St E F st w) :
    Calls Tryz.prog 203 #[.pointer (some ⟨E.rb, 0, none⟩), x, xi] w (PW (Ψ E F w (Lard.ev E.N (n + 1) t it st))) := by
  obtain ⟨_, _, hparts, h200, hop1, hop13, his, hit, hth, hpt⟩ := okT_node hok
  have hev : Lard.ev E.N (n + 1) t it st = Lard.firstE E.N (fun u s => Lard.ev E.N n u it s) t st := by
    rw [ev_def, hk, if_pos rfl]
  rw [hev]
  have hcall := workFirst_operator E ok n ih t it _ xi F st w hk (by rcases hparts with h' | h'; (· omega); (· rw [h', hk]; rfl)) (hpt (by omega) (by omega)) (by have := hop1 hk; omega) hx hi h
  obtain ⟨b, i, o, m, c, rfl, nd⟩ := hx.node
  obtain ⟨c0, _, _, _, _⟩ := nd.cells w (Keeps.refl w)
  rw [hk] at c0
  generalize Lard.firstE E.N (fun u s => Lard.ev E.N n u it s) t st = fin at hcall ⊢
  generalize E.rb = rb at hcall ⊢
  have HN := hide hcall
  clear hcall h hx hi nd hev ih
  go_enter Tryz.func203, Tryz.ntmps203
  go_wp2_with fail
  refine HN.out.mono ?_
  rintro e w3 hp
  have hfin := hp
  obtain ⟨r3, _, ⟨v3, y3, _, rfl, hv3⟩ | ⟨c3, _, rfl, _⟩⟩ := hp
  · obtain ⟨t3, a3, rfl⟩ := hv3.one
    have HFIN := hide hfin
    clear hfin hv3 HN
    go_wp2_with fail
    go_ret
    exact HFIN.out
  · exact ⟨rfl, hfin⟩
theorem work_all (E : Env) (ok : EnvOK E) : ∀ n, WorkSays E n
  | 0 => fun t it x xi F st w hok _ _ _ => by cases hok
  | n + 1 => fun t it x xi F st w hok hx hi h => by
    have ih := work_all E ok n
    obtain ⟨h1, h16, _⟩ := okT_node hok
    obtain hk | hk | hk | hk | hk | hk | hk | hk | hk | hk | hk | hk | hk | hk | hk | hk : t.kind = 1 ∨ t.kind = 2 ∨ t.kind = 3 ∨ t.kind = 4 ∨ t.kind = 5 ∨ t.kind = 6 ∨ t.kind = 7 ∨ t.kind = 8 ∨ t.kind = 9 ∨ t.kind = 10 ∨ t.kind = 11 ∨ t.kind = 12 ∨ t.kind = 13 ∨ t.kind = 14 ∨ t.kind = 15 ∨ t.kind = 16 := by omega
    · exact work_1 E ok n ih t it x xi F st w hk hok hx hi h
    · exact work_2 E ok n ih t it x xi F st w hk hok hx hi h
    · exact work_3 E ok n ih t it x xi F st w hk hok hx hi h
    · exact work_4 E ok n ih t it x xi F st w hk hok hx hi h
    · exact work_5 E ok n ih t it x xi F st w hk hok hx hi h
    · exact work_6 E ok n ih t it x xi F st w hk hok hx hi h
    · exact work_7 E ok n ih t it x xi F st w hk hok hx hi h
    · exact work_8 E ok n ih t it x xi F st w hk hok hx hi h
    · exact work_9 E ok n ih t it x xi F st w hk hok hx hi h
    · exact work_10 E ok n ih t it x xi F st w hk hok hx hi h
    · exact work_11 E ok n ih t it x xi F st w hk hok hx hi h
    · exact work_12 E ok n ih t it x xi F st w hk hok hx hi h
    · exact work_13 E ok n ih t it x xi F st w hk hok hx hi h
    · exact work_14 E ok n ih t it x xi F st w hk hok hx hi h
    · exact work_15 E ok n ih t it x xi F st w hk hok hx hi h
    · exact work_16 E ok n ih t it x xi F st w hk hok hx hi h
end Go.Proofs.YtpekpdimdelncaaGreatDoor
