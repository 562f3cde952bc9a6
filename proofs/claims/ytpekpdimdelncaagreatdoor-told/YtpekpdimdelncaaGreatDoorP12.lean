/- Out of: U6, U7, U7b. -/
import Derived.Test.YtpekpdimdelncaaGreatDoorP11
import Derived.Deep.RegionWith
namespace Go.Proofs.YtpekpdimdelncaaGreatDoor
set_option maxRecDepth 100000
set_option maxHeartbeats 4000000
open Go.RowKit Go.Shelf
theorem workFirst_key (E : Env) (ok : EnvOK E) (n : Nat) (ih : WorkSays E n) (t : Lard.T) (it : Option Lard.V) (x xi : Value) (F : Nat → Prop) (st : Nat × E.σ) (w : World) (hk : t.kind = 7) (hlen : t.parts.length = 1) (h0 : ∀ j, j < t.parts.length → Lard.okT n it.isSome (t.part j) = true) (hx : IsTree w (n + 1) t x) (hi : IsOpt w it xi) (h : St E F st w) (hbal : E.cnt st.2 + st.1 < 400) :
    Calls Tryz.prog 251 #[.pointer (some ⟨E.rb, 0, none⟩), x, xi] w (PW (Ψ E F w (Lard.firstE E.N (fun u s => Lard.ev E.N n u it s) t st))) := by
  obtain ⟨b, i, o, m, c, rfl, nd⟩ := hx.node
  obtain ⟨b0, q0, rfl, d0, ht0⟩ := nd.part 0 (by omega)
  have hcall := ih (t.part 0) it _ xi F st w (h0 0 (by omega)) ht0 hi h
  have hbal1 : E.cnt (Lard.ev E.N n (t.part 0) it st).2.2 + (Lard.ev E.N n (t.part 0) it st).2.1 < 400 := Nat.lt_of_le_of_lt (Lard.ev_cnt E.N E.cnt ok.cntN n (t.part 0) it st) hbal
  have hm := nd.len
  have hfirst : Lard.firstE E.N (fun u s => Lard.ev E.N n u it s) t st = Lard.thenR (Lard.ev E.N n (t.part 0) it st) fun v s => match Lard.keyOf v with | .ok k => Lard.needE E.N k s | .error e => (.error e, s) := by
    unfold Lard.firstE; rw [hk]; rfl
  rw [hfirst]
  obtain ⟨c0, _, _, _, c4⟩ := nd.cells w (Keeps.refl w)
  have e0 := d0 w (Keeps.refl w)
  have hq1 : (0 : Int) < (m : Int) := by omega
  have hform := hi.form
  rw [hk] at c0
  have ND := hide nd
  have HC := hide hcall
  have IH := hide ih
  have HI := hide hi
  clear hcall hfirst nd d0 ht0 hx ih hi hbal
  generalize Lard.ev E.N n (t.part 0) it st = q at HC hbal1 ⊢
  obtain ⟨r, st1⟩ := q
  have HBAL := hide hbal1
  clear hbal1
  generalize hrb : E.rb = rb at HC
  have HRB := hide hrb
  clear hrb
  cases r with
  | error e1 =>
    rcases hform with rfl | ⟨tx, ax, rfl⟩
    all_goals
      go_enter Tryz.func251, Tryz.ntmps251
      go_wp2_with fail
      refine HC.out.mono ?_
      rintro e w1 ⟨r, ⟨hr, hst⟩, ⟨v, y, hr2, rfl, hv⟩ | ⟨c1, hr2, rfl, hc⟩⟩
      · rw [hr] at hr2; cases hr2
      · rw [hr] at hr2; cases hr2
        exact ⟨rfl, .error e1, ⟨rfl, hst⟩, .inr ⟨e1, rfl, rfl, hc⟩⟩
  | ok v1 =>
    cases hkey : Lard.keyOf v1 with
    | ok k =>
      show Calls _ _ _ _ (PW (Ψ E F w (match Lard.keyOf v1 with | .ok k => Lard.needE E.N k st1 | .error e => (.error e, st1))))
      rw [hkey]
      show Calls _ _ _ _ (PW (Ψ E F w (Lard.needE E.N k st1)))
      have HKEY := hide hkey
      clear hkey
      rcases hform with rfl | ⟨tx, ax, rfl⟩
      all_goals
        go_enter Tryz.func251, Tryz.ntmps251
        go_wp2_with fail
        refine HC.out.mono ?_
        rintro e w1 ⟨r, ⟨hr, F1, hst, hF, hfm⟩, ⟨v, y, hr2, rfl, hv⟩ | ⟨c1, hr2, rfl, hc⟩⟩
        · rw [hr] at hr2; cases hr2
          obtain ⟨k0, k1, _, _, k4⟩ := ND.out.cells w1 hfm.keeps
          rw [hk] at k0
          obtain ⟨t1, a1, rfl⟩ := hv.one
          have HV := hide hv
          clear HC hv hr
          have HC2 := hide (keyOf_any w1 hst.g HV.out)
          go_wp2_with fail
          refine HC2.out.mono ?_
          rintro e w2 ⟨hB, hok, _⟩
          obtain rfl := hok k HKEY.out
          have hst2 := hst.below ok hB
          have hfm2 := hfm.trans (Fm.below hB (Nat.le_trans ok.baser (Nat.le_of_lt hst.lt)))
          have hn := needS_any E ok F1 st1 ⟨k.toArray⟩ w2 hst2 (by have := keyOf_len HV.out HKEY.out; show k.toArray.size ≤ 200; simpa using this) HBAL.out
          rw [HRB.out] at hn
          have HN := hide hn
          have HF2 := hide (fun (e : Ending) (w3 : World) (h : PW (Ψ E F1 w2 (Lard.needE E.N k st1)) e w3) => PW.after (F := F) (w := w) (fun k hk => hF k hk) hfm2 h)
          clear HC2 hn hok
          go_wp2_with fail
          refine HN.out.mono ?_
          rintro e w3 hp
          have hfin := HF2.out e w3 hp
          obtain ⟨r3, _, ⟨v3, y3, _, rfl, hv3⟩ | ⟨c3, _, rfl, _⟩⟩ := hp
          · obtain ⟨t3, a3, rfl⟩ := hv3.one
            have HFIN := hide hfin
            clear hfin hv3 HN HF2
            go_wp2_with fail
            go_ret
            exact HFIN.out
          · exact ⟨rfl, hfin⟩
        · rw [hr] at hr2; cases hr2
    | error c =>
      show Calls _ _ _ _ (PW (Ψ E F w (match Lard.keyOf v1 with | .ok k => Lard.needE E.N k st1 | .error e => (.error e, st1))))
      rw [hkey]
      show Calls _ _ _ _ (PW (Ψ E F w (.error c, st1)))
      have HKEY := hide hkey
      clear hkey
      rcases hform with rfl | ⟨tx, ax, rfl⟩
      all_goals
        go_enter Tryz.func251, Tryz.ntmps251
        go_wp2_with fail
        refine HC.out.mono ?_
        rintro e w1 ⟨r, ⟨hr, F1, hst, hF, hfm⟩, ⟨v, y, hr2, rfl, hv⟩ | ⟨c1, hr2, rfl, hc⟩⟩
        · rw [hr] at hr2; cases hr2
          obtain ⟨k0, k1, _, _, k4⟩ := ND.out.cells w1 hfm.keeps
          rw [hk] at k0
          obtain ⟨t1, a1, rfl⟩ := hv.one
          have HV := hide hv
          clear HC hv hr
          have HC2 := hide (keyOf_any w1 hst.g HV.out)
          go_wp2_with fail
          refine HC2.out.mono ?_
          rintro e w2 ⟨hB, _, herr⟩
          obtain ⟨rfl, hc9⟩ := herr c HKEY.out
          exact ⟨rfl, PW.of_pv ok hst hF hfm (PV.err hB) (fun c' hc' => by cases hc'; omega)⟩
        · rw [hr] at hr2; cases hr2
theorem workFirst_if (E : Env) (ok : EnvOK E) (n : Nat) (ih : WorkSays E n) (t : Lard.T) (it : Option Lard.V) (x xi : Value) (F : Nat → Prop) (st : Nat × E.σ) (w : World) (hk : t.kind = 9) (hlen : t.parts.length = 3) (h0 : ∀ j, j < t.parts.length → Lard.okT n it.isSome (t.part j) = true) (hx : IsTree w (n + 1) t x) (hi : IsOpt w it xi) (h : St E F st w) :
    Calls Tryz.prog 251 #[.pointer (some ⟨E.rb, 0, none⟩), x, xi] w (PW (Ψ E F w (Lard.firstE E.N (fun u s => Lard.ev E.N n u it s) t st))) := by
  obtain ⟨b, i, o, m, c, rfl, nd⟩ := hx.node
  obtain ⟨b0, q0, rfl, d0, ht0⟩ := nd.part 0 (by omega)
  have hcall := ih (t.part 0) it _ xi F st w (h0 0 (by omega)) ht0 hi h
  have hm := nd.len
  have hfirst : Lard.firstE E.N (fun u s => Lard.ev E.N n u it s) t st = Lard.thenR (Lard.ev E.N n (t.part 0) it st) fun v s => match Lard.numIn v with | .ok i => if i = 0 then Lard.ev E.N n (t.part 2) it s else Lard.ev E.N n (t.part 1) it s | .error e => (.error e, s) := by
    unfold Lard.firstE; rw [hk]; rfl
  rw [hfirst]
  obtain ⟨c0, _, _, _, c4⟩ := nd.cells w (Keeps.refl w)
  have e0 := d0 w (Keeps.refl w)
  have hq1 : (0 : Int) < (m : Int) := by omega
  have hform := hi.form
  rw [hk] at c0
  have ND := hide nd
  have HC := hide hcall
  have IH := hide ih
  have HI := hide hi
  clear hcall hfirst nd d0 ht0 hx ih hi
  generalize Lard.ev E.N n (t.part 0) it st = q at HC ⊢
  obtain ⟨r, st1⟩ := q
  generalize hrb : E.rb = rb at HC
  have HRB := hide hrb
  clear hrb
  cases r with
  | error e1 =>
    rcases hform with rfl | ⟨tx, ax, rfl⟩
    all_goals
      go_enter Tryz.func251, Tryz.ntmps251
      go_wp2_with fail
      refine HC.out.mono ?_
      rintro e w1 ⟨r, ⟨hr, hst⟩, ⟨v, y, hr2, rfl, hv⟩ | ⟨c1, hr2, rfl, hc⟩⟩
      · rw [hr] at hr2; cases hr2
      · rw [hr] at hr2; cases hr2
        exact ⟨rfl, .error e1, ⟨rfl, hst⟩, .inr ⟨e1, rfl, rfl, hc⟩⟩
  | ok v1 =>
    cases hnum : Lard.numIn v1 with
    | ok z =>
      show Calls _ _ _ _ (PW (Ψ E F w (match Lard.numIn v1 with | .ok i => if i = 0 then Lard.ev E.N n (t.part 2) it st1 else Lard.ev E.N n (t.part 1) it st1 | .error e => (.error e, st1))))
      rw [hnum]
      have HNUM := hide hnum
      clear hnum
      by_cases hz : z = 0
      · show Calls _ _ _ _ (PW (Ψ E F w (if z = 0 then Lard.ev E.N n (t.part 2) it st1 else Lard.ev E.N n (t.part 1) it st1)))
        rw [if_pos hz]
        subst hz
        rcases hform with rfl | ⟨tx, ax, rfl⟩
        all_goals
          go_enter Tryz.func251, Tryz.ntmps251
          go_wp2_with fail
          refine HC.out.mono ?_
          rintro e w1 ⟨r, ⟨hr, F1, hst, hF, hfm⟩, ⟨v, y, hr2, rfl, hv⟩ | ⟨c1, hr2, rfl, hc⟩⟩
          · rw [hr] at hr2; cases hr2
            obtain ⟨k0, k1, _, _, k4⟩ := ND.out.cells w1 hfm.keeps
            rw [hk] at k0
            obtain ⟨t1, a1, rfl⟩ := hv.one
            have HV := hide hv
            clear HC hv hr
            have hnum : Lard.numIn v1 = .ok 0 := HNUM.out
            rcases HV.out.num_or with ⟨i', rfl, hx', _⟩ | ⟨hno, _⟩
            · cases hnum
              cases hx'
              obtain ⟨bj, qj, ebj, dj, htj⟩ := ND.out.part 2 (by omega)
              cases ebj
              have ej := dj w1 hfm.keeps
              have hw := IH.out (t.part 2) it _ _ F1 st1 w1 (h0 2 (by omega)) (htj.keeps hfm.keeps) (HI.out.keeps hfm.keeps) hst
              rw [HRB.out] at hw
              have HW := hide hw
              have HF2 := hide (fun (e : Ending) (w3 : World) (h : PW (Ψ E F1 w1 (Lard.ev E.N n (t.part 2) it st1)) e w3) => PW.after (F := F) (w := w) hF hfm h)
              have hqj : (2 : Int) < (m : Int) := by omega
              clear hw dj htj IH ND HI h0
              go_wp2_with (go_at_call 280; refine (numberIn_ok _ _).mono ?_; rintro e w2 ⟨rfl, rfl⟩)
              refine HW.out.mono ?_
              rintro e w3 hp
              have hfin := HF2.out e w3 hp
              obtain ⟨r3, _, ⟨v3, y3, _, rfl, hv3⟩ | ⟨c3, _, rfl, _⟩⟩ := hp
              · obtain ⟨t3, a3, rfl⟩ := hv3.one
                have HFIN := hide hfin
                clear hfin hv3 HW HF2
                go_wp2_with fail
                go_ret
                exact HFIN.out
              · exact ⟨rfl, hfin⟩
            · exfalso
              rcases v1 with ⟨k | b | l⟩
              · exact hno k rfl
              · cases hnum
              · cases hnum
          · rw [hr] at hr2; cases hr2
      · show Calls _ _ _ _ (PW (Ψ E F w (if z = 0 then Lard.ev E.N n (t.part 2) it st1 else Lard.ev E.N n (t.part 1) it st1)))
        rw [if_neg hz]
        have hz' : (z != 0) = true := by rw [bne_iff_ne]; exact hz
        clear hz
        rcases hform with rfl | ⟨tx, ax, rfl⟩
        all_goals
          go_enter Tryz.func251, Tryz.ntmps251
          go_wp2_with fail
          refine HC.out.mono ?_
          rintro e w1 ⟨r, ⟨hr, F1, hst, hF, hfm⟩, ⟨v, y, hr2, rfl, hv⟩ | ⟨c1, hr2, rfl, hc⟩⟩
          · rw [hr] at hr2; cases hr2
            obtain ⟨k0, k1, _, _, k4⟩ := ND.out.cells w1 hfm.keeps
            rw [hk] at k0
            obtain ⟨t1, a1, rfl⟩ := hv.one
            have HV := hide hv
            clear HC hv hr
            have hnum : Lard.numIn v1 = .ok z := HNUM.out
            rcases HV.out.num_or with ⟨i', rfl, hx', _⟩ | ⟨hno, _⟩
            · cases hnum
              cases hx'
              obtain ⟨bj, qj, ebj, dj, htj⟩ := ND.out.part 1 (by omega)
              cases ebj
              have ej := dj w1 hfm.keeps
              have hw := IH.out (t.part 1) it _ _ F1 st1 w1 (h0 1 (by omega)) (htj.keeps hfm.keeps) (HI.out.keeps hfm.keeps) hst
              rw [HRB.out] at hw
              have HW := hide hw
              have HF2 := hide (fun (e : Ending) (w3 : World) (h : PW (Ψ E F1 w1 (Lard.ev E.N n (t.part 1) it st1)) e w3) => PW.after (F := F) (w := w) hF hfm h)
              have hqj : (1 : Int) < (m : Int) := by omega
              clear hw dj htj IH ND HI h0
              go_wp2_with (go_at_call 280; refine (numberIn_ok _ _).mono ?_; rintro e w2 ⟨rfl, rfl⟩)
              refine HW.out.mono ?_
              rintro e w3 hp
              have hfin := HF2.out e w3 hp
              obtain ⟨r3, _, ⟨v3, y3, _, rfl, hv3⟩ | ⟨c3, _, rfl, _⟩⟩ := hp
              · obtain ⟨t3, a3, rfl⟩ := hv3.one
                have HFIN := hide hfin
                clear hfin hv3 HW HF2
                go_wp2_with fail
                go_ret
                exact HFIN.out
              · exact ⟨rfl, hfin⟩
            · exfalso
              rcases v1 with ⟨k | b | l⟩
              · exact hno k rfl
              · cases hnum
              · cases hnum
          · rw [hr] at hr2; cases hr2
    | error c =>
      show Calls _ _ _ _ (PW (Ψ E F w (match Lard.numIn v1 with | .ok i => if i = 0 then Lard.ev E.N n (t.part 2) it st1 else Lard.ev E.N n (t.part 1) it st1 | .error e => (.error e, st1))))
      rw [hnum]
      have hc9 : c = 9 := by
        rcases v1 with ⟨k | b | l⟩ <;> cases hnum <;> rfl
      subst hc9
      show Calls _ _ _ _ (PW (Ψ E F w (.error 9, st1)))
      have HNUM := hide hnum
      clear hnum
      rcases hform with rfl | ⟨tx, ax, rfl⟩
      all_goals
        go_enter Tryz.func251, Tryz.ntmps251
        go_wp2_with fail
        refine HC.out.mono ?_
        rintro e w1 ⟨r, ⟨hr, F1, hst, hF, hfm⟩, ⟨v, y, hr2, rfl, hv⟩ | ⟨c1, hr2, rfl, hc⟩⟩
        · rw [hr] at hr2; cases hr2
          obtain ⟨k0, k1, _, _, k4⟩ := ND.out.cells w1 hfm.keeps
          rw [hk] at k0
          obtain ⟨t1, a1, rfl⟩ := hv.one
          have HV := hide hv
          clear HC hv hr
          have hnum : Lard.numIn v1 = .error 9 := HNUM.out
          rcases HV.out.num_or with ⟨i', rfl, hx', _⟩ | ⟨_, t', a', hx', ht⟩
          · cases hnum
          · cases hx'
            go_wp2_with fail
            refine (numberIn_no _ _ _ ht).mono ?_
            rintro e w2 ⟨rfl, rfl⟩
            exact ⟨rfl, PW.of_pv ok hst hF hfm (PV.err (Below.refl _ _)) (fun c' hc' => by cases hc'; omega)⟩
        · rw [hr] at hr2; cases hr2
end Go.Proofs.YtpekpdimdelncaaGreatDoor
namespace Go.Proofs.YtpekpdimdelncaaGreatDoor
set_option maxRecDepth 100000
set_option maxHeartbeats 4000000
open Go.RowKit Go.Shelf
theorem make_any (op : Nat) (hop : op = 43 ∨ op = 45 ∨ op = 42 ∨ op = 47 ∨ op = 60 ∨ op = 61 ∨ op = 109 ∨ op = 120 ∨ op = 64) {v u : Lard.V} {x y : Value} (w : World) (hx : IsVal w 3 v x) (hy : IsVal w 3 u y) :
    Calls Tryz.prog 281 #[.int .u8 (op : Int), x, y] w (PV w (Lard.make op v u)) := by
  rcases hop with rfl | rfl | rfl | rfl | rfl | rfl | rfl | rfl | rfl
  · exact make_plus w hx hy
  · exact make_minus w hx hy
  · exact make_times w hx hy
  · exact make_over w hx hy
  · exact make_less w hx hy
  · exact make_same w hx hy
  · exact make_least w hx hy
  · exact make_most w hx hy
  · exact make_at w hx hy
theorem workFirst_operator (E : Env) (ok : EnvOK E) (n : Nat) (ih : WorkSays E n) (t : Lard.T) (it : Option Lard.V) (x xi : Value) (F : Nat → Prop) (st : Nat × E.σ) (w : World) (hk : t.kind = 1) (hlen : t.parts.length = 2) (h0 : ∀ j, j < t.parts.length → Lard.okT n it.isSome (t.part j) = true) (hop : t.op = 43 ∨ t.op = 45 ∨ t.op = 42 ∨ t.op = 47 ∨ t.op = 60 ∨ t.op = 61 ∨ t.op = 109 ∨ t.op = 120 ∨ t.op = 64) (hx : IsTree w (n + 1) t x) (hi : IsOpt w it xi) (h : St E F st w) :
    Calls Tryz.prog 251 #[.pointer (some ⟨E.rb, 0, none⟩), x, xi] w (PW (Ψ E F w (Lard.firstE E.N (fun u s => Lard.ev E.N n u it s) t st))) := by
  obtain ⟨b, i, o, m, c, rfl, nd⟩ := hx.node
  obtain ⟨b0, q0, rfl, d0, ht0⟩ := nd.part 0 (by omega)
  have hcall := ih (t.part 0) it _ xi F st w (h0 0 (by omega)) ht0 hi h
  have hm := nd.len
  have hfirst : Lard.firstE E.N (fun u s => Lard.ev E.N n u it s) t st = Lard.thenR (Lard.ev E.N n (t.part 0) it st) fun v s => Lard.thenR (Lard.ev E.N n (t.part 1) it s) fun u s => (Lard.make t.op v u, s) := by
    unfold Lard.firstE; rw [hk]; rfl
  rw [hfirst]
  obtain ⟨c0, _, _, _, c4⟩ := nd.cells w (Keeps.refl w)
  have e0 := d0 w (Keeps.refl w)
  have hq1 : (0 : Int) < (m : Int) := by omega
  have hform := hi.form
  rw [hk] at c0
  have ND := hide nd
  have HC := hide hcall
  have IH := hide ih
  have HI := hide hi
  clear hcall hfirst nd d0 ht0 hx ih hi
  generalize Lard.ev E.N n (t.part 0) it st = q at HC ⊢
  obtain ⟨r, st1⟩ := q
  generalize hrb : E.rb = rb at HC
  have HRB := hide hrb
  clear hrb
  cases r with
  | error e1 =>
    rcases hform with rfl | ⟨tx, ax, rfl⟩
    all_goals
      go_enter Tryz.func251, Tryz.ntmps251
      go_wp2_with fail
      refine HC.out.mono ?_
      rintro e w1 ⟨r, ⟨hr, hst⟩, ⟨v, y, hr2, rfl, hv⟩ | ⟨c1, hr2, rfl, hc⟩⟩
      · rw [hr] at hr2; cases hr2
      · rw [hr] at hr2; cases hr2
        exact ⟨rfl, .error e1, ⟨rfl, hst⟩, .inr ⟨e1, rfl, rfl, hc⟩⟩
  | ok v1 =>
    show Calls _ _ _ _ (PW (Ψ E F w (Lard.thenR (Lard.ev E.N n (t.part 1) it st1) fun u s => (Lard.make t.op v1 u, s))))
    generalize hq2 : Lard.ev E.N n (t.part 1) it st1 = q2
    obtain ⟨r2, st2⟩ := q2
    have HQ2 := hide hq2
    clear hq2
    cases r2 with
    | error e2 =>
      show Calls _ _ _ _ (PW (Ψ E F w (.error e2, st2)))
      go_enter Tryz.func251, Tryz.ntmps251
      go_wp2_with fail
      refine HC.out.mono ?_
      rintro e w1 ⟨r, ⟨hr, F1, hst, hF, hfm⟩, ⟨v, y, hr2, rfl, hv⟩ | ⟨c1, hr2, rfl, hc⟩⟩
      · rw [hr] at hr2; cases hr2
        obtain ⟨k0, k1, _, _, k4⟩ := ND.out.cells w1 hfm.keeps
        rw [hk] at k0
        obtain ⟨t1, a1, rfl⟩ := hv.one
        have HV := hide hv
        clear HC hv hr
        obtain ⟨bj, qj, ebj, dj, htj⟩ := ND.out.part 1 (by omega)
        cases ebj
        have ej := dj w1 hfm.keeps
        have hBd : Below w1.heap.size w1 w1.drew := (Below.refl _ w1).drew
        have hstd := hst.below ok hBd
        have hfmd : Fm E.base w w1.drew := hfm.trans (Fm.below hBd (Nat.le_trans ok.baser (Nat.le_of_lt hst.lt)))
        have hFd : ∀ k, F1 k → F k ∨ w.heap.size ≤ k := hF
        have hw := IH.out (t.part 1) it _ _ F1 st1 w1.drew (h0 1 (by omega)) (htj.keeps hfmd.keeps) (HI.out.keeps hfmd.keeps) hstd
        rw [HRB.out, HQ2.out] at hw
        have hqj : (1 : Int) < (m : Int) := by omega
        have HW := hide (hw.mono (R' := fun e w3 => e = broken e2 ∧ PW (Ψ E F w (.error e2, st2)) (broken e2) w3) (fun e w3 hp => by
          have hfin := PW.after hFd hfmd hp
          obtain ⟨r3, ⟨hr3, _⟩, ⟨v3, y3, h3, _⟩ | ⟨c3, h3, rfl, _⟩⟩ := hp
          · rw [hr3] at h3; cases h3
          · rw [hr3] at h3; cases h3
            exact ⟨rfl, hfin⟩))
        clear hw dj htj IH ND HI h0 hstd hfmd hFd
        go_wp2_with fail
        go_region_with (go_at_call 203; refine HW.out.mono ?_; rintro e w3 ⟨rfl, hfin⟩; refine dies (md := .text) (a := ⟨#[], []⟩) (w := w) ⟨rfl, hfin⟩ ?_)
        all_goals trivial
      · rw [hr] at hr2; cases hr2
    | ok u2 =>
      show Calls _ _ _ _ (PW (Ψ E F w (Lard.make t.op v1 u2, st2)))
      generalize hres : Lard.make t.op v1 u2 = res
      have HRES := hide hres
      clear hres
      cases res with
      | error c2 =>
        go_enter Tryz.func251, Tryz.ntmps251
        go_wp2_with fail
        refine HC.out.mono ?_
        rintro e w1 ⟨r, ⟨hr, F1, hst, hF, hfm⟩, ⟨v, y, hr2, rfl, hv⟩ | ⟨c1, hr2, rfl, hc⟩⟩
        · rw [hr] at hr2; cases hr2
          obtain ⟨k0, k1, _, _, k4⟩ := ND.out.cells w1 hfm.keeps
          rw [hk] at k0
          obtain ⟨t1, a1, rfl⟩ := hv.one
          have HV := hide hv
          clear HC hv hr
          obtain ⟨bj, qj, ebj, dj, htj⟩ := ND.out.part 1 (by omega)
          cases ebj
          have ej := dj w1 hfm.keeps
          have hBd : Below w1.heap.size w1 w1.drew := (Below.refl _ w1).drew
          have hstd := hst.below ok hBd
          have hfmd : Fm E.base w w1.drew := hfm.trans (Fm.below hBd (Nat.le_trans ok.baser (Nat.le_of_lt hst.lt)))
          have hFd : ∀ k, F1 k → F k ∨ w.heap.size ≤ k := hF
          have hw := IH.out (t.part 1) it _ _ F1 st1 w1.drew (h0 1 (by omega)) (htj.keeps hfmd.keeps) (HI.out.keeps hfmd.keeps) hstd
          rw [HRB.out, HQ2.out] at hw
          have hqj : (1 : Int) < (m : Int) := by omega
          have HW := hide (hw.mono (R' := fun e w3 => ∃ t2 a2, e = .returned (.iface t2 a2) ∧ w3.cell? ⟨b, 1, none⟩ = some (.int .u8 (t.op : Int)) ∧ Hid (Calls Tryz.prog 281 #[.int .u8 (t.op : Int), .iface t1 a1, .iface t2 a2] w3 fun e w4 => (∀ c, (Except.error c2 : Except Nat Lard.V) = .error c → e = broken c) ∧ (∀ vv, (Except.error c2 : Except Nat Lard.V) = .ok vv → ∃ t4 a4, e = .returned (.iface t4 a4)) ∧ PW (Ψ E F w (.error c2, st2)) e w4)) (fun e w3 hp => by
            obtain ⟨r3, ⟨hr3, F3, hst3, hF3, hfm3⟩, ⟨v3, y3, h3, rfl, hv3⟩ | ⟨c3, h3, rfl, _⟩⟩ := hp
            · rw [hr3] at h3; cases h3
              obtain ⟨t2, a2, rfl⟩ := hv3.one
              have hfm4 := hfmd.trans hfm3
              refine ⟨t2, a2, rfl, (ND.out.cells w3 hfm4.keeps).2.1, ?_⟩
              have hmk := make_any t.op hop w3 (HV.out.keeps ((Fm.below hBd (Nat.le_trans ok.baser (Nat.le_of_lt hst.lt)) : Fm E.base w1 w1.drew).trans hfm3).keeps) hv3
              rw [HRES.out] at hmk
              exact hmk.mono fun e w4 hpv => ⟨hpv.2.2, fun vv hvv => by obtain ⟨y, rfl, hy⟩ := hpv.2.1 vv hvv; obtain ⟨t4, a4, rfl⟩ := hy.one; exact ⟨t4, a4, rfl⟩, PW.of_pv ok hst3 (fun k hk => by
                rcases hF3 k hk with h' | h'
                · exact hFd k h'
                · exact .inr (Nat.le_trans hfmd.size h')) hfm4 hpv (fun c hc => make_err (HRES.out.trans hc))⟩
            · rw [hr3] at h3; cases h3))
          clear hw dj htj IH ND HI h0 hstd hfmd hFd
          go_wp2_with fail
          go_region_with (first | (go_at_call 203; refine HW.out.mono ?_; clear HW; rintro e w3 ⟨t2, a2, rfl, k1', HM⟩) | (go_at_call 281; refine HM.out.mono ?_; rintro e w4 ⟨he, _, hfin⟩; obtain rfl := he _ rfl; refine dies (md := .text) (a := ⟨#[], []⟩) (w := w) ⟨rfl, hfin⟩ ?_))
          all_goals trivial
        · rw [hr] at hr2; cases hr2
      | ok v2 =>
        go_enter Tryz.func251, Tryz.ntmps251
        go_wp2_with fail
        refine HC.out.mono ?_
        rintro e w1 ⟨r, ⟨hr, F1, hst, hF, hfm⟩, ⟨v, y, hr2, rfl, hv⟩ | ⟨c1, hr2, rfl, hc⟩⟩
        · rw [hr] at hr2; cases hr2
          obtain ⟨k0, k1, _, _, k4⟩ := ND.out.cells w1 hfm.keeps
          rw [hk] at k0
          obtain ⟨t1, a1, rfl⟩ := hv.one
          have HV := hide hv
          clear HC hv hr
          obtain ⟨bj, qj, ebj, dj, htj⟩ := ND.out.part 1 (by omega)
          cases ebj
          have ej := dj w1 hfm.keeps
          have hBd : Below w1.heap.size w1 w1.drew := (Below.refl _ w1).drew
          have hstd := hst.below ok hBd
          have hfmd : Fm E.base w w1.drew := hfm.trans (Fm.below hBd (Nat.le_trans ok.baser (Nat.le_of_lt hst.lt)))
          have hFd : ∀ k, F1 k → F k ∨ w.heap.size ≤ k := hF
          have hw := IH.out (t.part 1) it _ _ F1 st1 w1.drew (h0 1 (by omega)) (htj.keeps hfmd.keeps) (HI.out.keeps hfmd.keeps) hstd
          rw [HRB.out, HQ2.out] at hw
          have hqj : (1 : Int) < (m : Int) := by omega
          have HW := hide (hw.mono (R' := fun e w3 => ∃ t2 a2, e = .returned (.iface t2 a2) ∧ w3.cell? ⟨b, 1, none⟩ = some (.int .u8 (t.op : Int)) ∧ Hid (Calls Tryz.prog 281 #[.int .u8 (t.op : Int), .iface t1 a1, .iface t2 a2] w3 fun e w4 => (∀ c, (Except.ok v2 : Except Nat Lard.V) = .error c → e = broken c) ∧ (∀ vv, (Except.ok v2 : Except Nat Lard.V) = .ok vv → ∃ t4 a4, e = .returned (.iface t4 a4)) ∧ PW (Ψ E F w (.ok v2, st2)) e w4)) (fun e w3 hp => by
            obtain ⟨r3, ⟨hr3, F3, hst3, hF3, hfm3⟩, ⟨v3, y3, h3, rfl, hv3⟩ | ⟨c3, h3, rfl, _⟩⟩ := hp
            · rw [hr3] at h3; cases h3
              obtain ⟨t2, a2, rfl⟩ := hv3.one
              have hfm4 := hfmd.trans hfm3
              refine ⟨t2, a2, rfl, (ND.out.cells w3 hfm4.keeps).2.1, ?_⟩
              have hmk := make_any t.op hop w3 (HV.out.keeps ((Fm.below hBd (Nat.le_trans ok.baser (Nat.le_of_lt hst.lt)) : Fm E.base w1 w1.drew).trans hfm3).keeps) hv3
              rw [HRES.out] at hmk
              exact hmk.mono fun e w4 hpv => ⟨hpv.2.2, fun vv hvv => by obtain ⟨y, rfl, hy⟩ := hpv.2.1 vv hvv; obtain ⟨t4, a4, rfl⟩ := hy.one; exact ⟨t4, a4, rfl⟩, PW.of_pv ok hst3 (fun k hk => by
                rcases hF3 k hk with h' | h'
                · exact hFd k h'
                · exact .inr (Nat.le_trans hfmd.size h')) hfm4 hpv (fun c hc => make_err (HRES.out.trans hc))⟩
            · rw [hr3] at h3; cases h3))
          clear hw dj htj IH ND HI h0 hstd hfmd hFd
          go_wp2_with fail
          go_region_with (first | (go_at_call 203; refine HW.out.mono ?_; clear HW; rintro e w3 ⟨t2, a2, rfl, k1', HM⟩) | (go_at_call 281; refine HM.out.mono ?_; rintro e w4 ⟨_, ho, hfin⟩; obtain ⟨t4, a4, rfl⟩ := ho _ rfl; have HFIN := hide hfin; clear hfin ho HM))
          all_goals go_wp2_with fail
          all_goals go_ret
          all_goals exact HFIN.out
        · rw [hr] at hr2; cases hr2
end Go.Proofs.YtpekpdimdelncaaGreatDoor
namespace Go.Proofs.YtpekpdimdelncaaGreatDoor
set_option maxRecDepth 100000
set_option maxHeartbeats 4000000
open Go.RowKit Go.Shelf
theorem workFirst_both (E : Env) (ok : EnvOK E) (n : Nat) (ih : WorkSays E n) (t : Lard.T) (it : Option Lard.V) (x xi : Value) (F : Nat → Prop) (st : Nat × E.σ) (w : World) (hk : t.kind = 13) (hlen : t.parts.length = 2) (h0 : ∀ j, j < t.parts.length → Lard.okT n it.isSome (t.part j) = true) (hop : t.op = 43 ∨ t.op = 45 ∨ t.op = 42 ∨ t.op = 47 ∨ t.op = 60 ∨ t.op = 61 ∨ t.op = 109 ∨ t.op = 120 ∨ t.op = 64) (hx : IsTree w (n + 1) t x) (hi : IsOpt w it xi) (h : St E F st w) :
    Calls Tryz.prog 251 #[.pointer (some ⟨E.rb, 0, none⟩), x, xi] w (PW (Ψ E F w (Lard.firstE E.N (fun u s => Lard.ev E.N n u it s) t st))) := by
  obtain ⟨b, i, o, m, c, rfl, nd⟩ := hx.node
  obtain ⟨b0, q0, rfl, d0, ht0⟩ := nd.part 0 (by omega)
  have hcall := ih (t.part 0) it _ xi F st w (h0 0 (by omega)) ht0 hi h
  have hm := nd.len
  have hfirst : Lard.firstE E.N (fun u s => Lard.ev E.N n u it s) t st = Lard.thenR (Lard.ev E.N n (t.part 0) it st) fun v s => Lard.thenR (Lard.ev E.N n (t.part 1) it s) fun u s => (Lard.make t.op v u, s) := by
    unfold Lard.firstE; rw [hk]; rfl
  rw [hfirst]
  obtain ⟨c0, _, _, _, c4⟩ := nd.cells w (Keeps.refl w)
  have e0 := d0 w (Keeps.refl w)
  have hq1 : (0 : Int) < (m : Int) := by omega
  have hform := hi.form
  rw [hk] at c0
  have ND := hide nd
  have HC := hide hcall
  have IH := hide ih
  have HI := hide hi
  clear hcall hfirst nd d0 ht0 hx ih hi
  generalize Lard.ev E.N n (t.part 0) it st = q at HC ⊢
  obtain ⟨r, st1⟩ := q
  generalize hrb : E.rb = rb at HC
  have HRB := hide hrb
  clear hrb
  cases r with
  | error e1 =>
    rcases hform with rfl | ⟨tx, ax, rfl⟩
    all_goals
      go_enter Tryz.func251, Tryz.ntmps251
      go_wp2_with fail
      refine HC.out.mono ?_
      rintro e w1 ⟨r, ⟨hr, hst⟩, ⟨v, y, hr2, rfl, hv⟩ | ⟨c1, hr2, rfl, hc⟩⟩
      · rw [hr] at hr2; cases hr2
      · rw [hr] at hr2; cases hr2
        exact ⟨rfl, .error e1, ⟨rfl, hst⟩, .inr ⟨e1, rfl, rfl, hc⟩⟩
  | ok v1 =>
    show Calls _ _ _ _ (PW (Ψ E F w (Lard.thenR (Lard.ev E.N n (t.part 1) it st1) fun u s => (Lard.make t.op v1 u, s))))
    generalize hq2 : Lard.ev E.N n (t.part 1) it st1 = q2
    obtain ⟨r2, st2⟩ := q2
    have HQ2 := hide hq2
    clear hq2
    cases r2 with
    | error e2 =>
      show Calls _ _ _ _ (PW (Ψ E F w (.error e2, st2)))
      go_enter Tryz.func251, Tryz.ntmps251
      go_wp2_with fail
      refine HC.out.mono ?_
      rintro e w1 ⟨r, ⟨hr, F1, hst, hF, hfm⟩, ⟨v, y, hr2, rfl, hv⟩ | ⟨c1, hr2, rfl, hc⟩⟩
      · rw [hr] at hr2; cases hr2
        obtain ⟨k0, k1, _, _, k4⟩ := ND.out.cells w1 hfm.keeps
        rw [hk] at k0
        obtain ⟨t1, a1, rfl⟩ := hv.one
        have HV := hide hv
        clear HC hv hr
        obtain ⟨bj, qj, ebj, dj, htj⟩ := ND.out.part 1 (by omega)
        cases ebj
        have ej := dj w1 hfm.keeps
        have hBd : Below w1.heap.size w1 w1.drew := (Below.refl _ w1).drew
        have hstd := hst.below ok hBd
        have hfmd : Fm E.base w w1.drew := hfm.trans (Fm.below hBd (Nat.le_trans ok.baser (Nat.le_of_lt hst.lt)))
        have hFd : ∀ k, F1 k → F k ∨ w.heap.size ≤ k := hF
        have hw := IH.out (t.part 1) it _ _ F1 st1 w1.drew (h0 1 (by omega)) (htj.keeps hfmd.keeps) (HI.out.keeps hfmd.keeps) hstd
        rw [HRB.out, HQ2.out] at hw
        have hqj : (1 : Int) < (m : Int) := by omega
        have HW := hide (hw.mono (R' := fun e w3 => e = broken e2 ∧ PW (Ψ E F w (.error e2, st2)) (broken e2) w3) (fun e w3 hp => by
          have hfin := PW.after hFd hfmd hp
          obtain ⟨r3, ⟨hr3, _⟩, ⟨v3, y3, h3, _⟩ | ⟨c3, h3, rfl, _⟩⟩ := hp
          · rw [hr3] at h3; cases h3
          · rw [hr3] at h3; cases h3
            exact ⟨rfl, hfin⟩))
        clear hw dj htj IH ND HI h0 hstd hfmd hFd
        go_wp2_with fail
        go_region_with (go_at_call 203; refine HW.out.mono ?_; rintro e w3 ⟨rfl, hfin⟩; refine dies (md := .text) (a := ⟨#[], []⟩) (w := w) ⟨rfl, hfin⟩ ?_)
        all_goals trivial
      · rw [hr] at hr2; cases hr2
    | ok u2 =>
      show Calls _ _ _ _ (PW (Ψ E F w (Lard.make t.op v1 u2, st2)))
      generalize hres : Lard.make t.op v1 u2 = res
      have HRES := hide hres
      clear hres
      cases res with
      | error c2 =>
        go_enter Tryz.func251, Tryz.ntmps251
        go_wp2_with fail
        refine HC.out.mono ?_
        rintro e w1 ⟨r, ⟨hr, F1, hst, hF, hfm⟩, ⟨v, y, hr2, rfl, hv⟩ | ⟨c1, hr2, rfl, hc⟩⟩
        · rw [hr] at hr2; cases hr2
          obtain ⟨k0, k1, _, _, k4⟩ := ND.out.cells w1 hfm.keeps
          rw [hk] at k0
          obtain ⟨t1, a1, rfl⟩ := hv.one
          have HV := hide hv
          clear HC hv hr
          obtain ⟨bj, qj, ebj, dj, htj⟩ := ND.out.part 1 (by omega)
          cases ebj
          have ej := dj w1 hfm.keeps
          have hBd : Below w1.heap.size w1 w1.drew := (Below.refl _ w1).drew
          have hstd := hst.below ok hBd
          have hfmd : Fm E.base w w1.drew := hfm.trans (Fm.below hBd (Nat.le_trans ok.baser (Nat.le_of_lt hst.lt)))
          have hFd : ∀ k, F1 k → F k ∨ w.heap.size ≤ k := hF
          have hw := IH.out (t.part 1) it _ _ F1 st1 w1.drew (h0 1 (by omega)) (htj.keeps hfmd.keeps) (HI.out.keeps hfmd.keeps) hstd
          rw [HRB.out, HQ2.out] at hw
          have hqj : (1 : Int) < (m : Int) := by omega
          have HW := hide (hw.mono (R' := fun e w3 => ∃ t2 a2, e = .returned (.iface t2 a2) ∧ w3.cell? ⟨b, 1, none⟩ = some (.int .u8 (t.op : Int)) ∧ Hid (Calls Tryz.prog 281 #[.int .u8 (t.op : Int), .iface t1 a1, .iface t2 a2] w3 fun e w4 => (∀ c, (Except.error c2 : Except Nat Lard.V) = .error c → e = broken c) ∧ (∀ vv, (Except.error c2 : Except Nat Lard.V) = .ok vv → ∃ t4 a4, e = .returned (.iface t4 a4)) ∧ PW (Ψ E F w (.error c2, st2)) e w4)) (fun e w3 hp => by
            obtain ⟨r3, ⟨hr3, F3, hst3, hF3, hfm3⟩, ⟨v3, y3, h3, rfl, hv3⟩ | ⟨c3, h3, rfl, _⟩⟩ := hp
            · rw [hr3] at h3; cases h3
              obtain ⟨t2, a2, rfl⟩ := hv3.one
              have hfm4 := hfmd.trans hfm3
              refine ⟨t2, a2, rfl, (ND.out.cells w3 hfm4.keeps).2.1, ?_⟩
              have hmk := make_any t.op hop w3 (HV.out.keeps ((Fm.below hBd (Nat.le_trans ok.baser (Nat.le_of_lt hst.lt)) : Fm E.base w1 w1.drew).trans hfm3).keeps) hv3
              rw [HRES.out] at hmk
              exact hmk.mono fun e w4 hpv => ⟨hpv.2.2, fun vv hvv => by obtain ⟨y, rfl, hy⟩ := hpv.2.1 vv hvv; obtain ⟨t4, a4, rfl⟩ := hy.one; exact ⟨t4, a4, rfl⟩, PW.of_pv ok hst3 (fun k hk => by
                rcases hF3 k hk with h' | h'
                · exact hFd k h'
                · exact .inr (Nat.le_trans hfmd.size h')) hfm4 hpv (fun c hc => make_err (HRES.out.trans hc))⟩
            · rw [hr3] at h3; cases h3))
          clear hw dj htj IH ND HI h0 hstd hfmd hFd
          go_wp2_with fail
          go_region_with (first | (go_at_call 203; refine HW.out.mono ?_; clear HW; rintro e w3 ⟨t2, a2, rfl, k1', HM⟩) | (go_at_call 281; refine HM.out.mono ?_; rintro e w4 ⟨he, _, hfin⟩; obtain rfl := he _ rfl; refine dies (md := .text) (a := ⟨#[], []⟩) (w := w) ⟨rfl, hfin⟩ ?_))
          all_goals trivial
        · rw [hr] at hr2; cases hr2
      | ok v2 =>
        go_enter Tryz.func251, Tryz.ntmps251
        go_wp2_with fail
        refine HC.out.mono ?_
        rintro e w1 ⟨r, ⟨hr, F1, hst, hF, hfm⟩, ⟨v, y, hr2, rfl, hv⟩ | ⟨c1, hr2, rfl, hc⟩⟩
        · rw [hr] at hr2; cases hr2
          obtain ⟨k0, k1, _, _, k4⟩ := ND.out.cells w1 hfm.keeps
          rw [hk] at k0
          obtain ⟨t1, a1, rfl⟩ := hv.one
          have HV := hide hv
          clear HC hv hr
          obtain ⟨bj, qj, ebj, dj, htj⟩ := ND.out.part 1 (by omega)
          cases ebj
          have ej := dj w1 hfm.keeps
          have hBd : Below w1.heap.size w1 w1.drew := (Below.refl _ w1).drew
          have hstd := hst.below ok hBd
          have hfmd : Fm E.base w w1.drew := hfm.trans (Fm.below hBd (Nat.le_trans ok.baser (Nat.le_of_lt hst.lt)))
          have hFd : ∀ k, F1 k → F k ∨ w.heap.size ≤ k := hF
          have hw := IH.out (t.part 1) it _ _ F1 st1 w1.drew (h0 1 (by omega)) (htj.keeps hfmd.keeps) (HI.out.keeps hfmd.keeps) hstd
          rw [HRB.out, HQ2.out] at hw
          have hqj : (1 : Int) < (m : Int) := by omega
          have HW := hide (hw.mono (R' := fun e w3 => ∃ t2 a2, e = .returned (.iface t2 a2) ∧ w3.cell? ⟨b, 1, none⟩ = some (.int .u8 (t.op : Int)) ∧ Hid (Calls Tryz.prog 281 #[.int .u8 (t.op : Int), .iface t1 a1, .iface t2 a2] w3 fun e w4 => (∀ c, (Except.ok v2 : Except Nat Lard.V) = .error c → e = broken c) ∧ (∀ vv, (Except.ok v2 : Except Nat Lard.V) = .ok vv → ∃ t4 a4, e = .returned (.iface t4 a4)) ∧ PW (Ψ E F w (.ok v2, st2)) e w4)) (fun e w3 hp => by
            obtain ⟨r3, ⟨hr3, F3, hst3, hF3, hfm3⟩, ⟨v3, y3, h3, rfl, hv3⟩ | ⟨c3, h3, rfl, _⟩⟩ := hp
            · rw [hr3] at h3; cases h3
              obtain ⟨t2, a2, rfl⟩ := hv3.one
              have hfm4 := hfmd.trans hfm3
              refine ⟨t2, a2, rfl, (ND.out.cells w3 hfm4.keeps).2.1, ?_⟩
              have hmk := make_any t.op hop w3 (HV.out.keeps ((Fm.below hBd (Nat.le_trans ok.baser (Nat.le_of_lt hst.lt)) : Fm E.base w1 w1.drew).trans hfm3).keeps) hv3
              rw [HRES.out] at hmk
              exact hmk.mono fun e w4 hpv => ⟨hpv.2.2, fun vv hvv => by obtain ⟨y, rfl, hy⟩ := hpv.2.1 vv hvv; obtain ⟨t4, a4, rfl⟩ := hy.one; exact ⟨t4, a4, rfl⟩, PW.of_pv ok hst3 (fun k hk => by
                rcases hF3 k hk with h' | h'
                · exact hFd k h'
                · exact .inr (Nat.le_trans hfmd.size h')) hfm4 hpv (fun c hc => make_err (HRES.out.trans hc))⟩
            · rw [hr3] at h3; cases h3))
          clear hw dj htj IH ND HI h0 hstd hfmd hFd
          go_wp2_with fail
          go_region_with (first | (go_at_call 203; refine HW.out.mono ?_; clear HW; rintro e w3 ⟨t2, a2, rfl, k1', HM⟩) | (go_at_call 281; refine HM.out.mono ?_; rintro e w4 ⟨_, ho, hfin⟩; obtain ⟨t4, a4, rfl⟩ := ho _ rfl; have HFIN := hide hfin; clear hfin ho HM))
          all_goals go_wp2_with fail
          all_goals go_ret
          all_goals exact HFIN.out
        · rw [hr] at hr2; cases hr2
end Go.Proofs.YtpekpdimdelncaaGreatDoor
