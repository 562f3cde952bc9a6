/- Out of: U15, U16, U17. -/
import Derived.Test.YtpekpdimdelncaaGreatDoorP15
namespace Go.Proofs.YtpekpdimdelncaaGreatDoor
set_option maxRecDepth 100000
set_option maxHeartbeats 2000000
open Go.RowKit Go.Shelf
set_option linter.unusedSimpArgs false
set_option linter.unusedVariables false
theorem needs1_any (E : Env) (ok : EnvOK E) (n : Nat) (t : Lard.T) (p0 b : Nat) (F : Nat → Prop) (st : Nat × E.σ) (w : World) (hok : Lard.okT n false t = true) (htree : E.tree = .pointer (some ⟨b, 0, none⟩)) (hx : IsTree w n t (.pointer (some ⟨b, 0, none⟩))) (h : St E F st w)
    (d0 : w.heap[p0]? = some (.cells #[.pointer (some ⟨E.rb, 0, none⟩)] 242 (0, 0))) :
    Calls Tryz.prog 202 #[.pointer (some ⟨p0, 0, none⟩)] w (PW (Ψ E F w (Lard.ev E.N n t none st))) := by
  have hBd : Below w.heap.size w w.drew := (Below.refl _ w).drew
  have hfmd : Fm E.base w w.drew := Fm.below hBd (Nat.le_trans ok.baser (Nat.le_of_lt h.lt))
  have hcall := (work_all E ok n t none _ .nilIface F st w.drew hok (hx.keeps hfmd.keeps) (.inl ⟨rfl, rfl⟩) (h.below ok hBd)).mono (fun e w3 hp => PW.after (fun k hk => .inl hk) hfmd hp)
  have cells : ∀ w3 F3 st3, Fm E.base w w3 → St E F3 st3 w3 → w3.cell? ⟨p0, 0, none⟩ = some (.pointer (some ⟨E.rb, 0, none⟩)) ∧ w3.cell? ⟨E.rb, 0, none⟩ = some (.pointer (some ⟨b, 0, none⟩)) := fun w3 F3 st3 hf hs => by
    have f0 := hf.imm _ _ _ _ d0 (.inr (.inr rfl))
    obtain ⟨tc, ti, hr⟩ := hs.run
    rw [RunAt, htree] at hr
    exact ⟨by simp [World.cell?, f0], by simp [World.cell?, hr]⟩
  have hcall := hcall.mono (R' := fun e w3 => PW (Ψ E F w (Lard.ev E.N n t none st)) e w3 ∧ _) (fun e w3 hp => ⟨hp, by
    obtain ⟨_, ⟨_, F3, hs, _, hf⟩, _⟩ := hp
    exact cells w3 F3 _ hf hs⟩)
  obtain ⟨d0, d1⟩ := cells w F st (Fm.refl _ _) h
  clear cells
  generalize Lard.ev E.N n t none st = q at hcall ⊢
  generalize E.rb = rb at hcall d0 d1
  have HC := hide hcall
  clear hx h hfmd hcall
  go_enter Tryz.func202, Tryz.ntmps202
  go_wp2_with fail
  refine wp_region_held_drew (S := fun w' => w'.cell? ⟨p0, 0, none⟩ = some (.pointer (some ⟨rb, 0, none⟩)) ∧ w'.cell? ⟨rb, 0, none⟩ = some (.pointer (some ⟨b, 0, none⟩))) (by kernel_rfl) ⟨d0, d1⟩ (fun hHeld => ?_)
  refine wpAnyH_take (i := 0) (v := ?_) rfl (by kernel_rfl) (by kernel_rfl) (by kernel_rfl) (fun _ _ _ h => h) (Or.inl ⟨by rfl, ?_⟩) (by assumption) ?_
  rotate_left
  · intro w' hS'
    obtain ⟨s0, s1⟩ := hS'
    go_simp
    try with_reducible rfl
  simp only [Act.put, List.setIfInBounds_toArray, List.set_cons_zero, List.set_cons_succ]
  refine wpAnyH_take (i := 1) (v := ?_) rfl (by kernel_rfl) (by kernel_rfl) (by kernel_rfl) (fun _ _ _ h => h) (Or.inl ⟨by rfl, ?_⟩) (by assumption) ?_
  rotate_left
  · intro w' hS'
    obtain ⟨s0, s1⟩ := hS'
    go_simp
    try with_reducible rfl
  simp only [Act.put, List.setIfInBounds_toArray, List.set_cons_zero, List.set_cons_succ]
  refine wpAnyH_take (i := 2) (v := ?_) rfl (by kernel_rfl) (by kernel_rfl) (by kernel_rfl) (fun _ _ _ h => h) (Or.inl ⟨by rfl, ?_⟩) (by assumption) ?_
  rotate_left
  · intro w' hS'
    obtain ⟨s0, s1⟩ := hS'
    go_simp
    try with_reducible rfl
  simp only [Act.put, List.setIfInBounds_toArray, List.set_cons_zero, List.set_cons_succ]
  refine wpAnyH_take (i := 3) (v := ?_) rfl (by kernel_rfl) (by kernel_rfl) (by kernel_rfl) (fun _ _ _ h => h) (Or.inl ⟨by rfl, ?_⟩) (by assumption) ?_
  rotate_left
  · intro w' hS'
    obtain ⟨s0, s1⟩ := hS'
    go_simp
    try with_reducible rfl
  simp only [Act.put, List.setIfInBounds_toArray, List.set_cons_zero, List.set_cons_succ]
  refine wpAnyH_take (i := 4) (v := ?_) rfl (by kernel_rfl) (by kernel_rfl) (by kernel_rfl) (fun _ _ _ h => h) (Or.inl ⟨by rfl, ?_⟩) (by assumption) ?_
  rotate_left
  · intro w' hS'
    obtain ⟨s0, s1⟩ := hS'
    go_simp
    try with_reducible rfl
  simp only [Act.put, List.setIfInBounds_toArray, List.set_cons_zero, List.set_cons_succ]
  refine wpAnyH_ready (rs := [5]) (by kernel_rfl) (by simp) ?_
  refine AllReadyH.cons rfl (fun K hK => ?_) AllReadyH.nil
  go_simp
  refine HC.out.mono ?_
  rintro e w3 ⟨hp, hS3⟩
  have hfin := hp
  obtain ⟨r3, _, ⟨v3, y3, _, rfl, hv3⟩ | ⟨c3, _, rfl, _⟩⟩ := hp
  · obtain ⟨t3, a3, rfl⟩ := hv3.one
    have HFIN := hide hfin
    clear hfin hv3
    refine hK.out _ _ hS3 (fun _ => ?_)
    clear hK hHeld
    refine wpAnyH_ready (rs := [6]) (by kernel_rfl) (by simp) ?_
    refine AllReadyH.cons rfl (fun K hK => ?_) AllReadyH.nil
    go_simp
    refine hK.out _ _ hS3 (fun _ => ?_)
    clear hK
    refine wpAnyH_done (by kernel_rfl) ?_ _
    go_wp2_with fail
    go_ret
    exact HFIN.out
  · exact ⟨rfl, hfin⟩
end Go.Proofs.YtpekpdimdelncaaGreatDoor
namespace Go.Proofs.YtpekpdimdelncaaGreatDoor
set_option maxRecDepth 100000
set_option maxHeartbeats 2000000
open Go.RowKit Go.Shelf
set_option linter.unusedSimpArgs false
set_option linter.unusedVariables false
theorem run_store_func {P : Program} {w : World} (a : Addr) (m : Mode) (f : Fn) (x y : Array Value) : (store a (.func f x y) m).run P w = stored P w a (.func f x y) m := run_store P w a _ m rfl
theorem run_store_nilFunc {P : Program} {w : World} (a : Addr) (m : Mode) : (store a .nilFunc m).run P w = stored P w a .nilFunc m := run_store P w a _ m rfl
attribute [local go_sem] run_store_func run_store_nilFunc
theorem needs_worked (E : Env) (ok : EnvOK E) (n : Nat) (t : Lard.T) (p0 b : Nat) (F : Nat → Prop) (st : Nat × E.σ) (W : World) (hok : Lard.okT n false t = true) (htree : E.tree = .pointer (some ⟨b, 0, none⟩)) (hx : IsTree W n t (.pointer (some ⟨b, 0, none⟩))) (h : St E F st W)
    (d0 : W.heap[p0]? = some (.cells #[.pointer (some ⟨E.rb, 0, none⟩)] 242 (0, 0))) :
    Calls Tryz.prog 201 #[.func (.func 202) #[] #[.pointer (some ⟨p0, 0, none⟩)]] W fun e w' => ∃ x F2, e = .returned x ∧ IsW w' (Lard.ev E.N n t none st).1 x ∧ St E F2 (Lard.ev E.N n t none st).2 w' ∧ (∀ k, F2 k → F k ∨ W.heap.size ≤ k) ∧ Fm E.base W w' := by
  have hbase : E.base ≤ W.heap.size := Nat.le_trans ok.baser (Nat.le_of_lt h.lt)
  obtain ⟨WA, hWA⟩ : ∃ WA, W.alloc (.cells #[.int .i64 0, .nilIface] 113) = WA := ⟨_, rfl⟩
  have hBA : Below W.heap.size W WA := by rw [← hWA]; exact (Below.refl _ _).alloc (Nat.le_refl _) _
  have hszA : WA.heap.size = W.heap.size + 1 := by rw [← hWA]; simp
  have hk := Keeps.below hBA
  have e0 := (hBA.block _ (lt_of_some d0)).trans d0
  have eW : WA.heap[W.heap.size]? = some (.cells #[.int .i64 0, .nilIface] 113 (0, 0)) := by rw [← hWA]; exact heap_alloc_new W _
  have h1 := needs1_any E ok n t p0 b F st WA hok htree (hx.keeps hk) (h.below ok hBA) e0
  have hHC : Calls Tryz.prog 202 #[.pointer (some ⟨p0, 0, none⟩)] (W.alloc (.cells #[.int .i64 0, .nilIface] 113)) fun e w' => w'.heap[W.heap.size]? = some (.cells #[.int .i64 0, .nilIface] 113 (0, 0)) ∧ PW (Ψ E F WA (Lard.ev E.N n t none st)) e w' := by
    rw [hWA]
    refine h1.mono fun e w3 hp => ⟨?_, hp⟩
    obtain ⟨_, ⟨_, _, _, _, hf⟩, _⟩ := hp
    exact hf.imm _ _ _ _ eW (.inr (.inl rfl))
  refine (worked_any 202 (.inl rfl) _ W _ hHC).mono ?_
  rintro e w' ⟨r, x, w2, rfl, ⟨rfl, F2, hst2, hF2, hfm2⟩, hg, hW'⟩
  have hFw : Fm E.base W w2 := (Fm.below hBA hbase).trans hfm2
  have hgr : ∀ k, F2 k → F k ∨ W.heap.size ≤ k := fun k hk => by
    rcases hF2 k hk with h' | h'
    · exact .inl h'
    · exact .inr (by omega)
  have hnot : ¬ F2 W.heap.size := fun hk => by
    rcases hF2 _ hk with h' | h'
    · have := (ok.dom _ _ _ _ h.inv h').1; omega
    · omega
  have hlt := h.lt
  have hstay : Stay w2 w' := (keeps_grown hg (fun cs ty fz hb hi => by
    rw [hfm2.imm _ _ _ _ eW (.inr (.inl rfl))] at hb
    cases hb
    rcases hi with h | h | h <;> cases h)).stay
  exact ⟨x, F2, rfl, hW', hst2.grown ok hg (by omega) hnot (by have := h.g.size; omega) hstay, hgr, hFw.own hg (by omega) hbase⟩
theorem run_set {E : Env} (ok : EnvOK E) {F : Nat → Prop} {s : E.σ} {w : World} {tree y tc ti wc wi : Value} {f : Nat} (hr : RunAt w E.rb tree y tc ti f wc wi) (hJ : E.J F s w) (g : G w) (o : Nat) (v : Value) : E.J F s (w.setCell ⟨E.rb, o, none⟩ v) ∧ G (w.setCell ⟨E.rb, o, none⟩ v) ∧ Fm E.base w (w.setCell ⟨E.rb, o, none⟩ v) := by
  have hg := grown_set (World.grownBy.refl w (some E.rb)) o v
  have hlt := lt_of_some hr
  have hfm : Fm E.base w (w.setCell ⟨E.rb, o, none⟩ v) := Fm.grown hg ok.baser (Nat.le_of_lt (Nat.lt_of_le_of_lt ok.baser hlt)) (fun cs t fz h => by
        rw [RunAt] at hr; rw [hr] at h; cases h
        rintro ((h | h | h) | h | h) <;> cases h)
  refine ⟨?_, ?_, ?_⟩
  · exact ok.stab _ _ _ _ hJ hg.size (fun k hk => hg.block k (ok.dom _ _ _ _ hJ hk).1 (fun e => (ok.dom _ _ _ _ hJ hk).2 (by cases e; rfl))) hfm.keeps.stay
  · exact g.below (B := 8) ((Below.refl 8 w).grown hg g.size (fun k hk => by cases hk; exact Nat.le_trans ok.base8 ok.baser)) (Nat.le_refl _)
  · exact hfm
def NeedsPost (E : Env) (F : Nat → Prop) (w : World) (q : Except Nat Lard.V × (Nat × E.σ)) (e : Ending) (w' : World) : Prop :=
  e = .returned (.tuple #[]) ∧ ∃ F' c i tc ti, IsW w' q.1 (.agg #[c, i]) ∧ RunAt w' E.rb E.tree .nilFunc tc ti q.2.1 c i ∧ E.J F' q.2.2 w' ∧ E.cnt q.2.2 + q.2.1 ≤ 400 ∧ (∀ k, F' k → F k ∨ w.heap.size ≤ k) ∧ Fm E.base w w' ∧ G w'
theorem needs_any (E : Env) (ok : EnvOK E) (n : Nat) (t : Lard.T) (b : Nat) (F : Nat → Prop) (f : Nat) (s : E.σ) (y0 tc ti : Value) (w : World) (hok : Lard.okT n false t = true) (htree : E.tree = .pointer (some ⟨b, 0, none⟩)) (hx : IsTree w n t (.pointer (some ⟨b, 0, none⟩))) (hr : RunAt w E.rb E.tree y0 tc ti f E.wc E.wi) (hJ : E.J F s w) (g : G w) (hf : E.cnt s + f ≤ 400) :
    Calls Tryz.prog 161 #[.pointer (some ⟨E.rb, 0, none⟩), E.Y] w (NeedsPost E F w (Lard.ev E.N n t none (f, s))) := by
  have hlt : E.rb < w.heap.size := lt_of_some hr
  have hbase : E.base ≤ w.heap.size := Nat.le_trans ok.baser (Nat.le_of_lt hlt)
  obtain ⟨W0, hW0⟩ : ∃ W0, w.alloc (.cells #[Value.pointer (some ⟨E.rb, 0, none⟩)] 242) = W0 := ⟨_, rfl⟩
  have hB0 : Below w.heap.size w W0 := by rw [← hW0]; exact (Below.refl _ _).alloc (Nat.le_refl _) _
  have hsz0 : W0.heap.size = w.heap.size + 1 := by rw [← hW0]; simp
  have b0 : W0.heap[w.heap.size]? = some (.cells #[.pointer (some ⟨E.rb, 0, none⟩)] 242 (0, 0)) := by rw [← hW0]; exact heap_alloc_new w _
  have hr1 : RunAt W0 E.rb E.tree y0 tc ti f E.wc E.wi := (hB0.block _ hlt).trans hr
  have hJ0 := ok.stab _ _ _ _ hJ hB0.size (fun k hk => hB0.block k (ok.dom _ _ _ _ hJ hk).1) (Keeps.below hB0).stay
  have g0 : G W0 := g.below hB0 g.size
  have c1 : W0.cell? ⟨E.rb, 1, none⟩ = some y0 := by rw [RunAt] at hr1; simp [World.cell?, hr1]
  have z1 : W0.frozen? ⟨E.rb, 1, none⟩ = false := by rw [RunAt] at hr1; simp [World.frozen?, hr1]
  obtain ⟨hJ1, g1, f1⟩ := run_set ok hr1 hJ0 g0 1 E.Y
  obtain ⟨W, hW⟩ : ∃ W, W0.setCell ⟨E.rb, 1, none⟩ E.Y = W := ⟨_, rfl⟩
  have hrW : RunAt W E.rb E.tree E.Y tc ti f E.wc E.wi := by
    rw [← hW]
    rw [RunAt] at hr1 ⊢
    simp [World.setCell, Array.getElem?_modify, hr1]
  have bW : W.heap[w.heap.size]? = some (.cells #[.pointer (some ⟨E.rb, 0, none⟩)] 242 (0, 0)) := by
    rw [hW] at f1
    exact f1.imm _ _ _ _ b0 (.inr (.inr rfl))
  rw [hW] at hJ1 g1 f1
  have f0 : Fm E.base w W := (Fm.below hB0 hbase).trans f1
  have hstW : St E F (f, s) W := ⟨⟨tc, ti, hrW⟩, hJ1, g1, hf⟩
  have hszW : w.heap.size ≤ W.heap.size := f0.size
  have hBd : Below W.heap.size W W.drew := (Below.refl _ W).drew
  have hfd : Fm E.base W W.drew := Fm.below hBd (Nat.le_trans ok.baser (Nat.le_of_lt hstW.lt))
  have hcall := needs_worked E ok n t w.heap.size b F (f, s) W.drew hok htree (hx.keeps (f0.trans hfd).keeps) (hstW.below ok hBd) ((hBd.block _ (lt_of_some bW)).trans bW)
  have hfin : ∀ (w3 : World) (F2 : Nat → Prop) (c i : Value), IsW w3 (Lard.ev E.N n t none (f, s)).1 (.agg #[c, i]) → St E F2 (Lard.ev E.N n t none (f, s)).2 w3 → (∀ k, F2 k → F k ∨ W.drew.heap.size ≤ k) → Fm E.base W.drew w3 → NeedsPost E F w (Lard.ev E.N n t none (f, s)) (.returned (.tuple #[])) (((w3.setCell ⟨E.rb, 5, none⟩ c).setCell ⟨E.rb, 6, none⟩ i).setCell ⟨E.rb, 1, none⟩ .nilFunc) := by
    intro w3 F2 c i hw hs hF hfm
    obtain ⟨tc3, ti3, hr3⟩ := hs.run
    obtain ⟨hJ4, g4, f4⟩ := run_set ok hr3 hs.inv hs.g 5 c
    have hr4 : RunAt (w3.setCell ⟨E.rb, 5, none⟩ c) E.rb E.tree E.Y tc3 ti3 (Lard.ev E.N n t none (f, s)).2.1 c E.wi := by
      rw [RunAt] at hr3 ⊢
      simp [World.setCell, Array.getElem?_modify, hr3]
    obtain ⟨hJ5, g5, f5⟩ := run_set ok hr4 hJ4 g4 6 i
    have hr5 : RunAt ((w3.setCell ⟨E.rb, 5, none⟩ c).setCell ⟨E.rb, 6, none⟩ i) E.rb E.tree E.Y tc3 ti3 (Lard.ev E.N n t none (f, s)).2.1 c i := by
      rw [RunAt] at hr4 ⊢
      rw [World.setCell, Array.getElem?_modify, hr4]
      simp
    obtain ⟨hJ6, g6, f6⟩ := run_set ok hr5 hJ5 g5 1 .nilFunc
    have hr6 : RunAt (((w3.setCell ⟨E.rb, 5, none⟩ c).setCell ⟨E.rb, 6, none⟩ i).setCell ⟨E.rb, 1, none⟩ .nilFunc) E.rb E.tree .nilFunc tc3 ti3 (Lard.ev E.N n t none (f, s)).2.1 c i := by
      rw [RunAt] at hr5 ⊢
      rw [World.setCell, Array.getElem?_modify, hr5]
      simp
    have ff := (f4.trans f5).trans f6
    refine ⟨rfl, F2, c, i, tc3, ti3, hw.keeps ff.keeps, hr6, hJ6, hs.le, fun k hk => ?_, ((f0.trans hfd).trans hfm).trans ff, g6⟩
    rcases hF k hk with h | h
    · exact .inl h
    · have := hBd.size
      exact .inr (by omega)
  have d0 : W.cell? ⟨w.heap.size, 0, none⟩ = some (.pointer (some ⟨E.rb, 0, none⟩)) := by simp [World.cell?, bW]
  have hcall := hcall.mono (R' := fun e w3 => (∃ (c : Int) (i : Value) (w4 : World), e = .returned (.agg #[.int .i64 c, i]) ∧ (i = .nilIface ∨ ∃ t a, i = .iface t a) ∧ (∃ c5 c6, w3.cell? ⟨E.rb, 5, none⟩ = some c5 ∧ w3.cell? ⟨E.rb, 6, none⟩ = some c6) ∧ w3.frozen? ⟨E.rb, 5, none⟩ = false ∧ w3.frozen? ⟨E.rb, 6, none⟩ = false ∧ w4 = ((w3.setCell ⟨E.rb, 5, none⟩ (.int .i64 c)).setCell ⟨E.rb, 6, none⟩ i) ∧ w4.cell? ⟨E.rb, 1, none⟩ = some E.Y ∧ w4.frozen? ⟨E.rb, 1, none⟩ = false ∧ NeedsPost E F w (Lard.ev E.N n t none (f, s)) (.returned (.tuple #[])) (w4.setCell ⟨E.rb, 1, none⟩ .nilFunc)) ∧ w3.cell? ⟨w.heap.size, 0, none⟩ = some (.pointer (some ⟨E.rb, 0, none⟩))) (fun e w3 hp => by
    obtain ⟨x, F2, rfl, hw, hs, hF, hfm⟩ := hp
    obtain ⟨c, i, rfl, hci⟩ := hw.form
    have hn := hfin w3 F2 _ _ hw hs hF hfm
    obtain ⟨tc3, ti3, hr3⟩ := hs.run
    have b3 := hfm.imm _ _ _ _ ((hBd.block _ (lt_of_some bW)).trans bW) (.inr (.inr rfl))
    rw [RunAt] at hr3
    refine ⟨⟨_, _, _, rfl, hci, ⟨E.wc, E.wi, ?_, ?_⟩, ?_, ?_, rfl, ?_, ?_, hn⟩, ?_⟩
    · simp [World.cell?, hr3]
    · simp [World.cell?, hr3]
    · simp [World.frozen?, hr3]
    · simp [World.frozen?, hr3]
    · simp [World.cell?, World.setCell, Array.getElem?_modify, hr3]
    · simp [World.frozen?, World.setCell, Array.getElem?_modify, hr3]
    · simp [World.cell?, b3])
  subst hW hW0
  have hcomm : ((w.alloc (.cells #[Value.pointer (some ⟨E.rb, 0, none⟩)] 242)).setCell ⟨E.rb, 1, none⟩ E.Y) = ((w.setCell ⟨E.rb, 1, none⟩ E.Y).alloc (.cells #[Value.pointer (some ⟨E.rb, 0, none⟩)] 242)) := by
    simp [go_sem, hlt]
  rw [hcomm] at hcall d0
  have HC := hide hcall
  clear hcall hfin hstW bW hrW hJ1 g1 f1 f0 hBd hfd hszW g0 hJ0 hr1 b0 hsz0 hB0 hx hr hJ g hbase hcomm
  clear hcall
  generalize NeedsPost E F w (Lard.ev E.N n t none (f, s)) = R at *
  unfold Env.Y at *
  generalize E.rb = rb at *
  generalize E.l = l at *
  go_enter Tryz.func161, Tryz.ntmps161
  go_wp2_with fail
  refine wp_region_held_drew (S := fun w' => w'.cell? ⟨w.heap.size, 0, none⟩ = some (.pointer (some ⟨rb, 0, none⟩))) (by kernel_rfl) d0 (fun hHeld => ?_)
  refine wpAnyH_take (i := 0) (v := ?_) rfl (by kernel_rfl) (by kernel_rfl) (by kernel_rfl) (fun _ _ _ h => h) (Or.inl ⟨by rfl, ?_⟩) (by assumption) ?_
  rotate_left
  · intro w' s0
    go_simp
    try with_reducible rfl
  simp only [Act.put, List.setIfInBounds_toArray, List.set_cons_zero, List.set_cons_succ]
  refine wpAnyH_take (i := 1) (v := ?_) rfl (by kernel_rfl) (by kernel_rfl) (by kernel_rfl) (fun _ _ _ h => h) (Or.inl ⟨by rfl, ?_⟩) (by assumption) ?_
  rotate_left
  · intro w' s0
    go_simp
    try with_reducible rfl
  simp only [Act.put, List.setIfInBounds_toArray, List.set_cons_zero, List.set_cons_succ]
  refine wpAnyH_ready (rs := [2]) (by kernel_rfl) (by simp) ?_
  refine AllReadyH.cons rfl (fun K hK => ?_) AllReadyH.nil
  go_simp
  refine HC.out.mono ?_
  rintro e w3 ⟨⟨c, i, w4, rfl, hi, ⟨c5, c6, d5, d6⟩, z5, z6, hw4, d1, z1', hR⟩, hS3⟩
  have HR := hide hR
  clear hR
  refine hK.out _ _ hS3 (fun _ => ?_)
  clear hK hHeld
  refine wpAnyH_ready (rs := [3]) (by kernel_rfl) (by simp) ?_
  refine AllReadyH.cons rfl (fun K hK => ?_) AllReadyH.nil
  go_simp
  refine hK.out _ _ hS3 (fun _ => ?_)
  clear hK
  refine wpAnyH_ready (rs := [4]) (by kernel_rfl) (by simp) ?_
  refine AllReadyH.cons rfl (fun K hK => ?_) AllReadyH.nil
  go_simp
  refine hK.out _ _ hS3 (fun _ => ?_)
  clear hK
  refine wpAnyH_ready (rs := [5]) (by kernel_rfl) (by simp) ?_
  refine AllReadyH.cons rfl (fun K hK => ?_) AllReadyH.nil
  have hS4 : w4.cell? ⟨w.heap.size, 0, none⟩ = some (.pointer (some ⟨rb, 0, none⟩)) := by
    rw [hw4]; simp [go_sem, hS3, Nat.ne_of_lt hlt]
  rcases hi with rfl | ⟨t6, a6, rfl⟩
  all_goals
    go_simp
    clear HC
    rw [← hw4]
    refine hK.out _ _ hS4 (fun _ => ?_)
    clear hK hw4 d5 d6 z5 z6
    refine wpAnyH_done (by kernel_rfl) ?_ _
    go_wp2_with fail
    go_end0
    exact HR.out
end Go.Proofs.YtpekpdimdelncaaGreatDoor
namespace Go.Proofs.YtpekpdimdelncaaGreatDoor
set_option maxRecDepth 100000
set_option maxHeartbeats 1000000
open Go.RowKit Go.Shelf
set_option linter.unusedSimpArgs false
set_option linter.unusedVariables false
theorem of_any (a : Addr) (w : World) :
    Calls Tryz.prog 160 #[.pointer (some a)] w fun e w' => e = .returned (.pointer (some ⟨w.heap.size, 0, none⟩)) ∧ RunAt w' w.heap.size (.pointer (some a)) .nilFunc (.int .i64 0) .nilIface 400 (.int .i64 0) .nilIface ∧ Below w.heap.size w w' ∧ w'.heap.size = w.heap.size + 1 := by
  go_enter Tryz.func160, Tryz.ntmps160
  go_wp2
  go_ret
  exact ⟨rfl, heap_alloc_new w _, (Below.refl _ w).alloc (Nat.le_refl _) _, by simp⟩
theorem tell_any (rb f : Nat) (tree y tc ti wc wi : Value) (r : Except Nat Lard.V) (x : Value) (w : World) (hr : RunAt w rb tree y tc ti f wc wi) (hx : IsW w r x) :
    Calls Tryz.prog 162 #[.pointer (some ⟨rb, 0, none⟩), x] w fun e w' => e = .returned (.tuple #[]) ∧ ∃ c i, x = .agg #[c, i] ∧ RunAt w' rb tree y c i f wc wi ∧ w.grownBy w' (some rb) ∧ w'.heap.size = w.heap.size + 1 := by
  obtain ⟨c, i, rfl, hi⟩ := hx.form
  have hlt := lt_of_some hr
  have hA : ∀ o, RunAt (w.alloc o) rb tree y tc ti f wc wi := fun o => (Below.heap_alloc _ _ _ hlt).trans hr
  have c2 : (w.alloc (.cells #[.int .i64 c, i] 113)).cell? ⟨rb, 2, none⟩ = some tc := by have h := hA (.cells #[.int .i64 c, i] 113); rw [RunAt] at h; simp [World.cell?, h]
  have z2 : (w.alloc (.cells #[.int .i64 c, i] 113)).frozen? ⟨rb, 2, none⟩ = false := by have h := hA (.cells #[.int .i64 c, i] 113); rw [RunAt] at h; simp [World.frozen?, h]
  have hB : RunAt ((w.setCell ⟨rb, 2, none⟩ (.int .i64 c)).alloc (.cells #[.int .i64 c, i] 113)) rb tree y (.int .i64 c) ti f wc wi := by
    have h := hr
    rw [RunAt] at h ⊢
    refine (Below.heap_alloc _ _ _ (by simpa [World.setCell] using hlt)).trans ?_
    simp [World.setCell, Array.getElem?_modify, h]
  have c3 : ((w.setCell ⟨rb, 2, none⟩ (.int .i64 c)).alloc (.cells #[.int .i64 c, i] 113)).cell? ⟨rb, 3, none⟩ = some ti := by rw [RunAt] at hB; simp [World.cell?, hB]
  have z3 : ((w.setCell ⟨rb, 2, none⟩ (.int .i64 c)).alloc (.cells #[.int .i64 c, i] 113)).frozen? ⟨rb, 3, none⟩ = false := by rw [RunAt] at hB; simp [World.frozen?, hB]
  have hfin : RunAt (((w.setCell ⟨rb, 2, none⟩ (.int .i64 c)).setCell ⟨rb, 3, none⟩ i).alloc (.cells #[.int .i64 c, i] 113)) rb tree y (.int .i64 c) i f wc wi ∧ w.grownBy (((w.setCell ⟨rb, 2, none⟩ (.int .i64 c)).setCell ⟨rb, 3, none⟩ i).alloc (.cells #[.int .i64 c, i] 113)) (some rb) ∧ (((w.setCell ⟨rb, 2, none⟩ (.int .i64 c)).setCell ⟨rb, 3, none⟩ i).alloc (.cells #[.int .i64 c, i] 113)).heap.size = w.heap.size + 1 := by
    refine ⟨?_, Fr.alloc (grown_set (grown_set (World.grownBy.refl _ _) _ _) _ _) _, by simp [World.setCell, World.size_alloc]⟩
    rw [RunAt] at hr ⊢
    refine (Below.heap_alloc _ _ _ (by simpa [World.setCell] using hlt)).trans ?_
    simp [World.setCell, Array.getElem?_modify, hr]
  have HF := hide hfin
  clear hfin hx hr hA hB
  rcases hi with rfl | ⟨t, a, rfl⟩
  all_goals
    go_enter Tryz.func162, Tryz.ntmps162
    go_wp2_with fail
    go_end0
    exact ⟨rfl, _, _, rfl, HF.out⟩
theorem worth_any (rb f : Nat) (tree y tc ti : Value) (r : Except Nat Lard.V) (wc wi : Value) (w : World) (hr : RunAt w rb tree y tc ti f wc wi) (hx : IsW w r (.agg #[wc, wi])) :
    Calls Tryz.prog 164 #[.pointer (some ⟨rb, 0, none⟩)] w fun e w' => e = .returned (.agg #[wc, wi]) ∧ Below w.heap.size w w' ∧ w'.heap.size = w.heap.size + 1 := by
  have hlt := lt_of_some hr
  have hA : RunAt (w.alloc (.cells #[.int .i64 0, .nilIface] 113)) rb tree y tc ti f wc wi := (Below.heap_alloc _ _ _ hlt).trans hr
  have c5 : (w.alloc (.cells #[.int .i64 0, .nilIface] 113)).cell? ⟨rb, 5, none⟩ = some wc := by rw [RunAt] at hA; simp [World.cell?, hA]
  have c6 : (w.alloc (.cells #[.int .i64 0, .nilIface] 113)).cell? ⟨rb, 6, none⟩ = some wi := by rw [RunAt] at hA; simp [World.cell?, hA]
  obtain ⟨c, i, h, hi⟩ := hx.form
  cases h
  clear hr hx hA
  rcases hi with rfl | ⟨t, a, rfl⟩
  all_goals
    go_enter Tryz.func164, Tryz.ntmps164
    go_wp2_with fail
    exact bodyPost_ret (v := .agg #[.int .i64 c, _]) (by simp [results, Tryz.results164, go_sem]) rfl ⟨rfl, (Below.refl _ w).alloc (Nat.le_refl _) _, by simp⟩
end Go.Proofs.YtpekpdimdelncaaGreatDoor
