/- Out of: U13. -/
import Derived.Test.YtpekpdimdelncaaGreatDoorP14
namespace Go.Proofs.YtpekpdimdelncaaGreatDoor
open Go.RowKit Go.Shelf
set_option linter.unusedSimpArgs false
set_option linter.unusedVariables false
def tryE (E : Env) (n : Nat) (t : Lard.T) (it : Option Lard.V) (st : Nat × E.σ) : Except Nat Lard.V × (Nat × E.σ) :=
  match Lard.ev E.N n (t.part 0) it st with
  | (.ok v, s) => (.ok v, s)
  | (.error e, s) => if e = 7 ∨ e = 8 ∨ e = 9 ∨ e = 10 then Lard.ev E.N n (t.part 1) it s else (.error e, s)
def TryCells (w' : World) (p0 p1 p2 rb b b0 m c : Nat) (q1 : Addr) (xi : Value) : Prop :=
  w'.cell? ⟨p0, 0, none⟩ = some (.pointer (some ⟨rb, 0, none⟩)) ∧ w'.cell? ⟨p1, 0, none⟩ = some (.pointer (some ⟨b, 0, none⟩)) ∧ w'.cell? ⟨p2, 0, none⟩ = some xi ∧ w'.cell? ⟨b, 4, none⟩ = some (.slice (some ⟨b0, 0, none⟩) m c) ∧ w'.cell? ⟨b0, 1, none⟩ = some (.pointer (some q1))
def ImmKeeps (w w' : World) : Prop :=
  ∀ (k : Nat) (cs : Array Value) (t : TypeId) (fz : Nat × Nat), w.heap[k]? = some (.cells cs t fz) → ImmW t → w'.heap[k]? = some (.cells cs t fz)
theorem ImmKeeps.keeps {w w' : World} (h : ImmKeeps w w') : Keeps w w' := fun k cs t fz hk ht => h k cs t fz hk (.inl ht)
theorem ImmKeeps.below {w w' : World} (h : Below w.heap.size w w') : ImmKeeps w w' := fun k _ _ _ hk _ => (h.block k (lt_of_some hk)).trans hk
theorem try_worked (E : Env) (ok : EnvOK E) (n : Nat) (ih : WorkSays E n) (t : Lard.T) (it : Option Lard.V) (b b0 m c : Nat) (i : Value) (q1 : Addr) (xi : Value) (F : Nat → Prop) (st : Nat × E.σ) (w W : World) (hlen : t.parts.length = 2) (h0 : Lard.okT n it.isSome (t.part 0) = true) (hx : IsTree w (n + 1) t (.pointer (some ⟨b, 0, none⟩))) (nd : Node w n t b i (some ⟨b0, 0, none⟩) m c) (hq1 : ∀ w', Keeps w w' → w'.cell? ⟨b0, 1, none⟩ = some (.pointer (some q1))) (hi : IsOpt w it xi) (h : St E F st w)
    (hBW : Below w.heap.size w W) (hszW : W.heap.size = w.heap.size + 1 + 1 + 1)
    (d0 : W.heap[w.heap.size]? = some (.cells #[.pointer (some ⟨E.rb, 0, none⟩)] 242 (0, 0))) (d1 : W.heap[w.heap.size + 1]? = some (.cells #[.pointer (some ⟨b, 0, none⟩)] 121 (0, 0))) (d2 : W.heap[w.heap.size + 1 + 1]? = some (.cells #[xi] 111 (0, 0))) :
    Calls Tryz.prog 201 #[.func (.func 277) #[] #[.pointer (some ⟨w.heap.size, 0, none⟩), .pointer (some ⟨w.heap.size + 1, 0, none⟩), .pointer (some ⟨w.heap.size + 1 + 1, 0, none⟩)]] W fun e w' => ∃ x F2, e = .returned x ∧ IsW w' (Lard.ev E.N n (t.part 0) it st).1 x ∧ St E F2 (Lard.ev E.N n (t.part 0) it st).2 w' ∧ (∀ k, F2 k → F k ∨ w.heap.size ≤ k) ∧ Fm E.base w w' ∧ (∀ w3, ImmKeeps w' w3 → TryCells w3 w.heap.size (w.heap.size + 1) (w.heap.size + 1 + 1) E.rb b b0 m c q1 xi) := by
  have hbase : E.base ≤ w.heap.size := Nat.le_trans ok.baser (Nat.le_of_lt h.lt)
  obtain ⟨WA, hWA⟩ : ∃ WA, W.alloc (.cells #[.int .i64 0, .nilIface] 113) = WA := ⟨_, rfl⟩
  have hBA : Below W.heap.size W WA := by rw [← hWA]; exact (Below.refl _ _).alloc (Nat.le_refl _) _
  have hBwA : Below w.heap.size w WA := hBW.trans (hBA.mono (by omega))
  have hszA : WA.heap.size = W.heap.size + 1 := by rw [← hWA]; simp
  have hk := Keeps.below hBwA
  have e0 := (hBA.block _ (lt_of_some d0)).trans d0
  have e1 := (hBA.block _ (lt_of_some d1)).trans d1
  have e2 := (hBA.block _ (lt_of_some d2)).trans d2
  have eW : WA.heap[W.heap.size]? = some (.cells #[.int .i64 0, .nilIface] 113 (0, 0)) := by rw [← hWA]; exact heap_alloc_new W _
  have h1 := try1_any E ok n ih t it b w.heap.size (w.heap.size + 1) (w.heap.size + 1 + 1) xi F st WA hlen h0 (hx.keeps hk) (hi.keeps hk) (h.below ok hBwA) e0 e1 e2
  have hHC : Calls Tryz.prog 277 #[.pointer (some ⟨w.heap.size, 0, none⟩), .pointer (some ⟨w.heap.size + 1, 0, none⟩), .pointer (some ⟨w.heap.size + 1 + 1, 0, none⟩)] (W.alloc (.cells #[.int .i64 0, .nilIface] 113)) fun e w' => w'.heap[W.heap.size]? = some (.cells #[.int .i64 0, .nilIface] 113 (0, 0)) ∧ PW (Ψ E F WA (Lard.ev E.N n (t.part 0) it st)) e w' := by
    rw [hWA]
    refine h1.mono fun e w3 hp => ⟨?_, hp⟩
    obtain ⟨_, ⟨_, _, _, _, hf⟩, _⟩ := hp
    exact hf.imm _ _ _ _ eW (.inr (.inl rfl))
  refine (worked_any 277 (.inr rfl) _ W _ hHC).mono ?_
  rintro e w' ⟨r, x, w2, rfl, ⟨rfl, F2, hst2, hF2, hfm2⟩, hg, hW'⟩
  have hFw : Fm E.base w w2 := (Fm.below hBwA hbase).trans hfm2
  have hgr : ∀ k, F2 k → F k ∨ w.heap.size ≤ k := fun k hk => by
    rcases hF2 k hk with h' | h'
    · exact .inl h'
    · exact .inr (by omega)
  have hnot : ¬ F2 W.heap.size := fun hk => by
    rcases hF2 _ hk with h' | h'
    · have := (ok.dom _ _ _ _ h.inv h').1; omega
    · omega
  have hfw' : Fm E.base w w' := hFw.own hg (by omega) hbase
  have keep : ∀ k cs ty fz, WA.heap[k]? = some (.cells cs ty fz) → ImmW ty → k ≠ W.heap.size → w'.heap[k]? = some (.cells cs ty fz) := fun k cs ty fz hk ht hne => by
    have h' := hfm2.imm k cs ty fz hk ht
    exact (hg.block k (lt_of_some h') (fun e => hne (by cases e; rfl))).trans h'
  have f0 := keep _ _ _ _ e0 (.inr (.inr rfl)) (by omega)
  have f1 := keep _ _ _ _ e1 (.inl (.inr (.inr rfl))) (by omega)
  have f2 := keep _ _ _ _ e2 (.inl (.inl rfl)) (by omega)
  have hlt := h.lt
  have hstay : Stay w2 w' := (keeps_grown hg (fun cs ty fz hb hi => by
    rw [hfm2.imm _ _ _ _ eW (.inr (.inl rfl))] at hb
    cases hb
    rcases hi with h | h | h <;> cases h)).stay
  exact ⟨x, F2, rfl, hW', hst2.grown ok hg (by omega) hnot (by have := h.g.size; omega) hstay, hgr, hfw', fun w3 hk3 => ⟨by simp [World.cell?, hk3 _ _ _ _ f0 (.inr (.inr rfl))], by simp [World.cell?, hk3 _ _ _ _ f1 (.inl (.inr (.inr rfl)))], by simp [World.cell?, hk3 _ _ _ _ f2 (.inl (.inl rfl))], (nd.cells w3 (hfw'.keeps.trans hk3.keeps)).2.2.2.2, hq1 w3 (hfw'.keeps.trans hk3.keeps)⟩⟩
set_option maxRecDepth 100000 in
set_option maxHeartbeats 4000000 in
theorem try_any (E : Env) (ok : EnvOK E) (n : Nat) (ih : WorkSays E n) (t : Lard.T) (it : Option Lard.V) (x xi : Value) (F : Nat → Prop) (st : Nat × E.σ) (w : World) (hlen : t.parts.length = 2) (h0 : ∀ j, j < t.parts.length → Lard.okT n it.isSome (t.part j) = true) (hx : IsTree w (n + 1) t x) (hi : IsOpt w it xi) (h : St E F st w) :
    Calls Tryz.prog 247 #[.pointer (some ⟨E.rb, 0, none⟩), x, xi] w (PW (Ψ E F w (tryE E n t it st))) := by
  obtain ⟨b, i, o, m, c, rfl, nd⟩ := hx.node
  obtain ⟨b0, q1, rfl, hd1, ht1⟩ := nd.part 1 (by omega)
  have hm := nd.len
  have hq0 : (1 : Int) < (m : Int) := by omega
  have hform := hi.form
  obtain ⟨W, hW⟩ : ∃ W, ((w.alloc (.cells #[.pointer (some ⟨E.rb, 0, none⟩)] 242)).alloc (.cells #[.pointer (some ⟨b, 0, none⟩)] 121)).alloc (.cells #[xi] 111) = W := ⟨_, rfl⟩
  have hBW : Below w.heap.size w W := by rw [← hW]; exact ((((Below.refl _ w).alloc (Nat.le_refl _) _).alloc (by simp) _).alloc (by simp; omega) _)
  have b0' : W.heap[w.heap.size]? = some (.cells #[.pointer (some ⟨E.rb, 0, none⟩)] 242 (0, 0)) := by
    rw [← hW]; exact ((Below.heap_alloc _ _ _ (by simp; omega)).trans (Below.heap_alloc _ _ _ (by simp))).trans (heap_alloc_new w _)
  have b1' : W.heap[w.heap.size + 1]? = some (.cells #[.pointer (some ⟨b, 0, none⟩)] 121 (0, 0)) := by
    rw [← hW]; refine (Below.heap_alloc _ _ _ (by simp)).trans ?_
    have := heap_alloc_new (w.alloc (.cells #[.pointer (some ⟨E.rb, 0, none⟩)] 242)) (.cells #[.pointer (some ⟨b, 0, none⟩)] 121)
    rwa [World.size_alloc] at this
  have b2' : W.heap[w.heap.size + 1 + 1]? = some (.cells #[xi] 111 (0, 0)) := by
    rw [← hW]
    have := heap_alloc_new ((w.alloc (.cells #[.pointer (some ⟨E.rb, 0, none⟩)] 242)).alloc (.cells #[.pointer (some ⟨b, 0, none⟩)] 121)) (.cells #[xi] 111)
    rwa [World.size_alloc, World.size_alloc] at this
  have hszW : W.heap.size = w.heap.size + 1 + 1 + 1 := by rw [← hW]; simp
  have hT := try_worked E ok n ih t it b b0 m c i q1 xi F st w W hlen (h0 0 (by omega)) hx nd hd1 hi h hBW hszW b0' b1' b2'
  clear b0' b1' b2' hBW hszW
  subst hW
  have IH := hide ih
  have HI := hide hi
  have HT1 := hide ht1
  have ND := hide nd
  have hbase : E.base ≤ w.heap.size := Nat.le_trans ok.baser (Nat.le_of_lt h.lt)
  clear ih hi ht1 hx nd hd1 h
  unfold tryE
  generalize Lard.ev E.N n (t.part 0) it st = q at hT ⊢
  obtain ⟨r, st1⟩ := q
  generalize hrb : E.rb = rb at hT
  have HRB := hide hrb
  have HT := hide hT
  clear hT hrb
  cases r with
  | ok v1 =>
    show Calls _ _ _ _ (PW (Ψ E F w (.ok v1, st1)))
    rcases hform with rfl | ⟨tx, ax, rfl⟩
    all_goals
      go_enter Tryz.func247, Tryz.ntmps247
      go_wp2_with fail
      refine HT.out.mono ?_
      rintro e w1 ⟨x, F2, rfl, hIW, hst, hF, hfm, _⟩
      rcases hIW with ⟨v, y, hv, rfl, hval⟩ | ⟨c', hc', _⟩
      · cases hv
        obtain ⟨t1, a1, rfl⟩ := hval.one
        have hB4 : ∀ o, Below w1.heap.size w1 (w1.alloc o) := fun o => (Below.refl _ w1).alloc (Nat.le_refl _) o
        have HTK := hide (fun o => take_worth (r := .ok v1) (w1.alloc o) (.inl ⟨v1, _, rfl, rfl, hval.keeps (Keeps.below (hB4 o))⟩))
        clear hval HT
        go_wp2_with fail
        refine (HTK.out _).mono ?_
        rintro e w3 hpv
        have HFIN := hide (PW.of_pv ok (hst.below ok (hB4 (Obj.cells #[.int .i64 0, .iface t1 a1] 113))) hF (hfm.trans (Fm.below (hB4 _) (Nat.le_trans ok.baser (Nat.le_of_lt hst.lt)))) hpv (fun c hc => by cases hc))
        obtain ⟨y2, rfl, hv2⟩ := hpv.2.1 v1 rfl
        obtain ⟨t2, a2, rfl⟩ := hv2.one
        clear hpv hv2 HTK
        go_wp2_with fail
        go_ret
        exact HFIN.out
      · cases hc'
  | error e1 =>
    by_cases he : e1 = 7 ∨ e1 = 8 ∨ e1 = 9 ∨ e1 = 10
    · show Calls _ _ _ _ (PW (Ψ E F w (if e1 = 7 ∨ e1 = 8 ∨ e1 = 9 ∨ e1 = 10 then Lard.ev E.N n (t.part 1) it st1 else (.error e1, st1))))
      rw [if_pos he]
      generalize hfin : Lard.ev E.N n (t.part 1) it st1 = fin
      have HFI := hide hfin
      clear hfin
      rcases he with rfl | rfl | rfl | rfl
      all_goals
        rcases hform with rfl | ⟨tx, ax, rfl⟩
        all_goals
          go_enter Tryz.func247, Tryz.ntmps247
          go_wp2_with fail
          refine HT.out.mono ?_
          rintro e w1 ⟨x, F2, rfl, hIW, hst, hF, hfm, hcells⟩
          rcases hIW with ⟨v, y, hv, _⟩ | ⟨c', hc', rfl, hc0, hc1⟩
          · cases hv
          · cases hc'
            have HCELLS := hide hcells
            clear HT hcells
            go_wp2_with fail
            generalize hw4 : w1.alloc _ = w4
            have hB4 : Below w1.heap.size w1 w4.drew := by rw [← hw4]; exact ((Below.refl w1.heap.size w1).alloc (Nat.le_refl _) _).drew
            have hst4 := hst.below ok hB4
            have hfm4 := hfm.trans (Fm.below hB4 (Nat.le_trans ok.baser (Nat.le_of_lt hst.lt)))
            have hcall := IH.out (t.part 1) it _ _ F2 st1 w4.drew (h0 1 (by omega)) (HT1.out.keeps hfm4.keeps) (HI.out.keeps hfm4.keeps) hst4
            rw [HFI.out, HRB.out] at hcall
            have HC := hide (hcall.mono (R' := fun e w3 => PW (Ψ E F w fin) e w3 ∧ TryCells w3 w.heap.size (w.heap.size + 1) (w.heap.size + 1 + 1) rb b b0 m c q1 _) (fun e w3 hp => ⟨PW.after hF hfm4 hp, by
              obtain ⟨_, ⟨_, _, _, _, hf⟩, _⟩ := hp
              exact HCELLS.out w3 (fun k cs ty fz hk ht => hf.imm k cs ty fz (ImmKeeps.below hB4 k cs ty fz hk ht) ht)⟩))
            have hS4 := HCELLS.out w4.drew (ImmKeeps.below hB4)
            clear hcall hst4 hfm4 hst hfm HT1 HI IH HCELLS hw4
            refine wp_region_held_drew (S := fun w' => TryCells w' w.heap.size (w.heap.size + 1) (w.heap.size + 1 + 1) rb b b0 m c q1 _) (by kernel_rfl) hS4 (fun hHeld => ?_)
            refine wpAnyH_take (i := 0) (v := ?_) rfl (by kernel_rfl) (by kernel_rfl) (by kernel_rfl) (fun _ _ _ h => h) (Or.inl ⟨by rfl, ?_⟩) (by assumption) ?_
            rotate_left
            · intro w' hS'
              obtain ⟨s0, s1, s2, s3, s4⟩ := hS'
              go_simp
              try rw [if_pos hq0]
              try with_reducible rfl
            simp only [Act.put, List.setIfInBounds_toArray, List.set_cons_zero, List.set_cons_succ]
            refine wpAnyH_take (i := 1) (v := ?_) rfl (by kernel_rfl) (by kernel_rfl) (by kernel_rfl) (fun _ _ _ h => h) (Or.inl ⟨by rfl, ?_⟩) (by assumption) ?_
            rotate_left
            · intro w' hS'
              obtain ⟨s0, s1, s2, s3, s4⟩ := hS'
              go_simp
              try rw [if_pos hq0]
              try with_reducible rfl
            simp only [Act.put, List.setIfInBounds_toArray, List.set_cons_zero, List.set_cons_succ]
            refine wpAnyH_take (i := 2) (v := ?_) rfl (by kernel_rfl) (by kernel_rfl) (by kernel_rfl) (fun _ _ _ h => h) (Or.inl ⟨by rfl, ?_⟩) (by assumption) ?_
            rotate_left
            · intro w' hS'
              obtain ⟨s0, s1, s2, s3, s4⟩ := hS'
              go_simp
              try rw [if_pos hq0]
              try with_reducible rfl
            simp only [Act.put, List.setIfInBounds_toArray, List.set_cons_zero, List.set_cons_succ]
            refine wpAnyH_take (i := 3) (v := ?_) rfl (by kernel_rfl) (by kernel_rfl) (by kernel_rfl) (fun _ _ _ h => h) (Or.inl ⟨by rfl, ?_⟩) (by assumption) ?_
            rotate_left
            · intro w' hS'
              obtain ⟨s0, s1, s2, s3, s4⟩ := hS'
              go_simp
              try rw [if_pos hq0]
              try with_reducible rfl
            simp only [Act.put, List.setIfInBounds_toArray, List.set_cons_zero, List.set_cons_succ]
            refine wpAnyH_take (i := 4) (v := ?_) rfl (by kernel_rfl) (by kernel_rfl) (by kernel_rfl) (fun _ _ _ h => h) (Or.inl ⟨by rfl, ?_⟩) (by assumption) ?_
            rotate_left
            · intro w' hS'
              obtain ⟨s0, s1, s2, s3, s4⟩ := hS'
              go_simp
              try rw [if_pos hq0]
              try with_reducible rfl
            simp only [Act.put, List.setIfInBounds_toArray, List.set_cons_zero, List.set_cons_succ]
            refine wpAnyH_take (i := 5) (v := ?_) rfl (by kernel_rfl) (by kernel_rfl) (by kernel_rfl) (fun _ _ _ h => h) (Or.inl ⟨by rfl, ?_⟩) (by assumption) ?_
            rotate_left
            · intro w' hS'
              obtain ⟨s0, s1, s2, s3, s4⟩ := hS'
              go_simp
              try rw [if_pos hq0]
              try with_reducible rfl
            simp only [Act.put, List.setIfInBounds_toArray, List.set_cons_zero, List.set_cons_succ]
            refine wpAnyH_take (i := 6) (v := ?_) rfl (by kernel_rfl) (by kernel_rfl) (by kernel_rfl) (fun _ _ _ h => h) (Or.inl ⟨by rfl, ?_⟩) (by assumption) ?_
            rotate_left
            · intro w' hS'
              obtain ⟨s0, s1, s2, s3, s4⟩ := hS'
              go_simp
              try rw [if_pos hq0]
              try with_reducible rfl
            simp only [Act.put, List.setIfInBounds_toArray, List.set_cons_zero, List.set_cons_succ]
            refine wpAnyH_take (i := 7) (v := ?_) rfl (by kernel_rfl) (by kernel_rfl) (by kernel_rfl) (fun _ _ _ h => h) (Or.inl ⟨by rfl, ?_⟩) (by assumption) ?_
            rotate_left
            · intro w' hS'
              obtain ⟨s0, s1, s2, s3, s4⟩ := hS'
              go_simp
              try rw [if_pos hq0]
              try with_reducible rfl
            simp only [Act.put, List.setIfInBounds_toArray, List.set_cons_zero, List.set_cons_succ]
            refine wpAnyH_ready (rs := [8]) (by kernel_rfl) (by simp) ?_
            refine AllReadyH.cons rfl (fun K hK => ?_) AllReadyH.nil
            go_simp
            refine HC.out.mono ?_
            rintro e w3 ⟨hp, hS3⟩
            have hfin := hp
            obtain ⟨r3, _, ⟨v3, y3, _, rfl, hv3⟩ | ⟨c3, _, rfl, _⟩⟩ := hp
            · obtain ⟨t3, a3, rfl⟩ := hv3.one
              have HFIN := hide hfin
              clear hfin hv3
              refine hK.out _ _ hS3 (fun _ => ?_)
              clear hK hHeld
              refine wpAnyH_ready (rs := [9]) (by kernel_rfl) (by simp) ?_
              refine AllReadyH.cons rfl (fun K hK => ?_) AllReadyH.nil
              go_simp
              refine hK.out _ _ hS3 (fun _ => ?_)
              clear hK
              refine wpAnyH_done (by kernel_rfl) ?_ _
              go_wp2_with fail
              go_ret
              exact HFIN.out
            · exact ⟨rfl, hfin⟩
    · show Calls _ _ _ _ (PW (Ψ E F w (if e1 = 7 ∨ e1 = 8 ∨ e1 = 9 ∨ e1 = 10 then Lard.ev E.N n (t.part 1) it st1 else (.error e1, st1))))
      rw [if_neg he]
      have n7 : ((e1 : Int) == 7) = false := by rw [beq_eq_false_iff_ne]; omega
      have n8 : ((e1 : Int) == 8) = false := by rw [beq_eq_false_iff_ne]; omega
      have n9 : ((e1 : Int) == 9) = false := by rw [beq_eq_false_iff_ne]; omega
      have n10 : ((e1 : Int) == 10) = false := by rw [beq_eq_false_iff_ne]; omega
      rcases hform with rfl | ⟨tx, ax, rfl⟩
      all_goals
        go_enter Tryz.func247, Tryz.ntmps247
        go_wp2_with fail
        refine HT.out.mono ?_
        rintro e w1 ⟨x, F2, rfl, hIW, hst, hF, hfm, _⟩
        rcases hIW with ⟨v, y, hv, _⟩ | ⟨c', hc', rfl, hc0, hc1⟩
        · cases hv
        · cases hc'
          have hB4 : ∀ o, Below w1.heap.size w1 (w1.alloc o) := fun o => (Below.refl _ w1).alloc (Nat.le_refl _) o
          have HTK := hide (fun o => take_worth (r := .error e1) (w1.alloc o) (.inr ⟨e1, rfl, rfl, hc0, hc1⟩))
          clear HT
          go_wp2_with fail
          refine (HTK.out _).mono ?_
          rintro e w3 hpv
          obtain rfl := hpv.2.2 e1 rfl
          exact ⟨rfl, PW.of_pv ok (hst.below ok (hB4 (Obj.cells #[.int .i64 (e1 : Int), .nilIface] 113))) hF (hfm.trans (Fm.below (hB4 _) (Nat.le_trans ok.baser (Nat.le_of_lt hst.lt)))) hpv (fun c hc => by cases hc; exact ⟨hc0, hc1⟩)⟩
end Go.Proofs.YtpekpdimdelncaaGreatDoor
