/- Out of: L23. -/
import Derived.Test.YtpekpdimdelncaaGreatDoorP26
namespace Go.Proofs.YtpekpdimdelncaaGreatDoor
open Go.RowKit Go.Shelf
set_option linter.unusedVariables false
set_option linter.unusedSimpArgs false
theorem told_form (r : Lard.Wo) : ∃ (tc : Int) (ts : ByteArray), toldV r = .agg #[.int .i64 tc, .string ts] ∧ woCells r = [.int .i64 tc, .string ts] := by
  cases r with
  | ok v => exact ⟨_, _, rfl, rfl⟩
  | error c => exact ⟨_, _, rfl, rfl⟩
theorem cell_third {W : World} {k : Nat} {a b c : Value} {t : TypeId} {fz : Nat × Nat} (h : W.heap[k]? = some (.cells #[a, b, c] t fz)) : W.cell? ⟨k, 2, none⟩ = some c := by simp [World.cell?, h]
set_option maxRecDepth 100000 in
set_option maxHeartbeats 1000000 in
theorem due_any (w : World) (lb kb : Nat) (key : ByteArray) (Br : List UInt8 → Lard.LS → Lard.Wo × Lard.LS) (P : Lard.LS → Prop) (HB : BSays lb Br P) (s : Lard.LS) (L : Nat → Prop) (h : LAt w lb s L) (g : G w) (hd : Deb w) (kp : Lard.Keep) (hkp : KeepAt w L kp kb)
    (hP : ∀ s' c, Lard.Nst s s' c → c ≤ 401 → Phi s' ≤ Phi s → P s') :
    Calls Tryz.prog 124 #[ptr lb, .string key, ptr kb] w fun e w' => LPost w lb L (Lard.dueL Br key.data.toList kp.needs s).2 w' ∧ Phi (Lard.dueL Br key.data.toList kp.needs s).2 ≤ Phi s ∧ Lard.Nst s (Lard.dueL Br key.data.toList kp.needs s).2 401 ∧
      (((Lard.dueL Br key.data.toList kp.needs s).1 = none ∧ e = .returned (.tuple #[.agg zCause, .bool false])) ∨ ∃ y, (Lard.dueL Br key.data.toList kp.needs s).1 = some y ∧ e = .returned (.tuple #[.agg (whyCells y).toArray, .bool true])) := by
  obtain ⟨cw, iw, sl, hkb, hLkb, hWk, hNk, hown, hlen⟩ := hkp
  have c2 : (w.alloc (.cells zCause 61)).cell? ⟨kb, 2, none⟩ = some sl := (World.cell?_of_block (Below.heap_alloc w _ kb (lt_of_some hkb))).trans (by simp [World.cell?, hkb])
  obtain ⟨o, cp, rfl⟩ := hNk.len
  generalize hR : (fun (e : Ending) (w' : World) => LPost w lb L (Lard.dueL Br key.data.toList kp.needs s).2 w' ∧ Phi (Lard.dueL Br key.data.toList kp.needs s).2 ≤ Phi s ∧ Lard.Nst s (Lard.dueL Br key.data.toList kp.needs s).2 401 ∧
      (((Lard.dueL Br key.data.toList kp.needs s).1 = none ∧ e = .returned (.tuple #[.agg zCause, .bool false])) ∨ ∃ y, (Lard.dueL Br key.data.toList kp.needs s).1 = some y ∧ e = .returned (.tuple #[.agg (whyCells y).toArray, .bool true]))) = R
  have hBz : Below w.heap.size w (w.alloc (.cells zCause 61)) := (Below.refl _ _).alloc (Nat.le_refl _) _
  have HA := hide h
  have HP0 := hide (LPost.refl (h.st (fun k hk => hBz.block k (h.typed k hk).2.1) (Stay.below hBz)))
  have HNK := hide hNk
  have HPP := hide hP
  have HBB := hide HB
  clear hNk hP HB
  unfold zCause at c2
  unfold ptr
  go_enter Tryz.func124, Tryz.ntmps124
  go_wp2_with fail
  go_loopw [20] (fun i wr => ∃ (k : Nat) (s' : Lard.LS), k ≤ kp.needs.length ∧ i = .int .i64 k ∧ Lard.dueL Br key.data.toList kp.needs s = Lard.dueL Br key.data.toList (kp.needs.drop k) s' ∧ LPost (w.alloc (.cells zCause 61)) lb L s' wr ∧ Lard.Nst s s' k ∧ Phi s' ≤ Phi s) (fun i _ => kp.needs.length - (intOf i).toNat)
  case atStart => exact ⟨0, s, Nat.zero_le _, rfl, rfl, HP0.out, Lard.Nst.refl _ _, Nat.le_refl _⟩
  case round =>
    obtain ⟨k, s', hk', rfl, hdue, hPk, hNk', hPhik⟩ := hrel
    by_cases hlt : k < kp.needs.length
    · obtain ⟨nd, hnd⟩ : ∃ nd, kp.needs[k]? = some nd := ⟨_, List.getElem?_eq_getElem hlt⟩
      obtain ⟨g0, cp', nk, cn, yn, hsl, hnk, hyn, hglt, e0, e1, e2, hbr⟩ := due_round HBB.out HA.out g hd HNK.out hown hPk (HPP.out _ _ hNk' (by omega) hPhik) hnd
      cases hsl
      have HBR := hide hbr
      have HPk := hide hPk
      have HWR : Hid (w.heap.size < wr.heap.size) := hide (by have := hPk.size; rw [World.size_alloc] at this; omega)
      have hstep : Lard.dueL Br key.data.toList (kp.needs.drop k) s' = if Lard.sameO (Br nd.1 s').1 nd.2 = true then Lard.dueL Br key.data.toList (kp.needs.drop (k + 1)) (Br nd.1 s').2 else (some ⟨key.data.toList, nd.1, nd.2, (Br nd.1 s').1⟩, (Br nd.1 s').2) := by
        have : kp.needs.drop k = nd :: kp.needs.drop (k + 1) := by
          rw [List.getElem?_eq_getElem hlt] at hnd
          cases hnd
          exact List.drop_eq_getElem_cons hlt
        rw [this]
        rfl
      have HST := hide hstep
      clear hbr hPk hstep c2
      rcases hyn with rfl | ⟨tn, an, rfl⟩
      · go_wp2_with fail
        refine HBR.out.mono ?_
        rintro e w2 ⟨c2, y2, rfl, hy2, hW2, hWn2, hbn, g2, hlt2, hP2, hPhi2, hN2⟩
        have hbn2 : ∀ o', (w2.alloc o').heap[wr.heap.size]? = some _ := fun o' => (Below.heap_alloc w2 o' _ hlt2).trans hbn
        have f0 : ∀ o', (w2.alloc o').cell? ⟨wr.heap.size, 0, none⟩ = some (.string nk) := fun o' => by simp [World.cell?, hbn2 o']
        have f1 : ∀ o', (w2.alloc o').cell? ⟨wr.heap.size, 1, none⟩ = some (.int .i64 cn) := fun o' => by simp [World.cell?, hbn2 o']
        have f2 : ∀ o', (w2.alloc o').cell? ⟨wr.heap.size, 2, none⟩ = some _ := fun o' => cell_third (hbn2 o')
        have hBo : ∀ o', Below w2.heap.size w2 (w2.alloc o') := fun o' => (Below.refl _ _).alloc (Nat.le_refl _) o'
        have HSM := hide (fun o' => same_worth (w2.alloc o') (hW2.keeps (Keeps.below (hBo o'))) (hWn2.keeps (Keeps.below (hBo o'))))
        have HW2 := hide hW2
        have HWn2 := hide hWn2
        have HP2 := hide hP2
        clear hW2 hWn2 hP2 HBR hbn hbn2 HPk
        rcases hy2 with rfl | ⟨t2, a2, rfl⟩
        · go_wp2_with fail
          refine (HSM.out _).mono ?_
          rintro e w4 ⟨rfl, hB4⟩
          rw [sameW_O]
          have hB24 := (hBo _).trans (hB4.mono (by simp))
          by_cases hs : Lard.sameO (Br nd.1 s').1 nd.2 = true
          · rw [hs]
            have hrel2 : Lard.dueL Br key.data.toList kp.needs s = Lard.dueL Br key.data.toList (kp.needs.drop (k + 1)) (Br nd.1 s').2 := by
              rw [hdue, HST.out, if_pos hs]
            have hP4 := HP2.out.trans (fun L' h' => LPost.below h' hB24)
            have HREL := hide (And.intro hrel2 hP4)
            clear hrel2 hP4 HSM
            go_wp2_with fail
            refine ⟨⟨k + 1, _, by omega, by go_num, HREL.out.1, HREL.out.2, hNk'.trans hN2, Nat.le_trans hPhi2 hPhik⟩, ?_⟩
            simp [intOf]; omega
          · have hs' : Lard.sameO (Br nd.1 s').1 nd.2 = false := by simpa using hs
            rw [hs']
            go_wp2_with fail
            rename_i K5 HK5
            refine wp_onlyN K5 (fun a w h => h) ?_
            have hS4 : w4.cell? ⟨wr.heap.size, 0, none⟩ = some (.string nk) ∧ w4.cell? ⟨wr.heap.size, 1, none⟩ = some (.int .i64 cn) ∧ w4.cell? ⟨wr.heap.size, 2, none⟩ = some .nilIface ∧ w4.cell? ⟨w2.heap.size, 0, none⟩ = some (.int .i64 c2) ∧ w4.cell? ⟨w2.heap.size, 1, none⟩ = some .nilIface := by
              have q := fun (i : Nat) => hB4.cell (p := ⟨wr.heap.size, i, none⟩) (by show wr.heap.size < _; simp; omega)
              have q2 := fun (i : Nat) => hB4.cell (p := ⟨w2.heap.size, i, none⟩) (by show w2.heap.size < _; simp)
              exact ⟨(q 0).trans (f0 _), (q 1).trans (f1 _), (q 2).trans (f2 _), (q2 0).trans (by simp [go_sem]), (q2 1).trans (by simp [go_sem])⟩
            refine wp_region_held_drew (S := fun w' => w'.cell? ⟨wr.heap.size, 0, none⟩ = some (.string nk) ∧ w'.cell? ⟨wr.heap.size, 1, none⟩ = some (.int .i64 cn) ∧ w'.cell? ⟨wr.heap.size, 2, none⟩ = some .nilIface ∧ w'.cell? ⟨w2.heap.size, 0, none⟩ = some (.int .i64 c2) ∧ w'.cell? ⟨w2.heap.size, 1, none⟩ = some .nilIface) (by kernel_rfl) hS4 (fun hHeld => ?_)
            refine wpAnyH_take (i := 0) (v := ?_) rfl (by kernel_rfl) (by kernel_rfl) (by kernel_rfl) (fun _ _ _ h => h) (Or.inl ⟨by rfl, ?_⟩) hS4 ?_
            rotate_left
            · rintro w' ⟨a0, a1, a2, a3, a4⟩
              go_simp
              try with_reducible rfl
            simp only [Act.put, List.setIfInBounds_toArray, List.set_cons_zero, List.set_cons_succ]
            refine wpAnyH_take (i := 1) (v := ?_) rfl (by kernel_rfl) (by kernel_rfl) (by kernel_rfl) (fun _ _ _ h => h) (Or.inl ⟨by rfl, ?_⟩) hS4 ?_
            rotate_left
            · rintro w' ⟨a0, a1, a2, a3, a4⟩
              go_simp
              try with_reducible rfl
            simp only [Act.put, List.setIfInBounds_toArray, List.set_cons_zero, List.set_cons_succ]
            refine wpAnyH_take (i := 2) (v := ?_) rfl (by kernel_rfl) (by kernel_rfl) (by kernel_rfl) (fun _ _ _ h => h) (Or.inl ⟨by rfl, ?_⟩) hS4 ?_
            rotate_left
            · rintro w' ⟨a0, a1, a2, a3, a4⟩
              go_simp
              try with_reducible rfl
            simp only [Act.put, List.setIfInBounds_toArray, List.set_cons_zero, List.set_cons_succ]
            refine wpAnyH_take (i := 3) (v := ?_) rfl (by kernel_rfl) (by kernel_rfl) (by kernel_rfl) (fun _ _ _ h => h) (Or.inl ⟨by rfl, ?_⟩) hS4 ?_
            rotate_left
            · rintro w' ⟨a0, a1, a2, a3, a4⟩
              go_simp
              try with_reducible rfl
            simp only [Act.put, List.setIfInBounds_toArray, List.set_cons_zero, List.set_cons_succ]
            refine wpAnyH_take (i := 4) (v := ?_) rfl (by kernel_rfl) (by kernel_rfl) (by kernel_rfl) (fun _ _ _ h => h) (Or.inl ⟨by rfl, ?_⟩) hS4 ?_
            rotate_left
            · rintro w' ⟨a0, a1, a2, a3, a4⟩
              go_simp
              try with_reducible rfl
            simp only [Act.put, List.setIfInBounds_toArray, List.set_cons_zero, List.set_cons_succ]
            refine wpAnyH_take (i := 6) (v := ?_) rfl (by kernel_rfl) (by kernel_rfl) (by kernel_rfl) (fun _ _ _ h => h) (Or.inl ⟨by rfl, ?_⟩) hS4 ?_
            rotate_left
            · rintro w' ⟨a0, a1, a2, a3, a4⟩
              go_simp
              try with_reducible rfl
            simp only [Act.put, List.setIfInBounds_toArray, List.set_cons_zero, List.set_cons_succ]
            refine wpAnyH_ready (rs := [5]) (by kernel_rfl) (by simp) ?_
            refine AllReadyH.cons rfl (fun K hK => ?_) AllReadyH.nil
            go_simp
            have hB4d : Below w2.heap.size w2 w4.drew := hB24.drew
            have g4 : G w4.drew := g2.below hB4d g2.size
            have hW4 := HW2.out.keeps (Keeps.below hB4d)
            have hWn4 := HWn2.out.keeps (Keeps.below hB4d)
            obtain ⟨tc1, ts1, ht1, hw1⟩ := told_form nd.2
            obtain ⟨tc2, ts2, ht2, hw2⟩ := told_form (Br nd.1 s').1
            have hT := told_worth w4.drew g4 hWn4
            rw [ht1] at hT
            refine hT.mono ?_
            rintro e w5 ⟨rfl, hB5⟩
            have hS5 : w5.cell? ⟨wr.heap.size, 0, none⟩ = some (.string nk) ∧ w5.cell? ⟨wr.heap.size, 1, none⟩ = some (.int .i64 cn) ∧ w5.cell? ⟨wr.heap.size, 2, none⟩ = some .nilIface ∧ w5.cell? ⟨w2.heap.size, 0, none⟩ = some (.int .i64 c2) ∧ w5.cell? ⟨w2.heap.size, 1, none⟩ = some .nilIface := by
              have hl4 : w2.heap.size < w4.drew.heap.size := by have := hB4.size; simp at this ⊢; omega
              have q := fun (i : Nat) => hB5.cell (p := ⟨wr.heap.size, i, none⟩) (by show wr.heap.size < _; omega)
              have q2 := fun (i : Nat) => hB5.cell (p := ⟨w2.heap.size, i, none⟩) (by show w2.heap.size < _; omega)
              obtain ⟨s1, s2, s3, s4, s5⟩ := hS4
              exact ⟨(q 0).trans s1, (q 1).trans s2, (q 2).trans s3, (q2 0).trans s4, (q2 1).trans s5⟩
            refine hK.out _ _ hS5 (fun _ => ?_)
            clear hK hHeld
            refine wpAnyH_ready (rs := [7]) (by kernel_rfl) (by simp) ?_
            refine AllReadyH.cons rfl (fun K hK => ?_) AllReadyH.nil
            go_simp
            have hB25 : Below w2.heap.size w2 w5 := hB4d.trans (hB5.mono hB4d.size)
            have hT2 := told_worth w5 (g2.below hB25 g2.size) (HW2.out.keeps (Keeps.below hB25))
            rw [ht2] at hT2
            refine hT2.mono ?_
            rintro e w6 ⟨rfl, hB6⟩
            have hB26 : Below w2.heap.size w2 w6 := hB25.trans (hB6.mono hB25.size)
            have hP6 := HP2.out.trans (fun L' h' => LPost.below h' hB26)
            obtain ⟨hn6, hfin6⟩ := due_fin HA.out hP6
            have hS6 : w6.cell? ⟨wr.heap.size, 0, none⟩ = some (.string nk) ∧ w6.cell? ⟨wr.heap.size, 1, none⟩ = some (.int .i64 cn) ∧ w6.cell? ⟨wr.heap.size, 2, none⟩ = some .nilIface ∧ w6.cell? ⟨w2.heap.size, 0, none⟩ = some (.int .i64 c2) ∧ w6.cell? ⟨w2.heap.size, 1, none⟩ = some .nilIface := by
              have hl5 : w2.heap.size < w5.heap.size := by have := hB4.size; have := hB5.size; simp at this; simp at *; omega
              have q := fun (i : Nat) => hB6.cell (p := ⟨wr.heap.size, i, none⟩) (by show wr.heap.size < _; omega)
              have q2 := fun (i : Nat) => hB6.cell (p := ⟨w2.heap.size, i, none⟩) (by show w2.heap.size < _; omega)
              obtain ⟨s1, s2, s3, s4, s5⟩ := hS5
              exact ⟨(q 0).trans s1, (q 1).trans s2, (q 2).trans s3, (q2 0).trans s4, (q2 1).trans s5⟩
            have hnr : w.heap.size < wr.heap.size := HWR.out
            have hSf : ∀ wf, w6.grownBy wf (some w.heap.size) → wf.cell? ⟨wr.heap.size, 0, none⟩ = some (.string nk) ∧ wf.cell? ⟨wr.heap.size, 1, none⟩ = some (.int .i64 cn) ∧ wf.cell? ⟨wr.heap.size, 2, none⟩ = some .nilIface ∧ wf.cell? ⟨w2.heap.size, 0, none⟩ = some (.int .i64 c2) ∧ wf.cell? ⟨w2.heap.size, 1, none⟩ = some .nilIface := fun wf hg => by
              have hl6 : w2.heap.size < w6.heap.size := by have := hB4.size; have := hB5.size; have := hB6.size; simp at *; omega
              have q := fun (i : Nat) => World.cell?_of_block (w := w6) (w' := wf) (a := ⟨wr.heap.size, i, none⟩) (hg.block wr.heap.size (by omega) (fun e => by have := Option.some.inj e; omega))
              have q2 := fun (i : Nat) => World.cell?_of_block (w := w6) (w' := wf) (a := ⟨w2.heap.size, i, none⟩) (hg.block w2.heap.size (by omega) (fun e => by have := Option.some.inj e; omega))
              obtain ⟨s1, s2, s3, s4, s5⟩ := hS6
              exact ⟨(q 0).trans s1, (q 1).trans s2, (q 2).trans s3, (q2 0).trans s4, (q2 1).trans s5⟩
            have hR6 : ∀ wf, w6.grownBy wf (some w.heap.size) → R (.returned (.tuple #[.agg #[.string key, .string nk, .int .i64 tc1, .string ts1, .int .i64 tc2, .string ts2], .bool true])) wf := fun wf hg => by
              have hdd : Lard.dueL Br key.data.toList kp.needs s = (some ⟨key.data.toList, nd.1, nd.2, (Br nd.1 s').1⟩, (Br nd.1 s').2) := by rw [hdue, HST.out, if_neg hs]
              rw [← hR, hdd]
              refine ⟨hfin6 wf hg, Nat.le_trans hPhi2 hPhik, (hNk'.trans hN2).le (by omega), .inr ⟨_, rfl, ?_⟩⟩
              have e1 : str key.data.toList = .string key := str_eq rfl
              have e2 : str nd.1 = .string nk := str_eq hnk
              simp [whyCells, hw1, hw2, e1, e2]
            have HR6 := hide hR6
            have m0 : w6.cell? ⟨w.heap.size, 0, none⟩ = some (.string ⟨#[]⟩) := by simp [World.cell?, hn6, zCause]
            have y0 : w6.frozen? ⟨w.heap.size, 0, none⟩ = false := by simp [World.frozen?, hn6, zCause]
            have m1 : w6.cell? ⟨w.heap.size, 1, none⟩ = some (.string ⟨#[]⟩) := by simp [World.cell?, hn6, zCause]
            have y1 : w6.frozen? ⟨w.heap.size, 1, none⟩ = false := by simp [World.frozen?, hn6, zCause]
            have m2 : w6.cell? ⟨w.heap.size, 2, none⟩ = some (.int .i64 0) := by simp [World.cell?, hn6, zCause]
            have y2 : w6.frozen? ⟨w.heap.size, 2, none⟩ = false := by simp [World.frozen?, hn6, zCause]
            have m3 : w6.cell? ⟨w.heap.size, 3, none⟩ = some (.string ⟨#[]⟩) := by simp [World.cell?, hn6, zCause]
            have y3 : w6.frozen? ⟨w.heap.size, 3, none⟩ = false := by simp [World.frozen?, hn6, zCause]
            have m4 : w6.cell? ⟨w.heap.size, 4, none⟩ = some (.int .i64 0) := by simp [World.cell?, hn6, zCause]
            have y4 : w6.frozen? ⟨w.heap.size, 4, none⟩ = false := by simp [World.frozen?, hn6, zCause]
            have m5 : w6.cell? ⟨w.heap.size, 5, none⟩ = some (.string ⟨#[]⟩) := by simp [World.cell?, hn6, zCause]
            have y5 : w6.frozen? ⟨w.heap.size, 5, none⟩ = false := by simp [World.frozen?, hn6, zCause]
            refine hK.out _ _ hS6 (fun _ => ?_)
            clear hK hR6 hfin6 hP6 hT hT2 hW4 hWn4
            refine wpAnyH_ready (rs := [8]) (by kernel_rfl) (by simp) ?_
            refine AllReadyH.cons rfl (fun K hK => ?_) AllReadyH.nil
            go_simp
            refine hK.out _ _ hS6 (fun _ => ?_)
            clear hK
            refine wpAnyH_ready (rs := [9]) (by kernel_rfl) (by simp) ?_
            refine AllReadyH.cons rfl (fun K hK => ?_) AllReadyH.nil
            go_simp
            refine hK.out _ _ (hSf _ (grown_set (grown_set (grown_set (grown_set (grown_set (grown_set (World.grownBy.refl w6 (some w.heap.size)) _ _) _ _) _ _) _ _) _ _) _ _)) (fun _ => ?_)
            clear hK
            refine wpAnyH_ready (rs := [10]) (by kernel_rfl) (by simp) ?_
            refine AllReadyH.cons rfl (fun K hK => ?_) AllReadyH.nil
            go_simp
            refine hK.out _ _ (hSf _ (grown_set (grown_set (grown_set (grown_set (grown_set (grown_set (World.grownBy.refl w6 (some w.heap.size)) _ _) _ _) _ _) _ _) _ _) _ _)) (fun _ => ?_)
            clear hK
            refine wpAnyH_done (by kernel_rfl) ?_ _
            show K5 _ _
            go_wp2_with fail
            exact bodyPost_ret (v := .tuple #[.agg #[.string key, .string nk, .int .i64 tc1, .string ts1, .int .i64 tc2, .string ts2], .bool true]) (by simp [results, Tryz.results124, go_sem, m0, m1, m2, m3, m4, m5]) rfl (HR6.out _ (grown_set (grown_set (grown_set (grown_set (grown_set (grown_set (World.grownBy.refl w6 (some w.heap.size)) _ _) _ _) _ _) _ _) _ _) _ _))
        · go_wp2_with fail
          refine (HSM.out _).mono ?_
          rintro e w4 ⟨rfl, hB4⟩
          rw [sameW_O]
          have hB24 := (hBo _).trans (hB4.mono (by simp))
          by_cases hs : Lard.sameO (Br nd.1 s').1 nd.2 = true
          · rw [hs]
            have hrel2 : Lard.dueL Br key.data.toList kp.needs s = Lard.dueL Br key.data.toList (kp.needs.drop (k + 1)) (Br nd.1 s').2 := by
              rw [hdue, HST.out, if_pos hs]
            have hP4 := HP2.out.trans (fun L' h' => LPost.below h' hB24)
            have HREL := hide (And.intro hrel2 hP4)
            clear hrel2 hP4 HSM
            go_wp2_with fail
            refine ⟨⟨k + 1, _, by omega, by go_num, HREL.out.1, HREL.out.2, hNk'.trans hN2, Nat.le_trans hPhi2 hPhik⟩, ?_⟩
            simp [intOf]; omega
          · have hs' : Lard.sameO (Br nd.1 s').1 nd.2 = false := by simpa using hs
            rw [hs']
            go_wp2_with fail
            rename_i K5 HK5
            refine wp_onlyN K5 (fun a w h => h) ?_
            have hS4 : w4.cell? ⟨wr.heap.size, 0, none⟩ = some (.string nk) ∧ w4.cell? ⟨wr.heap.size, 1, none⟩ = some (.int .i64 cn) ∧ w4.cell? ⟨wr.heap.size, 2, none⟩ = some .nilIface ∧ w4.cell? ⟨w2.heap.size, 0, none⟩ = some (.int .i64 c2) ∧ w4.cell? ⟨w2.heap.size, 1, none⟩ = some (.iface t2 a2) := by
              have q := fun (i : Nat) => hB4.cell (p := ⟨wr.heap.size, i, none⟩) (by show wr.heap.size < _; simp; omega)
              have q2 := fun (i : Nat) => hB4.cell (p := ⟨w2.heap.size, i, none⟩) (by show w2.heap.size < _; simp)
              exact ⟨(q 0).trans (f0 _), (q 1).trans (f1 _), (q 2).trans (f2 _), (q2 0).trans (by simp [go_sem]), (q2 1).trans (by simp [go_sem])⟩
            refine wp_region_held_drew (S := fun w' => w'.cell? ⟨wr.heap.size, 0, none⟩ = some (.string nk) ∧ w'.cell? ⟨wr.heap.size, 1, none⟩ = some (.int .i64 cn) ∧ w'.cell? ⟨wr.heap.size, 2, none⟩ = some .nilIface ∧ w'.cell? ⟨w2.heap.size, 0, none⟩ = some (.int .i64 c2) ∧ w'.cell? ⟨w2.heap.size, 1, none⟩ = some (.iface t2 a2)) (by kernel_rfl) hS4 (fun hHeld => ?_)
            refine wpAnyH_take (i := 0) (v := ?_) rfl (by kernel_rfl) (by kernel_rfl) (by kernel_rfl) (fun _ _ _ h => h) (Or.inl ⟨by rfl, ?_⟩) hS4 ?_
            rotate_left
            · rintro w' ⟨a0, a1, a2, a3, a4⟩
              go_simp
              try with_reducible rfl
            simp only [Act.put, List.setIfInBounds_toArray, List.set_cons_zero, List.set_cons_succ]
            refine wpAnyH_take (i := 1) (v := ?_) rfl (by kernel_rfl) (by kernel_rfl) (by kernel_rfl) (fun _ _ _ h => h) (Or.inl ⟨by rfl, ?_⟩) hS4 ?_
            rotate_left
            · rintro w' ⟨a0, a1, a2, a3, a4⟩
              go_simp
              try with_reducible rfl
            simp only [Act.put, List.setIfInBounds_toArray, List.set_cons_zero, List.set_cons_succ]
            refine wpAnyH_take (i := 2) (v := ?_) rfl (by kernel_rfl) (by kernel_rfl) (by kernel_rfl) (fun _ _ _ h => h) (Or.inl ⟨by rfl, ?_⟩) hS4 ?_
            rotate_left
            · rintro w' ⟨a0, a1, a2, a3, a4⟩
              go_simp
              try with_reducible rfl
            simp only [Act.put, List.setIfInBounds_toArray, List.set_cons_zero, List.set_cons_succ]
            refine wpAnyH_take (i := 3) (v := ?_) rfl (by kernel_rfl) (by kernel_rfl) (by kernel_rfl) (fun _ _ _ h => h) (Or.inl ⟨by rfl, ?_⟩) hS4 ?_
            rotate_left
            · rintro w' ⟨a0, a1, a2, a3, a4⟩
              go_simp
              try with_reducible rfl
            simp only [Act.put, List.setIfInBounds_toArray, List.set_cons_zero, List.set_cons_succ]
            refine wpAnyH_take (i := 4) (v := ?_) rfl (by kernel_rfl) (by kernel_rfl) (by kernel_rfl) (fun _ _ _ h => h) (Or.inl ⟨by rfl, ?_⟩) hS4 ?_
            rotate_left
            · rintro w' ⟨a0, a1, a2, a3, a4⟩
              go_simp
              try with_reducible rfl
            simp only [Act.put, List.setIfInBounds_toArray, List.set_cons_zero, List.set_cons_succ]
            refine wpAnyH_take (i := 6) (v := ?_) rfl (by kernel_rfl) (by kernel_rfl) (by kernel_rfl) (fun _ _ _ h => h) (Or.inl ⟨by rfl, ?_⟩) hS4 ?_
            rotate_left
            · rintro w' ⟨a0, a1, a2, a3, a4⟩
              go_simp
              try with_reducible rfl
            simp only [Act.put, List.setIfInBounds_toArray, List.set_cons_zero, List.set_cons_succ]
            refine wpAnyH_ready (rs := [5]) (by kernel_rfl) (by simp) ?_
            refine AllReadyH.cons rfl (fun K hK => ?_) AllReadyH.nil
            go_simp
            have hB4d : Below w2.heap.size w2 w4.drew := hB24.drew
            have g4 : G w4.drew := g2.below hB4d g2.size
            have hW4 := HW2.out.keeps (Keeps.below hB4d)
            have hWn4 := HWn2.out.keeps (Keeps.below hB4d)
            obtain ⟨tc1, ts1, ht1, hw1⟩ := told_form nd.2
            obtain ⟨tc2, ts2, ht2, hw2⟩ := told_form (Br nd.1 s').1
            have hT := told_worth w4.drew g4 hWn4
            rw [ht1] at hT
            refine hT.mono ?_
            rintro e w5 ⟨rfl, hB5⟩
            have hS5 : w5.cell? ⟨wr.heap.size, 0, none⟩ = some (.string nk) ∧ w5.cell? ⟨wr.heap.size, 1, none⟩ = some (.int .i64 cn) ∧ w5.cell? ⟨wr.heap.size, 2, none⟩ = some .nilIface ∧ w5.cell? ⟨w2.heap.size, 0, none⟩ = some (.int .i64 c2) ∧ w5.cell? ⟨w2.heap.size, 1, none⟩ = some (.iface t2 a2) := by
              have hl4 : w2.heap.size < w4.drew.heap.size := by have := hB4.size; simp at this ⊢; omega
              have q := fun (i : Nat) => hB5.cell (p := ⟨wr.heap.size, i, none⟩) (by show wr.heap.size < _; omega)
              have q2 := fun (i : Nat) => hB5.cell (p := ⟨w2.heap.size, i, none⟩) (by show w2.heap.size < _; omega)
              obtain ⟨s1, s2, s3, s4, s5⟩ := hS4
              exact ⟨(q 0).trans s1, (q 1).trans s2, (q 2).trans s3, (q2 0).trans s4, (q2 1).trans s5⟩
            refine hK.out _ _ hS5 (fun _ => ?_)
            clear hK hHeld
            refine wpAnyH_ready (rs := [7]) (by kernel_rfl) (by simp) ?_
            refine AllReadyH.cons rfl (fun K hK => ?_) AllReadyH.nil
            go_simp
            have hB25 : Below w2.heap.size w2 w5 := hB4d.trans (hB5.mono hB4d.size)
            have hT2 := told_worth w5 (g2.below hB25 g2.size) (HW2.out.keeps (Keeps.below hB25))
            rw [ht2] at hT2
            refine hT2.mono ?_
            rintro e w6 ⟨rfl, hB6⟩
            have hB26 : Below w2.heap.size w2 w6 := hB25.trans (hB6.mono hB25.size)
            have hP6 := HP2.out.trans (fun L' h' => LPost.below h' hB26)
            obtain ⟨hn6, hfin6⟩ := due_fin HA.out hP6
            have hS6 : w6.cell? ⟨wr.heap.size, 0, none⟩ = some (.string nk) ∧ w6.cell? ⟨wr.heap.size, 1, none⟩ = some (.int .i64 cn) ∧ w6.cell? ⟨wr.heap.size, 2, none⟩ = some .nilIface ∧ w6.cell? ⟨w2.heap.size, 0, none⟩ = some (.int .i64 c2) ∧ w6.cell? ⟨w2.heap.size, 1, none⟩ = some (.iface t2 a2) := by
              have hl5 : w2.heap.size < w5.heap.size := by have := hB4.size; have := hB5.size; simp at this; simp at *; omega
              have q := fun (i : Nat) => hB6.cell (p := ⟨wr.heap.size, i, none⟩) (by show wr.heap.size < _; omega)
              have q2 := fun (i : Nat) => hB6.cell (p := ⟨w2.heap.size, i, none⟩) (by show w2.heap.size < _; omega)
              obtain ⟨s1, s2, s3, s4, s5⟩ := hS5
              exact ⟨(q 0).trans s1, (q 1).trans s2, (q 2).trans s3, (q2 0).trans s4, (q2 1).trans s5⟩
            have hnr : w.heap.size < wr.heap.size := HWR.out
            have hSf : ∀ wf, w6.grownBy wf (some w.heap.size) → wf.cell? ⟨wr.heap.size, 0, none⟩ = some (.string nk) ∧ wf.cell? ⟨wr.heap.size, 1, none⟩ = some (.int .i64 cn) ∧ wf.cell? ⟨wr.heap.size, 2, none⟩ = some .nilIface ∧ wf.cell? ⟨w2.heap.size, 0, none⟩ = some (.int .i64 c2) ∧ wf.cell? ⟨w2.heap.size, 1, none⟩ = some (.iface t2 a2) := fun wf hg => by
              have hl6 : w2.heap.size < w6.heap.size := by have := hB4.size; have := hB5.size; have := hB6.size; simp at *; omega
              have q := fun (i : Nat) => World.cell?_of_block (w := w6) (w' := wf) (a := ⟨wr.heap.size, i, none⟩) (hg.block wr.heap.size (by omega) (fun e => by have := Option.some.inj e; omega))
              have q2 := fun (i : Nat) => World.cell?_of_block (w := w6) (w' := wf) (a := ⟨w2.heap.size, i, none⟩) (hg.block w2.heap.size (by omega) (fun e => by have := Option.some.inj e; omega))
              obtain ⟨s1, s2, s3, s4, s5⟩ := hS6
              exact ⟨(q 0).trans s1, (q 1).trans s2, (q 2).trans s3, (q2 0).trans s4, (q2 1).trans s5⟩
            have hR6 : ∀ wf, w6.grownBy wf (some w.heap.size) → R (.returned (.tuple #[.agg #[.string key, .string nk, .int .i64 tc1, .string ts1, .int .i64 tc2, .string ts2], .bool true])) wf := fun wf hg => by
              have hdd : Lard.dueL Br key.data.toList kp.needs s = (some ⟨key.data.toList, nd.1, nd.2, (Br nd.1 s').1⟩, (Br nd.1 s').2) := by rw [hdue, HST.out, if_neg hs]
              rw [← hR, hdd]
              refine ⟨hfin6 wf hg, Nat.le_trans hPhi2 hPhik, (hNk'.trans hN2).le (by omega), .inr ⟨_, rfl, ?_⟩⟩
              have e1 : str key.data.toList = .string key := str_eq rfl
              have e2 : str nd.1 = .string nk := str_eq hnk
              simp [whyCells, hw1, hw2, e1, e2]
            have HR6 := hide hR6
            have m0 : w6.cell? ⟨w.heap.size, 0, none⟩ = some (.string ⟨#[]⟩) := by simp [World.cell?, hn6, zCause]
            have y0 : w6.frozen? ⟨w.heap.size, 0, none⟩ = false := by simp [World.frozen?, hn6, zCause]
            have m1 : w6.cell? ⟨w.heap.size, 1, none⟩ = some (.string ⟨#[]⟩) := by simp [World.cell?, hn6, zCause]
            have y1 : w6.frozen? ⟨w.heap.size, 1, none⟩ = false := by simp [World.frozen?, hn6, zCause]
            have m2 : w6.cell? ⟨w.heap.size, 2, none⟩ = some (.int .i64 0) := by simp [World.cell?, hn6, zCause]
            have y2 : w6.frozen? ⟨w.heap.size, 2, none⟩ = false := by simp [World.frozen?, hn6, zCause]
            have m3 : w6.cell? ⟨w.heap.size, 3, none⟩ = some (.string ⟨#[]⟩) := by simp [World.cell?, hn6, zCause]
            have y3 : w6.frozen? ⟨w.heap.size, 3, none⟩ = false := by simp [World.frozen?, hn6, zCause]
            have m4 : w6.cell? ⟨w.heap.size, 4, none⟩ = some (.int .i64 0) := by simp [World.cell?, hn6, zCause]
            have y4 : w6.frozen? ⟨w.heap.size, 4, none⟩ = false := by simp [World.frozen?, hn6, zCause]
            have m5 : w6.cell? ⟨w.heap.size, 5, none⟩ = some (.string ⟨#[]⟩) := by simp [World.cell?, hn6, zCause]
            have y5 : w6.frozen? ⟨w.heap.size, 5, none⟩ = false := by simp [World.frozen?, hn6, zCause]
            refine hK.out _ _ hS6 (fun _ => ?_)
            clear hK hR6 hfin6 hP6 hT hT2 hW4 hWn4
            refine wpAnyH_ready (rs := [8]) (by kernel_rfl) (by simp) ?_
            refine AllReadyH.cons rfl (fun K hK => ?_) AllReadyH.nil
            go_simp
            refine hK.out _ _ hS6 (fun _ => ?_)
            clear hK
            refine wpAnyH_ready (rs := [9]) (by kernel_rfl) (by simp) ?_
            refine AllReadyH.cons rfl (fun K hK => ?_) AllReadyH.nil
            go_simp
            refine hK.out _ _ (hSf _ (grown_set (grown_set (grown_set (grown_set (grown_set (grown_set (World.grownBy.refl w6 (some w.heap.size)) _ _) _ _) _ _) _ _) _ _) _ _)) (fun _ => ?_)
            clear hK
            refine wpAnyH_ready (rs := [10]) (by kernel_rfl) (by simp) ?_
            refine AllReadyH.cons rfl (fun K hK => ?_) AllReadyH.nil
            go_simp
            refine hK.out _ _ (hSf _ (grown_set (grown_set (grown_set (grown_set (grown_set (grown_set (World.grownBy.refl w6 (some w.heap.size)) _ _) _ _) _ _) _ _) _ _) _ _)) (fun _ => ?_)
            clear hK
            refine wpAnyH_done (by kernel_rfl) ?_ _
            show K5 _ _
            go_wp2_with fail
            exact bodyPost_ret (v := .tuple #[.agg #[.string key, .string nk, .int .i64 tc1, .string ts1, .int .i64 tc2, .string ts2], .bool true]) (by simp [results, Tryz.results124, go_sem, m0, m1, m2, m3, m4, m5]) rfl (HR6.out _ (grown_set (grown_set (grown_set (grown_set (grown_set (grown_set (World.grownBy.refl w6 (some w.heap.size)) _ _) _ _) _ _) _ _) _ _) _ _))
      · go_wp2_with fail
        refine HBR.out.mono ?_
        rintro e w2 ⟨c2, y2, rfl, hy2, hW2, hWn2, hbn, g2, hlt2, hP2, hPhi2, hN2⟩
        have hbn2 : ∀ o', (w2.alloc o').heap[wr.heap.size]? = some _ := fun o' => (Below.heap_alloc w2 o' _ hlt2).trans hbn
        have f0 : ∀ o', (w2.alloc o').cell? ⟨wr.heap.size, 0, none⟩ = some (.string nk) := fun o' => by simp [World.cell?, hbn2 o']
        have f1 : ∀ o', (w2.alloc o').cell? ⟨wr.heap.size, 1, none⟩ = some (.int .i64 cn) := fun o' => by simp [World.cell?, hbn2 o']
        have f2 : ∀ o', (w2.alloc o').cell? ⟨wr.heap.size, 2, none⟩ = some _ := fun o' => cell_third (hbn2 o')
        have hBo : ∀ o', Below w2.heap.size w2 (w2.alloc o') := fun o' => (Below.refl _ _).alloc (Nat.le_refl _) o'
        have HSM := hide (fun o' => same_worth (w2.alloc o') (hW2.keeps (Keeps.below (hBo o'))) (hWn2.keeps (Keeps.below (hBo o'))))
        have HW2 := hide hW2
        have HWn2 := hide hWn2
        have HP2 := hide hP2
        clear hW2 hWn2 hP2 HBR hbn hbn2 HPk
        rcases hy2 with rfl | ⟨t2, a2, rfl⟩
        · go_wp2_with fail
          refine (HSM.out _).mono ?_
          rintro e w4 ⟨rfl, hB4⟩
          rw [sameW_O]
          have hB24 := (hBo _).trans (hB4.mono (by simp))
          by_cases hs : Lard.sameO (Br nd.1 s').1 nd.2 = true
          · rw [hs]
            have hrel2 : Lard.dueL Br key.data.toList kp.needs s = Lard.dueL Br key.data.toList (kp.needs.drop (k + 1)) (Br nd.1 s').2 := by
              rw [hdue, HST.out, if_pos hs]
            have hP4 := HP2.out.trans (fun L' h' => LPost.below h' hB24)
            have HREL := hide (And.intro hrel2 hP4)
            clear hrel2 hP4 HSM
            go_wp2_with fail
            refine ⟨⟨k + 1, _, by omega, by go_num, HREL.out.1, HREL.out.2, hNk'.trans hN2, Nat.le_trans hPhi2 hPhik⟩, ?_⟩
            simp [intOf]; omega
          · have hs' : Lard.sameO (Br nd.1 s').1 nd.2 = false := by simpa using hs
            rw [hs']
            go_wp2_with fail
            rename_i K5 HK5
            refine wp_onlyN K5 (fun a w h => h) ?_
            have hS4 : w4.cell? ⟨wr.heap.size, 0, none⟩ = some (.string nk) ∧ w4.cell? ⟨wr.heap.size, 1, none⟩ = some (.int .i64 cn) ∧ w4.cell? ⟨wr.heap.size, 2, none⟩ = some (.iface tn an) ∧ w4.cell? ⟨w2.heap.size, 0, none⟩ = some (.int .i64 c2) ∧ w4.cell? ⟨w2.heap.size, 1, none⟩ = some .nilIface := by
              have q := fun (i : Nat) => hB4.cell (p := ⟨wr.heap.size, i, none⟩) (by show wr.heap.size < _; simp; omega)
              have q2 := fun (i : Nat) => hB4.cell (p := ⟨w2.heap.size, i, none⟩) (by show w2.heap.size < _; simp)
              exact ⟨(q 0).trans (f0 _), (q 1).trans (f1 _), (q 2).trans (f2 _), (q2 0).trans (by simp [go_sem]), (q2 1).trans (by simp [go_sem])⟩
            refine wp_region_held_drew (S := fun w' => w'.cell? ⟨wr.heap.size, 0, none⟩ = some (.string nk) ∧ w'.cell? ⟨wr.heap.size, 1, none⟩ = some (.int .i64 cn) ∧ w'.cell? ⟨wr.heap.size, 2, none⟩ = some (.iface tn an) ∧ w'.cell? ⟨w2.heap.size, 0, none⟩ = some (.int .i64 c2) ∧ w'.cell? ⟨w2.heap.size, 1, none⟩ = some .nilIface) (by kernel_rfl) hS4 (fun hHeld => ?_)
            refine wpAnyH_take (i := 0) (v := ?_) rfl (by kernel_rfl) (by kernel_rfl) (by kernel_rfl) (fun _ _ _ h => h) (Or.inl ⟨by rfl, ?_⟩) hS4 ?_
            rotate_left
            · rintro w' ⟨a0, a1, a2, a3, a4⟩
              go_simp
              try with_reducible rfl
            simp only [Act.put, List.setIfInBounds_toArray, List.set_cons_zero, List.set_cons_succ]
            refine wpAnyH_take (i := 1) (v := ?_) rfl (by kernel_rfl) (by kernel_rfl) (by kernel_rfl) (fun _ _ _ h => h) (Or.inl ⟨by rfl, ?_⟩) hS4 ?_
            rotate_left
            · rintro w' ⟨a0, a1, a2, a3, a4⟩
              go_simp
              try with_reducible rfl
            simp only [Act.put, List.setIfInBounds_toArray, List.set_cons_zero, List.set_cons_succ]
            refine wpAnyH_take (i := 2) (v := ?_) rfl (by kernel_rfl) (by kernel_rfl) (by kernel_rfl) (fun _ _ _ h => h) (Or.inl ⟨by rfl, ?_⟩) hS4 ?_
            rotate_left
            · rintro w' ⟨a0, a1, a2, a3, a4⟩
              go_simp
              try with_reducible rfl
            simp only [Act.put, List.setIfInBounds_toArray, List.set_cons_zero, List.set_cons_succ]
            refine wpAnyH_take (i := 3) (v := ?_) rfl (by kernel_rfl) (by kernel_rfl) (by kernel_rfl) (fun _ _ _ h => h) (Or.inl ⟨by rfl, ?_⟩) hS4 ?_
            rotate_left
            · rintro w' ⟨a0, a1, a2, a3, a4⟩
              go_simp
              try with_reducible rfl
            simp only [Act.put, List.setIfInBounds_toArray, List.set_cons_zero, List.set_cons_succ]
            refine wpAnyH_take (i := 4) (v := ?_) rfl (by kernel_rfl) (by kernel_rfl) (by kernel_rfl) (fun _ _ _ h => h) (Or.inl ⟨by rfl, ?_⟩) hS4 ?_
            rotate_left
            · rintro w' ⟨a0, a1, a2, a3, a4⟩
              go_simp
              try with_reducible rfl
            simp only [Act.put, List.setIfInBounds_toArray, List.set_cons_zero, List.set_cons_succ]
            refine wpAnyH_take (i := 6) (v := ?_) rfl (by kernel_rfl) (by kernel_rfl) (by kernel_rfl) (fun _ _ _ h => h) (Or.inl ⟨by rfl, ?_⟩) hS4 ?_
            rotate_left
            · rintro w' ⟨a0, a1, a2, a3, a4⟩
              go_simp
              try with_reducible rfl
            simp only [Act.put, List.setIfInBounds_toArray, List.set_cons_zero, List.set_cons_succ]
            refine wpAnyH_ready (rs := [5]) (by kernel_rfl) (by simp) ?_
            refine AllReadyH.cons rfl (fun K hK => ?_) AllReadyH.nil
            go_simp
            have hB4d : Below w2.heap.size w2 w4.drew := hB24.drew
            have g4 : G w4.drew := g2.below hB4d g2.size
            have hW4 := HW2.out.keeps (Keeps.below hB4d)
            have hWn4 := HWn2.out.keeps (Keeps.below hB4d)
            obtain ⟨tc1, ts1, ht1, hw1⟩ := told_form nd.2
            obtain ⟨tc2, ts2, ht2, hw2⟩ := told_form (Br nd.1 s').1
            have hT := told_worth w4.drew g4 hWn4
            rw [ht1] at hT
            refine hT.mono ?_
            rintro e w5 ⟨rfl, hB5⟩
            have hS5 : w5.cell? ⟨wr.heap.size, 0, none⟩ = some (.string nk) ∧ w5.cell? ⟨wr.heap.size, 1, none⟩ = some (.int .i64 cn) ∧ w5.cell? ⟨wr.heap.size, 2, none⟩ = some (.iface tn an) ∧ w5.cell? ⟨w2.heap.size, 0, none⟩ = some (.int .i64 c2) ∧ w5.cell? ⟨w2.heap.size, 1, none⟩ = some .nilIface := by
              have hl4 : w2.heap.size < w4.drew.heap.size := by have := hB4.size; simp at this ⊢; omega
              have q := fun (i : Nat) => hB5.cell (p := ⟨wr.heap.size, i, none⟩) (by show wr.heap.size < _; omega)
              have q2 := fun (i : Nat) => hB5.cell (p := ⟨w2.heap.size, i, none⟩) (by show w2.heap.size < _; omega)
              obtain ⟨s1, s2, s3, s4, s5⟩ := hS4
              exact ⟨(q 0).trans s1, (q 1).trans s2, (q 2).trans s3, (q2 0).trans s4, (q2 1).trans s5⟩
            refine hK.out _ _ hS5 (fun _ => ?_)
            clear hK hHeld
            refine wpAnyH_ready (rs := [7]) (by kernel_rfl) (by simp) ?_
            refine AllReadyH.cons rfl (fun K hK => ?_) AllReadyH.nil
            go_simp
            have hB25 : Below w2.heap.size w2 w5 := hB4d.trans (hB5.mono hB4d.size)
            have hT2 := told_worth w5 (g2.below hB25 g2.size) (HW2.out.keeps (Keeps.below hB25))
            rw [ht2] at hT2
            refine hT2.mono ?_
            rintro e w6 ⟨rfl, hB6⟩
            have hB26 : Below w2.heap.size w2 w6 := hB25.trans (hB6.mono hB25.size)
            have hP6 := HP2.out.trans (fun L' h' => LPost.below h' hB26)
            obtain ⟨hn6, hfin6⟩ := due_fin HA.out hP6
            have hS6 : w6.cell? ⟨wr.heap.size, 0, none⟩ = some (.string nk) ∧ w6.cell? ⟨wr.heap.size, 1, none⟩ = some (.int .i64 cn) ∧ w6.cell? ⟨wr.heap.size, 2, none⟩ = some (.iface tn an) ∧ w6.cell? ⟨w2.heap.size, 0, none⟩ = some (.int .i64 c2) ∧ w6.cell? ⟨w2.heap.size, 1, none⟩ = some .nilIface := by
              have hl5 : w2.heap.size < w5.heap.size := by have := hB4.size; have := hB5.size; simp at this; simp at *; omega
              have q := fun (i : Nat) => hB6.cell (p := ⟨wr.heap.size, i, none⟩) (by show wr.heap.size < _; omega)
              have q2 := fun (i : Nat) => hB6.cell (p := ⟨w2.heap.size, i, none⟩) (by show w2.heap.size < _; omega)
              obtain ⟨s1, s2, s3, s4, s5⟩ := hS5
              exact ⟨(q 0).trans s1, (q 1).trans s2, (q 2).trans s3, (q2 0).trans s4, (q2 1).trans s5⟩
            have hnr : w.heap.size < wr.heap.size := HWR.out
            have hSf : ∀ wf, w6.grownBy wf (some w.heap.size) → wf.cell? ⟨wr.heap.size, 0, none⟩ = some (.string nk) ∧ wf.cell? ⟨wr.heap.size, 1, none⟩ = some (.int .i64 cn) ∧ wf.cell? ⟨wr.heap.size, 2, none⟩ = some (.iface tn an) ∧ wf.cell? ⟨w2.heap.size, 0, none⟩ = some (.int .i64 c2) ∧ wf.cell? ⟨w2.heap.size, 1, none⟩ = some .nilIface := fun wf hg => by
              have hl6 : w2.heap.size < w6.heap.size := by have := hB4.size; have := hB5.size; have := hB6.size; simp at *; omega
              have q := fun (i : Nat) => World.cell?_of_block (w := w6) (w' := wf) (a := ⟨wr.heap.size, i, none⟩) (hg.block wr.heap.size (by omega) (fun e => by have := Option.some.inj e; omega))
              have q2 := fun (i : Nat) => World.cell?_of_block (w := w6) (w' := wf) (a := ⟨w2.heap.size, i, none⟩) (hg.block w2.heap.size (by omega) (fun e => by have := Option.some.inj e; omega))
              obtain ⟨s1, s2, s3, s4, s5⟩ := hS6
              exact ⟨(q 0).trans s1, (q 1).trans s2, (q 2).trans s3, (q2 0).trans s4, (q2 1).trans s5⟩
            have hR6 : ∀ wf, w6.grownBy wf (some w.heap.size) → R (.returned (.tuple #[.agg #[.string key, .string nk, .int .i64 tc1, .string ts1, .int .i64 tc2, .string ts2], .bool true])) wf := fun wf hg => by
              have hdd : Lard.dueL Br key.data.toList kp.needs s = (some ⟨key.data.toList, nd.1, nd.2, (Br nd.1 s').1⟩, (Br nd.1 s').2) := by rw [hdue, HST.out, if_neg hs]
              rw [← hR, hdd]
              refine ⟨hfin6 wf hg, Nat.le_trans hPhi2 hPhik, (hNk'.trans hN2).le (by omega), .inr ⟨_, rfl, ?_⟩⟩
              have e1 : str key.data.toList = .string key := str_eq rfl
              have e2 : str nd.1 = .string nk := str_eq hnk
              simp [whyCells, hw1, hw2, e1, e2]
            have HR6 := hide hR6
            have m0 : w6.cell? ⟨w.heap.size, 0, none⟩ = some (.string ⟨#[]⟩) := by simp [World.cell?, hn6, zCause]
            have y0 : w6.frozen? ⟨w.heap.size, 0, none⟩ = false := by simp [World.frozen?, hn6, zCause]
            have m1 : w6.cell? ⟨w.heap.size, 1, none⟩ = some (.string ⟨#[]⟩) := by simp [World.cell?, hn6, zCause]
            have y1 : w6.frozen? ⟨w.heap.size, 1, none⟩ = false := by simp [World.frozen?, hn6, zCause]
            have m2 : w6.cell? ⟨w.heap.size, 2, none⟩ = some (.int .i64 0) := by simp [World.cell?, hn6, zCause]
            have y2 : w6.frozen? ⟨w.heap.size, 2, none⟩ = false := by simp [World.frozen?, hn6, zCause]
            have m3 : w6.cell? ⟨w.heap.size, 3, none⟩ = some (.string ⟨#[]⟩) := by simp [World.cell?, hn6, zCause]
            have y3 : w6.frozen? ⟨w.heap.size, 3, none⟩ = false := by simp [World.frozen?, hn6, zCause]
            have m4 : w6.cell? ⟨w.heap.size, 4, none⟩ = some (.int .i64 0) := by simp [World.cell?, hn6, zCause]
            have y4 : w6.frozen? ⟨w.heap.size, 4, none⟩ = false := by simp [World.frozen?, hn6, zCause]
            have m5 : w6.cell? ⟨w.heap.size, 5, none⟩ = some (.string ⟨#[]⟩) := by simp [World.cell?, hn6, zCause]
            have y5 : w6.frozen? ⟨w.heap.size, 5, none⟩ = false := by simp [World.frozen?, hn6, zCause]
            refine hK.out _ _ hS6 (fun _ => ?_)
            clear hK hR6 hfin6 hP6 hT hT2 hW4 hWn4
            refine wpAnyH_ready (rs := [8]) (by kernel_rfl) (by simp) ?_
            refine AllReadyH.cons rfl (fun K hK => ?_) AllReadyH.nil
            go_simp
            refine hK.out _ _ hS6 (fun _ => ?_)
            clear hK
            refine wpAnyH_ready (rs := [9]) (by kernel_rfl) (by simp) ?_
            refine AllReadyH.cons rfl (fun K hK => ?_) AllReadyH.nil
            go_simp
            refine hK.out _ _ (hSf _ (grown_set (grown_set (grown_set (grown_set (grown_set (grown_set (World.grownBy.refl w6 (some w.heap.size)) _ _) _ _) _ _) _ _) _ _) _ _)) (fun _ => ?_)
            clear hK
            refine wpAnyH_ready (rs := [10]) (by kernel_rfl) (by simp) ?_
            refine AllReadyH.cons rfl (fun K hK => ?_) AllReadyH.nil
            go_simp
            refine hK.out _ _ (hSf _ (grown_set (grown_set (grown_set (grown_set (grown_set (grown_set (World.grownBy.refl w6 (some w.heap.size)) _ _) _ _) _ _) _ _) _ _) _ _)) (fun _ => ?_)
            clear hK
            refine wpAnyH_done (by kernel_rfl) ?_ _
            show K5 _ _
            go_wp2_with fail
            exact bodyPost_ret (v := .tuple #[.agg #[.string key, .string nk, .int .i64 tc1, .string ts1, .int .i64 tc2, .string ts2], .bool true]) (by simp [results, Tryz.results124, go_sem, m0, m1, m2, m3, m4, m5]) rfl (HR6.out _ (grown_set (grown_set (grown_set (grown_set (grown_set (grown_set (World.grownBy.refl w6 (some w.heap.size)) _ _) _ _) _ _) _ _) _ _) _ _))
        · go_wp2_with fail
          refine (HSM.out _).mono ?_
          rintro e w4 ⟨rfl, hB4⟩
          rw [sameW_O]
          have hB24 := (hBo _).trans (hB4.mono (by simp))
          by_cases hs : Lard.sameO (Br nd.1 s').1 nd.2 = true
          · rw [hs]
            have hrel2 : Lard.dueL Br key.data.toList kp.needs s = Lard.dueL Br key.data.toList (kp.needs.drop (k + 1)) (Br nd.1 s').2 := by
              rw [hdue, HST.out, if_pos hs]
            have hP4 := HP2.out.trans (fun L' h' => LPost.below h' hB24)
            have HREL := hide (And.intro hrel2 hP4)
            clear hrel2 hP4 HSM
            go_wp2_with fail
            refine ⟨⟨k + 1, _, by omega, by go_num, HREL.out.1, HREL.out.2, hNk'.trans hN2, Nat.le_trans hPhi2 hPhik⟩, ?_⟩
            simp [intOf]; omega
          · have hs' : Lard.sameO (Br nd.1 s').1 nd.2 = false := by simpa using hs
            rw [hs']
            go_wp2_with fail
            rename_i K5 HK5
            refine wp_onlyN K5 (fun a w h => h) ?_
            have hS4 : w4.cell? ⟨wr.heap.size, 0, none⟩ = some (.string nk) ∧ w4.cell? ⟨wr.heap.size, 1, none⟩ = some (.int .i64 cn) ∧ w4.cell? ⟨wr.heap.size, 2, none⟩ = some (.iface tn an) ∧ w4.cell? ⟨w2.heap.size, 0, none⟩ = some (.int .i64 c2) ∧ w4.cell? ⟨w2.heap.size, 1, none⟩ = some (.iface t2 a2) := by
              have q := fun (i : Nat) => hB4.cell (p := ⟨wr.heap.size, i, none⟩) (by show wr.heap.size < _; simp; omega)
              have q2 := fun (i : Nat) => hB4.cell (p := ⟨w2.heap.size, i, none⟩) (by show w2.heap.size < _; simp)
              exact ⟨(q 0).trans (f0 _), (q 1).trans (f1 _), (q 2).trans (f2 _), (q2 0).trans (by simp [go_sem]), (q2 1).trans (by simp [go_sem])⟩
            refine wp_region_held_drew (S := fun w' => w'.cell? ⟨wr.heap.size, 0, none⟩ = some (.string nk) ∧ w'.cell? ⟨wr.heap.size, 1, none⟩ = some (.int .i64 cn) ∧ w'.cell? ⟨wr.heap.size, 2, none⟩ = some (.iface tn an) ∧ w'.cell? ⟨w2.heap.size, 0, none⟩ = some (.int .i64 c2) ∧ w'.cell? ⟨w2.heap.size, 1, none⟩ = some (.iface t2 a2)) (by kernel_rfl) hS4 (fun hHeld => ?_)
            refine wpAnyH_take (i := 0) (v := ?_) rfl (by kernel_rfl) (by kernel_rfl) (by kernel_rfl) (fun _ _ _ h => h) (Or.inl ⟨by rfl, ?_⟩) hS4 ?_
            rotate_left
            · rintro w' ⟨a0, a1, a2, a3, a4⟩
              go_simp
              try with_reducible rfl
            simp only [Act.put, List.setIfInBounds_toArray, List.set_cons_zero, List.set_cons_succ]
            refine wpAnyH_take (i := 1) (v := ?_) rfl (by kernel_rfl) (by kernel_rfl) (by kernel_rfl) (fun _ _ _ h => h) (Or.inl ⟨by rfl, ?_⟩) hS4 ?_
            rotate_left
            · rintro w' ⟨a0, a1, a2, a3, a4⟩
              go_simp
              try with_reducible rfl
            simp only [Act.put, List.setIfInBounds_toArray, List.set_cons_zero, List.set_cons_succ]
            refine wpAnyH_take (i := 2) (v := ?_) rfl (by kernel_rfl) (by kernel_rfl) (by kernel_rfl) (fun _ _ _ h => h) (Or.inl ⟨by rfl, ?_⟩) hS4 ?_
            rotate_left
            · rintro w' ⟨a0, a1, a2, a3, a4⟩
              go_simp
              try with_reducible rfl
            simp only [Act.put, List.setIfInBounds_toArray, List.set_cons_zero, List.set_cons_succ]
            refine wpAnyH_take (i := 3) (v := ?_) rfl (by kernel_rfl) (by kernel_rfl) (by kernel_rfl) (fun _ _ _ h => h) (Or.inl ⟨by rfl, ?_⟩) hS4 ?_
            rotate_left
            · rintro w' ⟨a0, a1, a2, a3, a4⟩
              go_simp
              try with_reducible rfl
            simp only [Act.put, List.setIfInBounds_toArray, List.set_cons_zero, List.set_cons_succ]
            refine wpAnyH_take (i := 4) (v := ?_) rfl (by kernel_rfl) (by kernel_rfl) (by kernel_rfl) (fun _ _ _ h => h) (Or.inl ⟨by rfl, ?_⟩) hS4 ?_
            rotate_left
            · rintro w' ⟨a0, a1, a2, a3, a4⟩
              go_simp
              try with_reducible rfl
            simp only [Act.put, List.setIfInBounds_toArray, List.set_cons_zero, List.set_cons_succ]
            refine wpAnyH_take (i := 6) (v := ?_) rfl (by kernel_rfl) (by kernel_rfl) (by kernel_rfl) (fun _ _ _ h => h) (Or.inl ⟨by rfl, ?_⟩) hS4 ?_
            rotate_left
            · rintro w' ⟨a0, a1, a2, a3, a4⟩
              go_simp
              try with_reducible rfl
            simp only [Act.put, List.setIfInBounds_toArray, List.set_cons_zero, List.set_cons_succ]
            refine wpAnyH_ready (rs := [5]) (by kernel_rfl) (by simp) ?_
            refine AllReadyH.cons rfl (fun K hK => ?_) AllReadyH.nil
            go_simp
            have hB4d : Below w2.heap.size w2 w4.drew := hB24.drew
            have g4 : G w4.drew := g2.below hB4d g2.size
            have hW4 := HW2.out.keeps (Keeps.below hB4d)
            have hWn4 := HWn2.out.keeps (Keeps.below hB4d)
            obtain ⟨tc1, ts1, ht1, hw1⟩ := told_form nd.2
            obtain ⟨tc2, ts2, ht2, hw2⟩ := told_form (Br nd.1 s').1
            have hT := told_worth w4.drew g4 hWn4
            rw [ht1] at hT
            refine hT.mono ?_
            rintro e w5 ⟨rfl, hB5⟩
            have hS5 : w5.cell? ⟨wr.heap.size, 0, none⟩ = some (.string nk) ∧ w5.cell? ⟨wr.heap.size, 1, none⟩ = some (.int .i64 cn) ∧ w5.cell? ⟨wr.heap.size, 2, none⟩ = some (.iface tn an) ∧ w5.cell? ⟨w2.heap.size, 0, none⟩ = some (.int .i64 c2) ∧ w5.cell? ⟨w2.heap.size, 1, none⟩ = some (.iface t2 a2) := by
              have hl4 : w2.heap.size < w4.drew.heap.size := by have := hB4.size; simp at this ⊢; omega
              have q := fun (i : Nat) => hB5.cell (p := ⟨wr.heap.size, i, none⟩) (by show wr.heap.size < _; omega)
              have q2 := fun (i : Nat) => hB5.cell (p := ⟨w2.heap.size, i, none⟩) (by show w2.heap.size < _; omega)
              obtain ⟨s1, s2, s3, s4, s5⟩ := hS4
              exact ⟨(q 0).trans s1, (q 1).trans s2, (q 2).trans s3, (q2 0).trans s4, (q2 1).trans s5⟩
            refine hK.out _ _ hS5 (fun _ => ?_)
            clear hK hHeld
            refine wpAnyH_ready (rs := [7]) (by kernel_rfl) (by simp) ?_
            refine AllReadyH.cons rfl (fun K hK => ?_) AllReadyH.nil
            go_simp
            have hB25 : Below w2.heap.size w2 w5 := hB4d.trans (hB5.mono hB4d.size)
            have hT2 := told_worth w5 (g2.below hB25 g2.size) (HW2.out.keeps (Keeps.below hB25))
            rw [ht2] at hT2
            refine hT2.mono ?_
            rintro e w6 ⟨rfl, hB6⟩
            have hB26 : Below w2.heap.size w2 w6 := hB25.trans (hB6.mono hB25.size)
            have hP6 := HP2.out.trans (fun L' h' => LPost.below h' hB26)
            obtain ⟨hn6, hfin6⟩ := due_fin HA.out hP6
            have hS6 : w6.cell? ⟨wr.heap.size, 0, none⟩ = some (.string nk) ∧ w6.cell? ⟨wr.heap.size, 1, none⟩ = some (.int .i64 cn) ∧ w6.cell? ⟨wr.heap.size, 2, none⟩ = some (.iface tn an) ∧ w6.cell? ⟨w2.heap.size, 0, none⟩ = some (.int .i64 c2) ∧ w6.cell? ⟨w2.heap.size, 1, none⟩ = some (.iface t2 a2) := by
              have hl5 : w2.heap.size < w5.heap.size := by have := hB4.size; have := hB5.size; simp at this; simp at *; omega
              have q := fun (i : Nat) => hB6.cell (p := ⟨wr.heap.size, i, none⟩) (by show wr.heap.size < _; omega)
              have q2 := fun (i : Nat) => hB6.cell (p := ⟨w2.heap.size, i, none⟩) (by show w2.heap.size < _; omega)
              obtain ⟨s1, s2, s3, s4, s5⟩ := hS5
              exact ⟨(q 0).trans s1, (q 1).trans s2, (q 2).trans s3, (q2 0).trans s4, (q2 1).trans s5⟩
            have hnr : w.heap.size < wr.heap.size := HWR.out
            have hSf : ∀ wf, w6.grownBy wf (some w.heap.size) → wf.cell? ⟨wr.heap.size, 0, none⟩ = some (.string nk) ∧ wf.cell? ⟨wr.heap.size, 1, none⟩ = some (.int .i64 cn) ∧ wf.cell? ⟨wr.heap.size, 2, none⟩ = some (.iface tn an) ∧ wf.cell? ⟨w2.heap.size, 0, none⟩ = some (.int .i64 c2) ∧ wf.cell? ⟨w2.heap.size, 1, none⟩ = some (.iface t2 a2) := fun wf hg => by
              have hl6 : w2.heap.size < w6.heap.size := by have := hB4.size; have := hB5.size; have := hB6.size; simp at *; omega
              have q := fun (i : Nat) => World.cell?_of_block (w := w6) (w' := wf) (a := ⟨wr.heap.size, i, none⟩) (hg.block wr.heap.size (by omega) (fun e => by have := Option.some.inj e; omega))
              have q2 := fun (i : Nat) => World.cell?_of_block (w := w6) (w' := wf) (a := ⟨w2.heap.size, i, none⟩) (hg.block w2.heap.size (by omega) (fun e => by have := Option.some.inj e; omega))
              obtain ⟨s1, s2, s3, s4, s5⟩ := hS6
              exact ⟨(q 0).trans s1, (q 1).trans s2, (q 2).trans s3, (q2 0).trans s4, (q2 1).trans s5⟩
            have hR6 : ∀ wf, w6.grownBy wf (some w.heap.size) → R (.returned (.tuple #[.agg #[.string key, .string nk, .int .i64 tc1, .string ts1, .int .i64 tc2, .string ts2], .bool true])) wf := fun wf hg => by
              have hdd : Lard.dueL Br key.data.toList kp.needs s = (some ⟨key.data.toList, nd.1, nd.2, (Br nd.1 s').1⟩, (Br nd.1 s').2) := by rw [hdue, HST.out, if_neg hs]
              rw [← hR, hdd]
              refine ⟨hfin6 wf hg, Nat.le_trans hPhi2 hPhik, (hNk'.trans hN2).le (by omega), .inr ⟨_, rfl, ?_⟩⟩
              have e1 : str key.data.toList = .string key := str_eq rfl
              have e2 : str nd.1 = .string nk := str_eq hnk
              simp [whyCells, hw1, hw2, e1, e2]
            have HR6 := hide hR6
            have m0 : w6.cell? ⟨w.heap.size, 0, none⟩ = some (.string ⟨#[]⟩) := by simp [World.cell?, hn6, zCause]
            have y0 : w6.frozen? ⟨w.heap.size, 0, none⟩ = false := by simp [World.frozen?, hn6, zCause]
            have m1 : w6.cell? ⟨w.heap.size, 1, none⟩ = some (.string ⟨#[]⟩) := by simp [World.cell?, hn6, zCause]
            have y1 : w6.frozen? ⟨w.heap.size, 1, none⟩ = false := by simp [World.frozen?, hn6, zCause]
            have m2 : w6.cell? ⟨w.heap.size, 2, none⟩ = some (.int .i64 0) := by simp [World.cell?, hn6, zCause]
            have y2 : w6.frozen? ⟨w.heap.size, 2, none⟩ = false := by simp [World.frozen?, hn6, zCause]
            have m3 : w6.cell? ⟨w.heap.size, 3, none⟩ = some (.string ⟨#[]⟩) := by simp [World.cell?, hn6, zCause]
            have y3 : w6.frozen? ⟨w.heap.size, 3, none⟩ = false := by simp [World.frozen?, hn6, zCause]
            have m4 : w6.cell? ⟨w.heap.size, 4, none⟩ = some (.int .i64 0) := by simp [World.cell?, hn6, zCause]
            have y4 : w6.frozen? ⟨w.heap.size, 4, none⟩ = false := by simp [World.frozen?, hn6, zCause]
            have m5 : w6.cell? ⟨w.heap.size, 5, none⟩ = some (.string ⟨#[]⟩) := by simp [World.cell?, hn6, zCause]
            have y5 : w6.frozen? ⟨w.heap.size, 5, none⟩ = false := by simp [World.frozen?, hn6, zCause]
            refine hK.out _ _ hS6 (fun _ => ?_)
            clear hK hR6 hfin6 hP6 hT hT2 hW4 hWn4
            refine wpAnyH_ready (rs := [8]) (by kernel_rfl) (by simp) ?_
            refine AllReadyH.cons rfl (fun K hK => ?_) AllReadyH.nil
            go_simp
            refine hK.out _ _ hS6 (fun _ => ?_)
            clear hK
            refine wpAnyH_ready (rs := [9]) (by kernel_rfl) (by simp) ?_
            refine AllReadyH.cons rfl (fun K hK => ?_) AllReadyH.nil
            go_simp
            refine hK.out _ _ (hSf _ (grown_set (grown_set (grown_set (grown_set (grown_set (grown_set (World.grownBy.refl w6 (some w.heap.size)) _ _) _ _) _ _) _ _) _ _) _ _)) (fun _ => ?_)
            clear hK
            refine wpAnyH_ready (rs := [10]) (by kernel_rfl) (by simp) ?_
            refine AllReadyH.cons rfl (fun K hK => ?_) AllReadyH.nil
            go_simp
            refine hK.out _ _ (hSf _ (grown_set (grown_set (grown_set (grown_set (grown_set (grown_set (World.grownBy.refl w6 (some w.heap.size)) _ _) _ _) _ _) _ _) _ _) _ _)) (fun _ => ?_)
            clear hK
            refine wpAnyH_done (by kernel_rfl) ?_ _
            show K5 _ _
            go_wp2_with fail
            exact bodyPost_ret (v := .tuple #[.agg #[.string key, .string nk, .int .i64 tc1, .string ts1, .int .i64 tc2, .string ts2], .bool true]) (by simp [results, Tryz.results124, go_sem, m0, m1, m2, m3, m4, m5]) rfl (HR6.out _ (grown_set (grown_set (grown_set (grown_set (grown_set (grown_set (World.grownBy.refl w6 (some w.heap.size)) _ _) _ _) _ _) _ _) _ _) _ _))
    · have hk2 : k = kp.needs.length := by omega
      subst hk2
      obtain ⟨hn, hfin⟩ := due_fin HA.out hPk
      have hR2 : ∀ wf, wr.grownBy wf (some w.heap.size) → R (.returned (.tuple #[.agg #[.string ⟨#[]⟩, .string ⟨#[]⟩, .int .i64 0, .string ⟨#[]⟩, .int .i64 0, .string ⟨#[]⟩], .bool false])) wf := fun wf hg => by
        rw [List.drop_length] at hdue
        rw [← hR, hdue]
        exact ⟨hfin wf hg, hPhik, hNk'.le hlen, .inl ⟨rfl, rfl⟩⟩
      have m0 : wr.cell? ⟨w.heap.size, 0, none⟩ = some (.string ⟨#[]⟩) := by simp [World.cell?, hn, zCause]
      have m1 : wr.cell? ⟨w.heap.size, 1, none⟩ = some (.string ⟨#[]⟩) := by simp [World.cell?, hn, zCause]
      have m2 : wr.cell? ⟨w.heap.size, 2, none⟩ = some (.int .i64 0) := by simp [World.cell?, hn, zCause]
      have m3 : wr.cell? ⟨w.heap.size, 3, none⟩ = some (.string ⟨#[]⟩) := by simp [World.cell?, hn, zCause]
      have m4 : wr.cell? ⟨w.heap.size, 4, none⟩ = some (.int .i64 0) := by simp [World.cell?, hn, zCause]
      have m5 : wr.cell? ⟨w.heap.size, 5, none⟩ = some (.string ⟨#[]⟩) := by simp [World.cell?, hn, zCause]
      have y0 : wr.frozen? ⟨w.heap.size, 0, none⟩ = false := by simp [World.frozen?, hn, zCause]
      have y1 : wr.frozen? ⟨w.heap.size, 1, none⟩ = false := by simp [World.frozen?, hn, zCause]
      have y2 : wr.frozen? ⟨w.heap.size, 2, none⟩ = false := by simp [World.frozen?, hn, zCause]
      have y3 : wr.frozen? ⟨w.heap.size, 3, none⟩ = false := by simp [World.frozen?, hn, zCause]
      have y4 : wr.frozen? ⟨w.heap.size, 4, none⟩ = false := by simp [World.frozen?, hn, zCause]
      have y5 : wr.frozen? ⟨w.heap.size, 5, none⟩ = false := by simp [World.frozen?, hn, zCause]
      have HR2 := hide hR2
      clear hR2 hfin hdue hPk hNk' hPhik hlt hk'
      go_wp2_with fail
      exact bodyPost_ret (v := .tuple #[.agg #[.string ⟨#[]⟩, .string ⟨#[]⟩, .int .i64 0, .string ⟨#[]⟩, .int .i64 0, .string ⟨#[]⟩], .bool false]) (by simp [results, Tryz.results124, go_sem, m0, m1, m2, m3, m4, m5]) rfl (HR2.out _ (grown_set (grown_set (grown_set (grown_set (grown_set (grown_set (World.grownBy.refl wr (some w.heap.size)) _ _) _ _) _ _) _ _) _ _) _ _))
end Go.Proofs.YtpekpdimdelncaaGreatDoor
