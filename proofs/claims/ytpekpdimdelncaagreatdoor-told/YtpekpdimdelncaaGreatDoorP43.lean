/- Out of: E6, E7, E8. -/
import Derived.Test.YtpekpdimdelncaaGreatDoorP42
import Derived.Deep.RegionWith
import Derived.BigQuiet
namespace Go.Proofs.YtpekpdimdelncaaGreatDoor
set_option maxRecDepth 100000
set_option maxHeartbeats 4000000
open Go.RowKit Go.Shelf
set_option linter.unusedVariables false
set_option linter.unusedSimpArgs false
theorem wp_nrm {P : Program} {C : Code} {Q : Exit → Act → World → Prop} {a : Act} {w : World} (h : C.wp P (onlyN (fun a w => Q .normal a w)) a w) : C.wp P Q a w := wp_onlyN _ (fun _ _ h => h) h
theorem onlyN_is {K : Act → World → Prop} {a : Act} {w : World} (h : K a w) : onlyN K .normal a w := h
theorem does_x (X : Nat → Prop) (w0 w : World) (lb hb : Nat) (s : Lard.LS) (L : Nat → Prop) (N : Nat) (H : Nat → Nat × List UInt8) (kd ky wi : Int) (hkd : -9223372036854775808 ≤ kd ∧ kd ≤ 9223372036854775807) (hky : -9223372036854775808 ≤ ky ∧ ky ≤ 9223372036854775807) (hwi : -9223372036854775808 ≤ wi ∧ wi ≤ 9223372036854775807) (hN : N ≤ 10000000000000) (h : HX X w0 w lb hb s L N H) :
    Calls Tryz.prog 17 #[ptr lb, .slice (some ⟨hb, 0, none⟩) 8 8, .agg #[.int .i64 kd, .int .i64 ky, .int .i64 wi]] w fun e w' => e = .returned (.bool true) ∧ ∃ L', HX X w0 w' lb hb (stepS s kd ky wi) L' (N + 2000000000) (stepH H kd ky wi) := by
  generalize hRR : (fun (e : Ending) (w' : World) => e = .returned (.bool true) ∧ ∃ L', HX X w0 w' lb hb (stepS s kd ky wi) L' (N + 2000000000) (stepH H kd ky wi)) = RR
  have HF : Hid (∀ w' L', HX X w0 w' lb hb (stepS s kd ky wi) L' (N + 2000000000) (stepH H kd ky wi) → RR (.returned (.bool true)) w') := hide (fun w' L' hl => by rw [← hRR]; exact ⟨rfl, L', hl⟩)
  clear hRR
  have HPK := hide (fun w => pick_any kd 9 w hkd.1 hkd.2 (by omega) (by omega))
  have HPY := hide (fun w => pick_any ky 8 w hky.1 hky.2 (by omega) (by omega))
  have HPV := hide (fun w => value_any wi w hwi.1 hwi.2)
  have HPR := hide (fun w => rule_any wi w hwi.1 hwi.2)
  have hpk : pickN kd 9 < 9 := Nat.mod_lt _ (by omega)
  have hpy : pickN ky 8 < 8 := Nat.mod_lt _ (by omega)
  unfold stepS stepH at HF
  generalize pickN kd 9 = k at HPK hpk HF
  generalize pickN ky 8 = n at HPY hpy HF
  have hB0 : Below w.heap.size w (w.alloc (.cells #[.int .i64 kd, .int .i64 ky, .int .i64 wi] 34)) := (Below.refl _ w).alloc (Nat.le_refl _) _
  have HH := hide (h.below hB0)
  have d0 : (w.alloc (.cells #[.int .i64 kd, .int .i64 ky, .int .i64 wi] 34)).cell? ⟨w.heap.size, 0, none⟩ = some (.int .i64 kd) := by simp [go_sem]
  have d1 : (w.alloc (.cells #[.int .i64 kd, .int .i64 ky, .int .i64 wi] 34)).cell? ⟨w.heap.size, 1, none⟩ = some (.int .i64 ky) := by simp [go_sem]
  have d2 : (w.alloc (.cells #[.int .i64 kd, .int .i64 ky, .int .i64 wi] 34)).cell? ⟨w.heap.size, 2, none⟩ = some (.int .i64 wi) := by simp [go_sem]
  have HYN := hide (fun w => key_any n w (by omega))
  have hname := keyB_name n (by omega)
  clear h hB0 hkd hky hwi
  unfold ptr
  go_enter Tryz.func17, Tryz.ntmps17
  go_wp2_with fail
  refine (HPY.out _).mono ?_
  rintro e w' ⟨rfl, hw'⟩
  obtain rfl := hw'.symm
  dsimp only
  go_wp2_with fail
  refine (HPK.out _).mono ?_
  rintro e w' ⟨rfl, hw'⟩
  obtain rfl := hw'.symm
  dsimp only
  clear HPK HPY d0 d1
  generalize w.alloc (.cells #[.int .i64 kd, .int .i64 ky, .int .i64 wi] 34) = w1 at HH d2 ⊢
  have hk : k = 0 ∨ k = 1 ∨ k = 2 ∨ k = 3 ∨ k = 4 ∨ k = 5 ∨ k = 6 ∨ k = 7 ∨ k = 8 := by omega
  have hni : (n : Int) < 8 := by omega
  rcases hk with rfl | rfl | rfl | rfl | rfl | rfl | rfl | rfl | rfl
  · go_wp2_with fail
    refine (HPV.out _).mono ?_
    rintro e w2 ⟨rfl, hB2⟩
    dsimp only
    have HH2 := hide (HH.out.below hB2)
    have c1 := HH2.out.hm.what hpy
    have c2 := HH2.out.hm.text hpy
    have f1 := World.rowIs.frozen HH2.out.hm (n * 2)
    have f2 := World.rowIs.frozen HH2.out.hm (n * 2 + 1)
    clear HPV HPR d2 HH hB2
    have HNT := hide (HH2.out.note hpy (1, Lard.valueText (pickN wi 12)))
    have hstr : str (Lard.valueText (pickN wi 12)) = .string (txB (Lard.valueText (pickN wi 12))) := rfl
    rw [hstr] at HNT
    go_wp2_with fail
    obtain ⟨w3, hw3⟩ : ∃ w3, (w2.setCell ⟨hb, n * 2, none⟩ (.int .i64 1)).setCell ⟨hb, n * 2 + 1, none⟩ (.string (txB (Lard.valueText (pickN wi 12)))) = w3 := ⟨_, rfl⟩
    have HNT3 : Hid (La w3 lb s L N ∧ HM w3 hb (Lard.updH H n (1, Lard.valueText (pickN wi 12))) ∧ KpX X w0 w3) := hide (by rw [← hw3]; exact HNT.out)
    rw [hw3]
    clear hw3 HNT c1 c2 f1 f2
    have c3 : w3.cell? ⟨hb, n * 2 + 1, none⟩ = some (.string (txB (Lard.valueText (pickN wi 12)))) := by
      have := HNT3.out.2.1.text hpy
      unfold Lard.updH at this
      rw [if_pos rfl] at this
      exact this
    have HPUT := hide (fun (w4 : World) (hB4 : Below w3.heap.size w3 w4) => (la_put (HNT3.out.1.below hB4) (keyB n) (txB (Lard.valueText (pickN wi 12))) (valOf wi) hname (by rw [txB_list]; exact (valOf_rd wi).1) (by have := HH2.out.ok.len; omega) (by rw [txB_size]; exact (valOf_rd wi).2) hN).mono (fun e w5 (hp : _ ∧ _) => (⟨hp.1, by
      have h2 := hp.2
      rw [keyB_list] at h2
      obtain ⟨L', hl⟩ := HH2.out.put hpy wi (HNT3.out.1.below hB4) HH2.out.off (HNT3.out.2.1.same (hB4.block _ HNT3.out.2.1.lt)) (HNT3.out.2.2.below hB4) h2
      exact ⟨L', hl.le (by omega)⟩⟩ : e = .returned (.int .i64 0) ∧ ∃ L', HX X w0 w5 lb hb (s.gv (Lard.keyText n) ⟨valOf wi, none, [], none⟩) L' (N + 2000000000) (Lard.updH H n (1, Lard.valueText (pickN wi 12))))))
    unfold ptr at HPUT
    clear HH2 HNT3 hstr
    generalize txB (Lard.valueText (pickN wi 12)) = tx at c3 HPUT ⊢
    refine wp_nrm ?_
    go_region_with (first | (go_at_call 19; refine (HYN.out _).mono ?_; rintro e w4 ⟨rfl, hB4⟩; have hB4' := ((Below.refl _ w3).drew).trans hB4; have c4 := cell_later hB4' c3) | (go_at_call 23; refine (HPUT.out _ (by assumption)).mono ?_; rintro e w5 ⟨rfl, L5, h5⟩))
    all_goals
      have HE := hide (HF.out w5 L5 h5)
      refine onlyN_is ?_
      apply_assumption
      simp only [Act.put, List.setIfInBounds_toArray, List.set_cons_zero, List.set_cons_succ]
      clear HF h5 HPUT HYN
      go_wp2_with fail
      exact HE.out
  · go_wp2_with fail
    refine (HPV.out _).mono ?_
    rintro e w2 ⟨rfl, hB2⟩
    dsimp only
    have HH2 := hide (HH.out.below hB2)
    have c1 := HH2.out.hm.what hpy
    have c2 := HH2.out.hm.text hpy
    have f1 := World.rowIs.frozen HH2.out.hm (n * 2)
    have f2 := World.rowIs.frozen HH2.out.hm (n * 2 + 1)
    clear HPV HPR d2 HH hB2
    have HNT := hide (HH2.out.note hpy (1, Lard.valueText (pickN wi 12)))
    have hstr : str (Lard.valueText (pickN wi 12)) = .string (txB (Lard.valueText (pickN wi 12))) := rfl
    rw [hstr] at HNT
    go_wp2_with fail
    obtain ⟨w3, hw3⟩ : ∃ w3, (w2.setCell ⟨hb, n * 2, none⟩ (.int .i64 1)).setCell ⟨hb, n * 2 + 1, none⟩ (.string (txB (Lard.valueText (pickN wi 12)))) = w3 := ⟨_, rfl⟩
    have HNT3 : Hid (La w3 lb s L N ∧ HM w3 hb (Lard.updH H n (1, Lard.valueText (pickN wi 12))) ∧ KpX X w0 w3) := hide (by rw [← hw3]; exact HNT.out)
    rw [hw3]
    clear hw3 HNT c1 c2 f1 f2
    have c3 : w3.cell? ⟨hb, n * 2 + 1, none⟩ = some (.string (txB (Lard.valueText (pickN wi 12)))) := by
      have := HNT3.out.2.1.text hpy
      unfold Lard.updH at this
      rw [if_pos rfl] at this
      exact this
    have HPUT := hide (fun (w4 : World) (hB4 : Below w3.heap.size w3 w4) => (la_put (HNT3.out.1.below hB4) (keyB n) (txB (Lard.valueText (pickN wi 12))) (valOf wi) hname (by rw [txB_list]; exact (valOf_rd wi).1) (by have := HH2.out.ok.len; omega) (by rw [txB_size]; exact (valOf_rd wi).2) hN).mono (fun e w5 (hp : _ ∧ _) => (⟨hp.1, by
      have h2 := hp.2
      rw [keyB_list] at h2
      obtain ⟨L', hl⟩ := HH2.out.put hpy wi (HNT3.out.1.below hB4) HH2.out.off (HNT3.out.2.1.same (hB4.block _ HNT3.out.2.1.lt)) (HNT3.out.2.2.below hB4) h2
      exact ⟨L', hl.le (by omega)⟩⟩ : e = .returned (.int .i64 0) ∧ ∃ L', HX X w0 w5 lb hb (s.gv (Lard.keyText n) ⟨valOf wi, none, [], none⟩) L' (N + 2000000000) (Lard.updH H n (1, Lard.valueText (pickN wi 12))))))
    unfold ptr at HPUT
    clear HH2 HNT3 hstr
    generalize txB (Lard.valueText (pickN wi 12)) = tx at c3 HPUT ⊢
    refine wp_nrm ?_
    go_region_with (first | (go_at_call 19; refine (HYN.out _).mono ?_; rintro e w4 ⟨rfl, hB4⟩; have hB4' := ((Below.refl _ w3).drew).trans hB4; have c4 := cell_later hB4' c3) | (go_at_call 23; refine (HPUT.out _ (by assumption)).mono ?_; rintro e w5 ⟨rfl, L5, h5⟩))
    all_goals
      have HE := hide (HF.out w5 L5 h5)
      refine onlyN_is ?_
      apply_assumption
      simp only [Act.put, List.setIfInBounds_toArray, List.set_cons_zero, List.set_cons_succ]
      clear HF h5 HPUT HYN
      go_wp2_with fail
      exact HE.out
  · go_wp2_with fail
    refine (HPR.out _).mono ?_
    rintro e w2 ⟨rfl, hB2⟩
    dsimp only
    have HH2 := hide (HH.out.below hB2)
    have c1 := HH2.out.hm.what hpy
    have c2 := HH2.out.hm.text hpy
    have f1 := World.rowIs.frozen HH2.out.hm (n * 2)
    have f2 := World.rowIs.frozen HH2.out.hm (n * 2 + 1)
    clear HPR HPV d2 HH hB2
    have HNT := hide (HH2.out.note hpy (2, ruleOf wi))
    have hstr : str (ruleOf wi) = .string (txB (ruleOf wi)) := rfl
    rw [hstr] at HNT
    go_wp2_with fail
    obtain ⟨w3, hw3⟩ : ∃ w3, (w2.setCell ⟨hb, n * 2, none⟩ (.int .i64 2)).setCell ⟨hb, n * 2 + 1, none⟩ (.string (txB (ruleOf wi))) = w3 := ⟨_, rfl⟩
    have HNT3 : Hid (La w3 lb s L N ∧ HM w3 hb (Lard.updH H n (2, ruleOf wi)) ∧ KpX X w0 w3) := hide (by rw [← hw3]; exact HNT.out)
    rw [hw3]
    clear hw3 HNT c1 c2 f1 f2
    have c3 : w3.cell? ⟨hb, n * 2 + 1, none⟩ = some (.string (txB (ruleOf wi))) := by
      have := HNT3.out.2.1.text hpy
      unfold Lard.updH at this
      rw [if_pos rfl] at this
      exact this
    have HSET := hide (fun (w4 : World) (hB4 : Below w3.heap.size w3 w4) => (la_set (HNT3.out.1.below hB4) (keyB n) (txB (ruleOf wi)) (Lard.treeOf (ruleOf wi)) hname (by rw [txB_list]; exact ruleOf_T wi) (by have := HH2.out.ok.len; omega) hN).mono (fun e w5 (hp : _ ∧ _) => (⟨hp.1, by
      have h2 := hp.2
      rw [keyB_list, txB_list] at h2
      obtain ⟨L', hl⟩ := HH2.out.set hpy wi (HNT3.out.1.below hB4) HH2.out.off (HNT3.out.2.1.same (hB4.block _ HNT3.out.2.1.lt)) (HNT3.out.2.2.below hB4) h2
      exact ⟨L', hl.le (by omega)⟩⟩ : e = .returned (.tuple #[.int .i64 0, .int .i64 0]) ∧ ∃ L', HX X w0 w5 lb hb (s.gv (Lard.keyText n) ⟨Lard.vn 0, some (Lard.treeOf (ruleOf wi)), ruleOf wi, none⟩) L' (N + 2000000000) (Lard.updH H n (2, ruleOf wi)))))
    unfold ptr at HSET
    clear HH2 HNT3 hstr
    generalize txB (ruleOf wi) = tx at c3 HSET ⊢
    refine wp_nrm ?_
    go_region_with (first | (go_at_call 19; refine (HYN.out _).mono ?_; rintro e w4 ⟨rfl, hB4⟩; have hB4' := ((Below.refl _ w3).drew).trans hB4; have c4 := cell_later hB4' c3) | (go_at_call 25; refine (HSET.out _ (by assumption)).mono ?_; rintro e w5 ⟨rfl, L5, h5⟩))
    all_goals
      have HE := hide (HF.out w5 L5 h5)
      refine onlyN_is ?_
      apply_assumption
      simp only [Act.put, List.setIfInBounds_toArray, List.set_cons_zero, List.set_cons_succ]
      clear HF h5 HSET HYN
      go_wp2_with fail
      exact HE.out
  · go_wp2_with fail
    refine (HPR.out _).mono ?_
    rintro e w2 ⟨rfl, hB2⟩
    dsimp only
    have HH2 := hide (HH.out.below hB2)
    have c1 := HH2.out.hm.what hpy
    have c2 := HH2.out.hm.text hpy
    have f1 := World.rowIs.frozen HH2.out.hm (n * 2)
    have f2 := World.rowIs.frozen HH2.out.hm (n * 2 + 1)
    clear HPR HPV d2 HH hB2
    have HNT := hide (HH2.out.note hpy (2, ruleOf wi))
    have hstr : str (ruleOf wi) = .string (txB (ruleOf wi)) := rfl
    rw [hstr] at HNT
    go_wp2_with fail
    obtain ⟨w3, hw3⟩ : ∃ w3, (w2.setCell ⟨hb, n * 2, none⟩ (.int .i64 2)).setCell ⟨hb, n * 2 + 1, none⟩ (.string (txB (ruleOf wi))) = w3 := ⟨_, rfl⟩
    have HNT3 : Hid (La w3 lb s L N ∧ HM w3 hb (Lard.updH H n (2, ruleOf wi)) ∧ KpX X w0 w3) := hide (by rw [← hw3]; exact HNT.out)
    rw [hw3]
    clear hw3 HNT c1 c2 f1 f2
    have c3 : w3.cell? ⟨hb, n * 2 + 1, none⟩ = some (.string (txB (ruleOf wi))) := by
      have := HNT3.out.2.1.text hpy
      unfold Lard.updH at this
      rw [if_pos rfl] at this
      exact this
    have HSET := hide (fun (w4 : World) (hB4 : Below w3.heap.size w3 w4) => (la_set (HNT3.out.1.below hB4) (keyB n) (txB (ruleOf wi)) (Lard.treeOf (ruleOf wi)) hname (by rw [txB_list]; exact ruleOf_T wi) (by have := HH2.out.ok.len; omega) hN).mono (fun e w5 (hp : _ ∧ _) => (⟨hp.1, by
      have h2 := hp.2
      rw [keyB_list, txB_list] at h2
      obtain ⟨L', hl⟩ := HH2.out.set hpy wi (HNT3.out.1.below hB4) HH2.out.off (HNT3.out.2.1.same (hB4.block _ HNT3.out.2.1.lt)) (HNT3.out.2.2.below hB4) h2
      exact ⟨L', hl.le (by omega)⟩⟩ : e = .returned (.tuple #[.int .i64 0, .int .i64 0]) ∧ ∃ L', HX X w0 w5 lb hb (s.gv (Lard.keyText n) ⟨Lard.vn 0, some (Lard.treeOf (ruleOf wi)), ruleOf wi, none⟩) L' (N + 2000000000) (Lard.updH H n (2, ruleOf wi)))))
    unfold ptr at HSET
    clear HH2 HNT3 hstr
    generalize txB (ruleOf wi) = tx at c3 HSET ⊢
    refine wp_nrm ?_
    go_region_with (first | (go_at_call 19; refine (HYN.out _).mono ?_; rintro e w4 ⟨rfl, hB4⟩; have hB4' := ((Below.refl _ w3).drew).trans hB4; have c4 := cell_later hB4' c3) | (go_at_call 25; refine (HSET.out _ (by assumption)).mono ?_; rintro e w5 ⟨rfl, L5, h5⟩))
    all_goals
      have HE := hide (HF.out w5 L5 h5)
      refine onlyN_is ?_
      apply_assumption
      simp only [Act.put, List.setIfInBounds_toArray, List.set_cons_zero, List.set_cons_succ]
      clear HF h5 HSET HYN
      go_wp2_with fail
      exact HE.out
  · go_wp2_with fail
    refine (HPR.out _).mono ?_
    rintro e w2 ⟨rfl, hB2⟩
    dsimp only
    have HH2 := hide (HH.out.below hB2)
    have c1 := HH2.out.hm.what hpy
    have c2 := HH2.out.hm.text hpy
    have f1 := World.rowIs.frozen HH2.out.hm (n * 2)
    have f2 := World.rowIs.frozen HH2.out.hm (n * 2 + 1)
    clear HPR HPV d2 HH hB2
    have HNT := hide (HH2.out.note hpy (2, ruleOf wi))
    have hstr : str (ruleOf wi) = .string (txB (ruleOf wi)) := rfl
    rw [hstr] at HNT
    go_wp2_with fail
    obtain ⟨w3, hw3⟩ : ∃ w3, (w2.setCell ⟨hb, n * 2, none⟩ (.int .i64 2)).setCell ⟨hb, n * 2 + 1, none⟩ (.string (txB (ruleOf wi))) = w3 := ⟨_, rfl⟩
    have HNT3 : Hid (La w3 lb s L N ∧ HM w3 hb (Lard.updH H n (2, ruleOf wi)) ∧ KpX X w0 w3) := hide (by rw [← hw3]; exact HNT.out)
    rw [hw3]
    clear hw3 HNT c1 c2 f1 f2
    have c3 : w3.cell? ⟨hb, n * 2 + 1, none⟩ = some (.string (txB (ruleOf wi))) := by
      have := HNT3.out.2.1.text hpy
      unfold Lard.updH at this
      rw [if_pos rfl] at this
      exact this
    have HSET := hide (fun (w4 : World) (hB4 : Below w3.heap.size w3 w4) => (la_set (HNT3.out.1.below hB4) (keyB n) (txB (ruleOf wi)) (Lard.treeOf (ruleOf wi)) hname (by rw [txB_list]; exact ruleOf_T wi) (by have := HH2.out.ok.len; omega) hN).mono (fun e w5 (hp : _ ∧ _) => (⟨hp.1, by
      have h2 := hp.2
      rw [keyB_list, txB_list] at h2
      obtain ⟨L', hl⟩ := HH2.out.set hpy wi (HNT3.out.1.below hB4) HH2.out.off (HNT3.out.2.1.same (hB4.block _ HNT3.out.2.1.lt)) (HNT3.out.2.2.below hB4) h2
      exact ⟨L', hl.le (by omega)⟩⟩ : e = .returned (.tuple #[.int .i64 0, .int .i64 0]) ∧ ∃ L', HX X w0 w5 lb hb (s.gv (Lard.keyText n) ⟨Lard.vn 0, some (Lard.treeOf (ruleOf wi)), ruleOf wi, none⟩) L' (N + 2000000000) (Lard.updH H n (2, ruleOf wi)))))
    unfold ptr at HSET
    clear HH2 HNT3 hstr
    generalize txB (ruleOf wi) = tx at c3 HSET ⊢
    refine wp_nrm ?_
    go_region_with (first | (go_at_call 19; refine (HYN.out _).mono ?_; rintro e w4 ⟨rfl, hB4⟩; have hB4' := ((Below.refl _ w3).drew).trans hB4; have c4 := cell_later hB4' c3) | (go_at_call 25; refine (HSET.out _ (by assumption)).mono ?_; rintro e w5 ⟨rfl, L5, h5⟩))
    all_goals
      have HE := hide (HF.out w5 L5 h5)
      refine onlyN_is ?_
      apply_assumption
      simp only [Act.put, List.setIfInBounds_toArray, List.set_cons_zero, List.set_cons_succ]
      clear HF h5 HSET HYN
      go_wp2_with fail
      exact HE.out
  · go_wp2_with fail
    refine (HYN.out _).mono ?_
    rintro e w2 ⟨rfl, hB2⟩
    dsimp only
    have HH2 := hide (HH.out.below hB2)
    clear HPV HPR d2 HH hB2 HYN
    have HD := hide (la_drop HH2.out.la (keyB n) hname hN)
    unfold ptr at HD
    go_wp2_with fail
    refine HD.out.mono ?_
    rintro e w3 ⟨c, s', rfl, hs', hP⟩
    dsimp only
    rw [keyB_list] at hs'
    clear HD
    obtain ⟨hm3, L3, h3⟩ := HH2.out.drop hpy (by
      rcases hs' with ⟨_, h1, h2⟩ | ⟨_, h1, h2⟩
      · exact .inl ⟨h1, h2⟩
      · exact .inr ⟨h1, h2⟩) hP
    have c1 := hm3.what hpy
    have c2 := hm3.text hpy
    have f1 := World.rowIs.frozen hm3 (n * 2)
    have f2 := World.rowIs.frozen hm3 (n * 2 + 1)
    have hlk := HH2.out.ok.look hpy (HH2.out.oki n hpy)
    have HHS := hide hs'
    have H3 := hide h3
    clear hs' h3 hP hm3 HH2
    by_cases hc : 0 < (H n).1
    · have hci : (0 : Int) < ((H n).1 : Int) := by omega
      rw [decide_eq_true hc] at hlk
      obtain ⟨rfl, -, hs2⟩ : c = 0 ∧ _ ∧ s' = s.drop (Lard.keyText n) := by
        rcases HHS.out with h | ⟨_, h1, _⟩
        · exact h
        · rw [hlk] at h1; cases h1
      have HE := hide (HF.out _ L3 (by
        simp only [hlk]
        rw [← hs2]
        exact H3.out.le (by omega)))
      clear HF H3 HHS hlk hs2
      go_wp2_with fail
      exact HE.out
    · have hci : ¬ (0 : Int) < ((H n).1 : Int) := by omega
      rw [decide_eq_false hc] at hlk
      obtain ⟨rfl, -, hs2⟩ : c = 7 ∧ _ ∧ s' = s := by
        rcases HHS.out with ⟨_, h1, _⟩ | h
        · rw [hlk] at h1; cases h1
        · exact h
      have HE := hide (HF.out _ L3 (by
        simp only [hlk]
        rw [← hs2]
        exact H3.out.le (by omega)))
      clear HF H3 HHS hlk hs2
      go_wp2_with fail
      exact HE.out
  · go_wp2_with fail
    refine (HYN.out _).mono ?_
    rintro e w2 ⟨rfl, hB2⟩
    dsimp only
    have HH2 := hide (HH.out.below hB2)
    clear HPV HPR d2 HH hB2 HYN
    have HA := hide (la_ask HH2.out.la (keyB n) hname hN)
    unfold ptr at HA
    go_wp2_with fail
    refine HA.out.mono ?_
    rintro e w3 ⟨v, tc, ts, rfl, htv, hP, o, cp, rfl, -⟩
    dsimp only
    rw [keyB_list] at htv hP ⊢
    clear HA
    obtain ⟨L3, h3⟩ := HH2.out.post hP (HH2.out.ok.ask _) rfl
    have HE := hide (HF.out _ L3 h3)
    have hec := HH2.out.la.sound.ec (Lard.keyText n)
    have hrg := fun h => (Lard.ask_ring HH2.out.la.sound (Lard.keyText n) h).1
    clear HF h3 hP HH2
    generalize (s.ask (Lard.keyText n)).1 = r at htv hec hrg
    generalize (s.ask (Lard.keyText n)).2.ring = l at hrg ⊢
    rcases r with cd | v
    · obtain ⟨hc7, hc12⟩ := hec cd rfl
      have e1 : toldV (.error cd) = .agg #[.int .i64 (cd : Int), .string ⟨#[]⟩] := rfl
      rw [e1] at htv
      cases htv
      by_cases h12 : cd = 12
      · subst h12
        have hpos : 0 < l.length := List.length_pos_iff.2 (hrg rfl)
        have hl : (if ((12 : Nat) : Int) = 12 then l else []).length = l.length := rfl
        rw [hl]
        have hli : (0 : Int) < (l.length : Int) := by omega
        generalize l.length = len at hli ⊢
        clear hrg hec e1 hl
        go_wp2_with fail
        exact HE.out
      · have hl : (if (cd : Int) = 12 then l else []).length = 0 := by
          rw [if_neg (by omega)]
          rfl
        rw [hl]
        have h1 : ((cd : Int) == 12) = false := beq_eq_false_iff_ne.2 (by omega)
        have h2 : ((cd : Int) == 0) = false := beq_eq_false_iff_ne.2 (by omega)
        clear hrg hec e1 hl
        go_wp2_with fail
        exact HE.out
    · have e1 : toldV (.ok v) = .agg #[.int .i64 0, .string ⟨(Lard.wr 3 v).toArray⟩] := rfl
      rw [e1] at htv
      have hne := wr_ne v
      cases htv
      have hl : (if (0 : Int) = 12 then l else []).length = 0 := rfl
      rw [hl]
      have h1 : (⟨(Lard.wr 3 v).toArray⟩ : ByteArray).toList.isEmpty = false := by
        rw [Lib.toList_data]
        simpa using hne
      generalize (⟨(Lard.wr 3 v).toArray⟩ : ByteArray) = ts at h1
      clear hrg hec e1 hl hne
      go_wp2_with fail
      exact HE.out
  · go_wp2_with fail
    refine (HYN.out _).mono ?_
    rintro e w2 ⟨rfl, hB2⟩
    dsimp only
    have HH2 := hide (HH.out.below hB2)
    clear HPV HPR d2 HH hB2 HYN
    have HA := hide (la_ask HH2.out.la (keyB n) hname hN)
    unfold ptr at HA
    go_wp2_with fail
    refine HA.out.mono ?_
    rintro e w3 ⟨v, tc, ts, rfl, htv, hP, o, cp, rfl, -⟩
    dsimp only
    rw [keyB_list] at htv hP ⊢
    clear HA
    obtain ⟨L3, h3⟩ := HH2.out.post hP (HH2.out.ok.ask _) rfl
    have HE := hide (HF.out _ L3 h3)
    have hec := HH2.out.la.sound.ec (Lard.keyText n)
    have hrg := fun h => (Lard.ask_ring HH2.out.la.sound (Lard.keyText n) h).1
    clear HF h3 hP HH2
    generalize (s.ask (Lard.keyText n)).1 = r at htv hec hrg
    generalize (s.ask (Lard.keyText n)).2.ring = l at hrg ⊢
    rcases r with cd | v
    · obtain ⟨hc7, hc12⟩ := hec cd rfl
      have e1 : toldV (.error cd) = .agg #[.int .i64 (cd : Int), .string ⟨#[]⟩] := rfl
      rw [e1] at htv
      cases htv
      by_cases h12 : cd = 12
      · subst h12
        have hpos : 0 < l.length := List.length_pos_iff.2 (hrg rfl)
        have hl : (if ((12 : Nat) : Int) = 12 then l else []).length = l.length := rfl
        rw [hl]
        have hli : (0 : Int) < (l.length : Int) := by omega
        generalize l.length = len at hli ⊢
        clear hrg hec e1 hl
        go_wp2_with fail
        exact HE.out
      · have hl : (if (cd : Int) = 12 then l else []).length = 0 := by
          rw [if_neg (by omega)]
          rfl
        rw [hl]
        have h1 : ((cd : Int) == 12) = false := beq_eq_false_iff_ne.2 (by omega)
        have h2 : ((cd : Int) == 0) = false := beq_eq_false_iff_ne.2 (by omega)
        clear hrg hec e1 hl
        go_wp2_with fail
        exact HE.out
    · have e1 : toldV (.ok v) = .agg #[.int .i64 0, .string ⟨(Lard.wr 3 v).toArray⟩] := rfl
      rw [e1] at htv
      have hne := wr_ne v
      cases htv
      have hl : (if (0 : Int) = 12 then l else []).length = 0 := rfl
      rw [hl]
      have h1 : (⟨(Lard.wr 3 v).toArray⟩ : ByteArray).toList.isEmpty = false := by
        rw [Lib.toList_data]
        simpa using hne
      generalize (⟨(Lard.wr 3 v).toArray⟩ : ByteArray) = ts at h1
      clear hrg hec e1 hl hne
      go_wp2_with fail
      exact HE.out
  · go_wp2_with fail
    refine (HYN.out _).mono ?_
    rintro e w2 ⟨rfl, hB2⟩
    dsimp only
    have HH2 := hide (HH.out.below hB2)
    clear HPV HPR d2 HH hB2 HYN
    have HA := hide (la_ask HH2.out.la (keyB n) hname hN)
    unfold ptr at HA
    go_wp2_with fail
    refine HA.out.mono ?_
    rintro e w3 ⟨v, tc, ts, rfl, htv, hP, o, cp, rfl, -⟩
    dsimp only
    rw [keyB_list] at htv hP ⊢
    clear HA
    obtain ⟨L3, h3⟩ := HH2.out.post hP (HH2.out.ok.ask _) rfl
    have HE := hide (HF.out _ L3 h3)
    have hec := HH2.out.la.sound.ec (Lard.keyText n)
    have hrg := fun h => (Lard.ask_ring HH2.out.la.sound (Lard.keyText n) h).1
    clear HF h3 hP HH2
    generalize (s.ask (Lard.keyText n)).1 = r at htv hec hrg
    generalize (s.ask (Lard.keyText n)).2.ring = l at hrg ⊢
    rcases r with cd | v
    · obtain ⟨hc7, hc12⟩ := hec cd rfl
      have e1 : toldV (.error cd) = .agg #[.int .i64 (cd : Int), .string ⟨#[]⟩] := rfl
      rw [e1] at htv
      cases htv
      by_cases h12 : cd = 12
      · subst h12
        have hpos : 0 < l.length := List.length_pos_iff.2 (hrg rfl)
        have hl : (if ((12 : Nat) : Int) = 12 then l else []).length = l.length := rfl
        rw [hl]
        have hli : (0 : Int) < (l.length : Int) := by omega
        generalize l.length = len at hli ⊢
        clear hrg hec e1 hl
        go_wp2_with fail
        exact HE.out
      · have hl : (if (cd : Int) = 12 then l else []).length = 0 := by
          rw [if_neg (by omega)]
          rfl
        rw [hl]
        have h1 : ((cd : Int) == 12) = false := beq_eq_false_iff_ne.2 (by omega)
        have h2 : ((cd : Int) == 0) = false := beq_eq_false_iff_ne.2 (by omega)
        clear hrg hec e1 hl
        go_wp2_with fail
        exact HE.out
    · have e1 : toldV (.ok v) = .agg #[.int .i64 0, .string ⟨(Lard.wr 3 v).toArray⟩] := rfl
      rw [e1] at htv
      have hne := wr_ne v
      cases htv
      have hl : (if (0 : Int) = 12 then l else []).length = 0 := rfl
      rw [hl]
      have h1 : (⟨(Lard.wr 3 v).toArray⟩ : ByteArray).toList.isEmpty = false := by
        rw [Lib.toList_data]
        simpa using hne
      generalize (⟨(Lard.wr 3 v).toArray⟩ : ByteArray) = ts at h1
      clear hrg hec e1 hl hne
      go_wp2_with fail
      exact HE.out
theorem does_any (w0 w : World) (lb hb : Nat) (s : Lard.LS) (L : Nat → Prop) (N : Nat) (H : Nat → Nat × List UInt8) (kd ky wi : Int) (hkd : -9223372036854775808 ≤ kd ∧ kd ≤ 9223372036854775807) (hky : -9223372036854775808 ≤ ky ∧ ky ≤ 9223372036854775807) (hwi : -9223372036854775808 ≤ wi ∧ wi ≤ 9223372036854775807) (hN : N ≤ 10000000000000) (h : HL w0 w lb hb s L N H) :
    Calls Tryz.prog 17 #[ptr lb, .slice (some ⟨hb, 0, none⟩) 8 8, .agg #[.int .i64 kd, .int .i64 ky, .int .i64 wi]] w fun e w' => e = .returned (.bool true) ∧ ∃ L', HL w0 w' lb hb (stepS s kd ky wi) L' (N + 2000000000) (stepH H kd ky wi) :=
  (does_x _ w0 w lb hb s L N H kd ky wi hkd hky hwi hN h.hx).mono (fun e w' ⟨h1, L', h2⟩ => ⟨h1, L', h2.hl⟩)
end Go.Proofs.YtpekpdimdelncaaGreatDoor
namespace Go.Proofs.YtpekpdimdelncaaGreatDoor
set_option maxRecDepth 100000
set_option maxHeartbeats 4000000
open Go.RowKit Go.Shelf
set_option linter.unusedVariables false
set_option linter.unusedSimpArgs false
structure FW (w0 w : World) (lb : Nat) (f : Lard.LS) (L : Nat → Prop) (N i : Nat) (H : Nat → Nat × List UInt8) : Prop where
  la : La w lb f L N
  off : ∀ k, L k → w0.heap.size ≤ k
  bel : Below w0.heap.size w0 w
  ok : Lard.HasOk f H i
section
variable {w0 w w' : World} {lb : Nat} {f f' : Lard.LS} {L : Nat → Prop} {N M i : Nat} {H : Nat → Nat × List UInt8}
theorem FW.below (h : FW w0 w lb f L N i H) (hB : Below w.heap.size w w') : FW w0 w' lb f L N i H := ⟨h.la.below hB, h.off, h.bel.trans (hB.mono h.bel.size), h.ok⟩
theorem FW.post (h : FW w0 w lb f L N i H) (hP : LaPost w lb L f' M w') {j : Nat} (hok : Lard.HasOk f' H j) : ∃ L', FW w0 w' lb f' L' M j H := by
  obtain ⟨L', h1, h2, h3, h4⟩ := hP
  have hb0 := h.bel.size
  refine ⟨L', h1, fun k hk => ?_, ?_, hok⟩
  · rcases h2 k hk with h5 | h5
    · exact h.off k h5
    · omega
  · exact h.bel.trans ⟨h4.os, h4.tape, h4.output, h4.size, fun k hk => h4.block k (by omega) (fun hl => by have := h.off k hl; omega)⟩
end
theorem clean_any (w : World) (hb : Nat) (H : Nat → Nat × List UInt8) (g : G w) (hd : Deb w) (hm : HM w hb H) (hok : ∀ i, i < 8 → Lard.OkI (H i)) :
    Calls Tryz.prog 21 #[.slice (some ⟨hb, 0, none⟩) 8 8] w fun e w' => ∃ lb f L, e = .returned (ptr lb) ∧ FW w w' lb f L 16000 8 H := by
  have HN := hide (la_new w g hd)
  generalize hRR : (fun (e : Ending) (w' : World) => ∃ lb f L, e = .returned (ptr lb) ∧ FW w w' lb f L 16000 8 H) = RR
  have HF : Hid (∀ w' lb f L, FW w w' lb f L (8 * 2000) 8 H → RR (.returned (ptr lb)) w') := hide (fun w' lb f L hl => by rw [← hRR]; exact ⟨lb, f, L, rfl, hl⟩)
  have HO := hide (And.intro hm hok)
  clear hRR g hd hm hok
  go_enter Tryz.func21, Tryz.ntmps21
  go_wp2_with fail
  refine HN.out.mono ?_
  rintro e w1 ⟨lb, rfl, hla, hB1⟩
  dsimp only
  have H1 : Hid (FW w w1 lb Lard.LS.new (fun k => w.heap.size ≤ k ∧ k ≤ w.heap.size + 2) (0 * 2000) 0 H) := hide ⟨by simpa using hla, fun k hk => hk.1, hB1, Lard.HasOk.new H⟩
  clear HN hla hB1
  unfold ptr at *
  go_wp2_with fail
  go_loopw [4] (fun iv wr => ∃ (i : Nat) (f : Lard.LS) (L : Nat → Prop), i ≤ 8 ∧ iv = .int .i64 i ∧ Hid (FW w wr lb f L (i * 2000) i H)) (fun iv _ => 8 - (intOf iv).toNat)
  case atStart => exact ⟨0, _, _, Nat.zero_le _, rfl, H1⟩
  case round =>
    obtain ⟨i, f, L, hi, rfl, HX⟩ := hrel
    clear H1
    by_cases hlt : i < 8
    · have hin : (i : Int) < 8 := by omega
      have hmr : HM wr hb H := HO.out.1.same (HX.out.bel.block _ HO.out.1.lt)
      have c1 := hmr.what hlt
      have c2 := hmr.text hlt
      have HYN := hide (fun w => key_any i w (by omega))
      have hname := keyB_name i (by omega)
      have hoi := HO.out.2 i hlt
      clear hmr
      obtain ⟨⟨a, t⟩, hp⟩ : ∃ p, H i = p := ⟨_, rfl⟩
      rw [hp] at c1 c2 hoi
      have HPI := hide hp
      clear hp
      have hstr : str t = .string (txB t) := rfl
      rcases hoi with e | ⟨e, hv, hl⟩ | ⟨e, hv, hk⟩
      · cases e
        go_wp2_with fail
        refine ⟨⟨i + 1, f, L, by omega, by go_num, hide ⟨HX.out.la.le (by omega), HX.out.off, HX.out.bel, HX.out.ok.skip hlt (by rw [HPI.out]; rfl)⟩⟩, ?_⟩
        simp [intOf]; omega
      · have e : a = 1 := e
        subst e
        rw [hstr] at c2
        obtain ⟨v, hv'⟩ := Option.isSome_iff_exists.1 hv
        have HPUT := hide (fun (w4 : World) (hB4 : Below wr.heap.size wr w4) => (la_put (HX.out.below hB4).la (keyB i) (txB t) v hname (by rw [txB_list]; exact hv') (by have := HX.out.ok.len; omega) (by rw [txB_size]; exact hl) (by omega)).mono (fun e w5 (hp : _ ∧ _) => (⟨hp.1, by
          have h2 := hp.2
          rw [keyB_list] at h2
          have hs : Lard.Sound (f.gv (Lard.keyText i) ⟨v, none, [], none⟩) := by
            obtain ⟨_, h1, _⟩ := h2
            exact h1.sound
          obtain ⟨L', h3⟩ := (HX.out.below hB4).post h2 (HX.out.ok.more hlt hs (by
            rw [HPI.out]
            unfold Lard.srcI
            rw [if_pos rfl, hv']
            rfl))
          rw [show i * 2000 + 2000 = (i + 1) * 2000 by omega] at h3
          exact ⟨L', h3⟩⟩ : e = .returned (.int .i64 0) ∧ ∃ L', FW w w5 lb (f.gv (Lard.keyText i) ⟨v, none, [], none⟩) L' ((i + 1) * 2000) (i + 1) H)))
        unfold ptr at HPUT
        clear HX hstr hv hv' hl
        generalize txB t = tx at c2 HPUT
        go_wp2_with fail
        refine wp_nrm ?_
        go_region_with (first | (go_at_call 19; refine (HYN.out _).mono ?_; rintro e w4 ⟨rfl, hB4⟩; have hB4' := ((Below.refl _ wr).drew).trans hB4; have c4 := cell_later hB4' c2) | (go_at_call 23; refine (HPUT.out _ (by assumption)).mono ?_; rintro e w5 ⟨rfl, L5, h5⟩))
        all_goals
          have H5 := hide h5
          refine onlyN_is ?_
          apply_assumption
          clear h5 HPUT HYN
          go_wp2_with fail
          refine ⟨⟨i + 1, _, L5, by omega, by go_num, H5⟩, ?_⟩
          simp [intOf]; omega
      · have e : a = 2 := e
        subst e
        rw [hstr] at c2
        have HSET := hide (fun (w4 : World) (hB4 : Below wr.heap.size wr w4) => (la_set (HX.out.below hB4).la (keyB i) (txB t) (Lard.treeOf t) hname (by rw [txB_list]; exact ruleT_of hv hk) (by have := HX.out.ok.len; omega) (by omega)).mono (fun e w5 (hp : _ ∧ _) => (⟨hp.1, by
          have h2 := hp.2
          rw [keyB_list, txB_list] at h2
          have hs : Lard.Sound (f.gv (Lard.keyText i) ⟨Lard.vn 0, some (Lard.treeOf t), t, none⟩) := by
            obtain ⟨_, h1, _⟩ := h2
            exact h1.sound
          obtain ⟨L', h3⟩ := (HX.out.below hB4).post h2 (HX.out.ok.more hlt hs (by
            rw [HPI.out]
            unfold Lard.srcI
            have hv2 : Lard.check t = (0, 0) := hv
            rw [if_neg (show ¬ (2 : Nat) = 1 by decide), if_pos rfl, if_pos hv2]))
          rw [show i * 2000 + 2000 = (i + 1) * 2000 by omega] at h3
          exact ⟨L', h3⟩⟩ : e = .returned (.tuple #[.int .i64 0, .int .i64 0]) ∧ ∃ L', FW w w5 lb (f.gv (Lard.keyText i) ⟨Lard.vn 0, some (Lard.treeOf t), t, none⟩) L' ((i + 1) * 2000) (i + 1) H)))
        unfold ptr at HSET
        clear HX hstr hv hk
        generalize txB t = tx at c2 HSET
        go_wp2_with fail
        refine wp_nrm ?_
        go_region_with (first | (go_at_call 19; refine (HYN.out _).mono ?_; rintro e w4 ⟨rfl, hB4⟩; have hB4' := ((Below.refl _ wr).drew).trans hB4; have c4 := cell_later hB4' c2) | (go_at_call 25; refine (HSET.out _ (by assumption)).mono ?_; rintro e w5 ⟨rfl, L5, h5⟩))
        all_goals
          have H5 := hide h5
          refine onlyN_is ?_
          apply_assumption
          clear h5 HSET HYN
          go_wp2_with fail
          refine ⟨⟨i + 1, _, L5, by omega, by go_num, H5⟩, ?_⟩
          simp [intOf]; omega
    · obtain rfl : i = 8 := by omega
      have HE := hide (HF.out wr lb f L HX.out)
      unfold ptr at HE
      clear HF HX
      go_wp2_with fail
      exact HE.out
end Go.Proofs.YtpekpdimdelncaaGreatDoor
namespace Go.Proofs.YtpekpdimdelncaaGreatDoor
open Go.RowKit Go.Shelf
set_option linter.unusedVariables false
set_option linter.unusedSimpArgs false
structure TW (w0 w : World) (lb hb lb2 : Nat) (s f : Lard.LS) (L L2 : Nat → Prop) (N M : Nat) (H : Nat → Nat × List UInt8) : Prop where
  hl : HL w0 w lb hb s L N H
  la2 : La w lb2 f L2 M
  ok2 : Lard.HasOk f H 8
  dis : ∀ k, L k → ¬ L2 k
  hb2 : ¬ L2 hb
  lo2 : ∀ k, L2 k → w0.heap.size ≤ k
section
variable {w0 w w' : World} {lb hb lb2 : Nat} {s f s' f' : Lard.LS} {L L2 : Nat → Prop} {N M N' : Nat} {H : Nat → Nat × List UInt8}
theorem HL.two (h : HL w0 w lb hb s L N H) (hf : FW w w' lb2 f L2 M 8 H) : TW w0 w' lb hb lb2 s f L L2 N M H where
  hl := h.below hf.bel
  la2 := hf.la
  ok2 := hf.ok
  dis k hk hk2 := by
    have h1 := (h.la.lat.lt hk).2
    have h2 := hf.off k hk2
    omega
  hb2 hk := by
    have h1 := h.hm.lt
    have h2 := hf.off hb hk
    omega
  lo2 k hk := Nat.le_trans h.bel.size (hf.off k hk)
theorem TW.below (h : TW w0 w lb hb lb2 s f L L2 N M H) (hB : Below w.heap.size w w') : TW w0 w' lb hb lb2 s f L L2 N M H :=
  ⟨h.hl.below hB, h.la2.below hB, h.ok2, h.dis, h.hb2, h.lo2⟩
theorem TW.le (h : TW w0 w lb hb lb2 s f L L2 N M H) {N1 M1 : Nat} (h1 : N ≤ N1) (h2 : M ≤ M1) : TW w0 w lb hb lb2 s f L L2 N1 M1 H :=
  ⟨h.hl.le h1, h.la2.le h2, h.ok2, h.dis, h.hb2, h.lo2⟩
end
theorem told_same2 {r : Lard.Wo} {tc tc' : Int} {ts ts' : ByteArray} (h : toldV r = .agg #[.int .i64 tc, .string ts]) (h' : toldV r = .agg #[.int .i64 tc', .string ts']) : tc = tc' ∧ ts = ts' := by
  rw [h] at h'
  cases h'
  exact ⟨rfl, rfl⟩
end Go.Proofs.YtpekpdimdelncaaGreatDoor
