/- Out of: E5, E6. -/
import Derived.Test.YtpekpdimdelncaaGreatDoorP43
import Derived.Deep.RegionWith
import Derived.BigQuiet
namespace Go.Proofs.YtpekpdimdelncaaGreatDoor
open Go.RowKit Go.Shelf
set_option linter.unusedVariables false
set_option linter.unusedSimpArgs false
def valOf (c : Int) : Lard.V := (Lard.rdV (Lard.valueText (pickN c 12))).getD (Lard.vn 0)
def stepS (s : Lard.LS) (kd ky wi : Int) : Lard.LS :=
  if pickN kd 9 < 2 then s.gv (Lard.keyText (pickN ky 8)) ⟨valOf wi, none, [], none⟩
  else if pickN kd 9 < 5 then s.gv (Lard.keyText (pickN ky 8)) ⟨Lard.vn 0, some (Lard.treeOf (ruleOf wi)), ruleOf wi, none⟩
  else if pickN kd 9 = 5 then (if (Lard.look s.has (Lard.keyText (pickN ky 8))).isSome = true then s.drop (Lard.keyText (pickN ky 8)) else s)
  else (s.ask (Lard.keyText (pickN ky 8))).2
def stepH (H : Nat → Nat × List UInt8) (kd ky wi : Int) : Nat → Nat × List UInt8 :=
  if pickN kd 9 < 2 then Lard.updH H (pickN ky 8) (1, Lard.valueText (pickN wi 12))
  else if pickN kd 9 < 5 then Lard.updH H (pickN ky 8) (2, ruleOf wi)
  else if pickN kd 9 = 5 then Lard.updH H (pickN ky 8) (0, [])
  else H
theorem ruleOf_ok (c : Int) : Lard.check (ruleOf c) = (0, 0) ∧ (Lard.treeOf (ruleOf c)).kind ≠ 0 ∧ (ruleOf c).length ≤ 60 := by
  unfold ruleOf ruleTx
  have h1 : pickN c 16 < 16 := Nat.mod_lt _ (by omega)
  have h2 : pickN (c.tdiv 16) 8 < 8 := Nat.mod_lt _ (by omega)
  have h3 : pickN (c.tdiv 128) 8 < 8 := Nat.mod_lt _ (by omega)
  have h4 : pickN (c.tdiv 16) 4 = pickN (c.tdiv 16) 8 % 4 := by unfold pickN; omega
  have h5 : pickN (c.tdiv 16) 10 < 10 := Nat.mod_lt _ (by omega)
  rw [h4]
  split
  · exact ⟨Lard.digit_good h5, Lard.digit_tree h5, by show 1 ≤ 60; omega⟩
  · exact ⟨(Lard.rule_good h1 h2 h3).1, Lard.rule_tree h1 h2 h3, (Lard.rule_good h1 h2 h3).2⟩
theorem ruleOf_T (c : Int) : Lard.ruleT (ruleOf c) = some (Lard.treeOf (ruleOf c)) := ruleT_of (ruleOf_ok c).1 (ruleOf_ok c).2.1
theorem valOf_rd (c : Int) : Lard.rdV (Lard.valueText (pickN c 12)) = some (valOf c) ∧ (Lard.valueText (pickN c 12)).length ≤ 1000 := by
  have h1 : pickN c 12 < 12 := Nat.mod_lt _ (by omega)
  obtain ⟨h2, h3⟩ := Lard.value_good h1
  refine ⟨?_, h3⟩
  unfold valOf
  cases h : Lard.rdV (Lard.valueText (pickN c 12)) with
  | none => rw [h] at h2; cases h2
  | some v => rfl
section
variable {w0 w w' : World} {lb hb : Nat} {s : Lard.LS} {L : Nat → Prop} {N : Nat} {H : Nat → Nat × List UInt8}
theorem HL.put (h : HL w0 w lb hb s L N H) {n : Nat} (hn : n < 8) (c : Int) {L1 : Nat → Prop} (hla : La w' lb s L1 N) {M : Nat}
    (hL1 : ∀ k, L1 k → w0.heap.size ≤ k ∧ k ≠ hb) (hm : HM w' hb (Lard.updH H n (1, Lard.valueText (pickN c 12)))) (hbel : Below w0.heap.size w0 w') {w2 : World} (hP : LaPost w' lb L1 (s.gv (Lard.keyText n) ⟨valOf c, none, [], none⟩) M w2) :
    ∃ L', HL w0 w2 lb hb (s.gv (Lard.keyText n) ⟨valOf c, none, [], none⟩) L' M (Lard.updH H n (1, Lard.valueText (pickN c 12))) := by
  obtain ⟨L', h1, h2, h3, h4⟩ := hP
  have hb0 := hbel.size
  refine ⟨L', h1, hm.same (h4.block _ hm.lt (fun hl => (hL1 _ hl).2 rfl)), fun k hk => ?_, h.own, ?_, ?_, fun i hi => ?_⟩
  · rcases h2 k hk with h5 | h5
    · exact hL1 k h5
    · have := hm.lt
      exact ⟨by omega, by omega⟩
  · exact hbel.trans ⟨h4.os, h4.tape, h4.output, h4.size, fun k hk => h4.block k (by omega) (fun hl => by have := (hL1 k hl).1; omega)⟩
  · exact h.ok.put hn rfl h1.sound (by
      show Lard.srcI (1, _) = _
      unfold Lard.srcI
      rw [if_pos rfl, (valOf_rd c).1]
      rfl)
  · unfold Lard.updH
    split
    · exact .inr (.inl ⟨rfl, by rw [(valOf_rd c).1]; rfl, (valOf_rd c).2⟩)
    · exact h.oki i hi
theorem HL.set (h : HL w0 w lb hb s L N H) {n : Nat} (hn : n < 8) (c : Int) {L1 : Nat → Prop} (hla : La w' lb s L1 N) {M : Nat}
    (hL1 : ∀ k, L1 k → w0.heap.size ≤ k ∧ k ≠ hb) (hm : HM w' hb (Lard.updH H n (2, ruleOf c))) (hbel : Below w0.heap.size w0 w') {w2 : World} (hP : LaPost w' lb L1 (s.gv (Lard.keyText n) ⟨Lard.vn 0, some (Lard.treeOf (ruleOf c)), ruleOf c, none⟩) M w2) :
    ∃ L', HL w0 w2 lb hb (s.gv (Lard.keyText n) ⟨Lard.vn 0, some (Lard.treeOf (ruleOf c)), ruleOf c, none⟩) L' M (Lard.updH H n (2, ruleOf c)) := by
  obtain ⟨L', h1, h2, h3, h4⟩ := hP
  have hb0 := hbel.size
  refine ⟨L', h1, hm.same (h4.block _ hm.lt (fun hl => (hL1 _ hl).2 rfl)), fun k hk => ?_, h.own, ?_, ?_, fun i hi => ?_⟩
  · rcases h2 k hk with h5 | h5
    · exact hL1 k h5
    · have := hm.lt
      exact ⟨by omega, by omega⟩
  · exact hbel.trans ⟨h4.os, h4.tape, h4.output, h4.size, fun k hk => h4.block k (by omega) (fun hl => by have := (hL1 k hl).1; omega)⟩
  · exact h.ok.put hn rfl h1.sound (by
      show Lard.srcI (2, _) = _
      unfold Lard.srcI
      rw [if_neg (show ¬ (2 : Nat) = 1 by decide), if_pos rfl, if_pos (ruleOf_ok c).1])
  · unfold Lard.updH
    split
    · exact .inr (.inr ⟨rfl, (ruleOf_ok c).1, (ruleOf_ok c).2.1⟩)
    · exact h.oki i hi
theorem HL.drop (h : HL w0 w lb hb s L N H) {n : Nat} (hn : n < 8) {s' : Lard.LS} {M : Nat} {w2 : World} (hs : ((Lard.look s.has (Lard.keyText n)).isSome = true ∧ s' = s.drop (Lard.keyText n)) ∨ ((Lard.look s.has (Lard.keyText n)).isSome = false ∧ s' = s)) (hP : LaPost w lb L s' M w2) :
    HM w2 hb H ∧ ∃ L', HL w0 ((w2.setCell ⟨hb, n * 2, none⟩ (.int .i64 0)).setCell ⟨hb, n * 2 + 1, none⟩ (.string ⟨#[]⟩)) lb hb s' L' M (Lard.updH H n (0, [])) := by
  obtain ⟨L', h1, h2, h3, h4⟩ := hP
  have hb0 := h.bel.size
  have hm2 : HM w2 hb H := h.hm.same (h4.block _ h.hm.lt (fun hl => (h.off _ hl).2 rfl))
  have hL' : ∀ k, L' k → w0.heap.size ≤ k ∧ k ≠ hb := fun k hk => by
    rcases h2 k hk with h5 | h5
    · exact h.off k h5
    · have := h.hm.lt
      exact ⟨by omega, by omega⟩
  have hbel : Below w0.heap.size w0 w2 := h.bel.trans ⟨h4.os, h4.tape, h4.output, h4.size, fun k hk => h4.block k (by omega) (fun hl => by have := (h.off k hl).1; omega)⟩
  have hblk : ∀ k, k ≠ hb → ((w2.setCell ⟨hb, n * 2, none⟩ (.int .i64 0)).setCell ⟨hb, n * 2 + 1, none⟩ (.string ⟨#[]⟩)).heap[k]? = w2.heap[k]? := fun k hk => by
    rw [Deep.blk_setCell_other _ _ _ _ hk, Deep.blk_setCell_other _ _ _ _ hk]
  have hsz : ((w2.setCell ⟨hb, n * 2, none⟩ (.int .i64 0)).setCell ⟨hb, n * 2 + 1, none⟩ (.string ⟨#[]⟩)).heap.size = w2.heap.size := by simp [World.setCell]
  refine ⟨hm2, L', h1.other (L2 := fun k => k = hb) ⟨rfl, rfl, rfl, by omega, fun k hk hne => hblk k hne⟩ (fun k hk => by rw [hk]; exact h.own.2) (fun k hk cs t fz hc => ?_) (fun k hk e => (hL' k hk).2 e), hm2.put hn (0, []), hL', h.own, hbel.trans ⟨rfl, rfl, rfl, by omega, fun k hk => hblk k (by have := h.own.1; omega)⟩, ?_, fun i hi => ?_⟩
  · subst hk
    obtain ⟨c, h5, _⟩ := hm2
    rw [h5] at hc
    cases hc
    exact imm_has
  · rcases hs with ⟨_, rfl⟩ | ⟨hl, rfl⟩
    · exact h.ok.drop hn
    · have h6 := h.ok.look hn (h.oki n hn)
      rw [hl] at h6
      have h7 : ¬ 0 < (H n).1 := by simpa using h6.symm
      have h8 : H n = (0, []) := by
        rcases h.oki n hn with e | ⟨e, _⟩ | ⟨e, _⟩
        · exact e
        · omega
        · omega
      have h9 : Lard.updH H n (0, []) = H := by
        funext i
        unfold Lard.updH
        by_cases e : i = n
        · rw [if_pos e, e, h8]
        · rw [if_neg e]
      rw [h9]
      exact h.ok
  · unfold Lard.updH
    split
    · exact .inl rfl
    · exact h.oki i hi
end
theorem wr_ne (v : Lard.V) : Lard.wr 3 v ≠ [] := by
  obtain ⟨x⟩ := v
  rcases x with i | b | l
  · exact Lard.itoa_ne i
  · exact List.cons_ne_nil _ _
  · exact List.cons_ne_nil _ _
end Go.Proofs.YtpekpdimdelncaaGreatDoor
namespace Go.Proofs.YtpekpdimdelncaaGreatDoor
open Go.RowKit Go.Shelf
set_option linter.unusedVariables false
set_option linter.unusedSimpArgs false
theorem wp_nrm {P : Program} {C : Code} {Q : Exit → Act → World → Prop} {a : Act} {w : World} (h : C.wp P (onlyN (fun a w => Q .normal a w)) a w) : C.wp P Q a w := wp_onlyN _ (fun _ _ h => h) h
theorem onlyN_is {K : Act → World → Prop} {a : Act} {w : World} (h : K a w) : onlyN K .normal a w := h
set_option maxRecDepth 100000 in
set_option maxHeartbeats 4000000 in
theorem does_any (w0 w : World) (lb hb : Nat) (s : Lard.LS) (L : Nat → Prop) (N : Nat) (H : Nat → Nat × List UInt8) (kd ky wi : Int) (hkd : -9223372036854775808 ≤ kd ∧ kd ≤ 9223372036854775807) (hky : -9223372036854775808 ≤ ky ∧ ky ≤ 9223372036854775807) (hwi : -9223372036854775808 ≤ wi ∧ wi ≤ 9223372036854775807) (hN : N ≤ 10000000000000) (h : HL w0 w lb hb s L N H) :
    Calls Tryz.prog 17 #[ptr lb, .slice (some ⟨hb, 0, none⟩) 8 8, .agg #[.int .i64 kd, .int .i64 ky, .int .i64 wi]] w fun e w' => e = .returned (.bool true) ∧ ∃ L', HL w0 w' lb hb (stepS s kd ky wi) L' (N + 2000000000) (stepH H kd ky wi) := by
  generalize hRR : (fun (e : Ending) (w' : World) => e = .returned (.bool true) ∧ ∃ L', HL w0 w' lb hb (stepS s kd ky wi) L' (N + 2000000000) (stepH H kd ky wi)) = RR
  have HF : Hid (∀ w' L', HL w0 w' lb hb (stepS s kd ky wi) L' (N + 2000000000) (stepH H kd ky wi) → RR (.returned (.bool true)) w') := hide (fun w' L' hl => by rw [← hRR]; exact ⟨rfl, L', hl⟩)
  clear hRR
  have HPK := hide (fun w => pick_any kd 9 w hkd.1 hkd.2 (by omega) (by omega))
  have HPY := hide (fun w => pick_any ky 8 w hky.1 hky.2 (by omega) (by omega))
  have HPV := hide (fun w => value_any wi w hwi.1 hwi.2)
  have HPR := hide (fun w => rule_any wi w hwi.1 hwi.2)
  have hpk : pickN kd 9 < 9 := Nat.mod_lt _ (by omega)
  have hpy : pickN ky 8 < 8 := Nat.mod_lt _ (by omega)
  unfold stepS stepH at HF
  generalize pickN kd 9 = k at HPK hpk HF
  generalize pickN ky 8 = n at HPY hpy HF
  have hB0 : Below w.heap.size w (w.alloc (.cells #[.int .i64 kd, .int .i64 ky, .int .i64 wi] 34)) := (Below.refl _ w).alloc (Nat.le_refl _) _
  have HH := hide (h.below hB0)
  have d0 : (w.alloc (.cells #[.int .i64 kd, .int .i64 ky, .int .i64 wi] 34)).cell? ⟨w.heap.size, 0, none⟩ = some (.int .i64 kd) := by simp [go_sem]
  have d1 : (w.alloc (.cells #[.int .i64 kd, .int .i64 ky, .int .i64 wi] 34)).cell? ⟨w.heap.size, 1, none⟩ = some (.int .i64 ky) := by simp [go_sem]
  have d2 : (w.alloc (.cells #[.int .i64 kd, .int .i64 ky, .int .i64 wi] 34)).cell? ⟨w.heap.size, 2, none⟩ = some (.int .i64 wi) := by simp [go_sem]
  have HYN := hide (fun w => key_any n w (by omega))
  have hname := keyB_name n (by omega)
  clear h hB0 hkd hky hwi
  unfold ptr
  go_enter Tryz.func17, Tryz.ntmps17
  go_wp2_with fail
  refine (HPY.out _).mono ?_
  rintro e w' ⟨rfl, hw'⟩
  obtain rfl := hw'.symm
  dsimp only
  go_wp2_with fail
  refine (HPK.out _).mono ?_
  rintro e w' ⟨rfl, hw'⟩
  obtain rfl := hw'.symm
  dsimp only
  clear HPK HPY d0 d1
  generalize w.alloc (.cells #[.int .i64 kd, .int .i64 ky, .int .i64 wi] 34) = w1 at HH d2 ⊢
  have hk : k = 0 ∨ k = 1 ∨ k = 2 ∨ k = 3 ∨ k = 4 ∨ k = 5 ∨ k = 6 ∨ k = 7 ∨ k = 8 := by omega
  have hni : (n : Int) < 8 := by omega
  rcases hk with rfl | rfl | rfl | rfl | rfl | rfl | rfl | rfl | rfl
  · go_wp2_with fail
    refine (HPV.out _).mono ?_
    rintro e w2 ⟨rfl, hB2⟩
    dsimp only
    have HH2 := hide (HH.out.below hB2)
    have c1 := HH2.out.hm.what hpy
    have c2 := HH2.out.hm.text hpy
    have f1 := World.rowIs.frozen HH2.out.hm (n * 2)
    have f2 := World.rowIs.frozen HH2.out.hm (n * 2 + 1)
    clear HPV HPR d2 HH hB2
    have HNT := hide (HH2.out.note hpy (1, Lard.valueText (pickN wi 12)))
    have hstr : str (Lard.valueText (pickN wi 12)) = .string (txB (Lard.valueText (pickN wi 12))) := rfl
    rw [hstr] at HNT
    go_wp2_with fail
    obtain ⟨w3, hw3⟩ : ∃ w3, (w2.setCell ⟨hb, n * 2, none⟩ (.int .i64 1)).setCell ⟨hb, n * 2 + 1, none⟩ (.string (txB (Lard.valueText (pickN wi 12)))) = w3 := ⟨_, rfl⟩
    have HNT3 : Hid (La w3 lb s L N ∧ HM w3 hb (Lard.updH H n (1, Lard.valueText (pickN wi 12))) ∧ Below w0.heap.size w0 w3) := hide (by rw [← hw3]; exact HNT.out)
    rw [hw3]
    clear hw3 HNT c1 c2 f1 f2
    have c3 : w3.cell? ⟨hb, n * 2 + 1, none⟩ = some (.string (txB (Lard.valueText (pickN wi 12)))) := by
      have := HNT3.out.2.1.text hpy
      unfold Lard.updH at this
      rw [if_pos rfl] at this
      exact this
    have HPUT := hide (fun (w4 : World) (hB4 : Below w3.heap.size w3 w4) => (la_put (HNT3.out.1.below hB4) (keyB n) (txB (Lard.valueText (pickN wi 12))) (valOf wi) hname (by rw [txB_list]; exact (valOf_rd wi).1) (by have := HH2.out.ok.len; omega) (by rw [txB_size]; exact (valOf_rd wi).2) hN).mono (fun e w5 (hp : _ ∧ _) => (⟨hp.1, by
      have h2 := hp.2
      rw [keyB_list] at h2
      obtain ⟨L', hl⟩ := HH2.out.put hpy wi (HNT3.out.1.below hB4) HH2.out.off (HNT3.out.2.1.same (hB4.block _ HNT3.out.2.1.lt)) (HNT3.out.2.2.trans (hB4.mono HNT3.out.2.2.size)) h2
      exact ⟨L', hl.le (by omega)⟩⟩ : e = .returned (.int .i64 0) ∧ ∃ L', HL w0 w5 lb hb (s.gv (Lard.keyText n) ⟨valOf wi, none, [], none⟩) L' (N + 2000000000) (Lard.updH H n (1, Lard.valueText (pickN wi 12))))))
    unfold ptr at HPUT
    clear HH2 HNT3 hstr
    generalize txB (Lard.valueText (pickN wi 12)) = tx at c3 HPUT ⊢
    refine wp_nrm ?_
    go_region_with (first | (go_at_call 19; refine (HYN.out _).mono ?_; rintro e w4 ⟨rfl, hB4⟩; have hB4' := ((Below.refl _ w3).drew).trans hB4; have c4 := cell_later hB4' c3) | (go_at_call 23; refine (HPUT.out _ (by assumption)).mono ?_; rintro e w5 ⟨rfl, L5, h5⟩))
    all_goals
      have HE := hide (HF.out w5 L5 h5)
      refine onlyN_is ?_
      apply_assumption
      simp only [Act.put, List.setIfInBounds_toArray, List.set_cons_zero, List.set_cons_succ]
      clear HF h5 HPUT HYN
      go_wp2_with fail
      exact HE.out
  · go_wp2_with fail
    refine (HPV.out _).mono ?_
    rintro e w2 ⟨rfl, hB2⟩
    dsimp only
    have HH2 := hide (HH.out.below hB2)
    have c1 := HH2.out.hm.what hpy
    have c2 := HH2.out.hm.text hpy
    have f1 := World.rowIs.frozen HH2.out.hm (n * 2)
    have f2 := World.rowIs.frozen HH2.out.hm (n * 2 + 1)
    clear HPV HPR d2 HH hB2
    have HNT := hide (HH2.out.note hpy (1, Lard.valueText (pickN wi 12)))
    have hstr : str (Lard.valueText (pickN wi 12)) = .string (txB (Lard.valueText (pickN wi 12))) := rfl
    rw [hstr] at HNT
    go_wp2_with fail
    obtain ⟨w3, hw3⟩ : ∃ w3, (w2.setCell ⟨hb, n * 2, none⟩ (.int .i64 1)).setCell ⟨hb, n * 2 + 1, none⟩ (.string (txB (Lard.valueText (pickN wi 12)))) = w3 := ⟨_, rfl⟩
    have HNT3 : Hid (La w3 lb s L N ∧ HM w3 hb (Lard.updH H n (1, Lard.valueText (pickN wi 12))) ∧ Below w0.heap.size w0 w3) := hide (by rw [← hw3]; exact HNT.out)
    rw [hw3]
    clear hw3 HNT c1 c2 f1 f2
    have c3 : w3.cell? ⟨hb, n * 2 + 1, none⟩ = some (.string (txB (Lard.valueText (pickN wi 12)))) := by
      have := HNT3.out.2.1.text hpy
      unfold Lard.updH at this
      rw [if_pos rfl] at this
      exact this
    have HPUT := hide (fun (w4 : World) (hB4 : Below w3.heap.size w3 w4) => (la_put (HNT3.out.1.below hB4) (keyB n) (txB (Lard.valueText (pickN wi 12))) (valOf wi) hname (by rw [txB_list]; exact (valOf_rd wi).1) (by have := HH2.out.ok.len; omega) (by rw [txB_size]; exact (valOf_rd wi).2) hN).mono (fun e w5 (hp : _ ∧ _) => (⟨hp.1, by
      have h2 := hp.2
      rw [keyB_list] at h2
      obtain ⟨L', hl⟩ := HH2.out.put hpy wi (HNT3.out.1.below hB4) HH2.out.off (HNT3.out.2.1.same (hB4.block _ HNT3.out.2.1.lt)) (HNT3.out.2.2.trans (hB4.mono HNT3.out.2.2.size)) h2
      exact ⟨L', hl.le (by omega)⟩⟩ : e = .returned (.int .i64 0) ∧ ∃ L', HL w0 w5 lb hb (s.gv (Lard.keyText n) ⟨valOf wi, none, [], none⟩) L' (N + 2000000000) (Lard.updH H n (1, Lard.valueText (pickN wi 12))))))
    unfold ptr at HPUT
    clear HH2 HNT3 hstr
    generalize txB (Lard.valueText (pickN wi 12)) = tx at c3 HPUT ⊢
    refine wp_nrm ?_
    go_region_with (first | (go_at_call 19; refine (HYN.out _).mono ?_; rintro e w4 ⟨rfl, hB4⟩; have hB4' := ((Below.refl _ w3).drew).trans hB4; have c4 := cell_later hB4' c3) | (go_at_call 23; refine (HPUT.out _ (by assumption)).mono ?_; rintro e w5 ⟨rfl, L5, h5⟩))
    all_goals
      have HE := hide (HF.out w5 L5 h5)
      refine onlyN_is ?_
      apply_assumption
      simp only [Act.put, List.setIfInBounds_toArray, List.set_cons_zero, List.set_cons_succ]
      clear HF h5 HPUT HYN
      go_wp2_with fail
      exact HE.out
  · go_wp2_with fail
    refine (HPR.out _).mono ?_
    rintro e w2 ⟨rfl, hB2⟩
    dsimp only
    have HH2 := hide (HH.out.below hB2)
    have c1 := HH2.out.hm.what hpy
    have c2 := HH2.out.hm.text hpy
    have f1 := World.rowIs.frozen HH2.out.hm (n * 2)
    have f2 := World.rowIs.frozen HH2.out.hm (n * 2 + 1)
    clear HPR HPV d2 HH hB2
    have HNT := hide (HH2.out.note hpy (2, ruleOf wi))
    have hstr : str (ruleOf wi) = .string (txB (ruleOf wi)) := rfl
    rw [hstr] at HNT
    go_wp2_with fail
    obtain ⟨w3, hw3⟩ : ∃ w3, (w2.setCell ⟨hb, n * 2, none⟩ (.int .i64 2)).setCell ⟨hb, n * 2 + 1, none⟩ (.string (txB (ruleOf wi))) = w3 := ⟨_, rfl⟩
    have HNT3 : Hid (La w3 lb s L N ∧ HM w3 hb (Lard.updH H n (2, ruleOf wi)) ∧ Below w0.heap.size w0 w3) := hide (by rw [← hw3]; exact HNT.out)
    rw [hw3]
    clear hw3 HNT c1 c2 f1 f2
    have c3 : w3.cell? ⟨hb, n * 2 + 1, none⟩ = some (.string (txB (ruleOf wi))) := by
      have := HNT3.out.2.1.text hpy
      unfold Lard.updH at this
      rw [if_pos rfl] at this
      exact this
    have HSET := hide (fun (w4 : World) (hB4 : Below w3.heap.size w3 w4) => (la_set (HNT3.out.1.below hB4) (keyB n) (txB (ruleOf wi)) (Lard.treeOf (ruleOf wi)) hname (by rw [txB_list]; exact ruleOf_T wi) (by have := HH2.out.ok.len; omega) hN).mono (fun e w5 (hp : _ ∧ _) => (⟨hp.1, by
      have h2 := hp.2
      rw [keyB_list, txB_list] at h2
      obtain ⟨L', hl⟩ := HH2.out.set hpy wi (HNT3.out.1.below hB4) HH2.out.off (HNT3.out.2.1.same (hB4.block _ HNT3.out.2.1.lt)) (HNT3.out.2.2.trans (hB4.mono HNT3.out.2.2.size)) h2
      exact ⟨L', hl.le (by omega)⟩⟩ : e = .returned (.tuple #[.int .i64 0, .int .i64 0]) ∧ ∃ L', HL w0 w5 lb hb (s.gv (Lard.keyText n) ⟨Lard.vn 0, some (Lard.treeOf (ruleOf wi)), ruleOf wi, none⟩) L' (N + 2000000000) (Lard.updH H n (2, ruleOf wi)))))
    unfold ptr at HSET
    clear HH2 HNT3 hstr
    generalize txB (ruleOf wi) = tx at c3 HSET ⊢
    refine wp_nrm ?_
    go_region_with (first | (go_at_call 19; refine (HYN.out _).mono ?_; rintro e w4 ⟨rfl, hB4⟩; have hB4' := ((Below.refl _ w3).drew).trans hB4; have c4 := cell_later hB4' c3) | (go_at_call 25; refine (HSET.out _ (by assumption)).mono ?_; rintro e w5 ⟨rfl, L5, h5⟩))
    all_goals
      have HE := hide (HF.out w5 L5 h5)
      refine onlyN_is ?_
      apply_assumption
      simp only [Act.put, List.setIfInBounds_toArray, List.set_cons_zero, List.set_cons_succ]
      clear HF h5 HSET HYN
      go_wp2_with fail
      exact HE.out
  · go_wp2_with fail
    refine (HPR.out _).mono ?_
    rintro e w2 ⟨rfl, hB2⟩
    dsimp only
    have HH2 := hide (HH.out.below hB2)
    have c1 := HH2.out.hm.what hpy
    have c2 := HH2.out.hm.text hpy
    have f1 := World.rowIs.frozen HH2.out.hm (n * 2)
    have f2 := World.rowIs.frozen HH2.out.hm (n * 2 + 1)
    clear HPR HPV d2 HH hB2
    have HNT := hide (HH2.out.note hpy (2, ruleOf wi))
    have hstr : str (ruleOf wi) = .string (txB (ruleOf wi)) := rfl
    rw [hstr] at HNT
    go_wp2_with fail
    obtain ⟨w3, hw3⟩ : ∃ w3, (w2.setCell ⟨hb, n * 2, none⟩ (.int .i64 2)).setCell ⟨hb, n * 2 + 1, none⟩ (.string (txB (ruleOf wi))) = w3 := ⟨_, rfl⟩
    have HNT3 : Hid (La w3 lb s L N ∧ HM w3 hb (Lard.updH H n (2, ruleOf wi)) ∧ Below w0.heap.size w0 w3) := hide (by rw [← hw3]; exact HNT.out)
    rw [hw3]
    clear hw3 HNT c1 c2 f1 f2
    have c3 : w3.cell? ⟨hb, n * 2 + 1, none⟩ = some (.string (txB (ruleOf wi))) := by
      have := HNT3.out.2.1.text hpy
      unfold Lard.updH at this
      rw [if_pos rfl] at this
      exact this
    have HSET := hide (fun (w4 : World) (hB4 : Below w3.heap.size w3 w4) => (la_set (HNT3.out.1.below hB4) (keyB n) (txB (ruleOf wi)) (Lard.treeOf (ruleOf wi)) hname (by rw [txB_list]; exact ruleOf_T wi) (by have := HH2.out.ok.len; omega) hN).mono (fun e w5 (hp : _ ∧ _) => (⟨hp.1, by
      have h2 := hp.2
      rw [keyB_list, txB_list] at h2
      obtain ⟨L', hl⟩ := HH2.out.set hpy wi (HNT3.out.1.below hB4) HH2.out.off (HNT3.out.2.1.same (hB4.block _ HNT3.out.2.1.lt)) (HNT3.out.2.2.trans (hB4.mono HNT3.out.2.2.size)) h2
      exact ⟨L', hl.le (by omega)⟩⟩ : e = .returned (.tuple #[.int .i64 0, .int .i64 0]) ∧ ∃ L', HL w0 w5 lb hb (s.gv (Lard.keyText n) ⟨Lard.vn 0, some (Lard.treeOf (ruleOf wi)), ruleOf wi, none⟩) L' (N + 2000000000) (Lard.updH H n (2, ruleOf wi)))))
    unfold ptr at HSET
    clear HH2 HNT3 hstr
    generalize txB (ruleOf wi) = tx at c3 HSET ⊢
    refine wp_nrm ?_
    go_region_with (first | (go_at_call 19; refine (HYN.out _).mono ?_; rintro e w4 ⟨rfl, hB4⟩; have hB4' := ((Below.refl _ w3).drew).trans hB4; have c4 := cell_later hB4' c3) | (go_at_call 25; refine (HSET.out _ (by assumption)).mono ?_; rintro e w5 ⟨rfl, L5, h5⟩))
    all_goals
      have HE := hide (HF.out w5 L5 h5)
      refine onlyN_is ?_
      apply_assumption
      simp only [Act.put, List.setIfInBounds_toArray, List.set_cons_zero, List.set_cons_succ]
      clear HF h5 HSET HYN
      go_wp2_with fail
      exact HE.out
  · go_wp2_with fail
    refine (HPR.out _).mono ?_
    rintro e w2 ⟨rfl, hB2⟩
    dsimp only
    have HH2 := hide (HH.out.below hB2)
    have c1 := HH2.out.hm.what hpy
    have c2 := HH2.out.hm.text hpy
    have f1 := World.rowIs.frozen HH2.out.hm (n * 2)
    have f2 := World.rowIs.frozen HH2.out.hm (n * 2 + 1)
    clear HPR HPV d2 HH hB2
    have HNT := hide (HH2.out.note hpy (2, ruleOf wi))
    have hstr : str (ruleOf wi) = .string (txB (ruleOf wi)) := rfl
    rw [hstr] at HNT
    go_wp2_with fail
    obtain ⟨w3, hw3⟩ : ∃ w3, (w2.setCell ⟨hb, n * 2, none⟩ (.int .i64 2)).setCell ⟨hb, n * 2 + 1, none⟩ (.string (txB (ruleOf wi))) = w3 := ⟨_, rfl⟩
    have HNT3 : Hid (La w3 lb s L N ∧ HM w3 hb (Lard.updH H n (2, ruleOf wi)) ∧ Below w0.heap.size w0 w3) := hide (by rw [← hw3]; exact HNT.out)
    rw [hw3]
    clear hw3 HNT c1 c2 f1 f2
    have c3 : w3.cell? ⟨hb, n * 2 + 1, none⟩ = some (.string (txB (ruleOf wi))) := by
      have := HNT3.out.2.1.text hpy
      unfold Lard.updH at this
      rw [if_pos rfl] at this
      exact this
    have HSET := hide (fun (w4 : World) (hB4 : Below w3.heap.size w3 w4) => (la_set (HNT3.out.1.below hB4) (keyB n) (txB (ruleOf wi)) (Lard.treeOf (ruleOf wi)) hname (by rw [txB_list]; exact ruleOf_T wi) (by have := HH2.out.ok.len; omega) hN).mono (fun e w5 (hp : _ ∧ _) => (⟨hp.1, by
      have h2 := hp.2
      rw [keyB_list, txB_list] at h2
      obtain ⟨L', hl⟩ := HH2.out.set hpy wi (HNT3.out.1.below hB4) HH2.out.off (HNT3.out.2.1.same (hB4.block _ HNT3.out.2.1.lt)) (HNT3.out.2.2.trans (hB4.mono HNT3.out.2.2.size)) h2
      exact ⟨L', hl.le (by omega)⟩⟩ : e = .returned (.tuple #[.int .i64 0, .int .i64 0]) ∧ ∃ L', HL w0 w5 lb hb (s.gv (Lard.keyText n) ⟨Lard.vn 0, some (Lard.treeOf (ruleOf wi)), ruleOf wi, none⟩) L' (N + 2000000000) (Lard.updH H n (2, ruleOf wi)))))
    unfold ptr at HSET
    clear HH2 HNT3 hstr
    generalize txB (ruleOf wi) = tx at c3 HSET ⊢
    refine wp_nrm ?_
    go_region_with (first | (go_at_call 19; refine (HYN.out _).mono ?_; rintro e w4 ⟨rfl, hB4⟩; have hB4' := ((Below.refl _ w3).drew).trans hB4; have c4 := cell_later hB4' c3) | (go_at_call 25; refine (HSET.out _ (by assumption)).mono ?_; rintro e w5 ⟨rfl, L5, h5⟩))
    all_goals
      have HE := hide (HF.out w5 L5 h5)
      refine onlyN_is ?_
      apply_assumption
      simp only [Act.put, List.setIfInBounds_toArray, List.set_cons_zero, List.set_cons_succ]
      clear HF h5 HSET HYN
      go_wp2_with fail
      exact HE.out
  · go_wp2_with fail
    refine (HYN.out _).mono ?_
    rintro e w2 ⟨rfl, hB2⟩
    dsimp only
    have HH2 := hide (HH.out.below hB2)
    clear HPV HPR d2 HH hB2 HYN
    have HD := hide (la_drop HH2.out.la (keyB n) hname hN)
    unfold ptr at HD
    go_wp2_with fail
    refine HD.out.mono ?_
    rintro e w3 ⟨c, s', rfl, hs', hP⟩
    dsimp only
    rw [keyB_list] at hs'
    clear HD
    obtain ⟨hm3, L3, h3⟩ := HH2.out.drop hpy (by
      rcases hs' with ⟨_, h1, h2⟩ | ⟨_, h1, h2⟩
      · exact .inl ⟨h1, h2⟩
      · exact .inr ⟨h1, h2⟩) hP
    have c1 := hm3.what hpy
    have c2 := hm3.text hpy
    have f1 := World.rowIs.frozen hm3 (n * 2)
    have f2 := World.rowIs.frozen hm3 (n * 2 + 1)
    have hlk := HH2.out.ok.look hpy (HH2.out.oki n hpy)
    have HHS := hide hs'
    have H3 := hide h3
    clear hs' h3 hP hm3 HH2
    by_cases hc : 0 < (H n).1
    · have hci : (0 : Int) < ((H n).1 : Int) := by omega
      rw [decide_eq_true hc] at hlk
      obtain ⟨rfl, -, hs2⟩ : c = 0 ∧ _ ∧ s' = s.drop (Lard.keyText n) := by
        rcases HHS.out with h | ⟨_, h1, _⟩
        · exact h
        · rw [hlk] at h1; cases h1
      have HE := hide (HF.out _ L3 (by
        simp only [hlk]
        rw [← hs2]
        exact H3.out.le (by omega)))
      clear HF H3 HHS hlk hs2
      go_wp2_with fail
      exact HE.out
    · have hci : ¬ (0 : Int) < ((H n).1 : Int) := by omega
      rw [decide_eq_false hc] at hlk
      obtain ⟨rfl, -, hs2⟩ : c = 7 ∧ _ ∧ s' = s := by
        rcases HHS.out with ⟨_, h1, _⟩ | h
        · rw [hlk] at h1; cases h1
        · exact h
      have HE := hide (HF.out _ L3 (by
        simp only [hlk]
        rw [← hs2]
        exact H3.out.le (by omega)))
      clear HF H3 HHS hlk hs2
      go_wp2_with fail
      exact HE.out
  · go_wp2_with fail
    refine (HYN.out _).mono ?_
    rintro e w2 ⟨rfl, hB2⟩
    dsimp only
    have HH2 := hide (HH.out.below hB2)
    clear HPV HPR d2 HH hB2 HYN
    have HA := hide (la_ask HH2.out.la (keyB n) hname hN)
    unfold ptr at HA
    go_wp2_with fail
    refine HA.out.mono ?_
    rintro e w3 ⟨v, tc, ts, rfl, htv, hP, o, cp, rfl, -⟩
    dsimp only
    rw [keyB_list] at htv hP ⊢
    clear HA
    obtain ⟨L3, h3⟩ := HH2.out.post hP (HH2.out.ok.ask _) rfl
    have HE := hide (HF.out _ L3 h3)
    have hec := HH2.out.la.sound.ec (Lard.keyText n)
    have hrg := fun h => (Lard.ask_ring HH2.out.la.sound (Lard.keyText n) h).1
    clear HF h3 hP HH2
    generalize (s.ask (Lard.keyText n)).1 = r at htv hec hrg
    generalize (s.ask (Lard.keyText n)).2.ring = l at hrg ⊢
    rcases r with cd | v
    · obtain ⟨hc7, hc12⟩ := hec cd rfl
      have e1 : toldV (.error cd) = .agg #[.int .i64 (cd : Int), .string ⟨#[]⟩] := rfl
      rw [e1] at htv
      cases htv
      by_cases h12 : cd = 12
      · subst h12
        have hpos : 0 < l.length := List.length_pos_iff.2 (hrg rfl)
        have hl : (if ((12 : Nat) : Int) = 12 then l else []).length = l.length := rfl
        rw [hl]
        have hli : (0 : Int) < (l.length : Int) := by omega
        generalize l.length = len at hli ⊢
        clear hrg hec e1 hl
        go_wp2_with fail
        exact HE.out
      · have hl : (if (cd : Int) = 12 then l else []).length = 0 := by
          rw [if_neg (by omega)]
          rfl
        rw [hl]
        have h1 : ((cd : Int) == 12) = false := beq_eq_false_iff_ne.2 (by omega)
        have h2 : ((cd : Int) == 0) = false := beq_eq_false_iff_ne.2 (by omega)
        clear hrg hec e1 hl
        go_wp2_with fail
        exact HE.out
    · have e1 : toldV (.ok v) = .agg #[.int .i64 0, .string ⟨(Lard.wr 3 v).toArray⟩] := rfl
      rw [e1] at htv
      have hne := wr_ne v
      cases htv
      have hl : (if (0 : Int) = 12 then l else []).length = 0 := rfl
      rw [hl]
      have h1 : (⟨(Lard.wr 3 v).toArray⟩ : ByteArray).toList.isEmpty = false := by
        rw [Lib.toList_data]
        simpa using hne
      generalize (⟨(Lard.wr 3 v).toArray⟩ : ByteArray) = ts at h1
      clear hrg hec e1 hl hne
      go_wp2_with fail
      exact HE.out
  · go_wp2_with fail
    refine (HYN.out _).mono ?_
    rintro e w2 ⟨rfl, hB2⟩
    dsimp only
    have HH2 := hide (HH.out.below hB2)
    clear HPV HPR d2 HH hB2 HYN
    have HA := hide (la_ask HH2.out.la (keyB n) hname hN)
    unfold ptr at HA
    go_wp2_with fail
    refine HA.out.mono ?_
    rintro e w3 ⟨v, tc, ts, rfl, htv, hP, o, cp, rfl, -⟩
    dsimp only
    rw [keyB_list] at htv hP ⊢
    clear HA
    obtain ⟨L3, h3⟩ := HH2.out.post hP (HH2.out.ok.ask _) rfl
    have HE := hide (HF.out _ L3 h3)
    have hec := HH2.out.la.sound.ec (Lard.keyText n)
    have hrg := fun h => (Lard.ask_ring HH2.out.la.sound (Lard.keyText n) h).1
    clear HF h3 hP HH2
    generalize (s.ask (Lard.keyText n)).1 = r at htv hec hrg
    generalize (s.ask (Lard.keyText n)).2.ring = l at hrg ⊢
    rcases r with cd | v
    · obtain ⟨hc7, hc12⟩ := hec cd rfl
      have e1 : toldV (.error cd) = .agg #[.int .i64 (cd : Int), .string ⟨#[]⟩] := rfl
      rw [e1] at htv
      cases htv
      by_cases h12 : cd = 12
      · subst h12
        have hpos : 0 < l.length := List.length_pos_iff.2 (hrg rfl)
        have hl : (if ((12 : Nat) : Int) = 12 then l else []).length = l.length := rfl
        rw [hl]
        have hli : (0 : Int) < (l.length : Int) := by omega
        generalize l.length = len at hli ⊢
        clear hrg hec e1 hl
        go_wp2_with fail
        exact HE.out
      · have hl : (if (cd : Int) = 12 then l else []).length = 0 := by
          rw [if_neg (by omega)]
          rfl
        rw [hl]
        have h1 : ((cd : Int) == 12) = false := beq_eq_false_iff_ne.2 (by omega)
        have h2 : ((cd : Int) == 0) = false := beq_eq_false_iff_ne.2 (by omega)
        clear hrg hec e1 hl
        go_wp2_with fail
        exact HE.out
    · have e1 : toldV (.ok v) = .agg #[.int .i64 0, .string ⟨(Lard.wr 3 v).toArray⟩] := rfl
      rw [e1] at htv
      have hne := wr_ne v
      cases htv
      have hl : (if (0 : Int) = 12 then l else []).length = 0 := rfl
      rw [hl]
      have h1 : (⟨(Lard.wr 3 v).toArray⟩ : ByteArray).toList.isEmpty = false := by
        rw [Lib.toList_data]
        simpa using hne
      generalize (⟨(Lard.wr 3 v).toArray⟩ : ByteArray) = ts at h1
      clear hrg hec e1 hl hne
      go_wp2_with fail
      exact HE.out
  · go_wp2_with fail
    refine (HYN.out _).mono ?_
    rintro e w2 ⟨rfl, hB2⟩
    dsimp only
    have HH2 := hide (HH.out.below hB2)
    clear HPV HPR d2 HH hB2 HYN
    have HA := hide (la_ask HH2.out.la (keyB n) hname hN)
    unfold ptr at HA
    go_wp2_with fail
    refine HA.out.mono ?_
    rintro e w3 ⟨v, tc, ts, rfl, htv, hP, o, cp, rfl, -⟩
    dsimp only
    rw [keyB_list] at htv hP ⊢
    clear HA
    obtain ⟨L3, h3⟩ := HH2.out.post hP (HH2.out.ok.ask _) rfl
    have HE := hide (HF.out _ L3 h3)
    have hec := HH2.out.la.sound.ec (Lard.keyText n)
    have hrg := fun h => (Lard.ask_ring HH2.out.la.sound (Lard.keyText n) h).1
    clear HF h3 hP HH2
    generalize (s.ask (Lard.keyText n)).1 = r at htv hec hrg
    generalize (s.ask (Lard.keyText n)).2.ring = l at hrg ⊢
    rcases r with cd | v
    · obtain ⟨hc7, hc12⟩ := hec cd rfl
      have e1 : toldV (.error cd) = .agg #[.int .i64 (cd : Int), .string ⟨#[]⟩] := rfl
      rw [e1] at htv
      cases htv
      by_cases h12 : cd = 12
      · subst h12
        have hpos : 0 < l.length := List.length_pos_iff.2 (hrg rfl)
        have hl : (if ((12 : Nat) : Int) = 12 then l else []).length = l.length := rfl
        rw [hl]
        have hli : (0 : Int) < (l.length : Int) := by omega
        generalize l.length = len at hli ⊢
        clear hrg hec e1 hl
        go_wp2_with fail
        exact HE.out
      · have hl : (if (cd : Int) = 12 then l else []).length = 0 := by
          rw [if_neg (by omega)]
          rfl
        rw [hl]
        have h1 : ((cd : Int) == 12) = false := beq_eq_false_iff_ne.2 (by omega)
        have h2 : ((cd : Int) == 0) = false := beq_eq_false_iff_ne.2 (by omega)
        clear hrg hec e1 hl
        go_wp2_with fail
        exact HE.out
    · have e1 : toldV (.ok v) = .agg #[.int .i64 0, .string ⟨(Lard.wr 3 v).toArray⟩] := rfl
      rw [e1] at htv
      have hne := wr_ne v
      cases htv
      have hl : (if (0 : Int) = 12 then l else []).length = 0 := rfl
      rw [hl]
      have h1 : (⟨(Lard.wr 3 v).toArray⟩ : ByteArray).toList.isEmpty = false := by
        rw [Lib.toList_data]
        simpa using hne
      generalize (⟨(Lard.wr 3 v).toArray⟩ : ByteArray) = ts at h1
      clear hrg hec e1 hl hne
      go_wp2_with fail
      exact HE.out
end Go.Proofs.YtpekpdimdelncaaGreatDoor
