/- Out of: T4. -/
import Derived.Test.YtpekpdimdelncaaGreatDoorP46
namespace Go.Proofs.YtpekpdimdelncaaGreatDoor
set_option maxRecDepth 100000
set_option maxHeartbeats 8000000
open Go.RowKit Go.Shelf
set_option linter.unusedVariables false
set_option linter.unusedSimpArgs false
attribute [local go_sem] eqlW guardW
theorem told_any (w : World) (g : G w) (hd : Deb w) (o : Option Addr) (len cap : Nat) (K Y Z : Nat → Int) (ia : Int) (hia : -9223372036854775808 ≤ ia ∧ ia ≤ 9223372036854775807) (hv : StepsAt w o len K Y Z) :
    Calls Tryz.prog 10 #[.slice o len cap, .int .i64 ia] w fun e w' => e = .returned (.bool true) ∧ Below w.heap.size w w' := by
  have HAW := hide (awake_any w g hd)
  have HG := hide (And.intro g (And.intro hd hv))
  have HPK := hide (fun w => pick_any ia 8 w hia.1 hia.2 (by omega) (by omega))
  have hpk : pickN ia 8 < 8 := Nat.mod_lt _ (by omega)
  generalize pickN ia 8 = k0 at HPK hpk
  have HYK := hide (fun w => key_any k0 w (by omega))
  have hnk := keyB_name k0 (by omega)
  generalize hRR : (fun (e : Ending) (w' : World) => e = .returned (.bool true) ∧ Below w.heap.size w w') = E
  have HE : Hid (∀ w', Below w.heap.size w w' → E (.returned (.bool true)) w') := hide (fun w' hB => by rw [← hRR]; exact ⟨rfl, hB⟩)
  clear g hd hv hRR hia
  obtain ⟨c13, h13⟩ : ∃ c, tailT 13 (Tryz.f10.body.getD .skip) = c := ⟨_, rfl⟩
  have H13 := hide h13
  simp only [tailT, Tryz.f10, Option.getD] at h13
  go_enter Tryz.func10, Tryz.ntmps10
  rw [h13]
  clear h13
  go_wp2_with fail
  refine HAW.out.mono ?_
  rintro e w1 ⟨rfl, hB1⟩
  dsimp only
  have hmk := make_has w1
  have hB2 : Below w1.heap.size w1 (w1.alloc (.cells hasZero 69)) := (Below.refl _ w1).alloc (Nat.le_refl _) _
  have hB12 := hB1.trans (hB2.mono hB1.size)
  have HPL := hide (played_any w _ (HG.out.1.below hB12 HG.out.1.size) (HG.out.2.1.below hB12 HG.out.1.size) w1.heap.size o len cap 60 K Y Z HG.out.2.2 (Nat.le_refl _) (hm_zero w1) ⟨hB1.size, Nat.le_trans HG.out.1.size hB1.size⟩ hB12)
  clear HAW hB1 hB2 hB12
  go_wp2_with fail
  clear hmk
  refine HPL.out.mono ?_
  rintro e w3 ⟨lb, s, L, H, rfl, hl3⟩
  dsimp only
  unfold ptr
  generalize w1.heap.size = hb at hl3 ⊢
  have H3 := hide hl3
  clear HPL hl3
  go_wp2_with fail
  refine (HPK.out _).mono ?_
  rintro e w' ⟨rfl, hw'⟩
  obtain rfl := hw'.symm
  dsimp only
  go_wp2_with fail
  refine (HYK.out _).mono ?_
  rintro e w4 ⟨rfl, hB4⟩
  dsimp only
  have hl4 := H3.out.below hB4
  have HKP := hide (kept_told w4 lb s L (keyB k0) hl4.la.lat hl4.la.g hnk hl4.la.sound.kb)
  have H4 := hide hl4
  unfold ptr at HKP
  clear HPK H3 hB4 hl4
  go_wp2_with fail
  refine HKP.out.mono ?_
  rintro e w5 ⟨ns0, o0, c0, tb, cb, sb, rfl, -, hkt0, -, -, hB5⟩
  dsimp only
  rw [keyB_list] at hkt0
  have HKT0 := hide hkt0
  clear HKP hkt0
  generalize ns0.length = len0
  go_wp2_with fail
  refine (HYK.out _).mono ?_
  rintro e w7 ⟨rfl, hB7⟩
  dsimp only
  have hB6 : Below w5.heap.size w5 (w5.alloc (.cells #[.int .i64 tb, .string sb] 59)) := (Below.refl _ w5).alloc (Nat.le_refl _) _
  have hl7 := (((H4.out.below hB5).below hB6)).below hB7
  have cb0 : w7.cell? ⟨w5.heap.size, 0, none⟩ = some (.int .i64 tb) := cell_later hB7 (by simp [go_sem])
  have cb1 : w7.cell? ⟨w5.heap.size, 1, none⟩ = some (.string sb) := cell_later hB7 (by simp [go_sem])
  have hbl : w5.heap.size < w7.heap.size ∧ ¬ L w5.heap.size := ⟨by have := hB7.size; simp at this; omega, fun hl => by
    have := ((H4.out.below hB5).la.lat.lt hl).2
    omega⟩
  have HA := hide (la_ask hl7.la (keyB k0) hnk (by omega))
  have H7 := hide (And.intro hl7 (And.intro cb0 (And.intro cb1 hbl)))
  unfold ptr at HA
  clear hB5 hB6 hB7 hl7 cb0 cb1 hbl
  generalize w5.heap.size = bb at H7 ⊢
  go_wp2_with fail
  refine HA.out.mono ?_
  rintro e w8 ⟨v, tc, ts, rfl, htv, hP8, o8, c8, rfl, -⟩
  dsimp only
  rw [keyB_list] at htv hP8 ⊢
  have cb0 : w8.cell? ⟨bb, 0, none⟩ = some (.int .i64 tb) := by
    obtain ⟨_, _, _, _, q4⟩ := hP8
    rw [cell_same (q4.block bb H7.out.2.2.2.1 H7.out.2.2.2.2)]
    exact H7.out.2.1
  have cb1 : w8.cell? ⟨bb, 1, none⟩ = some (.string sb) := by
    obtain ⟨_, _, _, _, q4⟩ := hP8
    rw [cell_same (q4.block bb H7.out.2.2.2.1 H7.out.2.2.2.2)]
    exact H7.out.2.2.1
  obtain ⟨L8, hl8⟩ := H7.out.1.post hP8 (H7.out.1.ok.ask _) rfl
  have hfew := Lard.ran_few H4.out.la.sound (Lard.keyText k0)
  have HR := hide (ran_any w8 lb _ L8 hl8.la.lat (by omega))
  have H8 := hide (And.intro hl8 (And.intro cb0 cb1))
  have HTV := hide htv
  unfold ptr at HR
  clear HA hP8 hl8 cb0 cb1 H7 htv
  generalize (if tc = 12 then (s.ask (Lard.keyText k0)).2.ring else []).length = len8
  go_wp2_with fail
  refine HR.out.mono ?_
  rintro e w9 ⟨vR, rfl, hoR, hB9⟩
  dsimp only
  obtain ⟨oR, cR, rfl⟩ : ∃ oR cR, vR = .slice oR (s.ask (Lard.keyText k0)).2.ran.length cR := by
    rcases hoR.2 with ⟨e, h0⟩ | ⟨g, cap, cur, e, _⟩
    · exact ⟨none, 0, by rw [e, h0]⟩
    · exact ⟨_, _, e⟩
  have H9 := hide (And.intro (H8.out.1.below hB9) (And.intro hoR (And.intro (cell_later hB9 H8.out.2.1) (cell_later hB9 H8.out.2.2))))
  clear HR H8 hoR hB9
  generalize w8.heap.size = BR at H9
  obtain ⟨R, hRe⟩ : ∃ R, (s.ask (Lard.keyText k0)).2.ran = R := ⟨_, rfl⟩
  rw [hRe] at hfew H9 ⊢
  have HRE := hide hRe
  clear hRe
  go_wp2_with fail
  refine (HYK.out _).mono ?_
  rintro e w10 ⟨rfl, hB10⟩
  dsimp only
  have hl10 := H9.out.1.below hB10
  have HKP := hide (kept_told w10 lb _ L8 (keyB k0) hl10.la.lat hl10.la.g hnk hl10.la.sound.kb)
  unfold ptr at HKP
  go_wp2_with fail
  refine HKP.out.mono ?_
  rintro e w11 ⟨ns, oN, cN, tw, cw, sw, rfl, hoN, hkt1, hnl, hnn, hB11⟩
  dsimp only
  rw [keyB_list] at hkt1
  have hB12 : Below w11.heap.size w11 (w11.alloc (.cells #[.int .i64 tw, .string sw] 59)) := (Below.refl _ w11).alloc (Nat.le_refl _) _
  have hB912 := (hB10.trans (hB11.mono hB10.size)).trans (hB12.mono (Nat.le_trans hB10.size hB11.size))
  have hl12 := H9.out.1.below hB912
  have hR12 := owns_same (w' := w11.alloc (.cells #[.int .i64 tw, .string sw] 59)) H9.out.2.1 (fun g' hg' => hB912.block g' (owns_block H9.out.2.1 hg').1)
  have hN12 := owns_same (w' := w11.alloc (.cells #[.int .i64 tw, .string sw] 59)) hoN (fun g' hg' => hB12.block g' (owns_block hoN hg').1)
  have cb0 := cell_later hB912 H9.out.2.2.1
  have cb1 := cell_later hB912 H9.out.2.2.2
  have cw0 : (w11.alloc (.cells #[.int .i64 tw, .string sw] 59)).cell? ⟨w11.heap.size, 0, none⟩ = some (.int .i64 tw) := by simp [go_sem]
  have cw1 : (w11.alloc (.cells #[.int .i64 tw, .string sw] 59)).cell? ⟨w11.heap.size, 1, none⟩ = some (.string sw) := by simp [go_sem]
  have c2 := hl12.hm.what hpk
  have hend := Lard.told_why H4.out.la.sound (k := Lard.keyText k0)
  have H12 := hide (And.intro hl12 (And.intro hR12 (And.intro hN12 (And.intro cb0 (And.intro cb1 (And.intro cw0 cw1))))))
  have HN := hide (And.intro hkt1 (And.intro hnl hnn))
  clear HKP H9 hB10 hl10 hoN hB11 hB12 hB912 hl12 hR12 hN12 cb0 cb1 cw0 cw1 hkt1 hnl hnn hend
  by_cases hA : (H k0).1 ≠ 2 ∨ tc = 12
  · have hnone : Lard.keptOf (s.ask (Lard.keyText k0)).2.has (Lard.keyText k0) = none := by
      rcases hA with h | h
      · exact kept_not H12.out.1.ok hpk h
      · refine Lard.told_round H4.out.la.sound ?_
        have htv := HTV.out
        cases hr : (s.ask (Lard.keyText k0)).1 with
        | ok v =>
          rw [hr] at htv
          simp only [toldV] at htv
          injection htv with h5
          have h6 := congrArg Array.toList h5
          simp at h6
          omega
        | error c =>
          rw [hr] at htv
          simp only [toldV] at htv
          injection htv with h5
          have h6 := congrArg Array.toList h5
          simp at h6
          have : c = 12 := by omega
          rw [this]
    have hkt1 := HN.out.1
    rw [hnone] at hkt1
    rcases hkt1 with ⟨_, hns, rfl, rfl, rfl⟩ | ⟨kp, e, _⟩
    · have HF := hide (HE.out _ H12.out.1.bel)
      subst hns
      have hl0 : ([] : List (List UInt8 × Lard.Wo)).length = 0 := rfl
      rw [hl0]
      clear HN H12 H4 hnone HTV HKT0 HRE
      generalize R.length = lenR
      obtain ⟨hw, hhw⟩ : ∃ n, (H k0).1 = n := ⟨_, rfl⟩
      rw [hhw] at hA c2
      by_cases h2 : hw = 2
      · subst h2
        obtain rfl : tc = 12 := by
          rcases hA with h | h
          · exact absurd rfl h
          · exact h
        clear hA hhw
        go_wp2_with fail
        exact HF.out
      · have h2b : ((hw : Int) != 2) = true := by simp; omega
        clear hA hhw
        go_wp2_with fail
        exact HF.out
    · cases e
  · have hA1 : (H k0).1 = 2 := Classical.byContradiction fun h => hA (.inl h)
    have hA2 : tc ≠ 12 := fun h => hA (.inr h)
    clear hA
    have hn12 : (s.ask (Lard.keyText k0)).1 ≠ .error 12 := fun e => hA2 (by
      have htv := HTV.out
      rw [e] at htv
      have e1 : toldV (.error 12) = .agg #[.int .i64 12, .string ⟨#[]⟩] := rfl
      rw [e1] at htv
      cases htv
      rfl)
    obtain ⟨t, ht⟩ := rule_in H4.out.ok hpk (H4.out.oki k0 hpk) hA1
    obtain ⟨kp, hk1, hk2, hk3, hk4⟩ := Lard.told_kept H4.out.la.sound ht hn12
    have hkt1 := HN.out.1
    rcases hkt1 with ⟨e, _⟩ | ⟨kp', e1, e2, e3, e4⟩
    · rw [hk1] at e; cases e
    · rw [hk1] at e1
      cases e1
      subst e4
      rw [hk2] at e3
      obtain ⟨rfl, rfl⟩ := told_same2 HTV.out e3
      subst e2
      have hend := told_end H4.out.la.sound HKT0.out HN.out.1 rfl
      rw [HRE.out] at hend
      have hwhy := Lard.told_why H4.out.la.sound (k := Lard.keyText k0)
      have hshort := whys_short H4.out.ok H4.out.la.lat (k := Lard.keyText k0)
      rw [HRE.out] at hwhy hshort
      have HCL := hide (clean_any _ hb H H12.out.1.la.g H12.out.1.la.deb H12.out.1.hm H12.out.1.oki)
      have HS := hide (And.intro hk3 (And.intro hk4 (And.intro hend (And.intro hwhy (And.intro hshort H4.out.ok)))))
      have h12b : (tc == 12) = false := beq_eq_false_iff_ne.2 hA2
      rw [hA1] at c2
      clear hk1 hk2 hk3 hk4 e3 hend hwhy hshort HTV HKT0 ht hn12 hA1
      unfold ptr at HCL
      go_wp2_with fail
      refine HCL.out.mono ?_
      rintro e w13 ⟨fb, f, Lf, rfl, hfw⟩
      dsimp only
      clear HCL
      go_wp2_with fail
      rw [← H13.out]
      refine to_needs _ w13 fb s f Lf H kp.needs oN cN _ _ _ _ _ _ _ _ _ _ _ _ _ _ _ _ _ _ _ _ _ _ _ _ _ _ _ _ _ _ _ _ _ _ _ _ _ _ _ _ _ _ _ _ _ _ _ _ _ _ _ _ _ _ _ _ _ _ _ _ _ _ _ _ _ _ _ _ _ _ _ _ _ _ _ _ _ _ _ _ _ _ _ _ _ _ _ _ _ _ _ _ _ _ _ hfw HS.out.2.2.2.2.2 H12.out.2.2.1 HN.out.2.2 HN.out.2.1 HS.out.1 HS.out.2.1 _ rfl ?_
      intro v20 v21 v22 v23 u105 u106 u107 u108 u109 u110 u111 u112 u113 u114 u115 u116 u117 u118 u119 u120 u121 u122 u123 u124 u125 u126 u127 u128 u129 u130 u131 u132 u133 u134 u135 u136 u137 u138 u139 u140 u141 u142 u143 u144 u145 u146 u147 u148 u149 u150 u151 u152 u153 u154 w' f' L' N' hfw' hN'
      exact to_whys w _ w' fb s f' L' N' k0 bb _ H R oR cR BR cb tb tc sb ts _ _ _ _ _ _ _ _ _ _ _ _ _ _ _ _ _ _ _ _ _ _ _ _ _ _ _ _ _ _ _ _ _ _ _ _ _ _ _ _ _ _ _ _ _ _ _ _ _ _ _ _ _ _ _ _ _ _ _ _ _ _ _ _ _ _ _ _ _ _ _ _ _ _ _ _ _ _ _ _ _ _ _ _ _ _ _ _ _ _ _ _ _ _ _ _ _ _ _ _ _ _ _ _ _ _ _ _ _ _ _ _ _ _ _ _ _ _ _ _ _ _ _ _ _ _ _ _ _ _ _ _ _ _ _ _ _ _ _ _ _ _ _ _ hfw' hN' hpk HS.out.2.2.2.2.2 H12.out.2.1 hfew HS.out.2.2.2.2.1 HS.out.2.2.2.1 H12.out.2.2.2.1 H12.out.2.2.2.2.1 H12.out.2.2.2.2.2.1 H12.out.2.2.2.2.2.2 HS.out.2.2.1 H12.out.1.bel HE.out
end Go.Proofs.YtpekpdimdelncaaGreatDoor
