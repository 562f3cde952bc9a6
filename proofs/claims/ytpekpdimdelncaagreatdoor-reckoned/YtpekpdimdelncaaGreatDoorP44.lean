/- Out of: K8. -/
import Derived.Test.YtpekpdimdelncaaGreatDoorP43
import Derived.Deep.Cut
namespace Go.Proofs.YtpekpdimdelncaaGreatDoor
open Go.RowKit Go.Shelf
set_option linter.unusedVariables false
set_option linter.unusedSimpArgs false
set_option maxRecDepth 100000 in
set_option maxHeartbeats 8000000 in
theorem reck2 {R : Ending → World → Prop} (w wc0 : World) (lb : Nat) (a b c x y less same least most : Int) (i : Nat) (u26 u27 u28 u29 u30 u31 u32 u33 u34 u35 u36 u37 u38 u39 u40 u41 u42 u43 u44 u45 u46 u47 u48 u49 u50 u51 u52 u53 u54 u55 u56 u57 u58 u59 u60 u61 u62 u63 u64 u65 u66 u67 u68 u69 u70 u71 u72 u73 u74 u75 u76 u77 u78 u79 u80 u81 u82 u83 u84 u85 u86 u87 u88 u89 u90 u91 u92 u93 u94 u95 u96 u97 u98 u99 u100 u101 u102 u103 u104 u105 u106 u107 u108 u109 u110 u111 u112 u113 u114 u115 u116 u117 u118 u119 u120 u121 u122 u123 u124 u125 u126 u127 u128 u129 u130 u131 u132 u133 u134 u135 u136 u137 u138 u139 u140 u141 u142 u143 u144 u145 u146 u147 u148 u149 u150 u151 u152 u153 u154 u155 u156 u157 u158 u159 u160 u161 u162 u163 u164 u165 u166 u167 u168 u169 u170 u171 u172 u173 u174 u175 u176 u177 u178 u179 u180 u181 u182 u183 u184 u185 u186 u187 u188 u189 u190 u191 u192 u193 u194 u195 u196 u197 : Value)
    (hR : ∀ w', Below w.heap.size w w' → R (.returned (.bool true)) w') (hxr : -1000000 ≤ x ∧ x ≤ 1000000) (hyr : -1000000 ≤ y ∧ y ≤ 1000000) (hpc : i < 5) (hless : (if x < y then 1 else 0) = less) (hsame : (if x = y then 1 else 0) = same) (hleast : min x y = least) (hmost : max x y = most) (N : Nat) (hN : N ≤ 100000) (hl11 : Ld w.heap.size w wc0 lb (r4 x y) N) :
    Code.wp Tryz.prog (tlC 18 (Tryz.f6.body.getD .skip)) (bodyPost Tryz.prog Tryz.f6 R) { tmps := #[.int .i64 a, .int .i64 b, .int .i64 c, undef, undef, undef, .bool false, .bool true, .int .i64 x, .int .i64 y, .int .i64 (i : Int), .pointer (some ⟨lb, 0, none⟩), .int .i64 less, .int .i64 same, .int .i64 least, .int .i64 most, undef, undef, undef, undef, undef, undef, undef, undef, undef, undef, u26, u27, u28, u29, u30, u31, u32, u33, u34, u35, u36, u37, u38, u39, u40, u41, u42, u43, u44, u45, u46, u47, u48, u49, u50, u51, u52, u53, u54, u55, u56, u57, u58, u59, u60, u61, u62, u63, u64, u65, u66, u67, u68, u69, u70, u71, u72, u73, u74, u75, u76, u77, u78, u79, u80, u81, u82, u83, u84, u85, u86, u87, u88, u89, u90, u91, u92, u93, u94, u95, u96, u97, u98, u99, u100, u101, u102, u103, u104, u105, u106, u107, u108, u109, u110, u111, u112, u113, u114, u115, u116, u117, u118, u119, u120, u121, u122, u123, u124, u125, u126, u127, u128, u129, u130, u131, u132, u133, u134, u135, u136, u137, u138, u139, u140, u141, u142, u143, u144, u145, u146, u147, u148, u149, u150, u151, u152, u153, u154, u155, u156, u157, u158, u159, u160, u161, u162, u163, u164, u165, u166, u167, u168, u169, u170, u171, u172, u173, u174, u175, u176, u177, u178, u179, u180, u181, u182, u183, u184, u185, u186, u187, u188, u189, u190, u191, u192, u193, u194, u195, u196, u197], defers := [] } wc0 := by
  obtain ⟨cd, hcd⟩ : ∃ cd, tlC 18 (Tryz.f6.body.getD .skip) = cd := ⟨_, rfl⟩
  rw [hcd]
  simp only [tlC, Tryz.f6, Option.getD] at hcd
  subst hcd
  have HR := hide (And.intro hxr hyr)
  have HRR := hide hR
  have HLE := hide hless
  have HSA := hide hsame
  have HMI := hide hleast
  have HMA := hide hmost
  clear hxr hyr hR hless hsame hleast hmost
  have HS := hide (ld_set (s := r4 x y) hl11 ⟨#[97]⟩ ⟨Lard.textA.toArray⟩ Lard.treeA (by kernel_rfl) rule_A (by have := r_len x y; omega) (by omega))
  unfold ptr Lard.textA at HS
  clear hl11
  go_wp2_with fail
  refine HS.out.mono ?_
  rintro e w12 ⟨rfl, hl12⟩
  clear HS
  obtain ⟨dq, hdq⟩ : ∃ d : ByteArray, (if y = 0 then ⟨#[39, 110, 111, 39]⟩ else dstr (x.tdiv y)) = d := ⟨_, rfl⟩
  have HDQ := hide hdq
  clear hdq
  have hdv := Lard.div_bd (x := x) (y := y) HR.out.1
  have hwq : IntKind.i64.wrap (x.tdiv y) = x.tdiv y := by rw [IntKind.wrap_i64]; omega
  have HDV := hide (ds_any (x.tdiv y) (by omega) (by omega))
  unfold DS at HDV
  go_upto_if 78 with fail
  go_cut [16] from 26 (fun s16 wx => s16 = .string dq ∧ Below w12.heap.size w12 wx)
  case first =>
    by_cases h0 : y = 0
    · have hL : dq = ⟨#[39, 110, 111, 39]⟩ := by rw [← HDQ.out, if_pos h0]
      have hbq : (y != 0) = false := by simp [h0]
      clear h0
      go_wp2_with fail
      go_meet
      case rel => exact ⟨by rw [hL], Below.refl _ _⟩
    · have hL : dq = dstr (x.tdiv y) := by rw [← HDQ.out, if_neg h0]
      have hbq : (y != 0) = true := by simp [h0]
      have hbq2 : (y == 0) = false := by simp [h0]
      go_wp2_with fail
      refine (HDV.out _).mono ?_
      rintro e w13 ⟨rfl, hB13⟩
      go_wp2_with fail
      go_meet
      case rel => exact ⟨by rw [hL], hB13⟩
  case rest =>
    obtain ⟨rfl, hwq2⟩ := hcut
    have hl13 := hl12.below hwq2
    clear hl12 hwq2 HDV hwq hdv
    have hmul := Lard.mul_bd HR.out.1 HR.out.2
    have hl01 : 0 ≤ less ∧ less ≤ 1 := by rw [← HLE.out]; split <;> omega
    have hs01 : 0 ≤ same ∧ same ≤ 1 := by rw [← HSA.out]; split <;> omega
    have hmi : -1000000 ≤ least ∧ least ≤ 1000000 := by have := HR.out; rw [← HMI.out]; omega
    have hma : -1000000 ≤ most ∧ most ≤ 1000000 := by have := HR.out; rw [← HMA.out]; omega
    have hRx := HR.out.1
    have hRy := HR.out.2
    obtain ⟨tA, htA⟩ : ∃ t : ByteArray, (⟨(Lard.wr 3 (Lard.valA x y)).toArray⟩ : ByteArray) = t := ⟨_, rfl⟩
    have HTA := hide htA
    have HWP := hide (want_A x y HLE.out HSA.out HDQ.out)
    rw [HMI.out, HMA.out, htA] at HWP
    clear htA
    have hwp : IntKind.i64.wrap (x + y) = x + y := by rw [IntKind.wrap_i64]; omega
    have hwm : IntKind.i64.wrap (x - y) = x - y := by rw [IntKind.wrap_i64]; omega
    have hwt : IntKind.i64.wrap (x * y) = x * y := by rw [IntKind.wrap_i64]; omega
    have hwn : IntKind.i64.wrap (-x) = -x := by rw [IntKind.wrap_i64]; omega
    have hw2 : IntKind.i64.wrap (2 - less) = 2 - less := by rw [IntKind.wrap_i64]; omega
    have H1 := hide (ds_any (x + y) (by omega) (by omega))
    have H2 := hide (ds_any (x - y) (by omega) (by omega))
    have H3 := hide (ds_any (x * y) (by omega) (by omega))
    have H4 := hide (ds_any less (by omega) (by omega))
    have H5 := hide (ds_any same (by omega) (by omega))
    have H6 := hide (ds_any least (by omega) (by omega))
    have H7 := hide (ds_any most (by omega) (by omega))
    have H8 := hide (ds_any (-x) (by omega) (by omega))
    have H9 := hide (ds_any (2 - less) (by omega) (by omega))
    have z1 := dstr_size (x + y) (by omega) (by omega)
    have z2 := dstr_size (x - y) (by omega) (by omega)
    have z3 := dstr_size (x * y) (by omega) (by omega)
    have z4 := dstr_size less (by omega) (by omega)
    have z5 := dstr_size same (by omega) (by omega)
    have z6 := dstr_size least (by omega) (by omega)
    have z7 := dstr_size most (by omega) (by omega)
    have z8 := dstr_size (-x) (by omega) (by omega)
    have z9 := dstr_size (2 - less) (by omega) (by omega)
    have zq : dq.size ≤ 20 := by
      rw [← HDQ.out]
      split
      · show 4 ≤ 20; omega
      · have := Lard.div_bd (x := x) (y := y) hRx
        exact dstr_size _ (by omega) (by omega)
    unfold DS at H1 H2 H3 H4 H5 H6 H7 H8 H9
    clear hmul hl01 hs01 hmi hma hRx hRy
    go_wp2_with fail
    refine (H1.out _).mono ?_
    rintro e wa ⟨rfl, hBa⟩
    have hl14 := hl13.below hBa
    clear hl13 hBa
    go_wp2_with fail
    refine (H2.out _).mono ?_
    rintro e wb ⟨rfl, hBb⟩
    have hl15 := hl14.below hBb
    clear hl14 hBb
    go_wp2_with fail
    refine (H3.out _).mono ?_
    rintro e wd ⟨rfl, hBd⟩
    have hl16 := hl15.below hBd
    clear hl15 hBd
    go_wp2_with fail
    refine (H4.out _).mono ?_
    rintro e we ⟨rfl, hBe⟩
    have hl17 := hl16.below hBe
    clear hl16 hBe
    go_wp2_with fail
    refine (H5.out _).mono ?_
    rintro e wf ⟨rfl, hBf⟩
    have hl18 := hl17.below hBf
    clear hl17 hBf
    go_wp2_with fail
    refine (H6.out _).mono ?_
    rintro e wg ⟨rfl, hBg⟩
    have hl19 := hl18.below hBg
    clear hl18 hBg
    go_wp2_with fail
    refine (H7.out _).mono ?_
    rintro e wh ⟨rfl, hBh⟩
    have hl20 := hl19.below hBh
    clear hl19 hBh
    go_wp2_with fail
    refine (H8.out _).mono ?_
    rintro e wi ⟨rfl, hBi⟩
    have hl21 := hl20.below hBi
    clear hl20 hBi
    go_wp2_with fail
    refine (H9.out _).mono ?_
    rintro e wj ⟨rfl, hBj⟩
    have hl22 := hl21.below hBj
    clear hl21 hBj
    have hsd5 := hl22.sound
    have HA := hide (ld_ask (s := r5 x y) hl22 ⟨#[97]⟩ (by kernel_rfl) (by omega))
    have hqA := ask_A x y HR.out.1 HR.out.2 hsd5
    have HSD := hide hsd5
    unfold ptr at HA
    clear hl22 hsd5
    go_upto_region 28 with fail
    go_cut [17, 18, 19, 20] from 26 (fun s17 s18 s19 s20 wx => s17 = .string tA ∧ s18 = .string tA ∧ s19 = .int .i64 0 ∧ ∃ o1 m1 c1, s20 = .slice o1 m1 c1 ∧ Ld w.heap.size w wx lb (r6 x y) (N + 2000 + 2000000000))
    case first =>
      go_wp2_with fail
      rw [HWP.out]
      refine HA.out.mono ?_
      rintro e wk ⟨o1, m1, c1, tc, ts, rfl, htv, hl23, -, -⟩
      have hqA' : ((r5 x y).ask (⟨#[97]⟩ : ByteArray).data.toList).1 = .ok (Lard.valA x y) := hqA
      rw [hqA'] at htv
      have h5 : toldV (.ok (Lard.valA x y)) = .agg #[.int .i64 0, .string tA] := by rw [← HTA.out]; rfl
      rw [h5] at htv
      cases htv
      have hl23 : Ld w.heap.size w wk lb (r6 x y) _ := hl23
      clear HA hqA hqA' h5
      go_wp2_with fail
      go_meet
      case rel => exact ⟨rfl, rfl, rfl, o1, m1, c1, rfl, hl23⟩
    case rest =>
      obtain ⟨rfl, rfl, rfl, o1, m1, c1, rfl, hl23⟩ := hcut
      apply_assumption
      obtain ⟨cd, hcd⟩ : ∃ cd, tlC 23 (Tryz.f6.body.getD .skip) = cd := ⟨_, rfl⟩
      have hcd' := hcd
      simp only [tlC, Tryz.f6, Option.getD] at hcd'
      rw [hcd', ← hcd]
      exact reck3 (R := R) w _ lb a b c x y less same least most i dq tA o1 m1 c1 _ _ _ _ _ _ _ _ _ _ _ _ _ _ _ _ _ _ _ _ _ _ _ _ _ _ _ _ _ _ _ _ _ _ _ _ _ _ _ _ _ _ _ _ _ _ _ _ _ _ _ _ _ _ _ _ _ _ _ _ _ _ _ _ _ _ _ _ _ _ _ _ _ _ _ _ _ _ _ _ _ _ _ _ _ _ _ _ _ _ _ _ _ _ _ _ _ _ _ _ _ _ _ _ _ _ _ _ _ _ _ _ _ _ _ _ _ _ _ _ _ _ _ _ _ _ _ _ _ _ _ _ _ _ _ _ _ _ _ _ _ _ _ _ _ _ _ _ _ _ _ _ _ _ _ _ _ _ _ _ _ _ _ _ _ _ _ _ _ _ _ _ HRR.out HR.out.1 HR.out.2 hpc HSD.out _ (by omega) hl23
end Go.Proofs.YtpekpdimdelncaaGreatDoor
