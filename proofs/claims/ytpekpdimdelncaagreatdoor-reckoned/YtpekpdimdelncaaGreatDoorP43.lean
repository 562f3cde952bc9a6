/- Out of: K7. -/
import Derived.Test.YtpekpdimdelncaaGreatDoorP42
import Derived.Deep.Cut
namespace Go.Proofs.YtpekpdimdelncaaGreatDoor
open Go.RowKit Go.Shelf
set_option linter.unusedVariables false
set_option linter.unusedSimpArgs false
set_option maxRecDepth 100000 in
set_option maxHeartbeats 8000000 in
theorem reck3 {R : Ending → World → Prop} (w wc : World) (lb : Nat) (a b c x y less same least most : Int) (i : Nat) (dq tA : ByteArray) (o1 : Option Addr) (m1 c1 : Nat) (u26 u27 u28 u29 u30 u31 u32 u33 u34 u35 u36 u37 u38 u39 u40 u41 u42 u43 u44 u45 u46 u47 u48 u49 u50 u51 u52 u53 u54 u55 u56 u57 u58 u59 u60 u61 u62 u63 u64 u65 u66 u67 u68 u69 u70 u71 u72 u73 u74 u75 u76 u77 u78 u79 u80 u81 u82 u83 u84 u85 u86 u87 u88 u89 u90 u91 u92 u93 u94 u95 u96 u97 u98 u99 u100 u101 u102 u103 u104 u105 u106 u107 u108 u109 u110 u111 u112 u113 u114 u115 u116 u117 u118 u119 u120 u121 u122 u123 u124 u125 u126 u127 u128 u129 u130 u131 u132 u133 u134 u135 u136 u137 u138 u139 u140 u141 u142 u143 u144 u145 u146 u147 u148 u149 u150 u151 u152 u153 u154 u155 u156 u157 u158 u159 u160 u161 u162 u163 u164 u165 u166 u167 u168 u169 u170 u171 u172 u173 u174 u175 u176 u177 u178 u179 u180 u181 u182 u183 u184 u185 u186 u187 u188 u189 u190 u191 u192 u193 u194 u195 u196 u197 : Value)
    (hR : ∀ w', Below w.heap.size w w' → R (.returned (.bool true)) w') (hxr : -1000000 ≤ x ∧ x ≤ 1000000) (hyr : -1000000 ≤ y ∧ y ≤ 1000000) (hpc : i < 5) (hsd : Lard.Sound (r5 x y)) (N : Nat) (hN : N ≤ 4000000000) (hl : Ld w.heap.size w wc lb (r6 x y) N) :
    Code.wp Tryz.prog (tlC 23 (Tryz.f6.body.getD .skip)) (bodyPost Tryz.prog Tryz.f6 R) { tmps := #[.int .i64 a, .int .i64 b, .int .i64 c, undef, undef, undef, .bool false, .bool true, .int .i64 x, .int .i64 y, .int .i64 (i : Int), .pointer (some ⟨lb, 0, none⟩), .int .i64 less, .int .i64 same, .int .i64 least, .int .i64 most, .string dq, .string tA, .string tA, .int .i64 0, .slice o1 m1 c1, undef, undef, undef, undef, undef, u26, u27, u28, u29, u30, u31, u32, u33, u34, u35, u36, u37, u38, u39, u40, u41, u42, u43, u44, u45, u46, u47, u48, u49, u50, u51, u52, u53, u54, u55, u56, u57, u58, u59, u60, u61, u62, u63, u64, u65, u66, u67, u68, u69, u70, u71, u72, u73, u74, u75, u76, u77, u78, u79, u80, u81, u82, u83, u84, u85, u86, u87, u88, u89, u90, u91, u92, u93, u94, u95, u96, u97, u98, u99, u100, u101, u102, u103, u104, u105, u106, u107, u108, u109, u110, u111, u112, u113, u114, u115, u116, u117, u118, u119, u120, u121, u122, u123, u124, u125, u126, u127, u128, u129, u130, u131, u132, u133, u134, u135, u136, u137, u138, u139, u140, u141, u142, u143, u144, u145, u146, u147, u148, u149, u150, u151, u152, u153, u154, u155, u156, u157, u158, u159, u160, u161, u162, u163, u164, u165, u166, u167, u168, u169, u170, u171, u172, u173, u174, u175, u176, u177, u178, u179, u180, u181, u182, u183, u184, u185, u186, u187, u188, u189, u190, u191, u192, u193, u194, u195, u196, u197], defers := [] } wc := by
  obtain ⟨cd, hcd⟩ : ∃ cd, tlC 23 (Tryz.f6.body.getD .skip) = cd := ⟨_, rfl⟩
  rw [hcd]
  simp only [tlC, Tryz.f6, Option.getD] at hcd
  subst hcd
  have HDX := hide (ds_any x (by omega) (by omega))
  have HDY := hide (ds_any y (by omega) (by omega))
  have HR := hide (And.intro hxr hyr)
  have HRR := hide hR
  clear hxr hyr hR
  unfold DS at HDX HDY
  have HDI := hide (ds_any (i : Int) (by omega) (by omega))
  have zi := dstr_size (i : Int) (by omega) (by omega)
  unfold DS at HDI
  go_wp2_with fail
  refine (HDI.out _).mono ?_
  rintro e wl ⟨rfl, hBl⟩
  have hl24 := hl.below hBl
  clear hl hBl HDI
  have hSB := ld_set (s := r6 x y) hl24 ⟨#[98]⟩ (preB ++ dstr (i : Int) ++ sufB) (Lard.treeB i) (by kernel_rfl) (by rw [text_B i hpc]; exact rule_B i hpc) (by have := r6_len x y hsd; omega) (by omega)
  have htx : (preB ++ dstr (i : Int) ++ sufB).data.toList = Lard.textB (UInt8.ofNat (48 + i)) := by rw [text_B i hpc]
  rw [htx] at hSB
  unfold ptr preB sufB at hSB
  have HSB := hide hSB
  clear hSB hl24 htx
  go_wp2_with fail
  refine HSB.out.mono ?_
  rintro e wm ⟨rfl, hl25⟩
  clear HSB
  have hl25 : Ld w.heap.size w wm lb (r7 x y i) _ := hl25
  obtain ⟨t1, ht1⟩ : ∃ t : ByteArray, (if i = 0 then dstr x else ⟨#[39, 110, 111, 110, 101, 39]⟩) = t := ⟨_, rfl⟩
  obtain ⟨t2, ht2⟩ : ∃ t : ByteArray, (if i = 1 then ⟨#[39, 113, 39]⟩ else t1) = t := ⟨_, rfl⟩
  obtain ⟨t3, ht3⟩ : ∃ t : ByteArray, (if i = 2 then dstr y else t2) = t := ⟨_, rfl⟩
  have hT3 : thB x y i = t3 := by
    rw [← ht3, ← ht2, ← ht1]
    rfl
  have HT1 := hide ht1
  have HT2 := hide ht2
  have HT3 := hide ht3
  have HT := hide hT3
  clear ht1 ht2 ht3 hT3
  go_upto_if 143 with fail
  go_cut [21] from 26 (fun s21 wx => s21 = .string t1 ∧ Below wm.heap.size wm wx)
  case first =>
    by_cases h0 : i = 0
    · have hbq : ((i : Int) == 0) = true := by simp [h0]
      have hL : t1 = dstr x := by rw [← HT1.out, if_pos h0]
      clear h0
      go_wp2_with fail
      refine (HDX.out _).mono ?_
      rintro e wn ⟨rfl, hBn⟩
      go_wp2_with fail
      go_meet
      case rel => exact ⟨by rw [hL], hBn⟩
    · have hbq : ((i : Int) == 0) = false := by simp [h0]
      have hL : t1 = ⟨#[39, 110, 111, 110, 101, 39]⟩ := by rw [← HT1.out, if_neg h0]
      clear h0
      go_wp2_with fail
      go_meet
      case rel => exact ⟨by rw [hL], Below.refl _ _⟩
  case rest =>
    obtain ⟨rfl, hwc⟩ := hcut
    have hl26 := hl25.below hwc
    clear hl25 hwc
    go_upto_if 147 with fail
    go_cut [21] from 26 (fun s21 wx => s21 = .string t2 ∧ Below wc.heap.size wc wx)
    case first =>
      by_cases h0 : i = 1
      · have hbq : ((i : Int) == 1) = true := by simp [h0]
        have hL : t2 = ⟨#[39, 113, 39]⟩ := by rw [← HT2.out, if_pos h0]
        clear h0
        go_wp2_with fail
        go_meet
        case rel => exact ⟨by rw [hL], Below.refl _ _⟩
      · have hbq : ((i : Int) == 1) = false := by
          refine beq_eq_false_iff_ne.2 (fun e => h0 ?_)
          omega
        have hL : t2 = t1 := by rw [← HT2.out, if_neg h0]
        clear h0
        go_wp2_with fail
        go_meet
        case rel => exact ⟨by rw [hL], Below.refl _ _⟩
    case rest =>
      obtain ⟨rfl, hwc2⟩ := hcut
      have hl27 := hl26.below hwc2
      clear hl26 hwc2
      skip
      go_upto_if 149 with fail
      go_cut [21] from 26 (fun s21 wx => s21 = .string t3 ∧ ∃ wz, Ld w.heap.size w wz lb (r7 x y i) (N + 2000) ∧ Below wz.heap.size wz wx)
      case first =>
        by_cases h0 : i = 2
        · have hbq : ((i : Int) == 2) = true := by simp [h0]
          have hL : t3 = dstr y := by rw [← HT3.out, if_pos h0]
          clear h0
          go_wp2_with fail
          refine (HDY.out _).mono ?_
          rintro e wn ⟨rfl, hBn⟩
          go_wp2_with fail
          go_meet
          case rel => exact ⟨by rw [hL], _, hl27, hBn⟩
        · have hbq : ((i : Int) == 2) = false := by
            refine beq_eq_false_iff_ne.2 (fun e => h0 ?_)
            omega
          have hL : t3 = t2 := by rw [← HT3.out, if_neg h0]
          clear h0
          go_wp2_with fail
          go_meet
          case rel => exact ⟨by rw [hL], _, hl27, Below.refl _ _⟩
      case rest =>
        obtain ⟨rfl, wz, hlz, hBz⟩ := hcut
        have hl28 := hlz.below hBz
        clear hlz hBz hl27
        apply_assumption
        obtain ⟨cd, hcd⟩ : ∃ cd, tlC 28 (Tryz.f6.body.getD .skip) = cd := ⟨_, rfl⟩
        have hcd' := hcd
        simp only [tlC, Tryz.f6, Option.getD] at hcd'
        rw [hcd', ← hcd]
        exact reck4 (R := R) w _ lb a b c x y less same least most i dq tA t3 o1 m1 c1 _ _ _ _ _ _ _ _ _ _ _ _ _ _ _ _ _ _ _ _ _ _ _ _ _ _ _ _ _ _ _ _ _ _ _ _ _ _ _ _ _ _ _ _ _ _ _ _ _ _ _ _ _ _ _ _ _ _ _ _ _ _ _ _ _ _ _ _ _ _ _ _ _ _ _ _ _ _ _ _ _ _ _ _ _ _ _ _ _ _ _ _ _ _ _ _ _ _ _ _ _ _ _ _ _ _ _ _ _ _ _ _ _ _ _ _ _ _ _ _ _ _ _ _ _ _ _ _ _ _ _ _ _ _ _ _ _ _ _ _ _ _ _ _ _ _ _ _ _ _ _ _ _ _ _ _ _ _ _ _ _ _ _ _ _ _ _ _ _ _ _ _ HRR.out HR.out.1 HR.out.2 hpc HT.out hsd _ (by omega) hl28
end Go.Proofs.YtpekpdimdelncaaGreatDoor
