/- Out of: K9. -/
import Derived.Test.YtpekpdimdelncaaGreatDoorP44
import Derived.Deep.Cut
namespace Go.Proofs.YtpekpdimdelncaaGreatDoor
open Go.RowKit Go.Shelf
set_option linter.unusedVariables false
set_option linter.unusedSimpArgs false
set_option maxRecDepth 100000 in
set_option maxHeartbeats 8000000 in
theorem reckoned_any (a b c : Int) (w : World) (g : G w) (hd : Deb w) (ha : -9223372036854775808 ≤ a ∧ a ≤ 9223372036854775807) (hb : -9223372036854775808 ≤ b ∧ b ≤ 9223372036854775807) (hc : -9223372036854775808 ≤ c ∧ c ≤ 9223372036854775807) :
    Calls Tryz.prog 6 #[.int .i64 a, .int .i64 b, .int .i64 c] w fun e w' => e = .returned (.bool true) ∧ Below w.heap.size w w' := by
  have HAW := hide (awake_any w g hd)
  have HPA := hide (fun w => pick_any a 2000001 w ha.1 ha.2 (by omega) (by omega))
  have HPB := hide (fun w => pick_any b 2000001 w hb.1 hb.2 (by omega) (by omega))
  have HPC := hide (fun w => pick_any c 5 w hc.1 hc.2 (by omega) (by omega))
  have hpa : pickN a 2000001 < 2000001 := Nat.mod_lt _ (by omega)
  have hpb : pickN b 2000001 < 2000001 := Nat.mod_lt _ (by omega)
  have hpc : pickN c 5 < 5 := Nat.mod_lt _ (by omega)
  generalize pickN a 2000001 = pa at HPA hpa
  generalize pickN b 2000001 = pb at HPB hpb
  generalize pickN c 5 = i at HPC hpc
  obtain ⟨x, hx⟩ : ∃ x : Int, (pa : Int) - 1000000 = x := ⟨_, rfl⟩
  obtain ⟨y, hy⟩ : ∃ y : Int, (pb : Int) - 1000000 = y := ⟨_, rfl⟩
  have hxr : -1000000 ≤ x ∧ x ≤ 1000000 := by omega
  have hyr : -1000000 ≤ y ∧ y ≤ 1000000 := by omega
  have hwx : IntKind.i64.wrap x = x := by rw [IntKind.wrap_i64]; omega
  have hwy : IntKind.i64.wrap y = y := by rw [IntKind.wrap_i64]; omega
  have HG := hide (And.intro g hd)
  clear g hd ha hb hc
  have HDX := hide (ds_any x (by omega) (by omega))
  have HDY := hide (ds_any y (by omega) (by omega))
  have hlx : (dstr x).size ≤ 20 := dstr_size x (by omega) (by omega)
  have hly : (dstr y).size ≤ 20 := dstr_size y (by omega) (by omega)
  have HR := hide (And.intro hxr hyr)
  clear hxr hyr
  unfold DS at HDX HDY
  go_enter Tryz.func6, Tryz.ntmps6
  go_wp2_with fail
  refine HAW.out.mono ?_
  rintro e w1 ⟨rfl, hB1⟩
  go_wp2_with fail
  refine (HPA.out _).mono ?_
  rintro e w' ⟨rfl, hw'⟩
  obtain rfl := hw'.symm
  go_wp2_with fail
  refine (HPB.out _).mono ?_
  rintro e w' ⟨rfl, hw'⟩
  obtain rfl := hw'.symm
  go_wp2_with fail
  refine (HPC.out _).mono ?_
  rintro e w' ⟨rfl, hw'⟩
  obtain rfl := hw'.symm
  have HN := hide (ld_new w.heap.size w w1 hB1 (Nat.le_refl _) (HG.out.1.below hB1 HG.out.1.size) (HG.out.2.below hB1 HG.out.1.size) HG.out.1.size)
  clear HAW HPA HPB HPC hB1
  go_wp2_with fail
  refine HN.out.mono ?_
  rintro e w2 ⟨lb, rfl, hl2, -⟩
  unfold ptr
  clear HN
  go_wp2_with fail
  refine (HDX.out _).mono ?_
  rintro e w3 ⟨rfl, hB3⟩
  have HP := hide (ld_put (hl2.below hB3) ⟨#[120]⟩ (dstr x) (Lard.vn x) (by kernel_rfl) (by rw [dstr_list]; exact rd_num x (by have := HR.out; omega) (by have := HR.out; omega)) (by show 0 < 40; omega) (by omega) (by omega))
  unfold ptr at HP
  clear hl2 hB3
  go_wp2_with fail
  refine HP.out.mono ?_
  rintro e w4 ⟨rfl, hl4⟩
  clear HP
  go_wp2_with fail
  refine (HDY.out _).mono ?_
  rintro e w5 ⟨rfl, hB5⟩
  have HP := hide (ld_put (s := r1 x) (hl4.below hB5) ⟨#[121]⟩ (dstr y) (Lard.vn y) (by kernel_rfl) (by rw [dstr_list]; exact rd_num y (by have := HR.out; omega) (by have := HR.out; omega)) (by have := r_len x y; omega) (by omega) (by omega))
  unfold ptr at HP
  clear hl4 hB5
  go_wp2_with fail
  refine HP.out.mono ?_
  rintro e w6 ⟨rfl, hl6⟩
  clear HP
  go_wp2_with fail
  refine (HDX.out _).mono ?_
  rintro e w7 ⟨rfl, hB7⟩
  have hlx8 : (Lib.itoa x).length ≤ 8 := Lard.itoa_len8 (by have := HR.out; omega)
  have HP := hide (ld_put (s := r2 x y) (hl6.below hB7) ⟨#[119]⟩ (⟨#[39, 119]⟩ ++ dstr x ++ ⟨#[39]⟩) (Lard.vw (119 :: Lib.itoa x)) (by kernel_rfl) (by
    have e : (⟨#[39, 119]⟩ ++ dstr x ++ ⟨#[39]⟩ : ByteArray).data.toList = 39 :: 119 :: (Lib.itoa x ++ [39]) := by simp [dstr]
    rw [e]
    exact rd_w x hlx8) (by have := r_len x y; omega) (by rw [size_data]; simp [dstr]; omega) (by omega))
  unfold ptr at HP
  clear hl6 hB7
  go_wp2_with fail
  refine HP.out.mono ?_
  rintro e w8 ⟨rfl, hl8⟩
  clear HP
  go_wp2_with fail
  refine (HDX.out _).mono ?_
  rintro e w9 ⟨rfl, hB9⟩
  go_wp2_with fail
  refine (HDY.out _).mono ?_
  rintro e w10 ⟨rfl, hB10⟩
  have hly8 : (Lib.itoa y).length ≤ 8 := Lard.itoa_len8 (by have := HR.out; omega)
  have HP := hide (ld_put (s := r3 x y) ((hl8.below hB9).below hB10) ⟨#[108]⟩ (⟨#[123]⟩ ++ dstr x ++ ⟨#[44, 39, 113, 39, 44]⟩ ++ dstr y ++ ⟨#[125]⟩) (Lard.vl [Lard.vn x, Lard.vw [113], Lard.vn y]) (by kernel_rfl) (by
    have e : (⟨#[123]⟩ ++ dstr x ++ ⟨#[44, 39, 113, 39, 44]⟩ ++ dstr y ++ ⟨#[125]⟩ : ByteArray).data.toList = 123 :: (Lib.itoa x ++ 44 :: 39 :: 113 :: 39 :: 44 :: (Lib.itoa y ++ [125])) := by simp [dstr]
    rw [e]
    exact rd_l x y HR.out.1 HR.out.2) (by have := r_len x y; omega) (by rw [size_data]; simp [dstr]; omega) (by omega))
  unfold ptr at HP
  clear hl8 hB9 hB10
  go_wp2_with fail
  refine HP.out.mono ?_
  rintro e w11 ⟨rfl, hl11⟩
  clear HP
  obtain ⟨less, hless⟩ : ∃ l : Int, (if x < y then 1 else 0) = l := ⟨_, rfl⟩
  obtain ⟨same, hsame⟩ : ∃ l : Int, (if x = y then 1 else 0) = l := ⟨_, rfl⟩
  have HLE := hide hless
  have HSA := hide hsame
  clear hless hsame
  go_upto_if 64 with fail
  go_cut [12] from 26 (fun s12 wx => s12 = .int .i64 less ∧ wx = w11)
  case first =>
    by_cases hxy : x < y
    · have hL : less = 1 := by rw [← HLE.out, if_pos hxy]
      go_wp2_with fail
      go_meet
      case rel => exact ⟨by rw [hL], rfl⟩
    · have hL : less = 0 := by rw [← HLE.out, if_neg hxy]
      go_wp2_with fail
      go_meet
      case rel => exact ⟨by rw [hL], rfl⟩
  case rest =>
    obtain ⟨rfl, hwc⟩ := hcut
    obtain rfl := hwc.symm
    go_upto_if 67 with fail
    go_cut [13] from 26 (fun s13 wx => s13 = .int .i64 same ∧ wx = w11)
    case first =>
      by_cases hxy : x = y
      · have hL : same = 1 := by rw [← HSA.out, if_pos hxy]
        have hbq : (x == y) = true := by simp [hxy]
        clear hxy
        go_wp2_with fail
        go_meet
        case rel => exact ⟨by rw [hL], rfl⟩
      · have hL : same = 0 := by rw [← HSA.out, if_neg hxy]
        have hbq : (x == y) = false := by simp [hxy]
        clear hxy
        go_wp2_with fail
        go_meet
        case rel => exact ⟨by rw [hL], rfl⟩
    case rest =>
      obtain ⟨rfl, hwc⟩ := hcut
      obtain rfl := hwc.symm
      obtain ⟨least, hleast⟩ : ∃ l : Int, min x y = l := ⟨_, rfl⟩
      obtain ⟨most, hmost⟩ : ∃ l : Int, max x y = l := ⟨_, rfl⟩
      have HMI := hide hleast
      have HMA := hide hmost
      clear hleast hmost
      go_upto_if 72 with fail
      go_cut [14, 15] from 26 (fun s14 s15 wx => s14 = .int .i64 least ∧ s15 = .int .i64 most ∧ wx = w11)
      case first =>
        by_cases hxy : y < x
        · have hL : least = y := by rw [← HMI.out]; omega
          have hM : most = x := by rw [← HMA.out]; omega
          go_wp2_with fail
          go_meet
          case rel => exact ⟨by rw [hL], by rw [hM], rfl⟩
        · have hL : least = x := by rw [← HMI.out]; omega
          have hM : most = y := by rw [← HMA.out]; omega
          go_wp2_with fail
          go_meet
          case rel => exact ⟨by rw [hL], by rw [hM], rfl⟩
      case rest =>
        obtain ⟨rfl, rfl, hwc⟩ := hcut
        obtain rfl := hwc.symm
        apply_assumption
        obtain ⟨cd, hcd⟩ : ∃ cd, tlC 18 (Tryz.f6.body.getD .skip) = cd := ⟨_, rfl⟩
        have hcd' := hcd
        simp only [tlC, Tryz.f6, Option.getD] at hcd'
        rw [hcd', ← hcd]
        refine reck2 w _ lb a b c x y less same least most i _ _ _ _ _ _ _ _ _ _ _ _ _ _ _ _ _ _ _ _ _ _ _ _ _ _ _ _ _ _ _ _ _ _ _ _ _ _ _ _ _ _ _ _ _ _ _ _ _ _ _ _ _ _ _ _ _ _ _ _ _ _ _ _ _ _ _ _ _ _ _ _ _ _ _ _ _ _ _ _ _ _ _ _ _ _ _ _ _ _ _ _ _ _ _ _ _ _ _ _ _ _ _ _ _ _ _ _ _ _ _ _ _ _ _ _ _ _ _ _ _ _ _ _ _ _ _ _ _ _ _ _ _ _ _ _ _ _ _ _ _ _ _ _ _ _ _ _ _ _ _ _ _ _ _ _ _ _ _ _ _ _ _ _ _ _ _ _ _ _ _ _ (fun w' hb => ⟨rfl, hb⟩) HR.out.1 HR.out.2 hpc HLE.out HSA.out HMI.out HMA.out _ (by omega) hl11
end Go.Proofs.YtpekpdimdelncaaGreatDoor
