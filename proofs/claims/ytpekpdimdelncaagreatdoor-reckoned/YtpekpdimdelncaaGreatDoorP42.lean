/- Out of: K6. -/
import Derived.Test.YtpekpdimdelncaaGreatDoorP41
namespace Go.Proofs.YtpekpdimdelncaaGreatDoor
open Go.RowKit Go.Shelf
set_option linter.unusedVariables false
set_option linter.unusedSimpArgs false
/-- What follows the first n statements. -/
def tlC : Nat → Code → Code
  | 0, c => c
  | n + 1, .seq _ y => tlC n y
  | _, c => c
set_option maxRecDepth 100000 in
set_option maxHeartbeats 8000000 in
theorem reck4 {R : Ending → World → Prop} (w wc : World) (lb : Nat) (a b c x y less same least most : Int) (i : Nat) (dq tA t3 : ByteArray) (o1 : Option Addr) (m1 c1 : Nat) (u26 u27 u28 u29 u30 u31 u32 u33 u34 u35 u36 u37 u38 u39 u40 u41 u42 u43 u44 u45 u46 u47 u48 u49 u50 u51 u52 u53 u54 u55 u56 u57 u58 u59 u60 u61 u62 u63 u64 u65 u66 u67 u68 u69 u70 u71 u72 u73 u74 u75 u76 u77 u78 u79 u80 u81 u82 u83 u84 u85 u86 u87 u88 u89 u90 u91 u92 u93 u94 u95 u96 u97 u98 u99 u100 u101 u102 u103 u104 u105 u106 u107 u108 u109 u110 u111 u112 u113 u114 u115 u116 u117 u118 u119 u120 u121 u122 u123 u124 u125 u126 u127 u128 u129 u130 u131 u132 u133 u134 u135 u136 u137 u138 u139 u140 u141 u142 u143 u144 u145 u146 u147 u148 u149 u150 u151 u152 u153 u154 u155 u156 u157 u158 u159 u160 u161 u162 u163 u164 u165 u166 u167 u168 u169 u170 u171 u172 u173 u174 u175 u176 u177 u178 u179 u180 u181 u182 u183 u184 u185 u186 u187 u188 u189 u190 u191 u192 u193 u194 u195 u196 u197 : Value)
    (hR : ∀ w', Below w.heap.size w w' → R (.returned (.bool true)) w') (hxr : -1000000 ≤ x ∧ x ≤ 1000000) (hyr : -1000000 ≤ y ∧ y ≤ 1000000) (hi : i < 5) (hT : thB x y i = t3) (hsd : Lard.Sound (r5 x y)) (N : Nat) (hN : N ≤ 5000000000) (hl : Ld w.heap.size w wc lb (r7 x y i) N) :
    Code.wp Tryz.prog (tlC 28 (Tryz.f6.body.getD .skip)) (bodyPost Tryz.prog Tryz.f6 R) { tmps := #[.int .i64 a, .int .i64 b, .int .i64 c, undef, undef, undef, .bool false, .bool true, .int .i64 x, .int .i64 y, .int .i64 (i : Int), .pointer (some ⟨lb, 0, none⟩), .int .i64 less, .int .i64 same, .int .i64 least, .int .i64 most, .string dq, .string tA, .string tA, .int .i64 0, .slice o1 m1 c1, .string t3, undef, undef, undef, undef, u26, u27, u28, u29, u30, u31, u32, u33, u34, u35, u36, u37, u38, u39, u40, u41, u42, u43, u44, u45, u46, u47, u48, u49, u50, u51, u52, u53, u54, u55, u56, u57, u58, u59, u60, u61, u62, u63, u64, u65, u66, u67, u68, u69, u70, u71, u72, u73, u74, u75, u76, u77, u78, u79, u80, u81, u82, u83, u84, u85, u86, u87, u88, u89, u90, u91, u92, u93, u94, u95, u96, u97, u98, u99, u100, u101, u102, u103, u104, u105, u106, u107, u108, u109, u110, u111, u112, u113, u114, u115, u116, u117, u118, u119, u120, u121, u122, u123, u124, u125, u126, u127, u128, u129, u130, u131, u132, u133, u134, u135, u136, u137, u138, u139, u140, u141, u142, u143, u144, u145, u146, u147, u148, u149, u150, u151, u152, u153, u154, u155, u156, u157, u158, u159, u160, u161, u162, u163, u164, u165, u166, u167, u168, u169, u170, u171, u172, u173, u174, u175, u176, u177, u178, u179, u180, u181, u182, u183, u184, u185, u186, u187, u188, u189, u190, u191, u192, u193, u194, u195, u196, u197], defers := [] } wc := by
  obtain ⟨cd, hcd⟩ : ∃ cd, tlC 28 (Tryz.f6.body.getD .skip) = cd := ⟨_, rfl⟩
  rw [hcd]
  simp only [tlC, Tryz.f6, Option.getD] at hcd
  subst hcd
  have HDX := hide (ds_any x (by omega) (by omega))
  have HDY := hide (ds_any y (by omega) (by omega))
  have hlx : (dstr x).size ≤ 20 := dstr_size x (by omega) (by omega)
  have hly : (dstr y).size ≤ 20 := dstr_size y (by omega) (by omega)
  have hwz : IntKind.i64.wrap (1 + ((dstr x).size : Int)) = 1 + ((dstr x).size : Int) := by rw [IntKind.wrap_i64]; omega
  have hwd : IntKind.i64.wrap (y - x) = y - x := by rw [IntKind.wrap_i64]; omega
  have HDZ := hide (ds_any (1 + ((dstr x).size : Int)) (by omega) (by omega))
  have HDD := hide (ds_any (y - x) (by omega) (by omega))
  have zz := dstr_size (1 + ((dstr x).size : Int)) (by omega) (by omega)
  have zd := dstr_size (y - x) (by omega) (by omega)
  have z3 : t3.size ≤ 20 := by
    rw [← hT]
    unfold thB
    split
    · exact hly
    · split
      · show 3 ≤ 20; omega
      · split
        · exact hlx
        · show 6 ≤ 20; omega
  obtain ⟨tB, htB⟩ : ∃ t : ByteArray, (⟨(Lard.wr 3 (Lard.valB x y i)).toArray⟩ : ByteArray) = t := ⟨_, rfl⟩
  have HTB := hide htB
  have hwp := want_B x y i
  rw [hT, htB] at hwp
  have HWP := hide hwp
  clear htB hwp
  have HR := hide (And.intro hxr hyr)
  clear hxr hyr hT
  unfold DS at HDX HDY HDZ HDD
  go_wp2_with fail
  refine (HDX.out _).mono ?_
  rintro e wa ⟨rfl, hBa⟩
  have hla := hl.below hBa
  clear hl hBa
  go_wp2_with fail
  refine (HDY.out _).mono ?_
  rintro e wb ⟨rfl, hBb⟩
  have hlb := hla.below hBb
  clear hla hBb
  go_wp2_with fail
  refine (HDX.out _).mono ?_
  rintro e wd ⟨rfl, hBd⟩
  have hld := hlb.below hBd
  clear hlb hBd
  go_wp2_with fail
  refine (HDZ.out _).mono ?_
  rintro e we ⟨rfl, hBe⟩
  have hle := hld.below hBe
  clear hld hBe
  go_wp2_with fail
  refine (HDD.out _).mono ?_
  rintro e wf ⟨rfl, hBf⟩
  have hlf := hle.below hBf
  clear hle hBf
  go_wp2_with fail
  rw [HWP.out]
  have hsd7 := hlf.sound
  have HA := hide (ld_ask (s := r7 x y i) hlf ⟨#[98]⟩ (by kernel_rfl) (by omega))
  have hqB := ask_B x y i hi HR.out.1 HR.out.2 hsd hsd7
  unfold ptr at HA
  clear hlf hsd7 HDX HDY HDZ HDD hlx hly zz zd z3 HWP hwz hwd
  refine HA.out.mono ?_
  rintro e wg ⟨o2, m2, c2, tc, ts, rfl, htv, hlg, -, -⟩
  have hqB' : ((r7 x y i).ask (⟨#[98]⟩ : ByteArray).data.toList).1 = .ok (Lard.valB x y i) := hqB
  rw [hqB'] at htv
  have h5 : toldV (.ok (Lard.valB x y i)) = .agg #[.int .i64 0, .string tB] := by rw [← HTB.out]; rfl
  rw [h5] at htv
  cases htv
  have HF := hide (hR _ hlg.bel)
  clear hlg HA hqB hqB' h5 hR
  go_wp2_with fail
  exact HF.out
end Go.Proofs.YtpekpdimdelncaaGreatDoor
