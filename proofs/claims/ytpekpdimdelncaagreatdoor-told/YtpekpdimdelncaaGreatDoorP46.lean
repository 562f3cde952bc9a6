/- Out of: T2, T3, G5, F1, G6. -/
import Derived.Test.YtpekpdimdelncaaGreatDoorP45
import Derived.BigQuiet
import Derived.Deep.CutRange
import Derived.Test.YtpekpdimdelncaaGreatDoorP44
namespace Go.Proofs.YtpekpdimdelncaaGreatDoor
set_option maxRecDepth 100000
set_option maxHeartbeats 8000000
open Go.RowKit Go.Shelf
set_option linter.unusedVariables false
set_option linter.unusedSimpArgs false
theorem to_needs {Q : Exit → Act → World → Prop} (wA wc : World) (fb : Nat) (s f : Lard.LS) (L : Nat → Prop) (H : Nat → Nat × List UInt8) (ns : List (List UInt8 × Lard.Wo)) (oN : Option Addr) (cN BN : Nat) (v0 v1 v2 v3 v5 v6 v7 v8 v9 v10 v11 v12 v13 v14 v15 v16 v18 : Value) (u28 u29 u30 u31 u32 u33 u34 u35 u36 u37 u38 u39 u40 u41 u42 u43 u44 u45 u46 u47 u48 u49 u50 u51 u52 u53 u54 u55 u56 u57 u58 u59 u60 u61 u62 u63 u64 u65 u66 u67 u68 u69 u70 u71 u72 u73 u74 u75 u76 u77 u78 u79 u80 u81 u82 u83 u84 u85 u86 u87 u88 u89 u90 u91 u92 u93 u94 u95 u96 u97 u98 u99 u100 u101 u102 u103 u104 : Value)
    (hw : FW wA wc fb f L 16000 8 H) (hs : Lard.HasOk s H 8) (hN : wA.ownsRow BN 66 3 (.slice oN ns.length cN) ns.length (ns.flatMap needCells)) (hlen : ns.length ≤ 401) (hk : ∀ q ∈ ns, q.1.length ≤ 200) (hW : ∀ q ∈ ns, Lard.W (Lard.srcOf s.has) q.1 q.2) (hnd : (ns.map (·.1)).Nodup)
    (c14 : Code) (h14 : tailT 14 (Tryz.f10.body.getD .skip) = c14)
    (hK : ∀ (v20 v21 v22 v23 : Value) (u105 u106 u107 u108 u109 u110 u111 u112 u113 u114 u115 u116 u117 u118 u119 u120 u121 u122 u123 u124 u125 u126 u127 u128 u129 u130 u131 u132 u133 u134 u135 u136 u137 u138 u139 u140 u141 u142 u143 u144 u145 u146 u147 u148 u149 u150 u151 u152 u153 u154 : Value) (w' : World) (f' : Lard.LS) (L' : Nat → Prop) (N' : Nat), FW wA w' fb f' L' N' 8 H → N' ≤ 1000000000000 → Code.wp Tryz.prog c14 Q { tmps := #[v0, v1, v2, v3, .bool false, v5, v6, v7, v8, v9, v10, v11, v12, v13, v14, v15, v16, .slice oN ns.length cN, v18, .pointer (some ⟨fb, 0, none⟩), v20, v21, v22, v23, undef, undef, undef, undef, u28, u29, u30, u31, u32, u33, u34, u35, u36, u37, u38, u39, u40, u41, u42, u43, u44, u45, u46, u47, u48, u49, u50, u51, u52, u53, u54, u55, u56, u57, u58, u59, u60, u61, u62, u63, u64, u65, u66, u67, u68, u69, u70, u71, u72, u73, u74, u75, u76, u77, u78, u79, u80, u81, u82, u83, u84, u85, u86, u87, u88, u89, u90, u91, u92, u93, u94, u95, u96, u97, u98, u99, u100, u101, u102, u103, u104, u105, u106, u107, u108, u109, u110, u111, u112, u113, u114, u115, u116, u117, u118, u119, u120, u121, u122, u123, u124, u125, u126, u127, u128, u129, u130, u131, u132, u133, u134, u135, u136, u137, u138, u139, u140, u141, u142, u143, u144, u145, u146, u147, u148, u149, u150, u151, u152, u153, u154, undef, undef, undef, undef, undef, undef, undef, undef, undef, undef, undef, undef, undef, undef, undef, undef, undef, undef, undef, undef, undef, undef, undef, undef, undef, undef, undef, undef, undef, undef, undef, undef, undef, undef, undef, undef, undef, undef, undef, undef, undef, undef, undef, undef, undef, undef, undef, undef, undef, undef, undef, undef, undef, undef, undef, undef, undef, undef, undef, undef, undef, undef, undef, undef, undef, undef, undef, undef, undef, undef, undef, undef, undef, undef], defers := [] } w') :
    Code.wp Tryz.prog (tailT 13 (Tryz.f10.body.getD .skip)) Q { tmps := #[v0, v1, v2, v3, .bool false, v5, v6, v7, v8, v9, v10, v11, v12, v13, v14, v15, v16, .slice oN ns.length cN, v18, .pointer (some ⟨fb, 0, none⟩), undef, undef, undef, undef, undef, undef, undef, undef, u28, u29, u30, u31, u32, u33, u34, u35, u36, u37, u38, u39, u40, u41, u42, u43, u44, u45, u46, u47, u48, u49, u50, u51, u52, u53, u54, u55, u56, u57, u58, u59, u60, u61, u62, u63, u64, u65, u66, u67, u68, u69, u70, u71, u72, u73, u74, u75, u76, u77, u78, u79, u80, u81, u82, u83, u84, u85, u86, u87, u88, u89, u90, u91, u92, u93, u94, u95, u96, u97, u98, u99, u100, u101, u102, u103, u104, undef, undef, undef, undef, undef, undef, undef, undef, undef, undef, undef, undef, undef, undef, undef, undef, undef, undef, undef, undef, undef, undef, undef, undef, undef, undef, undef, undef, undef, undef, undef, undef, undef, undef, undef, undef, undef, undef, undef, undef, undef, undef, undef, undef, undef, undef, undef, undef, undef, undef, undef, undef, undef, undef, undef, undef, undef, undef, undef, undef, undef, undef, undef, undef, undef, undef, undef, undef, undef, undef, undef, undef, undef, undef, undef, undef, undef, undef, undef, undef, undef, undef, undef, undef, undef, undef, undef, undef, undef, undef, undef, undef, undef, undef, undef, undef, undef, undef, undef, undef, undef, undef, undef, undef, undef, undef, undef, undef, undef, undef, undef, undef, undef, undef, undef, undef, undef, undef, undef, undef, undef, undef, undef, undef], defers := [] } wc := by
  have HK := hide hK
  have HC := hide (And.intro hs (And.intro hN (And.intro hk (And.intro hW hnd))))
  have HW : Hid (FW wA wc fb f L (16000 + 0 * 2000000000) 8 H) := hide (by simpa using hw)
  clear hK hs hN hk hW hnd hw
  obtain ⟨cd, hcd⟩ : ∃ cd, tailT 13 (Tryz.f10.body.getD .skip) = cd := ⟨_, rfl⟩
  rw [hcd]
  simp only [tailT, Tryz.f10, Option.getD] at hcd h14
  rw [h14] at hcd
  clear h14
  subst hcd
  refine wp_seq_k (fun K hKK => ?_)
  have HKK := hide hKK
  clear hKK
  go_wp2_with fail
  go_loopw [4, 20] (fun bv iv wr => ∃ (i : Nat) (f : Lard.LS) (L : Nat → Prop), i ≤ ns.length ∧ bv = .bool false ∧ iv = .int .i64 i ∧ Hid (FW wA wr fb f L (16000 + i * 2000000000) 8 H)) (fun _ iv _ => ns.length - (intOf iv).toNat)
  case atStart => exact ⟨0, f, L, Nat.zero_le _, rfl, rfl, HW⟩
  case round =>
    obtain ⟨i, f, L, hi, rfl, rfl, HX⟩ := hrel
    clear HW
    by_cases hlt : i < ns.length
    · have hin : (i : Int) < (ns.length : Int) := by omega
      obtain ⟨q, hq⟩ : ∃ q, ns[i]? = some q := ⟨_, List.getElem?_eq_getElem hlt⟩
      have hqm := List.mem_of_getElem? hq
      obtain ⟨tc, ts, htv, hwo⟩ := told_cells q.2
      have hnc : needCells q = [str q.1, .int .i64 tc, .string ts] := by unfold needCells; rw [hwo]
      have hcells : ∀ j u, j < 3 → (needCells q)[j]? = some u → (ns.flatMap needCells)[i * 3 + j]? = some u := fun j u hj hu => (flat_at needCells_len ns i j q hq hj).trans hu
      obtain ⟨gN, rfl, c0⟩ := row_cell HC.out.2.1 (hcells 0 (str q.1) (by omega) (by rw [hnc]; rfl)) (by omega)
      obtain ⟨gN', e1, c1⟩ := row_cell HC.out.2.1 (hcells 1 (.int .i64 tc) (by omega) (by rw [hnc]; rfl)) (by omega)
      cases e1
      obtain ⟨gN', e1, c2⟩ := row_cell HC.out.2.1 (hcells 2 (.string ts) (by omega) (by rw [hnc]; rfl)) (by omega)
      cases e1
      have hstr : str q.1 = .string (txB q.1) := rfl
      rw [hstr, Nat.add_zero] at c0
      have HWO := hide (la_worth HX.out.la (txB q.1) (by rw [txB_size]; exact HC.out.2.2.1 q hqm) (by omega))
      rw [txB_list, worth_is HX.out.ok (by rw [← HC.out.1.same HX.out.ok]; exact .inl (HC.out.2.2.2.1 q hqm))] at HWO
      unfold ptr at HWO
      have d0 := cell_later HX.out.bel c0
      go_wp2_with fail
      refine HWO.out.mono ?_
      rintro e w1 ⟨tc1, ts1, rfl, htv1, hP1⟩
      obtain ⟨rfl, rfl⟩ := told_same2 htv htv1
      dsimp only
      obtain ⟨L1, h1⟩ := HX.out.post hP1 (worthS_ok HX.out.ok q.1)
      have H1 := hide h1
      clear HWO HX hP1 h1 d0
      go_wp2_with fail
      go_loopw [4, 23] (fun bv jv wr => ∃ (j : Nat), j ≤ i ∧ bv = .bool false ∧ jv = .int .i64 j ∧ Hid (FW wA wr fb (worthS f q.1) L1 (16000 + i * 2000000000 + 2000000000) 8 H)) (fun _ jv _ => i - (intOf jv).toNat)
      case atStart => exact ⟨0, Nat.zero_le _, rfl, rfl, H1⟩
      case round =>
        obtain ⟨j, hj, rfl, rfl, HX⟩ := hrel
        clear H1
        by_cases hjl : j < i
        · have hjn : (j : Int) < (i : Int) := by omega
          have hjn2 : (j : Int) < (ns.length : Int) := by omega
          obtain ⟨p, hp⟩ : ∃ p, ns[j]? = some p := ⟨_, List.getElem?_eq_getElem (by omega)⟩
          obtain ⟨gN', e1, cj⟩ := row_cell HC.out.2.1 (j := j * 3 + 0) (u := str p.1) ((flat_at needCells_len ns j 0 p hp (by omega)).trans rfl) (by omega)
          cases e1
          have hstr2 : str p.1 = .string (txB p.1) := rfl
          rw [hstr2, Nat.add_zero] at cj
          have hne : p.1 ≠ q.1 := fun e => by
            have h1 := HC.out.2.2.2.2
            have := (List.getElem?_inj (l := ns.map (·.1)) (i := j) (j := i) (by rw [List.length_map]; omega) h1).1 (by rw [List.getElem?_map, List.getElem?_map, hp, hq]; exact congrArg some e)
            omega
          have hb : ((txB p.1).toList == (txB q.1).toList) = false := by rw [toList_eq, txB_list, txB_list]; simpa using hne
          have d0 := cell_later HX.out.bel c0
          have dj := cell_later HX.out.bel cj
          clear hne hstr2 hp
          go_wp2_with fail
          go_quiet (fail)
          have HX2 := hide (HX.out.below (below_drewN _ nq))
          clear HX d0 dj
          go_wp2_with fail
          refine ⟨⟨j + 1, by omega, rfl, by go_num, HX2⟩, ?_⟩
          simp [intOf]; omega
        · obtain rfl : j = i := by omega
          have d1 := cell_later HX.out.bel c1
          have d2 := cell_later HX.out.bel c2
          go_wp2_with fail
          refine ⟨⟨j + 1, _, _, by omega, rfl, by go_num, hide (by
            have := HX.out
            rw [show 16000 + (j + 1) * 2000000000 = 16000 + j * 2000000000 + 2000000000 by omega]
            exact this)⟩, ?_⟩
          simp [intOf]; omega
    · obtain rfl : i = ns.length := by omega
      go_wp2_with fail
      exact HKK.out _ _ (HK.out _ _ _ _ _ _ _ _ _ _ _ _ _ _ _ _ _ _ _ _ _ _ _ _ _ _ _ _ _ _ _ _ _ _ _ _ _ _ _ _ _ _ _ _ _ _ _ _ _ _ _ _ _ _ _ _ _ _ HX.out (by omega))
end Go.Proofs.YtpekpdimdelncaaGreatDoor
namespace Go.Proofs.YtpekpdimdelncaaGreatDoor
set_option maxRecDepth 100000
set_option maxHeartbeats 8000000
open Go.RowKit Go.Shelf
set_option linter.unusedVariables false
set_option linter.unusedSimpArgs false
attribute [local go_sem] eqlW guardW
theorem to_whys {E : Ending → World → Prop} (w0 wA wc : World) (fb : Nat) (s f : Lard.LS) (L : Nat → Prop) (N k0 bb wb : Nat) (H : Nat → Nat × List UInt8) (R : List Lard.Why) (oR : Option Addr) (cR BR : Nat) (cb tb tw : Int) (sb sw : ByteArray) (v0 v1 v2 v3 v5 v6 v7 v10 v12 v13 v14 v17 v18 v20 v21 v22 v23 : Value) (u28 u29 u30 u31 u32 u33 u34 u35 u36 u37 u38 u39 u40 u41 u42 u43 u44 u45 u46 u47 u48 u49 u50 u51 u52 u53 u54 u55 u56 u57 u58 u59 u60 u61 u62 u63 u64 u65 u66 u67 u68 u69 u70 u71 u72 u73 u74 u75 u76 u77 u78 u79 u80 u81 u82 u83 u84 u85 u86 u87 u88 u89 u90 u91 u92 u93 u94 u95 u96 u97 u98 u99 u100 u101 u102 u103 u104 u105 u106 u107 u108 u109 u110 u111 u112 u113 u114 u115 u116 u117 u118 u119 u120 u121 u122 u123 u124 u125 u126 u127 u128 u129 u130 u131 u132 u133 u134 u135 u136 u137 u138 u139 u140 u141 u142 u143 u144 u145 u146 u147 u148 u149 u150 u151 u152 u153 u154 : Value)
    (hw : FW wA wc fb f L N 8 H) (hN : N ≤ 1000000000000) (hk0 : k0 < 8) (hs : Lard.HasOk s H 8) (hR : wA.ownsRow BR 61 6 (.slice oR R.length cR) R.length (R.flatMap whyCells)) (hlen : R.length ≤ 40) (hk : ∀ y ∈ R, y.need.length ≤ 200) (hW : ∀ y ∈ R, Lard.WhyOk (Lard.srcOf s.has) y)
    (cb0 : wA.cell? ⟨bb, 0, none⟩ = some (.int .i64 tb)) (cb1 : wA.cell? ⟨bb, 1, none⟩ = some (.string sb)) (cw0 : wA.cell? ⟨wb, 0, none⟩ = some (.int .i64 tw)) (cw1 : wA.cell? ⟨wb, 1, none⟩ = some (.string sw))
    (hend : R.any (fun y => y.key == Lard.keyText k0) = true ∨ (cb = 0 ∧ tb = tw ∧ sb = sw)) (hB : Below w0.heap.size w0 wA)
    (hE : ∀ w', Below w0.heap.size w0 w' → E (.returned (.bool true)) w') :
    Code.wp Tryz.prog (tailT 14 (Tryz.f10.body.getD .skip)) (bodyPost Tryz.prog Tryz.f10 E) { tmps := #[v0, v1, v2, v3, .bool false, v5, v6, v7, .int .i64 k0, .pointer (some ⟨bb, 0, none⟩), v10, .int .i64 cb, v12, v13, v14, .slice oR R.length cR, .pointer (some ⟨wb, 0, none⟩), v17, v18, .pointer (some ⟨fb, 0, none⟩), v20, v21, v22, v23, undef, undef, undef, undef, u28, u29, u30, u31, u32, u33, u34, u35, u36, u37, u38, u39, u40, u41, u42, u43, u44, u45, u46, u47, u48, u49, u50, u51, u52, u53, u54, u55, u56, u57, u58, u59, u60, u61, u62, u63, u64, u65, u66, u67, u68, u69, u70, u71, u72, u73, u74, u75, u76, u77, u78, u79, u80, u81, u82, u83, u84, u85, u86, u87, u88, u89, u90, u91, u92, u93, u94, u95, u96, u97, u98, u99, u100, u101, u102, u103, u104, u105, u106, u107, u108, u109, u110, u111, u112, u113, u114, u115, u116, u117, u118, u119, u120, u121, u122, u123, u124, u125, u126, u127, u128, u129, u130, u131, u132, u133, u134, u135, u136, u137, u138, u139, u140, u141, u142, u143, u144, u145, u146, u147, u148, u149, u150, u151, u152, u153, u154, undef, undef, undef, undef, undef, undef, undef, undef, undef, undef, undef, undef, undef, undef, undef, undef, undef, undef, undef, undef, undef, undef, undef, undef, undef, undef, undef, undef, undef, undef, undef, undef, undef, undef, undef, undef, undef, undef, undef, undef, undef, undef, undef, undef, undef, undef, undef, undef, undef, undef, undef, undef, undef, undef, undef, undef, undef, undef, undef, undef, undef, undef, undef, undef, undef, undef, undef, undef, undef, undef, undef, undef, undef, undef], defers := [] } wc := by
  have HC := hide (And.intro hs (And.intro hR (And.intro hk hW)))
  have HB := hide (And.intro cb0 (And.intro cb1 (And.intro cw0 (And.intro cw1 (And.intro hend (And.intro hB hE))))))
  have HW : Hid (FW wA wc fb f L (N + 0 * 2000000000) 8 H) := hide (by simpa using hw)
  have HYK := hide (fun w => key_any k0 w (by omega))
  clear hs hR hk hW hw cb0 cb1 cw0 cw1 hend hB hE
  obtain ⟨cd, hcd⟩ : ∃ cd, tailT 14 (Tryz.f10.body.getD .skip) = cd := ⟨_, rfl⟩
  rw [hcd]
  simp only [tailT, Tryz.f10, Option.getD] at hcd
  subst hcd
  go_wp2_with fail
  go_loopw [4, 24, 25] (fun bv mv iv wr => ∃ (i : Nat) (m : Bool) (f : Lard.LS) (L : Nat → Prop), i ≤ R.length ∧ bv = .bool false ∧ mv = .bool m ∧ iv = .int .i64 i ∧ Hid (m = (R.take i).any (fun y => y.key == Lard.keyText k0)) ∧ Hid (FW wA wr fb f L (N + i * 2000000000) 8 H)) (fun _ _ iv _ => R.length - (intOf iv).toNat)
  case atStart => exact ⟨0, false, f, L, Nat.zero_le _, rfl, rfl, rfl, hide rfl, HW⟩
  case round =>
    obtain ⟨i, m, f, L, hi, rfl, rfl, rfl, HM, HX⟩ := hrel
    clear HW
    by_cases hlt : i < R.length
    · have hin : (i : Int) < (R.length : Int) := by omega
      obtain ⟨y, hy⟩ : ∃ y, R[i]? = some y := ⟨_, List.getElem?_eq_getElem hlt⟩
      have hym := List.mem_of_getElem? hy
      obtain ⟨pc, ps, hpv, hpo⟩ := told_cells y.was
      obtain ⟨tc, ts, htv, hwo⟩ := told_cells y.now
      have hnc : whyCells y = [str y.key, str y.need, .int .i64 pc, .string ps, .int .i64 tc, .string ts] := by unfold whyCells; rw [hwo, hpo]; rfl
      have hcells : ∀ j u, j < 6 → (whyCells y)[j]? = some u → ∃ g, oR = some ⟨g, 0, none⟩ ∧ wA.cell? ⟨g, i * 6 + j, none⟩ = some u := fun j u hj hu => row_cell HC.out.2.1 ((flat_at whyCells_len R i j y hy hj).trans hu) (by omega)
      rw [hnc] at hcells
      obtain ⟨gR, rfl, c0⟩ := hcells 0 _ (by omega) rfl
      have hc2 : ∀ j u, j < 6 → [str y.key, str y.need, .int .i64 pc, .string ps, .int .i64 tc, .string ts][j]? = some u → wA.cell? ⟨gR, i * 6 + j, none⟩ = some u := fun j u hj hu => by
        obtain ⟨g, e, h⟩ := hcells j u hj hu
        cases e
        exact h
      have c1 := hc2 1 _ (by omega) rfl
      have c2 := hc2 2 _ (by omega) rfl
      have c3 := hc2 3 _ (by omega) rfl
      have c4 := hc2 4 _ (by omega) rfl
      have c5 := hc2 5 _ (by omega) rfl
      have hs0 : str y.key = .string (txB y.key) := rfl
      have hs1 : str y.need = .string (txB y.need) := rfl
      rw [hs0, Nat.add_zero] at c0
      rw [hs1] at c1
      clear hcells hc2 hnc hs0 hs1
      have htk : (R.take (i + 1)).any (fun y => y.key == Lard.keyText k0) = (m || (y.key == Lard.keyText k0)) := by
        rw [List.take_add_one, hy, List.any_append, ← HM.out]
        simp
      have HM2 : Hid ((m || (y.key == Lard.keyText k0)) = (R.take (i + 1)).any (fun y => y.key == Lard.keyText k0)) := hide htk.symm
      clear HM htk
      have d0 := cell_later HX.out.bel c0
      go_upto_region 31 with fail
      go_cut [24] from 155 to 218 (fun mv wx => mv = .bool (m || (y.key == Lard.keyText k0)) ∧ Hid (FW wA wx fb f L (N + i * 2000000000) 8 H))
      case first =>
        cases m with
        | true =>
          go_quiet (fail)
          go_wp2_with fail
          go_meet
          case rel => exact ⟨rfl, hide (HX.out.below (below_drewN _ _))⟩
        | false =>
          obtain ⟨b, hb⟩ : ∃ b, (y.key == Lard.keyText k0) = b := ⟨_, rfl⟩
          have hbq : ((txB y.key).toList == (keyB k0).toList) = b := by rw [toList_eq, txB_list, keyB_list]; exact hb
          clear HM2
          refine wp_nrm ?_
          refine wp_region_held_drew (S := fun w' => w'.cell? ⟨gR, i * 6, none⟩ = some (.string (txB y.key))) (by kernel_rfl) d0 (fun hHeld => ?_)
          refine wpAnyH_take (i := 0) (v := ?_) rfl (by kernel_rfl) (by kernel_rfl) (by kernel_rfl) (fun _ _ _ h => h) (Or.inl ⟨by kernel_rfl, ?_⟩) d0 ?_
          rotate_left
          · intro w' s0
            go_simp
            try with_reducible rfl
          simp only [Act.put, List.setIfInBounds_toArray, List.set_cons_zero, List.set_cons_succ]
          refine wpAnyH_take (i := 1) (v := ?_) rfl (by kernel_rfl) (by kernel_rfl) (by kernel_rfl) (fun _ _ _ h => h) (Or.inl ⟨by kernel_rfl, ?_⟩) d0 ?_
          rotate_left
          · intro w' s0
            go_simp
            try with_reducible rfl
          simp only [Act.put, List.setIfInBounds_toArray, List.set_cons_zero, List.set_cons_succ]
          refine wpAnyH_take (i := 2) (v := ?_) rfl (by kernel_rfl) (by kernel_rfl) (by kernel_rfl) (fun _ _ _ h => h) (Or.inl ⟨by kernel_rfl, ?_⟩) d0 ?_
          rotate_left
          · intro w' s0
            go_simp
            try with_reducible rfl
          simp only [Act.put, List.setIfInBounds_toArray, List.set_cons_zero, List.set_cons_succ]
          refine wpAnyH_take (i := 3) (v := ?_) rfl (by kernel_rfl) (by kernel_rfl) (by kernel_rfl) (fun _ _ _ h => h) (Or.inl ⟨by kernel_rfl, ?_⟩) d0 ?_
          rotate_left
          · intro w' s0
            go_simp
            try with_reducible rfl
          simp only [Act.put, List.setIfInBounds_toArray, List.set_cons_zero, List.set_cons_succ]
          refine wpAnyH_take (i := 4) (v := ?_) rfl (by kernel_rfl) (by kernel_rfl) (by kernel_rfl) (fun _ _ _ h => h) (Or.inl ⟨by kernel_rfl, ?_⟩) d0 ?_
          rotate_left
          · intro w' s0
            go_simp
            try with_reducible rfl
          simp only [Act.put, List.setIfInBounds_toArray, List.set_cons_zero, List.set_cons_succ]
          refine wpAnyH_take (i := 5) (v := ?_) rfl (by kernel_rfl) (by kernel_rfl) (by kernel_rfl) (fun _ _ _ h => h) (Or.inl ⟨by kernel_rfl, ?_⟩) d0 ?_
          rotate_left
          · intro w' s0
            go_simp
            try with_reducible rfl
          simp only [Act.put, List.setIfInBounds_toArray, List.set_cons_zero, List.set_cons_succ]
          refine wpAnyH_take (i := 6) (v := ?_) rfl (by kernel_rfl) (by kernel_rfl) (by kernel_rfl) (fun _ _ _ h => h) (Or.inl ⟨by kernel_rfl, ?_⟩) d0 ?_
          rotate_left
          · intro w' s0
            go_simp
            try with_reducible rfl
          simp only [Act.put, List.setIfInBounds_toArray, List.set_cons_zero, List.set_cons_succ]
          refine wpAnyH_take (i := 7) (v := ?_) rfl (by kernel_rfl) (by kernel_rfl) (by kernel_rfl) (fun _ _ _ h => h) (Or.inl ⟨by kernel_rfl, ?_⟩) d0 ?_
          rotate_left
          · intro w' s0
            go_simp
            try with_reducible rfl
          simp only [Act.put, List.setIfInBounds_toArray, List.set_cons_zero, List.set_cons_succ]
          refine wpAnyH_ready (rs := [8]) (by kernel_rfl) (by simp) ?_
          refine AllReadyH.cons rfl (fun K hK => ?_) AllReadyH.nil
          go_simp
          refine (HYK.out _).mono ?_
          rintro e w4 ⟨rfl, hB4⟩
          have hB4' := ((Below.refl _ wr).drew).trans hB4
          have d4 := cell_later hB4' d0
          refine hK.out _ _ d4 (fun _ => ?_)
          clear hK
          refine wpAnyH_ready (rs := [9]) (by kernel_rfl) (by simp) ?_
          refine AllReadyH.cons rfl (fun K hK => ?_) AllReadyH.nil
          go_simp
          refine hK.out _ _ d4 (fun _ => ?_)
          clear hK
          refine wpAnyH_ready (rs := [10]) (by kernel_rfl) (by simp) ?_
          refine AllReadyH.cons rfl (fun K hK => ?_) AllReadyH.nil
          go_simp
          refine hK.out _ _ d4 (fun _ => ?_)
          clear hK
          refine wpAnyH_ready (rs := [11]) (by kernel_rfl) (by simp) ?_
          refine AllReadyH.cons rfl (fun K hK => ?_) AllReadyH.nil
          go_simp
          refine hK.out _ _ d4 (fun _ => ?_)
          clear hK
          refine wpAnyH_done (by kernel_rfl) ?_ _
          refine onlyN_is ?_
          have HX4 := hide (HX.out.below hB4')
          clear hHeld d4 hB4 hB4'
          dsimp only [Exit.then]
          go_wp2_with fail
          go_meet
          case rel => exact ⟨by rw [hb]; rfl, HX4⟩
      case rest =>
        obtain ⟨rfl, HX⟩ := hcut
        generalize (m || (y.key == Lard.keyText k0)) = m2 at HM2
        clear d0 c0
        have d1 := cell_later HX.out.bel c1
        by_cases hn : y.need = []
        · have hbn : (txB y.need).toList.isEmpty = true := by rw [Lib.toList_data, txB_list, hn]; rfl
          clear hn
          go_wp2_with fail
          refine ⟨⟨i + 1, m2, f, L, by omega, rfl, rfl, by go_num, HM2, hide ⟨HX.out.la.le (by omega), HX.out.off, HX.out.bel, HX.out.ok⟩⟩, ?_⟩
          simp [intOf]; omega
        · have hbn : (txB y.need).toList.isEmpty = false := by
            rw [Lib.toList_data, txB_list]
            simpa using hn
          obtain ⟨hI, hne, hfw⟩ : Lard.Is (Lard.srcOf s.has) y.need y.now ∧ Lard.sameO y.now y.was = false ∧ Lard.Fine y.was := by
            rcases HC.out.2.2.2 y hym with ⟨h, _⟩ | h
            · exact absurd h hn
            · exact h
          have hpt : ¬ (pc = tc ∧ ps = ts) := fun ⟨e1, e2⟩ => wo_ne (is_fine HC.out.1.sound.ef hI) hfw hne (by rw [htv, hpv, e1, e2])
          have hpt2 : pc ≠ tc ∨ (pc = tc ∧ ps.toList ≠ ts.toList) := by
            by_cases h : pc = tc
            · exact .inr ⟨h, fun e => hpt ⟨h, ByteArray.ext (Array.toList_inj.1 (by rw [Lib.toList_data, Lib.toList_data] at e; exact e))⟩⟩
            · exact .inl h
          clear hpt
          have HWO := hide (la_worth HX.out.la (txB y.need) (by rw [txB_size]; exact HC.out.2.2.1 y hym) (by omega))
          rw [txB_list, worth_is HX.out.ok (by rw [← HC.out.1.same HX.out.ok]; exact hI)] at HWO
          unfold ptr at HWO
          clear hI hne hfw hpv hpo hwo hn
          go_wp2_with fail
          refine HWO.out.mono ?_
          rintro e w1 ⟨tc1, ts1, rfl, htv1, hP1⟩
          obtain ⟨rfl, rfl⟩ := told_same2 htv htv1
          dsimp only
          obtain ⟨L1, h1⟩ := HX.out.post hP1 (worthS_ok HX.out.ok y.need)
          have e2 := cell_later h1.bel c2
          have e3 := cell_later h1.bel c3
          have e4 := cell_later h1.bel c4
          have e5 := cell_later h1.bel c5
          have x3 : w1.cell? ⟨gR, i * 6 + 2 + 1, none⟩ = some (.string ps) := e3
          have x5 : w1.cell? ⟨gR, i * 6 + 4 + 1, none⟩ = some (.string ts) := e5
          have H1 := hide h1
          clear HWO HX hP1 h1 d1 c1 c2 c3 c4 c5 htv htv1
          rcases hpt2 with hne | ⟨rfl, hne⟩
          all_goals
            go_wp2_with fail
            go_quiet (fail)
            have H2 := hide (H1.out.below (below_drewN _ nq))
            clear H1 e2 e3 e4 e5 x3 x5
            go_wp2_with fail
            refine ⟨⟨i + 1, m2, _, L1, by omega, rfl, rfl, by go_num, HM2, hide ⟨H2.out.la.le (by omega), H2.out.off, H2.out.bel, H2.out.ok⟩⟩, ?_⟩
            simp [intOf]; omega
    · obtain rfl : i = R.length := by omega
      have b0 := cell_later HX.out.bel HB.out.1
      have b1 := cell_later HX.out.bel HB.out.2.1
      have b2 := cell_later HX.out.bel HB.out.2.2.1
      have b3 := cell_later HX.out.bel HB.out.2.2.2.1
      have HF := hide (HB.out.2.2.2.2.2.2 wr (HB.out.2.2.2.2.2.1.trans (HX.out.bel.mono HB.out.2.2.2.2.2.1.size)))
      have hm := HM.out
      rw [List.take_length] at hm
      have hend := HB.out.2.2.2.2.1
      rw [← hm] at hend
      clear HM hm HB HC HYK HX
      cases m with
      | true =>
        go_wp2_with fail
        exact HF.out
      | false =>
        obtain ⟨rfl, rfl, rfl⟩ : cb = 0 ∧ tb = tw ∧ sb = sw := by
          rcases hend with h | h
          · cases h
          · exact h
        go_wp2_with fail
        exact HF.out
end Go.Proofs.YtpekpdimdelncaaGreatDoor
namespace Go.Proofs.YtpekpdimdelncaaGreatDoor
open Go.RowKit Go.Shelf
set_option linter.unusedVariables false
set_option linter.unusedSimpArgs false
end Go.Proofs.YtpekpdimdelncaaGreatDoor
namespace Go.Proofs.YtpekpdimdelncaaGreatDoor
set_option maxRecDepth 100000
set_option maxHeartbeats 4000000
open Go.RowKit Go.Shelf
set_option linter.unusedVariables false
set_option linter.unusedSimpArgs false
theorem hl_start {w0 w w1 : World} {lb hb : Nat} {L : Nat → Prop} (hm : HM w hb (fun _ => (0, []))) (hown : w0.heap.size ≤ hb ∧ 8 ≤ hb) (hB : Below w0.heap.size w0 w) (hla : La w1 lb Lard.LS.new L 0) (hL : ∀ k, L k → w.heap.size ≤ k) (hB1 : Below w.heap.size w w1) : HL w0 w1 lb hb Lard.LS.new L 0 (fun _ => (0, [])) := by
  have h1 := hm.lt
  have h2 := hB.size
  exact ⟨hla, hm.same (hB1.block _ h1), fun k hk => ⟨by have := hL k hk; omega, by have := hL k hk; omega⟩, hown, hB.trans (hB1.mono h2), Lard.HasOk.none8, fun i hi => .inl rfl⟩
theorem played_p (I : Lard.LS → Prop) (h0 : I Lard.LS.new) (hI : ∀ s H kd ky wi, Lard.HasOk s H 8 → I s → I (stepS s kd ky wi)) (w0 w : World) (g : G w) (hd : Deb w) (hb : Nat) (o : Option Addr) (len cap m : Nat) (K Y Z : Nat → Int) (hv : StepsAt w0 o len K Y Z) (hm60 : m ≤ 60) (hm : HM w hb (fun _ => (0, []))) (hown : w0.heap.size ≤ hb ∧ 8 ≤ hb) (hB : Below w0.heap.size w0 w) :
    Calls Tryz.prog 27 #[.slice o len cap, .int .i64 m, .slice (some ⟨hb, 0, none⟩) 8 8] w fun e w' => ∃ lb s L H, e = .returned (ptr lb) ∧ HL w0 w' lb hb s L 300000000000 H ∧ I s := by
  have HN := hide (la_new w g hd)
  have HV := hide hv
  generalize hRR : (fun (e : Ending) (w' : World) => ∃ lb s L H, e = .returned (ptr lb) ∧ HL w0 w' lb hb s L 300000000000 H ∧ I s) = RR
  have HF : Hid (∀ w' lb s L H, HL w0 w' lb hb s L 300000000000 H → I s → RR (.returned (ptr lb)) w') := hide (fun w' lb s L H hl hi => by rw [← hRR]; exact ⟨lb, s, L, H, rfl, hl, hi⟩)
  have HI := hide (And.intro h0 hI)
  have HO := hide (And.intro hm (And.intro hown hB))
  clear hRR g hd hm hown hB hv h0 hI
  go_enter Tryz.func27, Tryz.ntmps27
  go_wp2_with fail
  refine HN.out.mono ?_
  rintro e w1 ⟨lb, rfl, hla, hB1⟩
  dsimp only
  have HH : Hid (HL w0 w1 lb hb Lard.LS.new (fun k => w.heap.size ≤ k ∧ k ≤ w.heap.size + 2) (0 * 5000000000) (fun _ => (0, []))) := hide (by simpa using hl_start HO.out.1 HO.out.2.1 HO.out.2.2 hla (fun k hk => hk.1) hB1)
  clear HN hla hB1 HO
  unfold ptr at *
  go_wp2_with fail
  go_loopw [8] (fun iv wr => ∃ (i : Nat) (s : Lard.LS) (L : Nat → Prop) (H : Nat → Nat × List UInt8), i ≤ len ∧ i ≤ m ∧ iv = .int .i64 i ∧ Hid (HL w0 wr lb hb s L (i * 5000000000) H ∧ I s)) (fun iv _ => m - (intOf iv).toNat)
  case atStart => exact ⟨0, _, _, _, Nat.zero_le _, Nat.zero_le _, rfl, hide ⟨HH.out, HI.out.1⟩⟩
  case round =>
    obtain ⟨i, s, L, H, hi, him, rfl, HX2⟩ := hrel
    have HX := hide HX2.out.1
    have HIS := hide HX2.out.2
    clear HH HX2
    by_cases h1 : i < len
    · have h1i : (i : Int) < (len : Int) := by omega
      by_cases h2 : i < m
      · have h2i : (i : Int) < (m : Int) := by omega
        obtain ⟨ab, ao, rfl, e1, e2, e3, b1, b2, b3⟩ := HV.out i h1
        have d1 := (HX.out.bel.cell (World.block_lt_of_cell? _ _ e1)).trans e1
        have d2 := (HX.out.bel.cell (World.block_lt_of_cell? _ _ e2)).trans e2
        have d3 := (HX.out.bel.cell (World.block_lt_of_cell? _ _ e3)).trans e3
        have HDO := hide (does_any w0 wr lb hb s L (i * 5000000000) H (K i) (Y i) (Z i) b1 b2 b3 (by omega) HX.out)
        have HOK := hide HX.out.ok
        unfold ptr at HDO
        clear e1 e2 e3 b1 b2 b3 HX
        go_wp2_with fail
        refine HDO.out.mono ?_
        rintro e w4 ⟨rfl, L4, h4⟩
        dsimp only
        clear HDO d1 d2 d3
        have H4 := hide (And.intro (h4.le (M := (i + 1) * 5000000000) (by omega)) (HI.out.2 s H (K i) (Y i) (Z i) HOK.out HIS.out))
        clear h4
        go_wp2_with fail
        refine ⟨⟨i + 1, _, L4, _, by omega, by omega, by go_num, H4⟩, ?_⟩
        simp [intOf]; omega
      · have h2i : ¬ (i : Int) < (m : Int) := by omega
        have HE := hide (HF.out wr lb s L H (HX.out.le (by omega)) HIS.out)
        clear HF HX
        go_wp2_with fail
        exact HE.out
    · have h1i : ¬ (i : Int) < (len : Int) := by omega
      have HE := hide (HF.out wr lb s L H (HX.out.le (by omega)) HIS.out)
      clear HF HX
      go_wp2_with fail
      exact HE.out
theorem played_any (w0 w : World) (g : G w) (hd : Deb w) (hb : Nat) (o : Option Addr) (len cap m : Nat) (K Y Z : Nat → Int) (hv : StepsAt w0 o len K Y Z) (hm60 : m ≤ 60) (hm : HM w hb (fun _ => (0, []))) (hown : w0.heap.size ≤ hb ∧ 8 ≤ hb) (hB : Below w0.heap.size w0 w) :
    Calls Tryz.prog 27 #[.slice o len cap, .int .i64 m, .slice (some ⟨hb, 0, none⟩) 8 8] w fun e w' => ∃ lb s L H, e = .returned (ptr lb) ∧ HL w0 w' lb hb s L 300000000000 H :=
  (played_p (fun _ => True) trivial (fun _ _ _ _ _ _ _ => trivial) w0 w g hd hb o len cap m K Y Z hv hm60 hm hown hB).mono (fun e w' ⟨lb, s, L, H, h1, h2, _⟩ => ⟨lb, s, L, H, h1, h2⟩)
end Go.Proofs.YtpekpdimdelncaaGreatDoor
namespace Go.Proofs.YtpekpdimdelncaaGreatDoor
open Go.RowKit Go.Shelf
set_option linter.unusedVariables false
set_option linter.unusedSimpArgs false
end Go.Proofs.YtpekpdimdelncaaGreatDoor
