/- Out of: G5, F1, G6. -/
import Derived.Test.YtpekpdimdelncaaGreatDoorP45
import Derived.Test.YtpekpdimdelncaaGreatDoorP42
namespace Go.Proofs.YtpekpdimdelncaaGreatDoor
set_option maxRecDepth 100000
set_option maxHeartbeats 8000000
open Go.RowKit Go.Shelf
set_option linter.unusedVariables false
set_option linter.unusedSimpArgs false
theorem st_tail {E : Ending → World → Prop} (w0 wc : World) (lb : Nat) (s : Lard.LS) (L : Nat → Prop) (N k0 : Nat) (ot tc : Int) (ts : ByteArray) (v0 v1 v3 v4 v5 v7 v8 v13 v14 v15 v16 v17 v18 v19 v20 v21 v22 v23 v24 : Value) (u39 u40 u41 u42 u43 u44 u45 u46 u47 u48 u49 u50 u51 u52 u53 u54 u55 u56 u57 u58 u59 u60 u61 u62 u63 u64 u65 u66 u67 u68 u69 u70 u71 u72 u73 u74 u75 u76 u77 u78 u79 u80 u81 u82 u83 u84 u85 u86 u87 u88 u89 u90 u91 u92 u93 u94 u95 u96 u97 u98 u99 u100 u101 u102 u103 u104 u105 u106 u107 u108 u109 u110 u111 u112 u113 u114 u115 u116 u117 u118 u119 u120 u121 u122 u123 u124 u125 u126 u127 u128 u129 u130 u131 u132 u133 u134 u135 u136 u137 u138 u139 u140 u141 u142 u143 u144 u145 u146 u147 u148 u149 u150 u151 u152 u153 u154 u155 u156 u157 u158 u159 u160 u161 u162 u163 u164 u165 u166 u167 u168 u169 u170 u171 u172 u173 u174 u175 u176 u177 u178 u179 u180 u181 u182 u183 u184 u185 u186 u187 u188 u189 u190 u191 u192 u193 u194 u195 u196 u197 u198 u199 : Value)
    (hN : N ≤ 1000000000000) (hw : LW w0 wc lb s L N) (hk0 : k0 < 8) (hot : -9223372036854775808 ≤ ot ∧ ot ≤ 9223372036854775807) (hroom : s.has.length < 40) (hnn : ∀ x, Lard.isName x = false → Lard.keptOf s.has x = none)
    (hu : Lard.Utd (Lard.srcOf s.has) s.has (Lard.keyText k0)) (hr : toldV (s.ask (Lard.keyText k0)).1 = .agg #[.int .i64 tc, .string ts])
    (hE : ∀ w', Below w0.heap.size w0 w' → E (.returned (.bool true)) w') :
    Code.wp Tryz.prog (tailT 14 (Tryz.f9.body.getD .skip)) (bodyPost Tryz.prog Tryz.f9 E) { tmps := #[v0, v1, .int .i64 ot, v3, v4, v5, .bool false, v7, v8, .pointer (some ⟨lb, 0, none⟩), .string (keyB k0), .string ts, .int .i64 tc, v13, v14, v15, v16, v17, v18, v19, v20, v21, v22, v23, v24, undef, undef, undef, undef, undef, undef, undef, undef, undef, undef, undef, undef, undef, undef, u39, u40, u41, u42, u43, u44, u45, u46, u47, u48, u49, u50, u51, u52, u53, u54, u55, u56, u57, u58, u59, u60, u61, u62, u63, u64, u65, u66, u67, u68, u69, u70, u71, u72, u73, u74, u75, u76, u77, u78, u79, u80, u81, u82, u83, u84, u85, u86, u87, u88, u89, u90, u91, u92, u93, u94, u95, u96, u97, u98, u99, u100, u101, u102, u103, u104, u105, u106, u107, u108, u109, u110, u111, u112, u113, u114, u115, u116, u117, u118, u119, u120, u121, u122, u123, u124, u125, u126, u127, u128, u129, u130, u131, u132, u133, u134, u135, u136, u137, u138, u139, u140, u141, u142, u143, u144, u145, u146, u147, u148, u149, u150, u151, u152, u153, u154, u155, u156, u157, u158, u159, u160, u161, u162, u163, u164, u165, u166, u167, u168, u169, u170, u171, u172, u173, u174, u175, u176, u177, u178, u179, u180, u181, u182, u183, u184, u185, u186, u187, u188, u189, u190, u191, u192, u193, u194, u195, u196, u197, u198, u199], defers := [] } wc := by
  have hB : Below wc.heap.size wc (wc.alloc (.cells #[.string (keyB k0)] 9)) := (Below.refl _ wc).alloc (Nat.le_refl _) _
  have hsr : SR w0 (wc.alloc (.cells #[.string (keyB k0)] 9)) L (.slice (some ⟨wc.heap.size, 0, none⟩) 1 1) [Lard.keyText k0] := ⟨⟨rfl, .inr ⟨wc.heap.size, 1, #[.string (keyB k0)], rfl, hw.la.g.size, heap_alloc_new wc _, Nat.le_refl _, by unfold maxLen; omega, rfl, rfl⟩⟩, fun g hg => by
    have e : some wc.heap.size = some g := hg
    have e := Option.some.inj e
    subst e
    exact ⟨hw.bel.size, fun hl => by have := (hw.la.lat.lt hl).2; omega⟩⟩
  have HW := hide (And.intro (hw.below hB) hsr)
  have HC := hide (And.intro hN (And.intro hot (And.intro hroom (And.intro hnn (And.intro hu (And.intro hr hE))))))
  have HSD := hide hw.la.sound
  clear hN hw hot hroom hnn hu hr hE hB hsr
  obtain ⟨c15, h15⟩ : ∃ c, tailT 15 (Tryz.f9.body.getD .skip) = c := ⟨_, rfl⟩
  have H15 := hide h15
  obtain ⟨cd, hcd⟩ : ∃ cd, tailT 14 (Tryz.f9.body.getD .skip) = cd := ⟨_, rfl⟩
  rw [hcd]
  simp only [tailT, Tryz.f9, Option.getD] at hcd h15
  rw [h15] at hcd
  clear h15
  subst hcd
  go_wp2_with fail
  rw [← H15.out]
  refine st_all w0 _ lb s L N k0 _ _ _ _ _ _ _ _ _ _ _ _ _ _ _ _ _ _ _ _ _ _ _ _ _ _ _ _ _ _ _ _ _ _ _ _ _ _ _ _ _ _ _ _ _ _ _ _ _ _ _ _ _ _ _ _ _ _ _ _ _ _ _ _ _ _ _ _ _ _ _ _ _ _ _ _ _ _ _ _ _ _ _ _ _ _ _ _ _ _ _ _ _ _ _ _ _ _ _ _ _ _ _ _ _ _ _ _ _ _ _ _ _ _ _ _ _ _ _ _ _ _ _ _ _ _ _ _ _ _ _ _ _ _ _ _ _ _ _ _ _ _ _ _ _ _ _ _ _ _ _ _ _ _ _ _ _ _ _ _ _ _ _ _ _ _ _ _ _ _ _ _ _ _ _ _ _ _ _ _ _ _ _ _ _ _ _ hk0 HW.out.1 HW.out.2 HC.out.2.2.2.1 _ rfl ?_
  intro l av v26 v27 v28 v29 v30 v31 u39 u40 u41 u42 u43 u44 u45 u46 u47 u48 u49 u50 u51 u52 u53 u54 u55 u56 u57 u58 u59 u60 u61 u62 u63 u64 u65 u66 u67 u68 u69 u70 u71 u72 u73 u74 u75 u76 u77 u78 u79 u80 u81 u82 u83 u84 u85 u86 u87 u88 u89 u90 u91 u92 u93 u94 u95 u96 u97 u98 u99 u100 u101 u102 u103 u104 u105 u106 u107 u108 u109 u110 u111 u112 u113 u114 u115 u116 u117 u118 u119 u120 u121 u122 u123 u124 u125 u126 u127 u128 u129 u130 u131 u132 u133 u134 u135 u136 u137 u138 u139 u140 u141 u142 u143 u144 u145 u146 u147 u148 u149 u150 u151 u152 u153 u154 u155 u156 u157 u158 u159 u160 u161 u162 u163 u164 u165 u166 u167 u168 u169 u170 u171 u172 u173 u174 u175 u176 u177 u178 u179 u180 u181 u182 u183 u184 u185 u186 u187 u188 u189 u190 u191 u192 u193 u194 u195 u196 u197 u198 u199 w' hw' hr' hg'
  exact st_end w0 w' lb s L N k0 l ot tc ts 8 av _ _ _ _ _ _ _ _ _ _ _ _ _ _ _ _ _ _ _ _ _ _ _ _ _ _ _ _ _ _ _ _ _ _ _ _ _ _ _ _ _ _ _ _ _ _ _ _ _ _ _ _ _ _ _ _ _ _ _ _ _ _ _ _ _ _ _ _ _ _ _ _ _ _ _ _ _ _ _ _ _ _ _ _ _ _ _ _ _ _ _ _ _ _ _ _ _ _ _ _ _ _ _ _ _ _ _ _ _ _ _ _ _ _ _ _ _ _ _ _ _ _ _ _ _ _ _ _ _ _ _ _ _ _ _ _ _ _ _ _ _ _ _ _ _ _ _ _ _ _ _ _ _ _ _ _ _ _ _ _ _ _ _ _ _ _ _ _ _ _ _ _ _ _ _ _ _ _ _ _ _ _ _ _ _ _ HC.out.1 hw' hk0 HC.out.2.1 HC.out.2.2.1 hr'.row (by have := hg'.len HSD.out; omega) hg' HC.out.2.2.2.2.1 HC.out.2.2.2.2.2.1 HC.out.2.2.2.2.2.2
end Go.Proofs.YtpekpdimdelncaaGreatDoor
namespace Go.Proofs.YtpekpdimdelncaaGreatDoor
set_option maxRecDepth 100000
set_option maxHeartbeats 4000000
open Go.RowKit Go.Shelf
set_option linter.unusedVariables false
set_option linter.unusedSimpArgs false
theorem hl_start {w0 w w1 : World} {lb hb : Nat} {L : Nat → Prop} (hm : HM w hb (fun _ => (0, []))) (hown : w0.heap.size ≤ hb ∧ 8 ≤ hb) (hB : Below w0.heap.size w0 w) (hla : La w1 lb Lard.LS.new L 0) (hL : ∀ k, L k → w.heap.size ≤ k) (hB1 : Below w.heap.size w w1) : HL w0 w1 lb hb Lard.LS.new L 0 (fun _ => (0, [])) := by
  have h1 := hm.lt
  have h2 := hB.size
  exact ⟨hla, hm.same (hB1.block _ h1), fun k hk => ⟨by have := hL k hk; omega, by have := hL k hk; omega⟩, hown, hB.trans (hB1.mono h2), Lard.HasOk.none8, fun i hi => .inl rfl⟩
theorem played_any (w0 w : World) (g : G w) (hd : Deb w) (hb : Nat) (o : Option Addr) (len cap m : Nat) (K Y Z : Nat → Int) (hv : StepsAt w0 o len K Y Z) (hm60 : m ≤ 60) (hm : HM w hb (fun _ => (0, []))) (hown : w0.heap.size ≤ hb ∧ 8 ≤ hb) (hB : Below w0.heap.size w0 w) :
    Calls Tryz.prog 27 #[.slice o len cap, .int .i64 m, .slice (some ⟨hb, 0, none⟩) 8 8] w fun e w' => ∃ lb s L H, e = .returned (ptr lb) ∧ HL w0 w' lb hb s L 300000000000 H := by
  have HN := hide (la_new w g hd)
  have HV := hide hv
  generalize hRR : (fun (e : Ending) (w' : World) => ∃ lb s L H, e = .returned (ptr lb) ∧ HL w0 w' lb hb s L 300000000000 H) = RR
  have HF : Hid (∀ w' lb s L H, HL w0 w' lb hb s L 300000000000 H → RR (.returned (ptr lb)) w') := hide (fun w' lb s L H hl => by rw [← hRR]; exact ⟨lb, s, L, H, rfl, hl⟩)
  have HO := hide (And.intro hm (And.intro hown hB))
  clear hRR g hd hm hown hB hv
  go_enter Tryz.func27, Tryz.ntmps27
  go_wp2_with fail
  refine HN.out.mono ?_
  rintro e w1 ⟨lb, rfl, hla, hB1⟩
  dsimp only
  have HH : Hid (HL w0 w1 lb hb Lard.LS.new (fun k => w.heap.size ≤ k ∧ k ≤ w.heap.size + 2) (0 * 5000000000) (fun _ => (0, []))) := hide (by simpa using hl_start HO.out.1 HO.out.2.1 HO.out.2.2 hla (fun k hk => hk.1) hB1)
  clear HN hla hB1 HO
  unfold ptr at *
  go_wp2_with fail
  go_loopw [8] (fun iv wr => ∃ (i : Nat) (s : Lard.LS) (L : Nat → Prop) (H : Nat → Nat × List UInt8), i ≤ len ∧ i ≤ m ∧ iv = .int .i64 i ∧ Hid (HL w0 wr lb hb s L (i * 5000000000) H)) (fun iv _ => m - (intOf iv).toNat)
  case atStart => exact ⟨0, _, _, _, Nat.zero_le _, Nat.zero_le _, rfl, HH⟩
  case round =>
    obtain ⟨i, s, L, H, hi, him, rfl, HX⟩ := hrel
    clear HH
    by_cases h1 : i < len
    · have h1i : (i : Int) < (len : Int) := by omega
      by_cases h2 : i < m
      · have h2i : (i : Int) < (m : Int) := by omega
        obtain ⟨ab, ao, rfl, e1, e2, e3, b1, b2, b3⟩ := HV.out i h1
        have d1 := (HX.out.bel.cell (World.block_lt_of_cell? _ _ e1)).trans e1
        have d2 := (HX.out.bel.cell (World.block_lt_of_cell? _ _ e2)).trans e2
        have d3 := (HX.out.bel.cell (World.block_lt_of_cell? _ _ e3)).trans e3
        have HDO := hide (does_any w0 wr lb hb s L (i * 5000000000) H (K i) (Y i) (Z i) b1 b2 b3 (by omega) HX.out)
        unfold ptr at HDO
        clear e1 e2 e3 b1 b2 b3 HX
        go_wp2_with fail
        refine HDO.out.mono ?_
        rintro e w4 ⟨rfl, L4, h4⟩
        dsimp only
        clear HDO d1 d2 d3
        have H4 := hide (h4.le (M := (i + 1) * 5000000000) (by omega))
        clear h4
        go_wp2_with fail
        refine ⟨⟨i + 1, _, L4, _, by omega, by omega, by go_num, H4⟩, ?_⟩
        simp [intOf]; omega
      · have h2i : ¬ (i : Int) < (m : Int) := by omega
        have HE := hide (HF.out wr lb s L H (HX.out.le (by omega)))
        clear HF HX
        go_wp2_with fail
        exact HE.out
    · have h1i : ¬ (i : Int) < (len : Int) := by omega
      have HE := hide (HF.out wr lb s L H (HX.out.le (by omega)))
      clear HF HX
      go_wp2_with fail
      exact HE.out
end Go.Proofs.YtpekpdimdelncaaGreatDoor
namespace Go.Proofs.YtpekpdimdelncaaGreatDoor
set_option maxRecDepth 100000
set_option maxHeartbeats 8000000
open Go.RowKit Go.Shelf
set_option linter.unusedVariables false
set_option linter.unusedSimpArgs false
theorem no_name {s : Lard.LS} {H : Nat → Nat × List UInt8} (h : Lard.HasOk s H 8) : ∀ x, Lard.isName x = false → Lard.keptOf s.has x = none := by
  intro x hx
  cases hk : Lard.keptOf s.has x with
  | none => rfl
  | some kp =>
    obtain ⟨t, ht⟩ := h.sound.only x kp hk
    rw [h.out x (fun i hi e => by
      have := keyB_name i (by omega)
      rw [keyB_list, e, hx] at this
      cases this)] at ht
    cases ht
theorem still_any (w : World) (g : G w) (hd : Deb w) (o : Option Addr) (len cap : Nat) (K Y Z : Nat → Int) (ia ot : Int) (hia : -9223372036854775808 ≤ ia ∧ ia ≤ 9223372036854775807) (hot : -9223372036854775808 ≤ ot ∧ ot ≤ 9223372036854775807) (hv : StepsAt w o len K Y Z) :
    Calls Tryz.prog 9 #[.slice o len cap, .int .i64 ia, .int .i64 ot] w fun e w' => e = .returned (.bool true) ∧ Below w.heap.size w w' := by
  have HAW := hide (awake_any w g hd)
  have HG := hide (And.intro g (And.intro hd (And.intro hv hot)))
  have HPK := hide (fun w => pick_any ia 8 w hia.1 hia.2 (by omega) (by omega))
  have hpk : pickN ia 8 < 8 := Nat.mod_lt _ (by omega)
  generalize pickN ia 8 = k0 at HPK hpk
  have HYK := hide (fun w => key_any k0 w (by omega))
  have hnk := keyB_name k0 (by omega)
  generalize hRR : (fun (e : Ending) (w' : World) => e = .returned (.bool true) ∧ Below w.heap.size w w') = E
  have HE : Hid (∀ w', Below w.heap.size w w' → E (.returned (.bool true)) w') := hide (fun w' hB => by rw [← hRR]; exact ⟨rfl, hB⟩)
  clear g hd hv hRR hia hot
  obtain ⟨c13, h13⟩ : ∃ c, tailT 13 (Tryz.f9.body.getD .skip) = c := ⟨_, rfl⟩
  have H13 := hide h13
  simp only [tailT, Tryz.f9, Option.getD] at h13
  go_enter Tryz.func9, Tryz.ntmps9
  rw [h13]
  clear h13
  go_wp2_with fail
  refine HAW.out.mono ?_
  rintro e w1 ⟨rfl, hB1⟩
  dsimp only
  have hmk := make_has w1
  have hB2 : Below w1.heap.size w1 (w1.alloc (.cells hasZero 69)) := (Below.refl _ w1).alloc (Nat.le_refl _) _
  have hB12 := hB1.trans (hB2.mono hB1.size)
  have HPL := hide (played_any w _ (HG.out.1.below hB12 HG.out.1.size) (HG.out.2.1.below hB12 HG.out.1.size) w1.heap.size o len cap 60 K Y Z HG.out.2.2.1 (Nat.le_refl _) (hm_zero w1) ⟨hB1.size, Nat.le_trans HG.out.1.size hB1.size⟩ hB12)
  clear HAW hB1 hB2 hB12
  go_wp2_with fail
  clear hmk
  refine HPL.out.mono ?_
  rintro e w3 ⟨lb, s, L, H, rfl, hl3⟩
  dsimp only
  unfold ptr
  have H3 := hide hl3
  clear HPL hl3
  go_wp2_with fail
  refine (HPK.out _).mono ?_
  rintro e w' ⟨rfl, hw'⟩
  obtain rfl := hw'.symm
  dsimp only
  go_wp2_with fail
  refine (HYK.out _).mono ?_
  rintro e w4 ⟨rfl, hB4⟩
  dsimp only
  have hl4 := H3.out.below hB4
  have HA := hide (la_ask hl4.la (keyB k0) hnk (by omega))
  have H4 := hide hl4
  unfold ptr at HA
  clear HPK HYK H3 hB4 hl4
  go_wp2_with fail
  refine HA.out.mono ?_
  rintro e w5 ⟨v, tc, ts, rfl, htv, hP5, o5, c5, rfl, -⟩
  dsimp only
  rw [keyB_list] at htv hP5 ⊢
  obtain ⟨L5, hl5⟩ := H4.out.post hP5 (H4.out.ok.ask _) rfl
  have hfew := Lard.ran_few H4.out.la.sound (Lard.keyText k0)
  have HR := hide (ran_any w5 lb _ L5 hl5.la.lat (by omega))
  have H5 := hide hl5
  unfold ptr at HR
  clear HA hP5 hl5
  generalize (if tc = 12 then (s.ask (Lard.keyText k0)).2.ring else []).length = len5
  go_wp2_with fail
  refine HR.out.mono ?_
  rintro e w6 ⟨vR, rfl, hoR, hB6⟩
  dsimp only
  obtain ⟨oR, cR, rfl⟩ : ∃ oR cR, vR = .slice oR (s.ask (Lard.keyText k0)).2.ran.length cR := by
    rcases hoR.2 with ⟨e, h0⟩ | ⟨g, cap, cur, e, _⟩
    · exact ⟨none, 0, by rw [e, h0]⟩
    · exact ⟨_, _, e⟩
  have hl6 := H5.out.below hB6
  have hRL : ∀ g, (Value.slice oR (s.ask (Lard.keyText k0)).2.ran.length cR).ownBlock = some g → w5.heap.size ≤ g ∧ g < w6.heap.size ∧ ¬ L5 g := fun g hg => ⟨(owns_block hoR hg).2.1, (owns_block hoR hg).1, fun hl => by
    have h1 := (H5.out.la.lat.lt hl).2
    have h2 := (owns_block hoR hg).2.1
    omega⟩
  have H6 := hide (And.intro hl6 (And.intro hoR hRL))
  clear HR H5 hB6 hl6 hoR hRL
  by_cases h12 : tc = 12
  · subst h12
    have HF := hide (HE.out _ H6.out.1.bel)
    clear H6 H4 htv
    generalize (s.ask (Lard.keyText k0)).2.ran.length = nR
    go_wp2_with fail
    exact HF.out
  · have hb12 : (tc == 12) = false := beq_eq_false_iff_ne.2 h12
    have hn12 : (s.ask (Lard.keyText k0)).1 ≠ .error 12 := fun e => h12 (by
      rw [e] at htv
      have e1 : toldV (.error 12) = .agg #[.int .i64 12, .string ⟨#[]⟩] := rfl
      rw [e1] at htv
      cases htv
      rfl)
    obtain ⟨ha1, ha2, ha3⟩ := Lard.still_again H4.out.la.sound hn12
    have honce := Lard.still_once (k := Lard.keyText k0) H4.out.la.sound
    have hutd := Lard.ask_utd H4.out.la.sound hn12
    have HA := hide (la_ask H6.out.1.la (keyB k0) hnk (by omega))
    unfold ptr at HA
    have HS := hide (And.intro ha1 (And.intro ha2 (And.intro ha3 (And.intro honce (And.intro hutd htv)))))
    have hfew2 := hfew
    clear ha1 ha2 ha3 honce hutd htv hfew
    obtain ⟨R, hRe⟩ : ∃ R, (s.ask (Lard.keyText k0)).2.ran = R := ⟨_, rfl⟩
    rw [hRe] at hfew2 H6 ⊢
    go_wp2_with fail
    refine HA.out.mono ?_
    rintro e w7 ⟨v2, tc2, ts2, rfl, htv2, hP7, o7, c7, rfl, -⟩
    dsimp only
    rw [keyB_list] at htv2 hP7 ⊢
    rw [HS.out.2.1] at htv2
    obtain ⟨rfl, rfl⟩ := told_same2 HS.out.2.2.2.2.2 htv2
    have hP7' := hP7
    obtain ⟨L7', q1, q2, q3, q4⟩ := hP7'
    have hRrow7 := owns_same (w' := w7) H6.out.2.1 (fun g' hg' => q4.block g' (H6.out.2.2 g' hg').2.1 (H6.out.2.2 g' hg').2.2)
    have hsz6 := H6.out.1.bel.size
    have hlw7 : LW w w7 lb ((s.ask (Lard.keyText k0)).2.ask (Lard.keyText k0)).2 L7' (300000000000 + 2000000000 + 2000000000) := ⟨q1, (fun k hk => by
      rcases q2 k hk with h | h
      · exact (H6.out.1.off k h).1
      · omega), H6.out.1.bel.trans ⟨q4.os, q4.tape, q4.output, q4.size, fun k hk => q4.block k (by omega) (fun hl => by have := (H6.out.1.off k hl).1; omega)⟩⟩
    have hRL7 : ∀ g, (Value.slice oR R.length cR).ownBlock = some g → ¬ L7' g := fun g hg hl => by
      have h1 := H6.out.2.2 g hg
      rcases q2 g hl with h | h
      · exact h1.2.2 h
      · omega
    have hok2 := H6.out.1.ok.ask (Lard.keyText k0)
    have hr0 : ((s.ask (Lard.keyText k0)).2.ask (Lard.keyText k0)).2.ran.length = 0 := by rw [HS.out.1]; rfl
    have HR := hide (ran_any w7 lb _ L7' q1.lat (by omega))
    rw [hr0] at HR
    have H7 := hide (And.intro hlw7 (And.intro hRrow7 (And.intro hRL7 hok2)))
    unfold ptr at HR
    clear HA H6 hP7 q1 q2 q3 q4 hlw7 hRrow7 hRL7 hok2 htv2
    generalize (if tc = 12 then ((s.ask (Lard.keyText k0)).2.ask (Lard.keyText k0)).2.ring else []).length = len7
    go_wp2_with fail
    refine HR.out.mono ?_
    rintro e w8 ⟨v8, rfl, ho8, hB8⟩
    dsimp only
    obtain ⟨o8, c8, rfl⟩ : ∃ o8 c8, v8 = .slice o8 0 c8 := by
      rcases ho8.2 with ⟨e, h0⟩ | ⟨g, cap, cur, e, _⟩
      · exact ⟨none, 0, e⟩
      · exact ⟨_, _, e⟩
    clear HR ho8
    go_wp2_with fail
    rw [← H13.out]
    have hhas := HS.out.2.2.1
    refine st_ran w w8 lb ((s.ask (Lard.keyText k0)).2.ask (Lard.keyText k0)).2 L7' (300000000000 + 2000000000 + 2000000000) R oR cR w5.heap.size _ _ _ _ _ _ _ _ _ _ _ _ _ _ _ _ _ _ _ _ _ _ _ _ _ _ _ _ _ _ _ _ _ _ _ _ _ _ _ _ _ _ _ _ _ _ _ _ _ _ _ _ _ _ _ _ _ _ _ _ _ _ _ _ _ _ _ _ _ _ _ _ _ _ _ _ _ _ _ _ _ _ _ _ _ _ _ _ _ _ _ _ _ _ _ _ _ _ _ _ _ _ _ _ _ _ _ _ _ _ _ _ _ _ _ _ _ _ _ _ _ _ _ _ _ _ _ _ _ _ _ _ _ _ _ _ _ _ _ _ _ _ _ _ _ _ _ _ _ _ _ _ _ _ _ _ _ _ _ _ _ _ _ _ _ _ _ _ _ _ _ _ _ _ _ _ _ (H7.out.1.below hB8) (owns_same H7.out.2.1 (fun g' hg' => hB8.block g' (owns_block H7.out.2.1 hg').1)) H7.out.2.2.1 hfew2 (by rw [← hRe]; exact HS.out.2.2.2.1.1) (by rw [← hRe, hhas]; exact HS.out.2.2.2.1.2 hn12) (no_name H7.out.2.2.2) _ rfl ?_
    intro v19 v20 v21 v22 v23 v24 u39 u40 u41 u42 u43 u44 u45 u46 u47 u48 u49 u50 u51 u52 u53 u54 u55 u56 u57 u58 u59 u60 u61 u62 u63 u64 u65 u66 u67 u68 u69 u70 u71 u72 u73 u74 u75 u76 u77 u78 u79 u80 u81 u82 u83 u84 u85 u86 u87 u88 u89 u90 u91 u92 u93 u94 u95 u96 u97 u98 u99 u100 u101 u102 u103 u104 u105 u106 u107 u108 u109 u110 u111 u112 u113 u114 u115 u116 u117 u118 u119 u120 u121 u122 u123 u124 u125 u126 u127 u128 u129 u130 u131 u132 u133 u134 u135 u136 u137 u138 u139 u140 u141 u142 u143 u144 u145 u146 u147 u148 u149 u150 u151 u152 u153 u154 u155 u156 u157 u158 u159 u160 u161 u162 u163 u164 u165 u166 u167 u168 u169 u170 u171 u172 u173 u174 u175 u176 u177 u178 u179 u180 u181 u182 u183 u184 u185 u186 u187 u188 u189 u190 u191 u192 u193 u194 u195 u196 u197 u198 u199 w9 hw9
    exact st_tail w w9 lb _ L7' _ k0 ot tc ts _ _ _ _ _ _ _ _ _ _ _ _ _ _ _ _ _ _ _ _ _ _ _ _ _ _ _ _ _ _ _ _ _ _ _ _ _ _ _ _ _ _ _ _ _ _ _ _ _ _ _ _ _ _ _ _ _ _ _ _ _ _ _ _ _ _ _ _ _ _ _ _ _ _ _ _ _ _ _ _ _ _ _ _ _ _ _ _ _ _ _ _ _ _ _ _ _ _ _ _ _ _ _ _ _ _ _ _ _ _ _ _ _ _ _ _ _ _ _ _ _ _ _ _ _ _ _ _ _ _ _ _ _ _ _ _ _ _ _ _ _ _ _ _ _ _ _ _ _ _ _ _ _ _ _ _ _ _ _ _ _ _ _ _ _ _ _ _ _ _ _ _ _ _ _ _ _ _ _ _ (by omega) hw9 hpk HG.out.2.2.2 (by have := H7.out.2.2.2.len; omega) (no_name H7.out.2.2.2) (by rw [hhas]; exact HS.out.2.2.2.2.1) (by
      have hn2 : ((s.ask (Lard.keyText k0)).2.ask (Lard.keyText k0)).1 ≠ .error 12 := by rw [HS.out.2.1]; exact hn12
      rw [(Lard.still_again (s := (s.ask (Lard.keyText k0)).2) (H4.out.la.sound.ask _) hn2).2.1, HS.out.2.1]
      exact HS.out.2.2.2.2.2) HE.out
end Go.Proofs.YtpekpdimdelncaaGreatDoor
