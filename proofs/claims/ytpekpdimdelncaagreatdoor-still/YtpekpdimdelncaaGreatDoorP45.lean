/- Out of: G3, G4. -/
import Derived.Test.YtpekpdimdelncaaGreatDoorP44
namespace Go.Proofs.YtpekpdimdelncaaGreatDoor
set_option maxRecDepth 100000
set_option maxHeartbeats 8000000
open Go.RowKit Go.Shelf
set_option linter.unusedVariables false
set_option linter.unusedSimpArgs false
theorem kept_few {h : List (List UInt8 × Lard.Thing)} {x : List UInt8} {kp : Lard.Keep} (hb : Lard.KB h) (hk : Lard.keptOf h x = some kp) : kp.needs.length ≤ 401 := by
  unfold Lard.keptOf at hk
  cases hl : Lard.look h x with
  | none => rw [hl] at hk; cases hk
  | some th =>
    rw [hl] at hk
    have hk : th.kept = some kp := hk
    unfold Lard.look at hl
    cases hf : h.find? (fun p => p.1 == x) with
    | none => rw [hf] at hl; cases hl
    | some p =>
      rw [hf] at hl
      cases hl
      exact hb p (List.mem_of_find?_eq_some hf) kp hk
theorem kept_one (w : World) (lb : Nat) (s : Lard.LS) (L : Nat → Prop) (x : List UInt8) (h : LAt w lb s L) (g : G w) (hx : x.length ≤ 200) (hkb : Lard.KB s.has) (hnn : Lard.isName x = false → Lard.keptOf s.has x = none) :
    Calls Tryz.prog 30 #[ptr lb, .string (txB x)] w fun e w' => ∃ (ns : List (List UInt8 × Lard.Wo)) (o : Option Addr) (c : Nat) (tc cd : Int) (ts : ByteArray), e = .returned (.tuple #[.agg #[.int .i64 tc, .string ts], .slice o ns.length c, .int .i64 cd]) ∧
      w'.ownsRow w.heap.size 66 3 (.slice o ns.length c) ns.length (ns.flatMap needCells) ∧ (∀ kp, Lard.keptOf s.has x = some kp → kp.needs = ns) ∧ (∀ q ∈ ns, q.1 ∈ Lard.allNeeds s.has ∧ q.1.length ≤ 200) ∧ (cd = 0 ↔ ∃ kp, Lard.keptOf s.has x = some kp) ∧ ns.length ≤ 401 ∧ Below w.heap.size w w' := by
  refine (kept_any w lb s L (txB x) h g (by rw [txB_size]; exact hx)).mono ?_
  rintro e w' ⟨hK, hB⟩
  rw [txB_list] at hK
  unfold KeptTold at hK
  have hnil : ∀ cd : Int, cd ≠ 0 → Lard.keptOf s.has x = none → e = .returned (.tuple #[.agg #[.int .i64 0, .string ⟨#[]⟩], .slice none 0 0, .int .i64 cd]) → ∃ (ns : List (List UInt8 × Lard.Wo)) (o : Option Addr) (c : Nat) (tc cd : Int) (ts : ByteArray), e = .returned (.tuple #[.agg #[.int .i64 tc, .string ts], .slice o ns.length c, .int .i64 cd]) ∧
      w'.ownsRow w.heap.size 66 3 (.slice o ns.length c) ns.length (ns.flatMap needCells) ∧ (∀ kp, Lard.keptOf s.has x = some kp → kp.needs = ns) ∧ (∀ q ∈ ns, q.1 ∈ Lard.allNeeds s.has ∧ q.1.length ≤ 200) ∧ (cd = 0 ↔ ∃ kp, Lard.keptOf s.has x = some kp) ∧ ns.length ≤ 401 ∧ Below w.heap.size w w' := fun cd hcd hk he =>
    ⟨[], none, 0, 0, cd, ⟨#[]⟩, he, World.ownsRow_nil _ _ _ _, (fun kp h => by rw [hk] at h; cases h), (fun q hq => by cases hq), ⟨(fun h => absurd h hcd), (fun ⟨kp, h⟩ => by rw [hk] at h; cases h)⟩, Nat.zero_le _, hB⟩
  cases hn : Lard.isName x with
  | false =>
    rw [hn] at hK
    exact hnil 1 (by decide) (hnn hn) hK
  | true =>
    rw [if_pos hn] at hK
    cases hk : Lard.keptOf s.has x with
    | none =>
      rw [hk] at hK
      rw [hk] at hnil
      exact hnil 7 (by decide) rfl hK
    | some kp =>
      rw [hk] at hK
      obtain ⟨v, rfl, ho⟩ := hK
      obtain ⟨tc, ts, ht1, _⟩ := told_cells kp.worth
      rw [ht1]
      have hv : ∃ o c, v = .slice o kp.needs.length c := by
        rcases ho.2 with ⟨e, h0⟩ | ⟨g, cap, cur, e, _⟩
        · exact ⟨none, 0, by rw [e, h0]⟩
        · exact ⟨_, _, e⟩
      obtain ⟨o, c, rfl⟩ := hv
      refine ⟨kp.needs, o, c, tc, 0, ts, rfl, ho, fun kp' h => by cases h; rfl, fun q hq => ⟨Lard.kept_mem hk q hq, needs_short h hk hx q hq⟩, ⟨fun _ => ⟨kp, rfl⟩, fun _ => rfl⟩, kept_few hkb hk, hB⟩
theorem row_cell {w : World} {base size n : Nat} {e : TypeId} {o : Option Addr} {m c : Nat} {xs : List Value} (h : w.ownsRow base e size (.slice o m c) n xs) {j : Nat} {u : Value} (hj : xs[j]? = some u) (hn : 0 < n) : ∃ g, o = some ⟨g, 0, none⟩ ∧ w.cell? ⟨g, j, none⟩ = some u := by
  rcases h.2 with ⟨_, h0⟩ | ⟨g, cap, cur, e1, _⟩
  · omega
  · cases e1
    refine ⟨g, rfl, ?_⟩
    have := World.ownsRow.cells h (g := g) rfl j u hj
    have e : (⟨g, 0, none⟩ : Addr).add j = ⟨g, j, none⟩ := by unfold Addr.add; split <;> simp_all
    rw [e] at this
    exact this
theorem st_all {Q : Exit → Act → World → Prop} (w0 wc : World) (lb : Nat) (s : Lard.LS) (L : Nat → Prop) (N k0 : Nat) (o0 : Option Addr) (cp0 : Nat) (v0 v1 v2 v3 v4 v5 v6 v7 v8 v10 v11 v12 v13 v14 v15 v16 v17 v18 v19 v20 v21 v22 v23 v24 : Value) (u39 u40 u41 u42 u43 u44 u45 u46 u47 u48 u49 u50 u51 u52 u53 u54 u55 u56 u57 u58 u59 u60 u61 u62 u63 u64 u65 u66 u67 u68 u69 u70 u71 u72 u73 u74 u75 u76 u77 u78 u79 u80 u81 u82 u83 u84 u85 u86 u87 u88 u89 u90 u91 u92 u93 u94 u95 u96 u97 u98 u99 u100 u101 u102 u103 u104 u105 u106 u107 u108 u109 u110 u111 u112 u113 u114 u115 u116 u117 u118 u119 u120 u121 u122 u123 u124 u125 u126 u127 u128 u129 u130 u131 u132 u133 u134 u135 u136 u137 u138 u139 u140 u141 u142 u143 u144 u145 u146 u147 u148 u149 u150 u151 u152 u153 u154 u155 u156 u157 u158 u159 u160 u161 u162 u163 u164 u165 u166 u167 u168 u169 u170 u171 u172 u173 u174 u175 u176 u177 u178 u179 u180 u181 u182 u183 u184 u185 u186 u187 u188 u189 u190 u191 u192 u193 u194 u195 u196 u197 u198 u199 : Value)
    (hk0 : k0 < 8) (hw : LW w0 wc lb s L N) (hr : SR w0 wc L (.slice o0 1 cp0) [Lard.keyText k0]) (hnn : ∀ x, Lard.isName x = false → Lard.keptOf s.has x = none)
    (c16 : Code) (h16 : tailT 16 (Tryz.f9.body.getD .skip) = c16)
    (hK : ∀ (l : List (List UInt8)) (av : Value) (v26 v27 v28 v29 v30 v31 : Value) (u39 u40 u41 u42 u43 u44 u45 u46 u47 u48 u49 u50 u51 u52 u53 u54 u55 u56 u57 u58 u59 u60 u61 u62 u63 u64 u65 u66 u67 u68 u69 u70 u71 u72 u73 u74 u75 u76 u77 u78 u79 u80 u81 u82 u83 u84 u85 u86 u87 u88 u89 u90 u91 u92 u93 u94 u95 u96 u97 u98 u99 u100 u101 u102 u103 u104 u105 u106 u107 u108 u109 u110 u111 u112 u113 u114 u115 u116 u117 u118 u119 u120 u121 u122 u123 u124 u125 u126 u127 u128 u129 u130 u131 u132 u133 u134 u135 u136 u137 u138 u139 u140 u141 u142 u143 u144 u145 u146 u147 u148 u149 u150 u151 u152 u153 u154 u155 u156 u157 u158 u159 u160 u161 u162 u163 u164 u165 u166 u167 u168 u169 u170 u171 u172 u173 u174 u175 u176 u177 u178 u179 u180 u181 u182 u183 u184 u185 u186 u187 u188 u189 u190 u191 u192 u193 u194 u195 u196 u197 u198 u199 : Value) (w' : World), LW w0 w' lb s L N → SR w0 w' L av l → Lard.Grows s (Lard.keyText k0) l l.length → Code.wp Tryz.prog c16 Q { tmps := #[v0, v1, v2, v3, v4, v5, v6, v7, v8, .pointer (some ⟨lb, 0, none⟩), v10, v11, v12, v13, v14, v15, v16, v17, v18, v19, v20, v21, v22, v23, v24, av, v26, v27, v28, v29, v30, v31, undef, undef, undef, undef, undef, undef, undef, u39, u40, u41, u42, u43, u44, u45, u46, u47, u48, u49, u50, u51, u52, u53, u54, u55, u56, u57, u58, u59, u60, u61, u62, u63, u64, u65, u66, u67, u68, u69, u70, u71, u72, u73, u74, u75, u76, u77, u78, u79, u80, u81, u82, u83, u84, u85, u86, u87, u88, u89, u90, u91, u92, u93, u94, u95, u96, u97, u98, u99, u100, u101, u102, u103, u104, u105, u106, u107, u108, u109, u110, u111, u112, u113, u114, u115, u116, u117, u118, u119, u120, u121, u122, u123, u124, u125, u126, u127, u128, u129, u130, u131, u132, u133, u134, u135, u136, u137, u138, u139, u140, u141, u142, u143, u144, u145, u146, u147, u148, u149, u150, u151, u152, u153, u154, u155, u156, u157, u158, u159, u160, u161, u162, u163, u164, u165, u166, u167, u168, u169, u170, u171, u172, u173, u174, u175, u176, u177, u178, u179, u180, u181, u182, u183, u184, u185, u186, u187, u188, u189, u190, u191, u192, u193, u194, u195, u196, u197, u198, u199], defers := [] } w') :
    Code.wp Tryz.prog (tailT 15 (Tryz.f9.body.getD .skip)) Q { tmps := #[v0, v1, v2, v3, v4, v5, v6, v7, v8, .pointer (some ⟨lb, 0, none⟩), v10, v11, v12, v13, v14, v15, v16, v17, v18, v19, v20, v21, v22, v23, v24, .slice o0 1 cp0, undef, undef, undef, undef, undef, undef, undef, undef, undef, undef, undef, undef, undef, u39, u40, u41, u42, u43, u44, u45, u46, u47, u48, u49, u50, u51, u52, u53, u54, u55, u56, u57, u58, u59, u60, u61, u62, u63, u64, u65, u66, u67, u68, u69, u70, u71, u72, u73, u74, u75, u76, u77, u78, u79, u80, u81, u82, u83, u84, u85, u86, u87, u88, u89, u90, u91, u92, u93, u94, u95, u96, u97, u98, u99, u100, u101, u102, u103, u104, u105, u106, u107, u108, u109, u110, u111, u112, u113, u114, u115, u116, u117, u118, u119, u120, u121, u122, u123, u124, u125, u126, u127, u128, u129, u130, u131, u132, u133, u134, u135, u136, u137, u138, u139, u140, u141, u142, u143, u144, u145, u146, u147, u148, u149, u150, u151, u152, u153, u154, u155, u156, u157, u158, u159, u160, u161, u162, u163, u164, u165, u166, u167, u168, u169, u170, u171, u172, u173, u174, u175, u176, u177, u178, u179, u180, u181, u182, u183, u184, u185, u186, u187, u188, u189, u190, u191, u192, u193, u194, u195, u196, u197, u198, u199], defers := [] } wc := by
  have HK := hide hK
  have HNN := hide hnn
  have hsd := hw.la.sound
  have hlk : (Lard.keyText k0).length ≤ 200 := by
    have := Lard.itoa_len8 (x := (k0 : Int)) (by omega)
    unfold Lard.keyText
    simp only [List.length_cons]
    omega
  have HW : Hid (LW w0 wc lb s L N ∧ SR w0 wc L (.slice o0 1 cp0) [Lard.keyText k0] ∧ Lard.Grows s (Lard.keyText k0) [Lard.keyText k0] 0 ∧ ∀ x ∈ [Lard.keyText k0], x.length ≤ 200) := hide ⟨hw, hr, Lard.Grows.start _ _, fun x hx => by rw [List.mem_singleton.1 hx]; exact hlk⟩
  have HSD := hide hsd
  clear hK hnn hw hr hlk hsd
  obtain ⟨cd, hcd⟩ : ∃ cd, tailT 15 (Tryz.f9.body.getD .skip) = cd := ⟨_, rfl⟩
  rw [hcd]
  simp only [tailT, Tryz.f9, Option.getD] at hcd h16
  rw [h16] at hcd
  clear h16
  subst hcd
  refine wp_seq_k (fun K hKK => ?_)
  have HKK := hide hKK
  clear hKK
  go_wp2_with fail
  go_loopw [25, 26] (fun av iv wr => ∃ (i : Nat) (l : List (List UInt8)) (o : Option Addr) (c : Nat), i ≤ l.length ∧ av = .slice o l.length c ∧ iv = .int .i64 i ∧ Hid (LW w0 wr lb s L N ∧ SR w0 wr L (.slice o l.length c) l ∧ Lard.Grows s (Lard.keyText k0) l i ∧ ∀ x ∈ l, x.length ≤ 200)) (fun _ iv _ => 20000 - (intOf iv).toNat)
  case atStart => exact ⟨0, [Lard.keyText k0], o0, cp0, Nat.zero_le _, rfl, rfl, HW⟩
  case round =>
    obtain ⟨i, l, o, c, hi, rfl, rfl, HX⟩ := hrel
    clear HW
    by_cases hlt : i < l.length
    · have hin : (i : Int) < (l.length : Int) := by omega
      obtain ⟨x, hx⟩ : ∃ x, l[i]? = some x := ⟨_, List.getElem?_eq_getElem hlt⟩
      obtain ⟨g, rfl, c1⟩ := row_cell HX.out.2.1.row (j := i) (u := str x) (by rw [List.getElem?_map, hx]; rfl) (by omega)
      have hlen := HX.out.2.2.1.len HSD.out
      have HKP := hide (kept_one wr lb s L x HX.out.1.la.lat HX.out.1.la.g (HX.out.2.2.2 x (List.mem_of_getElem? hx)) HSD.out.kb (HNN.out x))
      unfold ptr at HKP
      have hstr : str x = .string (txB x) := rfl
      rw [hstr] at c1
      go_wp2_with fail
      refine HKP.out.mono ?_
      rintro e w1 ⟨ns, on, cn, tc, cd, ts, rfl, hns, hkp, hq, -, hfew, hB1⟩
      dsimp only
      have hB2 : Below w1.heap.size w1 (w1.alloc (.cells #[.int .i64 tc, .string ts] 59)) := (Below.refl _ w1).alloc (Nat.le_refl _) _
      have hB12 := hB1.trans (hB2.mono hB1.size)
      have hns2 := owns_same (w' := w1.alloc (.cells #[.int .i64 tc, .string ts] 59)) hns (fun g' hg' => hB2.block g' (owns_block hns hg').1)
      have hgn : ∀ g', (Value.slice on ns.length cn).ownBlock = some g' → wr.heap.size ≤ g' := fun g' hg' => (owns_block hns hg').2.1
      have hgw : g < wr.heap.size := (owns_block HX.out.2.1.row rfl).1
      obtain ⟨B0, hB0⟩ : ∃ B, wr.heap.size = B := ⟨_, rfl⟩
      rw [hB0] at hns2
      have HX2 : Hid (LW w0 (w1.alloc (.cells #[.int .i64 tc, .string ts] 59)) lb s L N ∧ SR w0 (w1.alloc (.cells #[.int .i64 tc, .string ts] 59)) L (.slice (some ⟨g, 0, none⟩) l.length c) l ∧ Lard.Grow2 s (Lard.keyText k0) l i ns 0 ∧ (∀ x ∈ l, x.length ≤ 200) ∧ (w1.alloc (.cells #[.int .i64 tc, .string ts] 59)).ownsRow B0 66 3 (.slice on ns.length cn) ns.length (ns.flatMap needCells) ∧ (∀ g', (Value.slice on ns.length cn).ownBlock = some g' → g' ≠ g) ∧ l[i]? = some x) := hide ⟨HX.out.1.below hB12, HX.out.2.1.below hB12, ⟨HX.out.2.2.1, fun a q ha => by omega⟩, HX.out.2.2.2, hns2, fun g' hg' e => by have := hgn g' hg'; omega, hx⟩
      have HQ := hide (And.intro hkp hq)
      clear hns hns2 hgn hkp hq hB1 hB2 hB12 HKP HX c1 hstr hx
      go_wp2_with fail
      generalize w1.alloc (.cells #[.int .i64 tc, .string ts] 59) = w2 at HX2 ⊢
      go_loopw [25, 30] (fun av jv wr2 => ∃ (j : Nat) (l2 : List (List UInt8)) (g2 c2 : Nat), j ≤ ns.length ∧ av = .slice (some ⟨g2, 0, none⟩) l2.length c2 ∧ jv = .int .i64 j ∧ Hid (LW w0 wr2 lb s L N ∧ SR w0 wr2 L (.slice (some ⟨g2, 0, none⟩) l2.length c2) l2 ∧ Lard.Grow2 s (Lard.keyText k0) l2 i ns j ∧ (∀ x ∈ l2, x.length ≤ 200) ∧ wr2.ownsRow B0 66 3 (.slice on ns.length cn) ns.length (ns.flatMap needCells) ∧ (∀ g', (Value.slice on ns.length cn).ownBlock = some g' → g' ≠ g2) ∧ l2[i]? = some x)) (fun _ jv _ => ns.length - (intOf jv).toNat)
      case atStart => exact ⟨0, l, g, c, Nat.zero_le _, rfl, rfl, HX2⟩
      case round =>
        obtain ⟨j, l2, g2, c2, hj, rfl, rfl, HZ⟩ := hrel
        clear HX2
        by_cases hltj : j < ns.length
        · have hjn : (j : Int) < (ns.length : Int) := by omega
          obtain ⟨q, hq⟩ : ∃ q, ns[j]? = some q := ⟨_, List.getElem?_eq_getElem hltj⟩
          have hqm := HQ.out.2 q (List.mem_of_getElem? hq)
          obtain ⟨gn, rfl, c1⟩ := row_cell HZ.out.2.2.2.2.1 (j := j * 3) (u := str q.1) (by have := needs_at ns j q hq 0 (by omega); rw [Nat.add_zero] at this; rw [this]; rfl) (by omega)
          have hstr : str q.1 = .string (txB q.1) := rfl
          rw [hstr] at c1
          have hll := HZ.out.2.2.1.gr.len HSD.out
          have HIN := hide (in_any wr 8 _ l2 (txB q.1) HZ.out.2.1.row (by omega))
          rw [txB_list] at HIN
          obtain ⟨bn, hbn⟩ : ∃ b, l2.contains q.1 = b := ⟨_, rfl⟩
          rw [hbn] at HIN
          have hil : i < l2.length := (List.getElem?_eq_some_iff.1 HZ.out.2.2.2.2.2.2).1
          go_wp2_with fail
          refine HIN.out.mono ?_
          rintro e w' ⟨rfl, hw'⟩
          obtain rfl := hw'.symm
          dsimp only
          clear HIN
          cases bn with
          | true =>
            have hmem : q.1 ∈ l2 := by simpa using hbn
            have HZ2 := hide (And.intro HZ.out.1 (And.intro HZ.out.2.1 (And.intro (HZ.out.2.2.1.skip hq hmem) HZ.out.2.2.2)))
            clear HZ hbn hmem c1
            go_wp2_with fail
            refine ⟨⟨j + 1, l2, g2, c2, by omega, rfl, by go_num, HZ2⟩, ?_⟩
            simp [intOf]; omega
          | false =>
            have hmem : q.1 ∉ l2 := by simpa using hbn
            have hB3 : Below wr.heap.size wr (wr.alloc (.cells #[.string (txB q.1)] 9)) := (Below.refl _ wr).alloc (Nat.le_refl _) _
            have hcell : (wr.alloc (.cells #[.string (txB q.1)] 9)).cell? ⟨wr.heap.size, 0, none⟩ = some (str q.1) := by simp [go_sem, hstr]
            obtain ⟨g4, cap4, w4, hr4, hsr4, hlw4, hgr4, hat4⟩ := (HZ.out.2.1.below hB3).push (HZ.out.1.below hB3) q.1 ⟨wr.heap.size, 0, none⟩ 1 hcell (by omega)
            have hgnl := owns_block HZ.out.2.2.2.2.1 (g := gn) rfl
            have hne2 : gn ≠ g2 := HZ.out.2.2.2.2.2.1 gn rfl
            have hsz3 : (wr.alloc (.cells #[.string (txB q.1)] 9)).heap.size = wr.heap.size + 1 := by simp
            have hns4 : w4.ownsRow B0 66 3 (.slice (some ⟨gn, 0, none⟩) ns.length cn) ns.length (ns.flatMap needCells) := owns_same HZ.out.2.2.2.2.1 (fun g' hg' => by
              have e : gn = g' := by
                have : some gn = some g' := hg'
                exact Option.some.inj this
              subst e
              rw [hgr4.block gn (by omega) (fun e => hne2 (by have : some gn = some g2 := e; exact Option.some.inj this))]
              exact hB3.block gn hgnl.1)
            have hne4 : gn ≠ g4 := by
              rcases hat4 with e | e
              · have : some g2 = some g4 := e
                have := Option.some.inj this
                omega
              · have := hgnl.1
                omega
            have hlen4 : (l2 ++ [q.1]).length = l2.length + 1 := by simp
            rw [← hlen4] at hr4 hsr4
            have HZ4 : Hid (LW w0 w4 lb s L N ∧ SR w0 w4 L (.slice (some ⟨g4, 0, none⟩) (l2 ++ [q.1]).length cap4) (l2 ++ [q.1]) ∧ Lard.Grow2 s (Lard.keyText k0) (l2 ++ [q.1]) i ns (j + 1) ∧ (∀ x ∈ l2 ++ [q.1], x.length ≤ 200) ∧ w4.ownsRow B0 66 3 (.slice (some ⟨gn, 0, none⟩) ns.length cn) ns.length (ns.flatMap needCells) ∧ (∀ g', (Value.slice (some ⟨gn, 0, none⟩) ns.length cn).ownBlock = some g' → g' ≠ g4) ∧ (l2 ++ [q.1])[i]? = some x) := hide ⟨hlw4, hsr4, HZ.out.2.2.1.push hil hq hmem hqm.1, (fun y hy => by
              rcases List.mem_append.1 hy with hy | hy
              · exact HZ.out.2.2.2.1 y hy
              · rw [List.mem_singleton.1 hy]; exact hqm.2), hns4, (fun g' hg' => by
                have : some gn = some g' := hg'
                have := Option.some.inj this
                omega), by rw [List.getElem?_append_left hil]; exact HZ.out.2.2.2.2.2.2⟩
            clear HZ hbn hmem hgr4 hat4 hlw4 hsr4 hns4 hgnl hne2 hne4 hcell hB3 hlen4 hsz3
            obtain ⟨n4, hn4⟩ : ∃ n, (l2 ++ [q.1]).length = n := ⟨_, rfl⟩
            rw [hn4] at hr4
            have HN4 := hide hn4
            clear hn4
            go_wp2_with (at_builtin; refine wpList_run_append _ rfl _ _ _ _ rfl _ _ _ _ rfl rfl hr4 ?_)
            refine ⟨⟨j + 1, by omega, l2 ++ [q.1], g4, cap4, ⟨rfl, HN4.out.symm, rfl⟩, by omega, HZ4⟩, ?_⟩
            simp [intOf]; omega
        · obtain rfl : j = ns.length := by omega
          have hGr : Lard.Grows s (Lard.keyText k0) l2 (i + 1) := by
            cases hk : Lard.keptOf s.has x with
            | none => exact HZ.out.2.2.1.gr.none HZ.out.2.2.2.2.2.2 hk
            | some kp =>
              have e := HQ.out.1 kp hk
              subst e
              exact HZ.out.2.2.1.done HZ.out.2.2.2.2.2.2 hk
          have HZ2 : Hid (LW w0 wr lb s L N ∧ SR w0 wr L (.slice (some ⟨g2, 0, none⟩) l2.length c2) l2 ∧ Lard.Grows s (Lard.keyText k0) l2 (i + 1) ∧ ∀ x ∈ l2, x.length ≤ 200) := hide ⟨HZ.out.1, HZ.out.2.1, hGr, HZ.out.2.2.2.1⟩
          have hil : i < l2.length := (List.getElem?_eq_some_iff.1 HZ.out.2.2.2.2.2.2).1
          clear HZ hGr HQ
          go_wp2_with fail
          refine ⟨⟨i + 1, l2, _, c2, by omega, rfl, by go_num, HZ2⟩, ?_⟩
          simp [intOf]; omega
    · obtain rfl : i = l.length := by omega
      go_wp2_with fail
      exact HKK.out _ _ (HK.out l _ _ _ _ _ _ _ _ _ _ _ _ _ _ _ _ _ _ _ _ _ _ _ _ _ _ _ _ _ _ _ _ _ _ _ _ _ _ _ _ _ _ _ _ _ _ _ _ _ _ _ _ _ _ _ _ _ _ _ _ _ _ _ _ _ _ _ _ _ _ _ _ _ _ _ _ _ _ _ _ _ _ _ _ _ _ _ _ _ _ _ _ _ _ _ _ _ _ _ _ _ _ _ _ _ _ _ _ _ _ _ _ _ _ _ _ _ _ _ _ _ _ _ _ _ _ _ _ _ _ _ _ _ _ _ _ _ _ _ _ _ _ _ _ _ _ _ _ _ _ _ _ _ _ _ _ _ _ _ _ _ _ _ _ _ _ _ _ _ HX.out.1 HX.out.2.1 HX.out.2.2.1)
end Go.Proofs.YtpekpdimdelncaaGreatDoor
namespace Go.Proofs.YtpekpdimdelncaaGreatDoor
set_option maxRecDepth 100000
set_option maxHeartbeats 8000000
open Go.RowKit Go.Shelf
set_option linter.unusedVariables false
set_option linter.unusedSimpArgs false
theorem whyCells_len (y : Lard.Why) : (whyCells y).length = 6 := by
  unfold whyCells
  simp only [List.length_cons, List.length_append, woCells_len]
theorem whys_at : ∀ (R : List Lard.Why) (k : Nat) (y : Lard.Why), R[k]? = some y → (R.flatMap whyCells)[k * 6]? = some (str y.key)
  | [], k, y, h => by simp at h
  | m :: R, 0, y, h => by
    simp at h
    subst h
    rw [List.flatMap_cons, List.getElem?_append_left (by rw [whyCells_len]; omega)]
    rfl
  | m :: R, k + 1, y, h => by
    rw [List.flatMap_cons, List.getElem?_append_right (by rw [whyCells_len]; omega), whyCells_len, show (k + 1) * 6 - 6 = k * 6 by omega]
    exact whys_at R k y (by simpa using h)
theorem st_ran {Q : Exit → Act → World → Prop} (w0 wc : World) (lb : Nat) (s : Lard.LS) (L : Nat → Prop) (N : Nat) (R : List Lard.Why) (oR : Option Addr) (cR BR : Nat) (v0 v1 v2 v3 v4 v5 v7 v8 v10 v11 v12 v13 v15 v16 v17 v18 : Value) (u39 u40 u41 u42 u43 u44 u45 u46 u47 u48 u49 u50 u51 u52 u53 u54 u55 u56 u57 u58 u59 u60 u61 u62 u63 u64 u65 u66 u67 u68 u69 u70 u71 u72 u73 u74 u75 u76 u77 u78 u79 u80 u81 u82 u83 u84 u85 u86 u87 u88 u89 u90 u91 u92 u93 u94 u95 u96 u97 u98 u99 u100 u101 u102 u103 u104 u105 u106 u107 u108 u109 u110 u111 u112 u113 u114 u115 u116 u117 u118 u119 u120 u121 u122 u123 u124 u125 u126 u127 u128 u129 u130 u131 u132 u133 u134 u135 u136 u137 u138 u139 u140 u141 u142 u143 u144 u145 u146 u147 u148 u149 u150 u151 u152 u153 u154 u155 u156 u157 u158 u159 u160 u161 u162 u163 u164 u165 u166 u167 u168 u169 u170 u171 u172 u173 u174 u175 u176 u177 u178 u179 u180 u181 u182 u183 u184 u185 u186 u187 u188 u189 u190 u191 u192 u193 u194 u195 u196 u197 u198 u199 : Value)
    (hw : LW w0 wc lb s L N) (hR : wc.ownsRow BR 61 6 (.slice oR R.length cR) R.length (R.flatMap whyCells)) (hRL : ∀ g, (Value.slice oR R.length cR).ownBlock = some g → ¬ L g) (hfew : R.length ≤ 40)
    (hnd : (R.map (·.key)).Nodup) (hkp : ∀ y ∈ R, ∃ kp, Lard.keptOf s.has y.key = some kp) (hnn : ∀ x, Lard.isName x = false → Lard.keptOf s.has x = none)
    (c14 : Code) (h14 : tailT 14 (Tryz.f9.body.getD .skip) = c14)
    (hK : ∀ (v19 v20 v21 v22 v23 v24 : Value) (u39 u40 u41 u42 u43 u44 u45 u46 u47 u48 u49 u50 u51 u52 u53 u54 u55 u56 u57 u58 u59 u60 u61 u62 u63 u64 u65 u66 u67 u68 u69 u70 u71 u72 u73 u74 u75 u76 u77 u78 u79 u80 u81 u82 u83 u84 u85 u86 u87 u88 u89 u90 u91 u92 u93 u94 u95 u96 u97 u98 u99 u100 u101 u102 u103 u104 u105 u106 u107 u108 u109 u110 u111 u112 u113 u114 u115 u116 u117 u118 u119 u120 u121 u122 u123 u124 u125 u126 u127 u128 u129 u130 u131 u132 u133 u134 u135 u136 u137 u138 u139 u140 u141 u142 u143 u144 u145 u146 u147 u148 u149 u150 u151 u152 u153 u154 u155 u156 u157 u158 u159 u160 u161 u162 u163 u164 u165 u166 u167 u168 u169 u170 u171 u172 u173 u174 u175 u176 u177 u178 u179 u180 u181 u182 u183 u184 u185 u186 u187 u188 u189 u190 u191 u192 u193 u194 u195 u196 u197 u198 u199 : Value) (w' : World), LW w0 w' lb s L N → Code.wp Tryz.prog c14 Q { tmps := #[v0, v1, v2, v3, v4, v5, .bool false, v7, v8, .pointer (some ⟨lb, 0, none⟩), v10, v11, v12, v13, .slice oR R.length cR, v15, v16, v17, v18, v19, v20, v21, v22, v23, v24, undef, undef, undef, undef, undef, undef, undef, undef, undef, undef, undef, undef, undef, undef, u39, u40, u41, u42, u43, u44, u45, u46, u47, u48, u49, u50, u51, u52, u53, u54, u55, u56, u57, u58, u59, u60, u61, u62, u63, u64, u65, u66, u67, u68, u69, u70, u71, u72, u73, u74, u75, u76, u77, u78, u79, u80, u81, u82, u83, u84, u85, u86, u87, u88, u89, u90, u91, u92, u93, u94, u95, u96, u97, u98, u99, u100, u101, u102, u103, u104, u105, u106, u107, u108, u109, u110, u111, u112, u113, u114, u115, u116, u117, u118, u119, u120, u121, u122, u123, u124, u125, u126, u127, u128, u129, u130, u131, u132, u133, u134, u135, u136, u137, u138, u139, u140, u141, u142, u143, u144, u145, u146, u147, u148, u149, u150, u151, u152, u153, u154, u155, u156, u157, u158, u159, u160, u161, u162, u163, u164, u165, u166, u167, u168, u169, u170, u171, u172, u173, u174, u175, u176, u177, u178, u179, u180, u181, u182, u183, u184, u185, u186, u187, u188, u189, u190, u191, u192, u193, u194, u195, u196, u197, u198, u199], defers := [] } w') :
    Code.wp Tryz.prog (tailT 13 (Tryz.f9.body.getD .skip)) Q { tmps := #[v0, v1, v2, v3, v4, v5, .bool false, v7, v8, .pointer (some ⟨lb, 0, none⟩), v10, v11, v12, v13, .slice oR R.length cR, v15, v16, v17, v18, .slice none 0 0, undef, undef, undef, undef, undef, undef, undef, undef, undef, undef, undef, undef, undef, undef, undef, undef, undef, undef, undef, u39, u40, u41, u42, u43, u44, u45, u46, u47, u48, u49, u50, u51, u52, u53, u54, u55, u56, u57, u58, u59, u60, u61, u62, u63, u64, u65, u66, u67, u68, u69, u70, u71, u72, u73, u74, u75, u76, u77, u78, u79, u80, u81, u82, u83, u84, u85, u86, u87, u88, u89, u90, u91, u92, u93, u94, u95, u96, u97, u98, u99, u100, u101, u102, u103, u104, u105, u106, u107, u108, u109, u110, u111, u112, u113, u114, u115, u116, u117, u118, u119, u120, u121, u122, u123, u124, u125, u126, u127, u128, u129, u130, u131, u132, u133, u134, u135, u136, u137, u138, u139, u140, u141, u142, u143, u144, u145, u146, u147, u148, u149, u150, u151, u152, u153, u154, u155, u156, u157, u158, u159, u160, u161, u162, u163, u164, u165, u166, u167, u168, u169, u170, u171, u172, u173, u174, u175, u176, u177, u178, u179, u180, u181, u182, u183, u184, u185, u186, u187, u188, u189, u190, u191, u192, u193, u194, u195, u196, u197, u198, u199], defers := [] } wc := by
  have HK := hide hK
  have HC := hide (And.intro hnd (And.intro hkp hnn))
  have HSD := hide hw.la.sound
  have HW : Hid (LW w0 wc lb s L N ∧ SR w0 wc L (.slice none 0 0) ((R.take 0).map (·.key)) ∧ wc.ownsRow BR 61 6 (.slice oR R.length cR) R.length (R.flatMap whyCells) ∧ ∀ g, (Value.slice oR R.length cR).ownBlock = some g → (Value.slice none 0 0).ownBlock ≠ some g) := hide ⟨hw, SR.nil _ _ _, hR, (fun g _ e => by cases e)⟩
  have HRL := hide hRL
  clear hK hnd hkp hnn hw hR hRL
  obtain ⟨cd, hcd⟩ : ∃ cd, tailT 13 (Tryz.f9.body.getD .skip) = cd := ⟨_, rfl⟩
  rw [hcd]
  simp only [tailT, Tryz.f9, Option.getD] at hcd h14
  rw [h14] at hcd
  clear h14
  subst hcd
  refine wp_seq_k (fun K hKK => ?_)
  have HKK := hide hKK
  clear hKK
  go_wp2_with fail
  go_loopw [6, 19, 20] (fun bv rv iv wr => ∃ (i : Nat) (o : Option Addr) (m c : Nat), i ≤ R.length ∧ bv = .bool false ∧ rv = .slice o m c ∧ iv = .int .i64 i ∧ Hid (m = ((R.take i).map (·.key)).length) ∧ Hid (LW w0 wr lb s L N ∧ SR w0 wr L (.slice o m c) ((R.take i).map (·.key)) ∧ wr.ownsRow BR 61 6 (.slice oR R.length cR) R.length (R.flatMap whyCells) ∧ ∀ g, (Value.slice oR R.length cR).ownBlock = some g → (Value.slice o m c).ownBlock ≠ some g)) (fun _ _ iv _ => R.length - (intOf iv).toNat)
  case atStart => exact ⟨0, none, 0, 0, Nat.zero_le _, rfl, rfl, rfl, hide rfl, HW⟩
  case round =>
    obtain ⟨i, o, m, c, hi, rfl, rfl, rfl, HM, HX⟩ := hrel
    clear HW
    by_cases hlt : i < R.length
    · have hin : (i : Int) < (R.length : Int) := by omega
      obtain ⟨y, hy⟩ : ∃ y, R[i]? = some y := ⟨_, List.getElem?_eq_getElem hlt⟩
      obtain ⟨gR, rfl, c1⟩ := row_cell HX.out.2.2.1 (j := i * 6) (u := str y.key) (whys_at R i y hy) (by omega)
      have hstr : str y.key = .string (txB y.key) := rfl
      rw [hstr] at c1
      obtain ⟨kp, hkp⟩ := HC.out.2.1 y (List.mem_of_getElem? hy)
      have hname : Lard.isName y.key = true := by
        cases hn : Lard.isName y.key with
        | true => rfl
        | false =>
          rw [HC.out.2.2 y.key hn] at hkp
          cases hkp
      have hkl : y.key.length ≤ 8 := name_len hname
      have hnot : ((R.take i).map (·.key)).contains y.key = false := by
        have h1 := HC.out.1
        rw [← List.take_append_drop i R, List.map_append, List.nodup_append] at h1
        have h2 : y.key ∈ (R.drop i).map (·.key) := List.mem_map.2 ⟨y, List.mem_of_getElem? (i := 0) (by rw [List.getElem?_drop, Nat.add_zero]; exact hy), rfl⟩
        have h3 : y.key ∉ (R.take i).map (·.key) := fun hm => h1.2.2 _ hm _ h2 rfl
        cases hc : ((R.take i).map (·.key)).contains y.key with
        | false => rfl
        | true => exact absurd (List.contains_iff_mem.1 hc) h3
      have hml : m ≤ 40 := by
        rw [HM.out, List.length_map, List.length_take]
        omega
      have HIN := hide (in_any wr 8 (.slice o m c) ((R.take i).map (·.key)) (txB y.key) HX.out.2.1.row (by rw [← HM.out]; omega))
      rw [txB_list, hnot] at HIN
      have HKP := hide (kept_one wr lb s L y.key HX.out.1.la.lat HX.out.1.la.g (by omega) HSD.out.kb (HC.out.2.2 y.key))
      unfold ptr at HKP
      go_wp2_with fail
      refine HIN.out.mono ?_
      rintro e w' ⟨rfl, hw'⟩
      obtain rfl := hw'.symm
      dsimp only
      clear HIN
      go_wp2_with fail
      refine HKP.out.mono ?_
      rintro e w1 ⟨ns, on, cn, tc, cd, ts, rfl, -, -, -, hcd0, -, hB1⟩
      dsimp only
      obtain rfl := hcd0.2 ⟨kp, hkp⟩
      clear HKP hcd0
      have hB2 : Below w1.heap.size w1 (w1.alloc (.cells #[.int .i64 tc, .string ts] 59)) := (Below.refl _ w1).alloc (Nat.le_refl _) _
      have hB12 := hB1.trans (hB2.mono hB1.size)
      obtain ⟨w2, hw2⟩ : ∃ w2, w1.alloc (.cells #[.int .i64 tc, .string ts] 59) = w2 := ⟨_, rfl⟩
      have c1' := cell_later hB12 c1
      rw [hw2] at hB12 c1'
      have hRb := owns_block HX.out.2.2.1 (g := gR) rfl
      have hB3 : Below w2.heap.size w2 (w2.alloc (.cells #[.string (txB y.key)] 9)) := (Below.refl _ w2).alloc (Nat.le_refl _) _
      have hB13 := hB12.trans (hB3.mono hB12.size)
      have hcell : (w2.alloc (.cells #[.string (txB y.key)] 9)).cell? ⟨w2.heap.size, 0, none⟩ = some (str y.key) := by simp [go_sem, hstr]
      have hml' : ((R.take i).map (·.key)).length = m := HM.out.symm
      obtain ⟨g4, cap4, w4, hr4, hsr4, hlw4, hgr4, hat4⟩ := (HX.out.2.1.below hB13).push (HX.out.1.below hB13) y.key ⟨w2.heap.size, 0, none⟩ 1 hcell (by omega)
      rw [hml'] at hr4 hsr4
      have htk : (R.take (i + 1)).map (·.key) = (R.take i).map (·.key) ++ [y.key] := by
        rw [List.take_add_one, hy, List.map_append]
        rfl
      have hsz3 : (w2.alloc (.cells #[.string (txB y.key)] 9)).heap.size = w2.heap.size + 1 := by simp
      have hneg : (Value.slice o m c).ownBlock ≠ some gR := HX.out.2.2.2 gR rfl
      have hs12 := hB12.size
      have hR4 : w4.ownsRow BR 61 6 (.slice (some ⟨gR, 0, none⟩) R.length cR) R.length (R.flatMap whyCells) := owns_same HX.out.2.2.1 (fun g' hg' => by
        have e : gR = g' := by
          have : some gR = some g' := hg'
          exact Option.some.inj this
        subst e
        rw [hgr4.block gR (by omega) (fun e => hneg e.symm)]
        exact hB13.block gR hRb.1)
      have HX4 : Hid (LW w0 w4 lb s L N ∧ SR w0 w4 L (.slice (some ⟨g4, 0, none⟩) (m + 1) cap4) ((R.take (i + 1)).map (·.key)) ∧ w4.ownsRow BR 61 6 (.slice (some ⟨gR, 0, none⟩) R.length cR) R.length (R.flatMap whyCells) ∧ ∀ g, (Value.slice (some ⟨gR, 0, none⟩) R.length cR).ownBlock = some g → (Value.slice (some ⟨g4, 0, none⟩) (m + 1) cap4).ownBlock ≠ some g) := hide ⟨hlw4, by rw [htk]; exact hsr4, hR4, (fun g' hg' e => by
        have e1 : some gR = some g' := hg'
        have e2 : some g4 = some g' := e
        have e1 := Option.some.inj e1
        have e2 := Option.some.inj e2
        rcases hat4 with h | h
        · exact hneg (by rw [h]; congr 1; omega)
        · have := hRb.1
          omega)⟩
      have HM4 : Hid (m + 1 = ((R.take (i + 1)).map (·.key)).length) := hide (by rw [htk, List.length_append, hml']; rfl)
      clear HX HM hgr4 hat4 hlw4 hsr4 hR4 hRb hneg htk hcell hB3 hB13 hB12 hB1 hB2 hml' hsz3 hs12 c1 hnot hkp
      go_wp2_with (at_builtin; refine wpList_run_append _ rfl _ _ _ _ rfl _ _ _ _ rfl rfl hr4 ?_)
      refine ⟨⟨i + 1, _, m + 1, cap4, by omega, rfl, rfl, by go_num, HM4, HX4⟩, ?_⟩
      simp [intOf]; omega
    · obtain rfl : i = R.length := by omega
      go_wp2_with fail
      exact HKK.out _ _ (HK.out _ _ _ _ _ _ _ _ _ _ _ _ _ _ _ _ _ _ _ _ _ _ _ _ _ _ _ _ _ _ _ _ _ _ _ _ _ _ _ _ _ _ _ _ _ _ _ _ _ _ _ _ _ _ _ _ _ _ _ _ _ _ _ _ _ _ _ _ _ _ _ _ _ _ _ _ _ _ _ _ _ _ _ _ _ _ _ _ _ _ _ _ _ _ _ _ _ _ _ _ _ _ _ _ _ _ _ _ _ _ _ _ _ _ _ _ _ _ _ _ _ _ _ _ _ _ _ _ _ _ _ _ _ _ _ _ _ _ _ _ _ _ _ _ _ _ _ _ _ _ _ _ _ _ _ _ _ _ _ _ _ _ _ _ _ _ _ _ HX.out.1)
end Go.Proofs.YtpekpdimdelncaaGreatDoor
