/- Out of: D5, D9, D10, C4a. -/
import Derived.Test.YtpekpdimdelncaaGreatDoorP43
import Derived.Test.YtpekpdimdelncaaGreatDoorP44
import Derived.Test.YtpekpdimdelncaaGreatDoorCards
import Derived.WalkKit
import Derived.ProofKit
import Derived.MakeChecks
namespace Go.Proofs.YtpekpdimdelncaaGreatDoor
open Go.RowKit Go.Shelf
set_option linter.unusedVariables false
set_option linter.unusedSimpArgs false
structure RW (w0 w : World) (lb n tb fb : Nat) (s : Lard.LS) (L : Nat → Prop) (N : Nat) (Rt Ct Rf Cf : Nat → Nat) (Mt Mf : Nat → Nat → Bool) : Prop where
  la : La w lb s L N
  t : Mat w tb n n Rt Ct Mt
  f : Mat w fb n n Rf Cf Mf
  off : ∀ k, L k → w0.heap.size ≤ k ∧ k ≠ tb ∧ k ≠ fb ∧ ∀ j, j < n → k ≠ Rt j ∧ k ≠ Rf j
  bel : Below w0.heap.size w0 w
section
variable {w0 w w' : World} {lb n tb fb : Nat} {s s' : Lard.LS} {L : Nat → Prop} {N M : Nat} {Rt Ct Rf Cf : Nat → Nat} {Mt Mf : Nat → Nat → Bool}
theorem RW.below (h : RW w0 w lb n tb fb s L N Rt Ct Rf Cf Mt Mf) (hB : Below w.heap.size w w') : RW w0 w' lb n tb fb s L N Rt Ct Rf Cf Mt Mf :=
  ⟨h.la.below hB, h.t.below hB, h.f.below hB, h.off, h.bel.trans (hB.mono h.bel.size)⟩
theorem RW.post (h : RW w0 w lb n tb fb s L N Rt Ct Rf Cf Mt Mf) (hP : LaPost w lb L s' M w') : ∃ L', RW w0 w' lb n tb fb s' L' M Rt Ct Rf Cf Mt Mf := by
  obtain ⟨L', h1, h2, h3, h4⟩ := hP
  refine ⟨L', h1, h.t.frm h4 (fun hl => (h.off tb hl).2.1 rfl) (fun j hj hl => ((h.off _ hl).2.2.2 j hj).1 rfl), h.f.frm h4 (fun hl => (h.off fb hl).2.2.1 rfl) (fun j hj hl => ((h.off _ hl).2.2.2 j hj).2 rfl), fun k hk => ?_, ?_⟩
  · rcases h2 k hk with h5 | h5
    · exact h.off k h5
    · have a1 := h.t.top.lt
      have a2 := h.f.top.lt
      have a0 := h.bel.size
      refine ⟨by omega, by omega, by omega, fun j hj => ⟨?_, ?_⟩⟩
      · have := (h.t.row j hj).lt
        omega
      · have := (h.f.row j hj).lt
        omega
  · have a0 := h.bel.size
    exact h.bel.trans ⟨h4.os, h4.tape, h4.output, h4.size, fun k hk => h4.block k (by omega) (fun hl => by have := (h.off k hl).1; omega)⟩
theorem RW.le (h : RW w0 w lb n tb fb s L N Rt Ct Rf Cf Mt Mf) (hM : N ≤ M) : RW w0 w lb n tb fb s L M Rt Ct Rf Cf Mt Mf := ⟨h.la.le hM, h.t, h.f, h.off, h.bel⟩
end
theorem rnd_iff {nd : Nat → List Nat} {n i : Nat} {M : Nat → Nat → Bool} (hM : ∀ a c, a < n → c < n → (M a c = true ↔ ∃ m, Lard.Way nd m a c)) (hlt : ∀ m i k, i < n → Lard.Way nd m i k → k < n) (hi : i < n) : (M i i = true ∨ ∃ j, j < n ∧ M i j = true ∧ M j j = true) ↔ Lard.Rnd nd i := by
  constructor
  · rintro (h | ⟨j, hj, h1, h2⟩)
    · exact ⟨i, .inl rfl, (hM i i hi hi).1 h⟩
    · exact ⟨j, .inr ((hM i j hi hj).1 h1), (hM j j hj hj).1 h2⟩
  · rintro ⟨k, rfl | ⟨m, hm⟩, m', hm'⟩
    · exact .inl ((hM k k hi hi).2 ⟨m', hm'⟩)
    · have hk := hlt m i k hi hm
      exact .inr ⟨k, hk, (hM i k hi hk).2 ⟨m, hm⟩, (hM k k hk hk).2 ⟨m', hm'⟩⟩
theorem rnd_next {M : Nat → Nat → Bool} {i k : Nat} {b b' : Bool} (h : b = true ↔ (M i i = true ∨ ∃ j, j < k ∧ M i j = true ∧ M j j = true)) (hb : b' = (b || (M i k && M k k))) : b' = true ↔ (M i i = true ∨ ∃ j, j < k + 1 ∧ M i j = true ∧ M j j = true) := by
  subst hb
  rw [Bool.or_eq_true, Bool.and_eq_true, h]
  constructor
  · rintro ((h1 | ⟨j, h1, h2⟩) | h1)
    · exact .inl h1
    · exact .inr ⟨j, by omega, h2⟩
    · exact .inr ⟨k, by omega, h1⟩
  · rintro (h1 | ⟨j, h1, h2⟩)
    · exact .inl (.inl h1)
    · by_cases e : j = k
      · subst e
        exact .inr h2
      · exact .inl (.inr ⟨j, by omega, h2⟩)
theorem told12 {r : Lard.Wo} {tc : Int} {ts : ByteArray} (h : toldV r = .agg #[.int .i64 tc, .string ts]) (hr : r = .error 12) : tc = 12 := by
  subst hr
  have : toldV (.error 12) = .agg #[.int .i64 12, .string ⟨#[]⟩] := rfl
  rw [this] at h
  cases h
  rfl
theorem told0 {r : Lard.Wo} {tc : Int} {ts : ByteArray} {v : Lard.V} (h : toldV r = .agg #[.int .i64 tc, .string ts]) (hr : r = .ok v) : tc = 0 := by
  subst hr
  have : toldV (.ok v) = .agg #[.int .i64 0, .string ⟨(Lard.wr 3 v).toArray⟩] := rfl
  rw [this] at h
  cases h
  rfl
set_option maxRecDepth 100000 in
set_option maxHeartbeats 8000000 in
theorem rnd_ask {R : Ending → World → Prop} (w0 wc : World) (lb n tb fb tcp fcp : Nat) (s : Lard.LS) (L : Nat → Prop) (N : Nat) (Rt Ct Rf Cf : Nat → Nat) (Mt Mf : Nat → Nat → Bool) (nd : Nat → List Nat) (v0 v1 v3 v7 v8 v9 v10 v11 v12 v14 v15 v16 v17 : Value) (u27 u28 u29 u30 u31 u32 u33 u34 u35 u36 u37 u38 u39 u40 u41 u42 u43 u44 u45 u46 u47 u48 u49 u50 u51 u52 u53 u54 u55 u56 u57 u58 u59 u60 u61 u62 u63 u64 u65 u66 u67 u68 u69 u70 u71 u72 u73 u74 u75 u76 u77 u78 u79 u80 u81 u82 u83 u84 u85 u86 u87 u88 u89 u90 u91 u92 u93 u94 u95 u96 u97 u98 u99 u100 u101 u102 u103 u104 u105 u106 u107 u108 u109 u110 u111 u112 u113 u114 u115 u116 u117 u118 u119 u120 u121 u122 u123 u124 u125 u126 u127 u128 u129 u130 u131 u132 u133 u134 u135 u136 u137 u138 u139 u140 u141 u142 u143 u144 u145 u146 u147 u148 u149 u150 u151 u152 u153 u154 u155 u156 u157 u158 u159 u160 u161 u162 u163 u164 u165 u166 u167 u168 u169 u170 u171 u172 u173 u174 u175 u176 u177 u178 u179 u180 u181 u182 u183 u184 u185 u186 u187 u188 u189 u190 u191 u192 u193 u194 u195 u196 u197 u198 u199 u200 u201 u202 u203 u204 u205 u206 u207 u208 u209 u210 u211 u212 u213 u214 u215 u216 u217 u218 u219 u220 u221 u222 u223 u224 u225 u226 u227 u228 u229 u230 u231 u232 u233 u234 u235 u236 u237 u238 u239 u240 u241 u242 u243 u244 u245 u246 u247 u248 u249 u250 u251 u252 u253 u254 u255 u256 u257 u258 : Value)
    (hn : n ≤ 12) (hN : N ≤ 1000000000) (hw : RW w0 wc lb n tb fb s L N Rt Ct Rf Cf Mt Mf) (hg : Lard.GrS (Lard.srcOf s.has) n nd) (ht : ∀ a c, a < n → c < n → (Mt a c = true ↔ c ∈ nd a)) (hf : ∀ a c, a < n → c < n → (Mf a c = true ↔ ∃ m, Lard.Way nd m a c))
    (hR : ∀ w', Below w0.heap.size w0 w' → R (.returned (.bool true)) w') :
    Code.wp Tryz.prog (dropC 11 (Tryz.f7.body.getD .skip)) (bodyPost Tryz.prog Tryz.f7 R) { tmps := #[v0, v1, .bool false, v3, .pointer (some ⟨lb, 0, none⟩), .int .i64 (n : Int), .slice (some ⟨tb, 0, none⟩) n tcp, v7, v8, v9, v10, v11, v12, .slice (some ⟨fb, 0, none⟩) n fcp, v14, v15, v16, v17, undef, undef, undef, undef, undef, undef, undef, undef, undef, u27, u28, u29, u30, u31, u32, u33, u34, u35, u36, u37, u38, u39, u40, u41, u42, u43, u44, u45, u46, u47, u48, u49, u50, u51, u52, u53, u54, u55, u56, u57, u58, u59, u60, u61, u62, u63, u64, u65, u66, u67, u68, u69, u70, u71, u72, u73, u74, u75, u76, u77, u78, u79, u80, u81, u82, u83, u84, u85, u86, u87, u88, u89, u90, u91, u92, u93, u94, u95, u96, u97, u98, u99, u100, u101, u102, u103, u104, u105, u106, u107, u108, u109, u110, u111, u112, u113, u114, u115, u116, u117, u118, u119, u120, u121, u122, u123, u124, u125, u126, u127, u128, u129, u130, u131, u132, u133, u134, u135, u136, u137, u138, u139, u140, u141, u142, u143, u144, u145, u146, u147, u148, u149, u150, u151, u152, u153, u154, u155, u156, u157, u158, u159, u160, u161, u162, u163, u164, u165, u166, u167, u168, u169, u170, u171, u172, u173, u174, u175, u176, u177, u178, u179, u180, u181, u182, u183, u184, u185, u186, u187, u188, u189, u190, u191, u192, u193, u194, u195, u196, u197, u198, u199, u200, u201, u202, u203, u204, u205, u206, u207, u208, u209, u210, u211, u212, u213, u214, u215, u216, u217, u218, u219, u220, u221, u222, u223, u224, u225, u226, u227, u228, u229, u230, u231, u232, u233, u234, u235, u236, u237, u238, u239, u240, u241, u242, u243, u244, u245, u246, u247, u248, u249, u250, u251, u252, u253, u254, u255, u256, u257, u258], defers := [] } wc := by
  have HF := hide (And.intro ht hf)
  have HW : Hid (RW w0 wc lb n tb fb s L (N + 0 * 2000000000) Rt Ct Rf Cf Mt Mf ∧ Lard.GrS (Lard.srcOf s.has) n nd) := hide ⟨by simpa using hw, hg⟩
  have HR := hide hR
  clear ht hf hw hg hR
  obtain ⟨cd, hcd⟩ : ∃ cd, dropC 11 (Tryz.f7.body.getD .skip) = cd := ⟨_, rfl⟩
  rw [hcd]
  simp only [dropC, Tryz.f7, Option.getD] at hcd
  subst hcd
  go_wp2_with fail
  go_loopw [18] (fun iv wr => ∃ (i : Nat) (s' : Lard.LS) (L' : Nat → Prop), i ≤ n ∧ iv = .int .i64 i ∧ Hid (RW w0 wr lb n tb fb s' L' (N + i * 2000000000) Rt Ct Rf Cf Mt Mf ∧ Lard.GrS (Lard.srcOf s'.has) n nd)) (fun iv _ => n - (intOf iv).toNat)
  case atStart => exact ⟨0, s, L, Nat.zero_le _, rfl, HW⟩
  case round =>
    obtain ⟨i, s', L', hi, rfl, HX⟩ := hrel
    clear HW
    by_cases hlt : i < n
    · have hin : (i : Int) < (n : Int) := by omega
      have c1 := HX.out.1.f.rowAt hlt (Nat.le_refl _)
      have c2 := HX.out.1.f.at hlt hlt
      obtain ⟨b0, hb0⟩ : ∃ b, Mf i i = b := ⟨_, rfl⟩
      rw [hb0] at c2
      go_wp2_with fail
      go_loopw [19, 20] (fun rv kv wr2 => ∃ (k : Nat) (b : Bool), k ≤ n ∧ kv = .int .i64 k ∧ rv = .bool b ∧ wr2 = wr ∧ Hid (b = true ↔ (Mf i i = true ∨ ∃ j, j < k ∧ Mf i j = true ∧ Mf j j = true))) (fun _ kv _ => n - (intOf kv).toNat)
      case atStart => exact ⟨0, b0, Nat.zero_le _, rfl, rfl, rfl, hide ⟨fun h => .inl (hb0.trans h), fun h => by
        rcases h with h | ⟨j, hj, _⟩
        · exact hb0.symm.trans h
        · omega⟩⟩
      case round =>
        obtain ⟨k, b, hk, rfl, rfl, hwr, HB⟩ := hrel
        obtain rfl := hwr.symm
        by_cases hltk : k < n
        · have hkn : (k : Int) < (n : Int) := by omega
          have d1 := HX.out.1.f.at hlt hltk
          have d2 := HX.out.1.f.rowAt hltk (Nat.le_refl _)
          have d3 := HX.out.1.f.at hltk hltk
          obtain ⟨b2, hb2⟩ : ∃ b, Mf i k = b := ⟨_, rfl⟩
          obtain ⟨b3, hb3⟩ : ∃ b, Mf k k = b := ⟨_, rfl⟩
          rw [hb2] at d1
          rw [hb3] at d3
          have HN : Hid (∀ b', b' = (b || (b2 && b3)) → (b' = true ↔ (Mf i i = true ∨ ∃ j, j < k + 1 ∧ Mf i j = true ∧ Mf j j = true))) := hide (fun b' h => rnd_next HB.out (by rw [hb2, hb3]; exact h))
          clear hb2 hb3 HB
          cases b
          · cases b2
            · go_wp2_with fail
              refine ⟨⟨k + 1, false, by omega, by go_num, rfl, trivial, hide (HN.out false rfl)⟩, ?_⟩
              simp [intOf]; omega
            · go_wp2_with fail
              refine ⟨⟨k + 1, b3, by omega, by go_num, rfl, trivial, hide (HN.out b3 (by simp))⟩, ?_⟩
              simp [intOf]; omega
          · go_wp2_with fail
            refine ⟨⟨k + 1, true, by omega, by go_num, rfl, trivial, hide (HN.out true (by simp))⟩, ?_⟩
            simp [intOf]; omega
        · obtain rfl : n = k := by omega
          have HB2 : Hid (b = true ↔ Lard.Rnd nd i) := hide (HB.out.trans (rnd_iff HF.out.2 (fun m i k hi hm => HX.out.2.gr.way_lt m i k hi hm) hlt))
          clear HB c1 c2
          have HY := hide (key_any i wr (by omega))
          go_wp2_with fail
          refine HY.out.mono ?_
          rintro e w1 ⟨rfl, hB1⟩
          dsimp only
          clear HY
          have HX1 : Hid (RW w0 w1 lb n tb fb s' L' (N + i * 2000000000) Rt Ct Rf Cf Mt Mf ∧ Lard.GrS (Lard.srcOf s'.has) n nd) := hide ⟨HX.out.1.below hB1, HX.out.2⟩
          clear HX hB1
          have HA := hide (la_ask HX1.out.1.la (keyB i) (keyB_name i (by omega)) (by omega))
          unfold ptr at HA
          go_wp2_with fail
          refine HA.out.mono ?_
          rintro e w2 ⟨v, tc, ts, rfl, htv, hlp, o, c, rfl, hring⟩
          dsimp only
          clear HA
          obtain ⟨L2, hw2⟩ := HX1.out.1.post hlp
          rw [keyB_list] at htv hw2 hring ⊢
          have hsd := HX1.out.1.la.sound
          have HX2 : Hid (RW w0 w2 lb n tb fb (s'.ask (Lard.keyText i)).2 L2 (N + (i + 1) * 2000000000) Rt Ct Rf Cf Mt Mf ∧ Lard.GrS (Lard.srcOf (s'.ask (Lard.keyText i)).2.has) n nd) := hide ⟨hw2.le (by omega), HX1.out.2.ask hsd _⟩
          clear hw2 hlp
          cases b
          · obtain ⟨z, hz⟩ := Lard.ask_fine hsd HX1.out.2 hn hlt (fun h => Bool.false_ne_true (HB2.out.2 h))
            obtain rfl := told0 htv hz
            have hl0 : (if (0 : Int) = 12 then (s'.ask (Lard.keyText i)).2.ring else []).length = 0 := rfl
            rw [hl0]
            clear hring htv hz hl0 hsd
            go_wp2_with fail
            refine ⟨⟨i + 1, _, L2, by omega, by go_num, HX2⟩, ?_⟩
            simp [intOf]; omega
          · have h12 := Lard.ask_round hsd HX1.out.2 hn hlt (HB2.out.1 rfl)
            obtain rfl := told12 htv h12
            rw [if_pos rfl] at hring ⊢
            have HI := hide (fun j hj => Lard.ring_is hsd HX1.out.2 hn h12 j hj)
            have hne := (Lard.ask_ring hsd _ h12).1
            have hfew := Lard.ring_few hsd (Lard.keyText i)
            generalize (s'.ask (Lard.keyText i)).2.ring = l at hring HI hne hfew
            have hpos : 0 < l.length := List.length_pos_iff.2 hne
            obtain ⟨ad, rfl, -⟩ := hring 0 l[0] (List.getElem?_eq_getElem hpos)
            obtain ⟨ab, ao, ap⟩ := ad
            have HRC : Hid (∀ (j : Nat) (x : List UInt8), l[j]? = some x → w2.cell? (Addr.add ⟨ab, ao, ap⟩ j) = some (str x)) := hide (fun j x hx => by
              obtain ⟨a, ha, hc⟩ := hring j x hx
              cases ha
              exact hc)
            clear hring htv h12 hne hsd HX1
            obtain ⟨len, hlen⟩ : ∃ m, l.length = m := ⟨_, rfl⟩
            rw [hlen] at hpos hfew ⊢
            have hl0 : ((len : Int) == 0) = false := beq_eq_false_iff_ne.2 (by omega)
            have hl1 : ¬ ((len : Int) = 0) := by omega
            go_wp2_with fail
            go_loopw [24] (fun kv wr3 => ∃ k : Nat, k ≤ len ∧ kv = .int .i64 k ∧ Hid ((RW w0 wr3 lb n tb fb (s'.ask (Lard.keyText i)).2 L2 (N + (i + 1) * 2000000000) Rt Ct Rf Cf Mt Mf ∧ Lard.GrS (Lard.srcOf (s'.ask (Lard.keyText i)).2.has) n nd) ∧ ∀ (j : Nat) (x : List UInt8), l[j]? = some x → wr3.cell? (Addr.add ⟨ab, ao, ap⟩ j) = some (str x))) (fun kv _ => len - (intOf kv).toNat)
            case atStart => exact ⟨0, Nat.zero_le _, rfl, hide ⟨HX2.out, HRC.out⟩⟩
            case round =>
              obtain ⟨k2, hk2, rfl, HX3⟩ := hrel
              clear HX2 HRC
              by_cases hlt2 : k2 < len
              · have hk2n : (k2 : Int) < (len : Int) := by omega
                obtain ⟨a, b, ha, hb, hab, ha2, hb2⟩ := HI.out k2 (by omega)
                rw [hlen] at hb2
                have hm2 : (k2 + 1) % len < len := Nat.mod_lt _ (by omega)
                have e1 : wr.cell? (Addr.add ⟨ab, ao, ap⟩ k2) = some (.string (keyB a)) := HX3.out.2 k2 _ ha2
                have HE2 := hide (fun (w4 : World) (hB4 : Below wr.heap.size wr w4) => (cell_later hB4 (HX3.out.2 _ _ hb2) : w4.cell? (Addr.add ⟨ab, ao, ap⟩ ((k2 + 1) % len)) = some (.string (keyB b))))
                have HN1 := hide (number_key a n wr ha hn)
                have HN2 := hide (fun w4 => number_key b n w4 hb hn)
                have hto : Mt a b = true := (HF.out.1 a b ha hb).2 hab
                have HT := hide (fun (w4 : World) (hB4 : Below wr.heap.size wr w4) => And.intro ((HX3.out.1.1.below hB4).t.rowAt ha (Nat.le_refl _)) (((HX3.out.1.1.below hB4).t.at ha hb).trans (by rw [hto])))
                have han : (a : Int) < (n : Int) := by omega
                have hbn : (b : Int) < (n : Int) := by omega
                have hrem : Int.tmod ((k2 : Int) + 1) (len : Int) = (((k2 + 1) % len : Nat) : Int) := rfl
                clear ha2 hb2 hab hto
                generalize (k2 + 1) % len = m2 at hm2 HE2 hrem
                have hm2n : (m2 : Int) < (len : Int) := by omega
                go_wp2_with fail
                refine HN1.out.mono ?_
                rintro e w4 ⟨rfl, hB4⟩
                dsimp only
                have e2 := HE2.out w4 hB4
                clear HN1 HE2 e1
                go_wp2_with fail
                refine (HN2.out _).mono ?_
                rintro e w5 ⟨rfl, hB5⟩
                dsimp only
                have hB45 := hB4.trans (hB5.mono hB4.size)
                obtain ⟨t1, t2⟩ := HT.out w5 hB45
                clear HN2 e2 HT
                go_wp2_with fail
                refine ⟨⟨k2 + 1, by omega, by go_num, hide ⟨⟨HX3.out.1.1.below hB45, HX3.out.1.2⟩, fun j x hx => cell_later hB45 (HX3.out.2 j x hx)⟩⟩, ?_⟩
                simp [intOf]; omega
              · obtain rfl : len = k2 := by omega
                go_wp2_with fail
                refine ⟨⟨i + 1, _, L2, by omega, by go_num, hide HX3.out.1⟩, ?_⟩
                simp [intOf]; omega
    · obtain rfl : n = i := by omega
      have HE := hide (HR.out _ HX.out.1.bel)
      clear HR
      go_wp2_with fail
      exact HE.out
end Go.Proofs.YtpekpdimdelncaaGreatDoor
namespace Go.Proofs.YtpekpdimdelncaaGreatDoor
open Go.RowKit Go.Shelf
set_option linter.unusedVariables false
set_option linter.unusedSimpArgs false
theorem rw_all {w0 w w3 w4 : World} {lb n tb : Nat} {s : Lard.LS} {L : Nat → Prop} {N : Nat} {R C Rf Cf : Nat → Nat} {M M' : Nat → Nat → Bool} {nd : Nat → List Nat} (h : SW w0 w lb n tb n s L N R C M nd)
    (h3 : CopyAt (w.alloc (.cells (madeCells #[.slice none 0 0] n) 50)) w3 w.heap.size n n Rf Cf M) (h4 : FarAt w3 w4 w.heap.size n Rf Cf M') : RW w0 w4 lb n tb w.heap.size s L N R C Rf Cf M M' := by
  have hB1 : Below w.heap.size w (w.alloc (.cells (madeCells #[.slice none 0 0] n) 50)) := (Below.refl _ w).alloc (Nat.le_refl _) _
  have hsz1 : (w.alloc (.cells (madeCells #[.slice none 0 0] n) 50)).heap.size = w.heap.size + 1 := by simp
  have h8 := h.la.g.size
  have hb0 := h.bel.size
  have htl := h.t.top.lt
  have hs3 := h3.frm.size
  have hs4 := h4.frm.size
  have hmk := (Mat.made w n h8).top
  have hL : ∀ k, L k → k < w.heap.size := fun k hk => (h.la.lat.lt hk).2
  have hR : ∀ j, j < n → R j < w.heap.size := fun j hj => (h.t.row j hj).lt
  have hRf : ∀ j, j < n → w.heap.size < Rf j := fun j hj => by have := h3.new j hj; omega
  have hla3 : La w3 lb s L N := (h.la.below hB1).other h3.frm (fun k hk => by rw [hk]; exact h8) (fun k hk cs t fz hc => by
    subst hk
    obtain ⟨c, h1, _⟩ := hmk
    rw [h1] at hc
    cases hc
    exact imm_row) (fun k hk e => by have := hL k hk; omega)
  have hla4 : La w4 lb s L N := hla3.other h4.frm (fun k hk => by obtain ⟨j, hj, rfl⟩ := hk; have := hRf j hj; omega) (fun k hk cs t fz hc => by
    obtain ⟨j, hj, rfl⟩ := hk
    obtain ⟨F, ⟨c, h1, _⟩, _⟩ := h3.mat.row j hj
    rw [h1] at hc
    cases hc
    exact imm_bool) (fun k hk e => by
      obtain ⟨j, hj, rfl⟩ := e
      have := hL _ hk
      have := hRf j hj
      omega)
  have ht3 : Mat w3 tb n n R C M := (h.t.below hB1).frm h3.frm (fun e => by omega) (fun j hj e => by have := hR j hj; omega)
  have ht4 : Mat w4 tb n n R C M := ht3.frm h4.frm (fun e => by
    obtain ⟨j, hj, e⟩ := e
    have := hRf j hj
    omega) (fun j hj e => by
      obtain ⟨j', hj', e⟩ := e
      have := hR j hj
      have := hRf j' hj'
      omega)
  refine ⟨hla4, ht4, h4.mat, fun k hk => ⟨(h.off k hk).1, (h.off k hk).2.1, fun e => by have := hL k hk; omega, fun j hj => ⟨(h.off k hk).2.2 j hj, fun e => by have := hL k hk; have := hRf j hj; omega⟩⟩, ?_⟩
  refine h.bel.trans ((hB1.mono hb0).trans ?_)
  refine ⟨h4.frm.os.trans h3.frm.os, h4.frm.tape.trans h3.frm.tape, h4.frm.output.trans h3.frm.output, by omega, fun k hk => ?_⟩
  rw [h4.frm.block k (by omega) (fun e => by
    obtain ⟨j, hj, e⟩ := e
    have := hRf j hj
    omega), h3.frm.block k (by omega) (fun e => by omega)]
set_option maxRecDepth 100000 in
set_option maxHeartbeats 8000000 in
theorem rnd_tail {E : Ending → World → Prop} (w0 wc : World) (lb n tb : Nat) (s : Lard.LS) (L : Nat → Prop) (N : Nat) (R C : Nat → Nat) (M : Nat → Nat → Bool) (Ln : Nat → Nat) (z : Nat → Nat → Int) (v0 v1 v3 v7 v8 v9 v10 v11 v12 : Value) (u27 u28 u29 u30 u31 u32 u33 u34 u35 u36 u37 u38 u39 u40 u41 u42 u43 u44 u45 u46 u47 u48 u49 u50 u51 u52 u53 u54 u55 u56 u57 u58 u59 u60 u61 u62 u63 u64 u65 u66 u67 u68 u69 u70 u71 u72 u73 u74 u75 u76 u77 u78 u79 u80 u81 u82 u83 u84 u85 u86 u87 u88 u89 u90 u91 u92 u93 u94 u95 u96 u97 u98 u99 u100 u101 u102 u103 u104 u105 u106 u107 u108 u109 u110 u111 u112 u113 u114 u115 u116 u117 u118 u119 u120 u121 u122 u123 u124 u125 u126 u127 u128 u129 u130 u131 u132 u133 u134 u135 u136 u137 u138 u139 u140 u141 u142 u143 u144 u145 u146 u147 u148 u149 u150 u151 u152 u153 u154 u155 u156 u157 u158 u159 u160 u161 u162 u163 u164 u165 u166 u167 u168 u169 u170 u171 u172 u173 u174 u175 u176 u177 u178 u179 u180 u181 u182 u183 u184 u185 u186 u187 u188 u189 u190 u191 u192 u193 u194 u195 u196 u197 u198 u199 u200 u201 u202 u203 u204 u205 u206 u207 u208 u209 u210 u211 u212 u213 u214 u215 u216 u217 u218 u219 u220 u221 u222 u223 u224 u225 u226 u227 u228 u229 u230 u231 u232 u233 u234 u235 u236 u237 u238 u239 u240 u241 u242 u243 u244 u245 u246 u247 u248 u249 u250 u251 u252 u253 u254 u255 u256 u257 u258 : Value)
    (hn : n ≤ 12) (hN : N ≤ 1000000000) (hw : SW w0 wc lb n tb n s L N R C M (ndOf n Ln z))
    (hE : ∀ w', Below w0.heap.size w0 w' → E (.returned (.bool true)) w') :
    Code.wp Tryz.prog (dropC 8 (Tryz.f7.body.getD .skip)) (bodyPost Tryz.prog Tryz.f7 E) { tmps := #[v0, v1, .bool false, v3, .pointer (some ⟨lb, 0, none⟩), .int .i64 (n : Int), .slice (some ⟨tb, 0, none⟩) n n, v7, v8, v9, v10, v11, v12, undef, undef, undef, undef, undef, undef, undef, undef, undef, undef, undef, undef, undef, undef, u27, u28, u29, u30, u31, u32, u33, u34, u35, u36, u37, u38, u39, u40, u41, u42, u43, u44, u45, u46, u47, u48, u49, u50, u51, u52, u53, u54, u55, u56, u57, u58, u59, u60, u61, u62, u63, u64, u65, u66, u67, u68, u69, u70, u71, u72, u73, u74, u75, u76, u77, u78, u79, u80, u81, u82, u83, u84, u85, u86, u87, u88, u89, u90, u91, u92, u93, u94, u95, u96, u97, u98, u99, u100, u101, u102, u103, u104, u105, u106, u107, u108, u109, u110, u111, u112, u113, u114, u115, u116, u117, u118, u119, u120, u121, u122, u123, u124, u125, u126, u127, u128, u129, u130, u131, u132, u133, u134, u135, u136, u137, u138, u139, u140, u141, u142, u143, u144, u145, u146, u147, u148, u149, u150, u151, u152, u153, u154, u155, u156, u157, u158, u159, u160, u161, u162, u163, u164, u165, u166, u167, u168, u169, u170, u171, u172, u173, u174, u175, u176, u177, u178, u179, u180, u181, u182, u183, u184, u185, u186, u187, u188, u189, u190, u191, u192, u193, u194, u195, u196, u197, u198, u199, u200, u201, u202, u203, u204, u205, u206, u207, u208, u209, u210, u211, u212, u213, u214, u215, u216, u217, u218, u219, u220, u221, u222, u223, u224, u225, u226, u227, u228, u229, u230, u231, u232, u233, u234, u235, u236, u237, u238, u239, u240, u241, u242, u243, u244, u245, u246, u247, u248, u249, u250, u251, u252, u253, u254, u255, u256, u257, u258], defers := [] } wc := by
  have hmk := fun w => run_make_row' (P := Tryz.prog) 49 50 (.slice none 0 0) 24 Tryz.underlying49 rowInfo rfl .i64 .i64 n (by omega) (by omega) w
  have HW := hide hw
  have HE := hide hE
  clear hw hE
  obtain ⟨c9, h9⟩ : ∃ c, dropC 9 (Tryz.f7.body.getD .skip) = c := ⟨_, rfl⟩
  have H9 := hide h9
  obtain ⟨cd, hcd⟩ : ∃ cd, dropC 8 (Tryz.f7.body.getD .skip) = cd := ⟨_, rfl⟩
  rw [hcd]
  simp only [dropC, Tryz.f7, Option.getD] at hcd h9
  rw [h9] at hcd
  clear h9
  subst hcd
  go_wp2_with fail
  have hlt : ∀ i, i < n → ∀ a ∈ ndOf n Ln z i, a < n := fun i hi => ndOf_lt (by omega) Ln z i
  have htl := HW.out.t.top.lt
  rw [← H9.out]
  refine rnd_copy (wc.alloc (.cells (madeCells #[.slice none 0 0] n) 50)) n tb wc.heap.size n n R C (fun _ => 0) (fun _ => 0) M (fun _ _ => false) _ _ _ _ _ _ _ _ _ _ _ _ _ _ _ _ _ _ _ _ _ _ _ _ _ _ _ _ _ _ _ _ _ _ _ _ _ _ _ _ _ _ _ _ _ _ _ _ _ _ _ _ _ _ _ _ _ _ _ _ _ _ _ _ _ _ _ _ _ _ _ _ _ _ _ _ _ _ _ _ _ _ _ _ _ _ _ _ _ _ _ _ _ _ _ _ _ _ _ _ _ _ _ _ _ _ _ _ _ _ _ _ _ _ _ _ _ _ _ _ _ _ _ _ _ _ _ _ _ _ _ _ _ _ _ _ _ _ _ _ _ _ _ _ _ _ _ _ _ _ _ _ _ _ _ _ _ _ _ _ _ _ _ _ _ _ _ _ _ _ _ _ _ _ _ _ _ _ _ _ _ _ _ _ _ _ _ _ _ _ _ _ _ _ _ _ _ _ _ _ _ _ _ _ _ _ _ _ _ _ _ _ _ _ _ _ _ _ _ _ _ _ _ _ _ _ _ _ _ _ _ _ _ _ _ _ _ _ _ _ _ _ hn (by have := HW.out.la.g.size; simp; omega) (HW.out.t.below ((Below.refl _ wc).alloc (Nat.le_refl _) _)) (Mat.made wc n HW.out.la.g.size) (by omega) (fun j hj => by have := (HW.out.t.row j hj).lt; omega) _ rfl ?_
  intro v14 u27 u28 u29 u30 u31 u32 u33 u34 u35 u36 u37 u38 u39 u40 u41 u42 u43 u44 u45 u46 u47 u48 u49 u50 u51 u52 u53 u54 u55 u56 u57 u58 u59 u60 u61 u62 u63 u64 u65 u66 u67 u68 u69 u70 u71 u72 u73 u74 u75 u76 u77 u78 u79 u80 u81 u82 u83 u84 u85 u86 u87 u88 u89 u90 u91 u92 u93 u94 u95 u96 u97 u98 u99 u100 u101 u102 u103 u104 u105 u106 u107 u108 u109 u110 u111 u112 u113 u114 u115 u116 u117 u118 u119 u120 u121 u122 u123 u124 u125 u126 u127 u128 u129 u130 u131 u132 u133 u134 u135 u136 u137 u138 u139 u140 u141 u142 u143 u144 u145 u146 u147 u148 u149 u150 u151 u152 u153 u154 u155 u156 u157 u158 u159 u160 u161 u162 u163 u164 u165 u166 u167 u168 u169 u170 u171 u172 u173 u174 u175 u176 u177 u178 u179 u180 u181 u182 u183 u184 u185 u186 u187 u188 u189 u190 u191 u192 u193 u194 u195 u196 u197 u198 u199 u200 u201 u202 u203 u204 u205 u206 u207 u208 u209 u210 u211 u212 u213 u214 u215 u216 u217 u218 u219 u220 u221 u222 u223 u224 u225 u226 u227 u228 u229 u230 u231 u232 u233 u234 u235 u236 u237 u238 u239 u240 u241 u242 u243 u244 u245 u246 u247 u248 u249 u250 u251 u252 u253 u254 u255 u256 u257 u258 w3 Rf Cf h3
  refine rnd_fw w3 n wc.heap.size Rf Cf M (ndOf n Ln z) _ _ _ _ _ _ _ _ _ _ _ _ _ _ _ _ _ _ _ _ _ _ _ _ _ _ _ _ _ _ _ _ _ _ _ _ _ _ _ _ _ _ _ _ _ _ _ _ _ _ _ _ _ _ _ _ _ _ _ _ _ _ _ _ _ _ _ _ _ _ _ _ _ _ _ _ _ _ _ _ _ _ _ _ _ _ _ _ _ _ _ _ _ _ _ _ _ _ _ _ _ _ _ _ _ _ _ _ _ _ _ _ _ _ _ _ _ _ _ _ _ _ _ _ _ _ _ _ _ _ _ _ _ _ _ _ _ _ _ _ _ _ _ _ _ _ _ _ _ _ _ _ _ _ _ _ _ _ _ _ _ _ _ _ _ _ _ _ _ _ _ _ _ _ _ _ _ _ _ _ _ _ _ _ _ _ _ _ _ _ _ _ _ _ _ _ _ _ _ _ _ _ _ _ _ _ _ _ _ _ _ _ _ _ _ _ _ _ _ _ _ _ _ _ _ _ _ _ _ _ _ _ _ _ _ _ _ _ _ _ _ _ _ _ n hn ⟨h3.mat, Frm.refl _ _⟩ (Lard.Far.begin HW.out.m) _ rfl ?_
  intro v15 v16 v17 u27 u28 u29 u30 u31 u32 u33 u34 u35 u36 u37 u38 u39 u40 u41 u42 u43 u44 u45 u46 u47 u48 u49 u50 u51 u52 u53 u54 u55 u56 u57 u58 u59 u60 u61 u62 u63 u64 u65 u66 u67 u68 u69 u70 u71 u72 u73 u74 u75 u76 u77 u78 u79 u80 u81 u82 u83 u84 u85 u86 u87 u88 u89 u90 u91 u92 u93 u94 u95 u96 u97 u98 u99 u100 u101 u102 u103 u104 u105 u106 u107 u108 u109 u110 u111 u112 u113 u114 u115 u116 u117 u118 u119 u120 u121 u122 u123 u124 u125 u126 u127 u128 u129 u130 u131 u132 u133 u134 u135 u136 u137 u138 u139 u140 u141 u142 u143 u144 u145 u146 u147 u148 u149 u150 u151 u152 u153 u154 u155 u156 u157 u158 u159 u160 u161 u162 u163 u164 u165 u166 u167 u168 u169 u170 u171 u172 u173 u174 u175 u176 u177 u178 u179 u180 u181 u182 u183 u184 u185 u186 u187 u188 u189 u190 u191 u192 u193 u194 u195 u196 u197 u198 u199 u200 u201 u202 u203 u204 u205 u206 u207 u208 u209 u210 u211 u212 u213 u214 u215 u216 u217 u218 u219 u220 u221 u222 u223 u224 u225 u226 u227 u228 u229 u230 u231 u232 u233 u234 u235 u236 u237 u238 u239 u240 u241 u242 u243 u244 u245 u246 u247 u248 u249 u250 u251 u252 u253 u254 u255 u256 u257 u258 w4 M' h4 h5
  exact rnd_ask w0 w4 lb n tb wc.heap.size n n s L N R C Rf Cf M M' (ndOf n Ln z) _ _ _ _ _ _ _ _ _ _ _ _ _ _ _ _ _ _ _ _ _ _ _ _ _ _ _ _ _ _ _ _ _ _ _ _ _ _ _ _ _ _ _ _ _ _ _ _ _ _ _ _ _ _ _ _ _ _ _ _ _ _ _ _ _ _ _ _ _ _ _ _ _ _ _ _ _ _ _ _ _ _ _ _ _ _ _ _ _ _ _ _ _ _ _ _ _ _ _ _ _ _ _ _ _ _ _ _ _ _ _ _ _ _ _ _ _ _ _ _ _ _ _ _ _ _ _ _ _ _ _ _ _ _ _ _ _ _ _ _ _ _ _ _ _ _ _ _ _ _ _ _ _ _ _ _ _ _ _ _ _ _ _ _ _ _ _ _ _ _ _ _ _ _ _ _ _ _ _ _ _ _ _ _ _ _ _ _ _ _ _ _ _ _ _ _ _ _ _ _ _ _ _ _ _ _ _ _ _ _ _ _ _ _ _ _ _ _ _ _ _ _ _ _ _ _ _ _ _ _ _ _ _ _ _ _ _ _ _ _ _ _ _ _ _ hn hN (rw_all HW.out h3 h4) (HW.out.gr.full (fun i hi => ndOf_few n Ln z i) hlt) HW.out.m (fun a c ha hc => h5.done hlt ha hc) HE.out
end Go.Proofs.YtpekpdimdelncaaGreatDoor
namespace Go.Proofs.YtpekpdimdelncaaGreatDoor
open Go.RowKit Go.Shelf
set_option linter.unusedVariables false
set_option linter.unusedSimpArgs false
theorem sw_new {w0 w : World} {lb n : Nat} {L : Nat → Prop} {nd : Nat → List Nat} (hla : La w lb Lard.LS.new L 0) (hL : ∀ k, L k → w0.heap.size ≤ k) (hB : Below w0.heap.size w0 w) : SW w0 (w.alloc (.cells (madeCells #[.slice none 0 0] n) 50)) lb n w.heap.size 0 Lard.LS.new L 0 (fun _ => 0) (fun _ => 0) (fun _ _ => false) nd := by
  have hB1 : Below w.heap.size w (w.alloc (.cells (madeCells #[.slice none 0 0] n) 50)) := (Below.refl _ w).alloc (Nat.le_refl _) _
  refine ⟨hla.below hB1, Mat.made w n hla.g.size, fun k hk => ⟨hL k hk, ?_, fun j hj => by omega⟩, ⟨hB.size, fun j hj => by omega⟩, hB.trans (hB1.mono hB.size), Lard.grI_new nd, fun a c ha => by omega, Nat.le_refl _⟩
  have := (hla.lat.lt hk).2
  omega
set_option maxRecDepth 100000 in
set_option maxHeartbeats 8000000 in
theorem rounds_any (w : World) (g : G w) (hd : Deb w) (o : Option Addr) (len cap n : Nat) (Ln : Nat → Nat) (z : Nat → Nat → Int) (hn : n = min len 12) (hlen : len ≤ maxLen) (hv : NeedAt w (.slice o len cap) n Ln z) :
    Calls Tryz.prog 7 #[.slice o len cap] w fun e w' => e = .returned (.bool true) ∧ Below w.heap.size w w' := by
  have HAW := hide (awake_any w g hd)
  have HG := hide (And.intro g hd)
  have HV := hide hv
  have hmk := fun w => run_make_row' (P := Tryz.prog) 49 50 (.slice none 0 0) 24 Tryz.underlying49 rowInfo rfl .i64 .i64 n (by omega) (by omega) w
  generalize hRR : (fun (e : Ending) (w' : World) => e = .returned (.bool true) ∧ Below w.heap.size w w') = E
  have HE : Hid (∀ w', Below w.heap.size w w' → E (.returned (.bool true)) w') := hide (fun w' hB => by rw [← hRR]; exact ⟨rfl, hB⟩)
  clear g hd hv hRR
  obtain ⟨c7, h7⟩ : ∃ c, dropC 7 (Tryz.f7.body.getD .skip) = c := ⟨_, rfl⟩
  have H7 := hide h7
  simp only [dropC, Tryz.f7, Option.getD] at h7
  go_enter Tryz.func7, Tryz.ntmps7
  rw [h7]
  clear h7
  go_wp2_with fail
  refine HAW.out.mono ?_
  rintro e w1 ⟨rfl, hB1⟩
  dsimp only
  have HN := hide (la_new w1 (HG.out.1.below hB1 HG.out.1.size) (HG.out.2.below hB1 HG.out.1.size))
  clear HAW
  go_wp2_with fail
  refine HN.out.mono ?_
  rintro e w2 ⟨lb, rfl, hla, hB2⟩
  dsimp only
  have HS : Hid (SW w (w2.alloc (.cells (madeCells #[.slice none 0 0] n) 50)) lb n w2.heap.size 0 Lard.LS.new _ 0 (fun _ => 0) (fun _ => 0) (fun _ _ => false) (ndOf n Ln z)) := hide (sw_new hla (fun k hk => Nat.le_trans hB1.size hk.1) (hB1.trans (hB2.mono hB1.size)))
  clear hla HN hB1 hB2
  unfold ptr
  by_cases hl : 12 < len
  · obtain rfl : n = 12 := by omega
    have hli : (12 : Int) < (len : Int) := by omega
    clear hn
    have hmk12 : ∀ w, (Instr.makeSlice 49 (.int .i64 12) (.int .i64 12)).run Tryz.prog w = .ok (.slice (some ⟨w.heap.size, 0, none⟩) 12 12) (w.alloc (.cells (madeCells #[.slice none 0 0] 12) 50)) := fun w => hmk w
    clear hmk
    go_wp2_with fail
    clear hmk12
    rw [← H7.out]
    refine rnd_set w _ lb 12 w2.heap.size Lard.LS.new _ 0 _ _ _ Ln z _ _ _ _ _ _ _ _ _ _ _ _ _ _ _ _ _ _ _ _ _ _ _ _ _ _ _ _ _ _ _ _ _ _ _ _ _ _ _ _ _ _ _ _ _ _ _ _ _ _ _ _ _ _ _ _ _ _ _ _ _ _ _ _ _ _ _ _ _ _ _ _ _ _ _ _ _ _ _ _ _ _ _ _ _ _ _ _ _ _ _ _ _ _ _ _ _ _ _ _ _ _ _ _ _ _ _ _ _ _ _ _ _ _ _ _ _ _ _ _ _ _ _ _ _ _ _ _ _ _ _ _ _ _ _ _ _ _ _ _ _ _ _ _ _ _ _ _ _ _ _ _ _ _ _ _ _ _ _ _ _ _ _ _ _ _ _ _ _ _ _ _ _ _ _ _ _ _ _ _ _ _ _ _ _ _ _ _ _ _ _ _ _ _ _ _ _ _ _ _ _ _ _ _ _ _ _ _ _ _ _ _ _ _ _ _ _ _ _ _ _ _ _ _ _ _ _ _ _ _ _ _ _ _ _ (Nat.le_refl _) (Nat.zero_le _) HV.out HS.out _ rfl ?_
    intro v7 v8 v9 v10 v11 v12 u27 u28 u29 u30 u31 u32 u33 u34 u35 u36 u37 u38 u39 u40 u41 u42 u43 u44 u45 u46 u47 u48 u49 u50 u51 u52 u53 u54 u55 u56 u57 u58 u59 u60 u61 u62 u63 u64 u65 u66 u67 u68 u69 u70 u71 u72 u73 u74 u75 u76 u77 u78 u79 u80 u81 u82 u83 u84 u85 u86 u87 u88 u89 u90 u91 u92 u93 u94 u95 u96 u97 u98 u99 u100 u101 u102 u103 u104 u105 u106 u107 u108 u109 u110 u111 u112 u113 u114 u115 u116 u117 u118 u119 u120 u121 u122 u123 u124 u125 u126 u127 u128 u129 u130 u131 u132 u133 u134 u135 u136 u137 u138 u139 u140 u141 u142 u143 u144 u145 u146 u147 u148 u149 u150 u151 u152 u153 u154 u155 u156 u157 u158 u159 u160 u161 u162 u163 u164 u165 u166 u167 u168 u169 u170 u171 u172 u173 u174 u175 u176 u177 u178 u179 u180 u181 u182 u183 u184 u185 u186 u187 u188 u189 u190 u191 u192 u193 u194 u195 u196 u197 u198 u199 u200 u201 u202 u203 u204 u205 u206 u207 u208 u209 u210 u211 u212 u213 u214 u215 u216 u217 u218 u219 u220 u221 u222 u223 u224 u225 u226 u227 u228 u229 u230 u231 u232 u233 u234 u235 u236 u237 u238 u239 u240 u241 u242 u243 u244 u245 u246 u247 u248 u249 u250 u251 u252 u253 u254 u255 u256 u257 u258 w' s L R C M h
    exact rnd_tail w w' lb 12 w2.heap.size s L _ R C M Ln z _ _ _ _ _ _ _ _ _ _ _ _ _ _ _ _ _ _ _ _ _ _ _ _ _ _ _ _ _ _ _ _ _ _ _ _ _ _ _ _ _ _ _ _ _ _ _ _ _ _ _ _ _ _ _ _ _ _ _ _ _ _ _ _ _ _ _ _ _ _ _ _ _ _ _ _ _ _ _ _ _ _ _ _ _ _ _ _ _ _ _ _ _ _ _ _ _ _ _ _ _ _ _ _ _ _ _ _ _ _ _ _ _ _ _ _ _ _ _ _ _ _ _ _ _ _ _ _ _ _ _ _ _ _ _ _ _ _ _ _ _ _ _ _ _ _ _ _ _ _ _ _ _ _ _ _ _ _ _ _ _ _ _ _ _ _ _ _ _ _ _ _ _ _ _ _ _ _ _ _ _ _ _ _ _ _ _ _ _ _ _ _ _ _ _ _ _ _ _ _ _ _ _ _ _ _ _ _ _ _ _ _ _ _ _ _ _ _ _ _ _ _ _ _ _ _ _ _ _ _ _ _ _ _ _ _ _ _ _ _ _ (Nat.le_refl _) (by omega) h HE.out
  · obtain rfl : n = len := by omega
    have hli : ¬ (12 : Int) < (n : Int) := by omega
    clear hn
    go_wp2_with fail
    clear hmk
    rw [← H7.out]
    refine rnd_set w _ lb n w2.heap.size Lard.LS.new _ 0 _ _ _ Ln z _ _ _ _ _ _ _ _ _ _ _ _ _ _ _ _ _ _ _ _ _ _ _ _ _ _ _ _ _ _ _ _ _ _ _ _ _ _ _ _ _ _ _ _ _ _ _ _ _ _ _ _ _ _ _ _ _ _ _ _ _ _ _ _ _ _ _ _ _ _ _ _ _ _ _ _ _ _ _ _ _ _ _ _ _ _ _ _ _ _ _ _ _ _ _ _ _ _ _ _ _ _ _ _ _ _ _ _ _ _ _ _ _ _ _ _ _ _ _ _ _ _ _ _ _ _ _ _ _ _ _ _ _ _ _ _ _ _ _ _ _ _ _ _ _ _ _ _ _ _ _ _ _ _ _ _ _ _ _ _ _ _ _ _ _ _ _ _ _ _ _ _ _ _ _ _ _ _ _ _ _ _ _ _ _ _ _ _ _ _ _ _ _ _ _ _ _ _ _ _ _ _ _ _ _ _ _ _ _ _ _ _ _ _ _ _ _ _ _ _ _ _ _ _ _ _ _ _ _ _ _ _ _ _ _ (by omega) (Nat.zero_le _) HV.out HS.out _ rfl ?_
    intro v7 v8 v9 v10 v11 v12 u27 u28 u29 u30 u31 u32 u33 u34 u35 u36 u37 u38 u39 u40 u41 u42 u43 u44 u45 u46 u47 u48 u49 u50 u51 u52 u53 u54 u55 u56 u57 u58 u59 u60 u61 u62 u63 u64 u65 u66 u67 u68 u69 u70 u71 u72 u73 u74 u75 u76 u77 u78 u79 u80 u81 u82 u83 u84 u85 u86 u87 u88 u89 u90 u91 u92 u93 u94 u95 u96 u97 u98 u99 u100 u101 u102 u103 u104 u105 u106 u107 u108 u109 u110 u111 u112 u113 u114 u115 u116 u117 u118 u119 u120 u121 u122 u123 u124 u125 u126 u127 u128 u129 u130 u131 u132 u133 u134 u135 u136 u137 u138 u139 u140 u141 u142 u143 u144 u145 u146 u147 u148 u149 u150 u151 u152 u153 u154 u155 u156 u157 u158 u159 u160 u161 u162 u163 u164 u165 u166 u167 u168 u169 u170 u171 u172 u173 u174 u175 u176 u177 u178 u179 u180 u181 u182 u183 u184 u185 u186 u187 u188 u189 u190 u191 u192 u193 u194 u195 u196 u197 u198 u199 u200 u201 u202 u203 u204 u205 u206 u207 u208 u209 u210 u211 u212 u213 u214 u215 u216 u217 u218 u219 u220 u221 u222 u223 u224 u225 u226 u227 u228 u229 u230 u231 u232 u233 u234 u235 u236 u237 u238 u239 u240 u241 u242 u243 u244 u245 u246 u247 u248 u249 u250 u251 u252 u253 u254 u255 u256 u257 u258 w' s L R C M h
    exact rnd_tail w w' lb n w2.heap.size s L _ R C M Ln z _ _ _ _ _ _ _ _ _ _ _ _ _ _ _ _ _ _ _ _ _ _ _ _ _ _ _ _ _ _ _ _ _ _ _ _ _ _ _ _ _ _ _ _ _ _ _ _ _ _ _ _ _ _ _ _ _ _ _ _ _ _ _ _ _ _ _ _ _ _ _ _ _ _ _ _ _ _ _ _ _ _ _ _ _ _ _ _ _ _ _ _ _ _ _ _ _ _ _ _ _ _ _ _ _ _ _ _ _ _ _ _ _ _ _ _ _ _ _ _ _ _ _ _ _ _ _ _ _ _ _ _ _ _ _ _ _ _ _ _ _ _ _ _ _ _ _ _ _ _ _ _ _ _ _ _ _ _ _ _ _ _ _ _ _ _ _ _ _ _ _ _ _ _ _ _ _ _ _ _ _ _ _ _ _ _ _ _ _ _ _ _ _ _ _ _ _ _ _ _ _ _ _ _ _ _ _ _ _ _ _ _ _ _ _ _ _ _ _ _ _ _ _ _ _ _ _ _ _ _ _ _ _ _ _ _ _ _ _ _ _ (by omega) (by omega) h HE.out
end Go.Proofs.YtpekpdimdelncaaGreatDoor
namespace Go.Proofs.YtpekpdimdelncaaGreatDoor.rounds
open Go.ChangeShapes Go.WideShapes Go.ChangeAt Go.RowKit Go.ChangeMaps
set_option maxRecDepth 100000 in
theorem closed : joinedFacts Tryz.pinned.checked.prog 7 Tryz.f7 (OpenSpec.ofChange Rows.roundsSpec).bare Rows.roundsRow = true := by kernel_rfl
end Go.Proofs.YtpekpdimdelncaaGreatDoor.rounds
