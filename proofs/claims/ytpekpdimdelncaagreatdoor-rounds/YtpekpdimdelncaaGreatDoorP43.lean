/- Out of: D4a, D4, D6. -/
import Derived.Test.YtpekpdimdelncaaGreatDoorP42
import Derived.Deep.Cut
import Derived.BigQuiet
import Derived.BigRegion
import Derived.BigGuard
import Derived.StillTailTactics
import Derived.Deep.RegionLaw
import Derived.Deep.AppendLies
namespace Go.Proofs.YtpekpdimdelncaaGreatDoor
open Go.RowKit Go.Shelf
set_option linter.unusedVariables false
set_option linter.unusedSimpArgs false
def findR (id : Nat) : Code → Option Code
  | .region i ops d => if i = id then some (.region i ops d) else none
  | .seq a b => (findR id a).or (findR id b)
  | .cond _ a b => (findR id a).or (findR id b)
  | .block _ b => findR id b
  | .loop b => findR id b
  | .scope b => findR id b
  | _ => none
theorem wpStill_not {P : Program} {ops : Array Oper} {w : World} {Q : Act → Prop} {a : Act} {o : Oper} {rest : List Oper} (hw : Region.wanted o (yielded ops a.tmps) = false) (h : wpStill P ops w Q rest (a.put o.dst undef)) : wpStill P ops w Q (o :: rest) a := by
  unfold wpStill
  rw [if_neg (by rw [hw]; exact Bool.false_ne_true)]
  exact h
theorem follows_mixed : Tryz.prog.follows .mixedOrders = true := by kernel_rfl
set_option maxRecDepth 100000 in
set_option maxHeartbeats 8000000 in
theorem fw_reg {Q : Exit → Act → World → Prop} (c : Code) (hc : (findR 37 (Tryz.f7.body.getD .skip)).getD .skip = c) (w : World) (n x i k fb fcp : Nat) (Ri Rx Ci Cx : Nat) (b1 b2 b3 : Bool) (u0 u1 u2 u3 u4 u6 u7 u8 u9 u10 u11 u12 u14 u18 u19 u20 u21 u22 u23 u24 u25 u26 u27 u28 u29 u30 u31 u32 u33 u34 u35 u36 u37 u38 u39 u40 u41 u42 u43 u44 u45 u46 u47 u48 u49 u50 u51 u52 u53 u54 u55 u56 u57 u58 u59 u60 u61 u62 u63 u64 u65 u66 u67 u68 u69 u70 u71 u72 u73 u74 u75 u76 u77 u78 u79 u80 u81 u82 u83 u84 u85 u86 u87 u88 u89 u90 u91 u92 u93 u94 u95 u96 u97 u98 u99 u100 u101 u102 u103 u104 u105 u106 u107 u108 u109 u110 u111 u112 u113 u114 u115 u116 u117 u118 u119 u120 u121 u122 u123 u124 u125 u126 u127 u128 u129 u130 u131 u132 u133 u134 u135 u136 u137 u138 u139 u140 u141 u142 u143 u144 u145 u146 u147 u148 u149 u150 u151 u152 u153 u154 u155 u156 u157 u158 u159 u160 u161 u162 u163 u164 u165 u166 u167 u168 u169 u170 u171 u172 u173 u174 u175 u176 u177 u178 u179 u180 u181 u182 u183 u184 u185 u186 u187 u188 u189 u190 u191 u192 u193 u194 u195 u196 u197 u198 u199 u200 u201 u202 u203 u204 u205 u206 u207 u208 u209 u210 u211 u212 u213 u214 u215 u216 u217 u218 u219 u220 u221 u222 u223 u224 u225 u226 u227 u228 u229 u230 u231 u232 u233 u234 u235 u236 u237 u238 u239 u240 u241 u242 u243 u244 u245 u246 u247 u248 u249 u250 u251 u252 u253 u254 u255 u256 u257 u258 : Value)
    (hx : (x : Int) < (n : Int)) (hi : (i : Int) < (n : Int)) (hk : (k : Int) < (n : Int))
    (c1 : w.cell? ⟨fb, i, none⟩ = some (.slice (some ⟨Ri, 0, none⟩) n Ci)) (c2 : w.cell? ⟨fb, x, none⟩ = some (.slice (some ⟨Rx, 0, none⟩) n Cx))
    (c3 : w.cell? ⟨Ri, k, none⟩ = some (.bool b1)) (c4 : w.cell? ⟨Ri, x, none⟩ = some (.bool b2)) (c5 : w.cell? ⟨Rx, k, none⟩ = some (.bool b3)) (fz : w.frozen? ⟨Ri, k, none⟩ = false)
    (hQ : ∀ (y124 y125 y126 y127 y128 y129 y130 y131 y132 y133 y134 y135 y136 y137 y138 y139 y140 y141 y142 y143 y144 y145 y146 y147 y148 y149 y150 y151 y152 y153 y154 : Value), Q .normal { tmps := #[u0, u1, u2, u3, u4, .int .i64 (n : Int), u6, u7, u8, u9, u10, u11, u12, .slice (some ⟨fb, 0, none⟩) n fcp, u14, .int .i64 (x : Int), .int .i64 (i : Int), .int .i64 (k : Int), u18, u19, u20, u21, u22, u23, u24, u25, u26, u27, u28, u29, u30, u31, u32, u33, u34, u35, u36, u37, u38, u39, u40, u41, u42, u43, u44, u45, u46, u47, u48, u49, u50, u51, u52, u53, u54, u55, u56, u57, u58, u59, u60, u61, u62, u63, u64, u65, u66, u67, u68, u69, u70, u71, u72, u73, u74, u75, u76, u77, u78, u79, u80, u81, u82, u83, u84, u85, u86, u87, u88, u89, u90, u91, u92, u93, u94, u95, u96, u97, u98, u99, u100, u101, u102, u103, u104, u105, u106, u107, u108, u109, u110, u111, u112, u113, u114, u115, u116, u117, u118, u119, u120, u121, u122, u123, y124, y125, y126, y127, y128, y129, y130, y131, y132, y133, y134, y135, y136, y137, y138, y139, y140, y141, y142, y143, y144, y145, y146, y147, y148, y149, y150, y151, y152, y153, y154, u155, u156, u157, u158, u159, u160, u161, u162, u163, u164, u165, u166, u167, u168, u169, u170, u171, u172, u173, u174, u175, u176, u177, u178, u179, u180, u181, u182, u183, u184, u185, u186, u187, u188, u189, u190, u191, u192, u193, u194, u195, u196, u197, u198, u199, u200, u201, u202, u203, u204, u205, u206, u207, u208, u209, u210, u211, u212, u213, u214, u215, u216, u217, u218, u219, u220, u221, u222, u223, u224, u225, u226, u227, u228, u229, u230, u231, u232, u233, u234, u235, u236, u237, u238, u239, u240, u241, u242, u243, u244, u245, u246, u247, u248, u249, u250, u251, u252, u253, u254, u255, u256, u257, u258], defers := [] } (w.setCell ⟨Ri, k, none⟩ (.bool (b1 || (b2 && b3)))).drew) :
    c.wp Tryz.prog Q { tmps := #[u0, u1, u2, u3, u4, .int .i64 (n : Int), u6, u7, u8, u9, u10, u11, u12, .slice (some ⟨fb, 0, none⟩) n fcp, u14, .int .i64 (x : Int), .int .i64 (i : Int), .int .i64 (k : Int), u18, u19, u20, u21, u22, u23, u24, u25, u26, u27, u28, u29, u30, u31, u32, u33, u34, u35, u36, u37, u38, u39, u40, u41, u42, u43, u44, u45, u46, u47, u48, u49, u50, u51, u52, u53, u54, u55, u56, u57, u58, u59, u60, u61, u62, u63, u64, u65, u66, u67, u68, u69, u70, u71, u72, u73, u74, u75, u76, u77, u78, u79, u80, u81, u82, u83, u84, u85, u86, u87, u88, u89, u90, u91, u92, u93, u94, u95, u96, u97, u98, u99, u100, u101, u102, u103, u104, u105, u106, u107, u108, u109, u110, u111, u112, u113, u114, u115, u116, u117, u118, u119, u120, u121, u122, u123, u124, u125, u126, u127, u128, u129, u130, u131, u132, u133, u134, u135, u136, u137, u138, u139, u140, u141, u142, u143, u144, u145, u146, u147, u148, u149, u150, u151, u152, u153, u154, u155, u156, u157, u158, u159, u160, u161, u162, u163, u164, u165, u166, u167, u168, u169, u170, u171, u172, u173, u174, u175, u176, u177, u178, u179, u180, u181, u182, u183, u184, u185, u186, u187, u188, u189, u190, u191, u192, u193, u194, u195, u196, u197, u198, u199, u200, u201, u202, u203, u204, u205, u206, u207, u208, u209, u210, u211, u212, u213, u214, u215, u216, u217, u218, u219, u220, u221, u222, u223, u224, u225, u226, u227, u228, u229, u230, u231, u232, u233, u234, u235, u236, u237, u238, u239, u240, u241, u242, u243, u244, u245, u246, u247, u248, u249, u250, u251, u252, u253, u254, u255, u256, u257, u258], defers := [] } w := by
  have HQ := hide hQ
  clear hQ
  conv at hc =>
    lhs
    whnf
  subst hc
  cases b1
  · cases b2
    · skip
      refine wp_region_still_tail 31 follows_mixed (by kernel_rfl) ?_
      simp only [List.take_succ_cons, List.take_zero, List.drop_succ_cons, List.drop_zero]
      iterate 21 (with_reducible refine wpStill_step (fun K hK => ?_); go_simp; with_reducible refine hK _ ?_; clear hK K)
      iterate 7 (with_reducible refine wpStill_not (by kernel_rfl) ?_; simp only [Act.put, List.setIfInBounds_toArray, List.set_cons_zero, List.set_cons_succ])
      iterate 3 (with_reducible refine wpStill_step (fun K hK => ?_); go_simp; with_reducible refine hK _ ?_; clear hK K)
      with_reducible refine wpStill_nil ?_
      show wpList _ _ _ _ _ w.drew
      go_wp2_with fail
      exact HQ.out _ _ _ _ _ _ _ _ _ _ _ _ _ _ _ _ _ _ _ _ _ _ _ _ _ _ _ _ _ _ _
    · skip
      refine wp_region_still_tail 31 follows_mixed (by kernel_rfl) ?_
      simp only [List.take_succ_cons, List.take_zero, List.drop_succ_cons, List.drop_zero]
      iterate 31 (with_reducible refine wpStill_step (fun K hK => ?_); go_simp; with_reducible refine hK _ ?_; clear hK K)
      with_reducible refine wpStill_nil ?_
      show wpList _ _ _ _ _ w.drew
      go_wp2_with fail
      exact HQ.out _ _ _ _ _ _ _ _ _ _ _ _ _ _ _ _ _ _ _ _ _ _ _ _ _ _ _ _ _ _ _
  · skip
    refine wp_region_still_tail 31 follows_mixed (by kernel_rfl) ?_
    simp only [List.take_succ_cons, List.take_zero, List.drop_succ_cons, List.drop_zero]
    iterate 13 (with_reducible refine wpStill_step (fun K hK => ?_); go_simp; with_reducible refine hK _ ?_; clear hK K)
    iterate 16 (with_reducible refine wpStill_not (by kernel_rfl) ?_; simp only [Act.put, List.setIfInBounds_toArray, List.set_cons_zero, List.set_cons_succ])
    iterate 2 (with_reducible refine wpStill_step (fun K hK => ?_); go_simp; with_reducible refine hK _ ?_; clear hK K)
    with_reducible refine wpStill_nil ?_
    show wpList _ _ _ _ _ w.drew
    go_wp2_with fail
    exact HQ.out _ _ _ _ _ _ _ _ _ _ _ _ _ _ _ _ _ _ _ _ _ _ _ _ _ _ _ _ _ _ _
end Go.Proofs.YtpekpdimdelncaaGreatDoor
namespace Go.Proofs.YtpekpdimdelncaaGreatDoor
open Go.RowKit Go.Shelf
set_option linter.unusedVariables false
set_option linter.unusedSimpArgs false
def dropC : Nat → Code → Code
  | 0, c => c
  | n + 1, .seq _ y => dropC n y
  | _, c => c
structure FarAt (w0 w : World) (fb n : Nat) (R Cp : Nat → Nat) (M : Nat → Nat → Bool) : Prop where
  mat : Mat w fb n n R Cp M
  frm : Frm (fun b => ∃ j, j < n ∧ b = R j) w0 w
theorem FarAt.drew {w0 w : World} {fb n : Nat} {R Cp : Nat → Nat} {M : Nat → Nat → Bool} (h : FarAt w0 w fb n R Cp M) (k : Nat) : FarAt w0 (w.drewN k) fb n R Cp M :=
  ⟨h.mat.same rfl (fun _ _ => rfl), ⟨h.frm.os, h.frm.tape, h.frm.output, h.frm.size, h.frm.block⟩⟩
theorem FarAt.put {w0 w : World} {fb n : Nat} {R Cp : Nat → Nat} {M : Nat → Nat → Bool} (h : FarAt w0 w fb n R Cp M) {i c : Nat} (hi : i < n) (hc : c < n) (b : Bool) : FarAt w0 (w.setCell ⟨R i, c, none⟩ (.bool b)) fb n R Cp (Lard.upd M i c b) := by
  refine ⟨h.mat.put hi hc b, ⟨h.frm.os, h.frm.tape, h.frm.output, by simpa [World.setCell] using h.frm.size, fun k hk hn => ?_⟩⟩
  rw [← h.frm.block k hk hn]
  exact Deep.blk_setCell_other _ _ _ _ (fun e => hn ⟨i, hi, e⟩)
theorem fw_next {w0 w : World} {fb n x i k : Nat} {R Cp : Nat → Nat} {M : Nat → Nat → Bool} {nd : Nat → List Nat} (h : FarAt w0 w fb n R Cp M ∧ Lard.Far nd n x i k M) (hx : x < n) (hi : i < n) (hk : k < n) (b : Bool) (hb : (M i k || (M i x && M x k)) = b) :
    FarAt w0 (w.setCell ⟨R i, k, none⟩ (.bool b)).drew fb n R Cp (Lard.upd M i k b) ∧ Lard.Far nd n x i (k + 1) (Lard.upd M i k b) := by
  subst hb
  have h1 := h.1.put hi hk (M i k || (M i x && M x k))
  exact ⟨⟨h1.mat.same rfl (fun _ _ => rfl), ⟨h1.frm.os, h1.frm.tape, h1.frm.output, h1.frm.size, h1.frm.block⟩⟩, h.2.step hx hi hk⟩
set_option maxRecDepth 100000 in
set_option maxHeartbeats 8000000 in
theorem rnd_fw {Q : Exit → Act → World → Prop} (wc : World) (n fb : Nat) (R Cp : Nat → Nat) (M : Nat → Nat → Bool) (nd : Nat → List Nat) (v0 v1 v3 v4 v6 v7 v8 v9 v10 v11 v12 v14 : Value) (u27 u28 u29 u30 u31 u32 u33 u34 u35 u36 u37 u38 u39 u40 u41 u42 u43 u44 u45 u46 u47 u48 u49 u50 u51 u52 u53 u54 u55 u56 u57 u58 u59 u60 u61 u62 u63 u64 u65 u66 u67 u68 u69 u70 u71 u72 u73 u74 u75 u76 u77 u78 u79 u80 u81 u82 u83 u84 u85 u86 u87 u88 u89 u90 u91 u92 u93 u94 u95 u96 u97 u98 u99 u100 u101 u102 u103 u104 u105 u106 u107 u108 u109 u110 u111 u112 u113 u114 u115 u116 u117 u118 u119 u120 u121 u122 u123 u124 u125 u126 u127 u128 u129 u130 u131 u132 u133 u134 u135 u136 u137 u138 u139 u140 u141 u142 u143 u144 u145 u146 u147 u148 u149 u150 u151 u152 u153 u154 u155 u156 u157 u158 u159 u160 u161 u162 u163 u164 u165 u166 u167 u168 u169 u170 u171 u172 u173 u174 u175 u176 u177 u178 u179 u180 u181 u182 u183 u184 u185 u186 u187 u188 u189 u190 u191 u192 u193 u194 u195 u196 u197 u198 u199 u200 u201 u202 u203 u204 u205 u206 u207 u208 u209 u210 u211 u212 u213 u214 u215 u216 u217 u218 u219 u220 u221 u222 u223 u224 u225 u226 u227 u228 u229 u230 u231 u232 u233 u234 u235 u236 u237 u238 u239 u240 u241 u242 u243 u244 u245 u246 u247 u248 u249 u250 u251 u252 u253 u254 u255 u256 u257 u258 : Value) (fcp : Nat)
    (hn : n ≤ 12) (hm : FarAt wc wc fb n R Cp M) (hf : Lard.Far nd n 0 0 0 M)
    (c11 : Code) (h11 : dropC 11 (Tryz.f7.body.getD .skip) = c11)
    (hK : ∀ (v15 v16 v17 : Value) (u27 u28 u29 u30 u31 u32 u33 u34 u35 u36 u37 u38 u39 u40 u41 u42 u43 u44 u45 u46 u47 u48 u49 u50 u51 u52 u53 u54 u55 u56 u57 u58 u59 u60 u61 u62 u63 u64 u65 u66 u67 u68 u69 u70 u71 u72 u73 u74 u75 u76 u77 u78 u79 u80 u81 u82 u83 u84 u85 u86 u87 u88 u89 u90 u91 u92 u93 u94 u95 u96 u97 u98 u99 u100 u101 u102 u103 u104 u105 u106 u107 u108 u109 u110 u111 u112 u113 u114 u115 u116 u117 u118 u119 u120 u121 u122 u123 u124 u125 u126 u127 u128 u129 u130 u131 u132 u133 u134 u135 u136 u137 u138 u139 u140 u141 u142 u143 u144 u145 u146 u147 u148 u149 u150 u151 u152 u153 u154 u155 u156 u157 u158 u159 u160 u161 u162 u163 u164 u165 u166 u167 u168 u169 u170 u171 u172 u173 u174 u175 u176 u177 u178 u179 u180 u181 u182 u183 u184 u185 u186 u187 u188 u189 u190 u191 u192 u193 u194 u195 u196 u197 u198 u199 u200 u201 u202 u203 u204 u205 u206 u207 u208 u209 u210 u211 u212 u213 u214 u215 u216 u217 u218 u219 u220 u221 u222 u223 u224 u225 u226 u227 u228 u229 u230 u231 u232 u233 u234 u235 u236 u237 u238 u239 u240 u241 u242 u243 u244 u245 u246 u247 u248 u249 u250 u251 u252 u253 u254 u255 u256 u257 u258 : Value) (w' : World) (M' : Nat → Nat → Bool), FarAt wc w' fb n R Cp M' → Lard.Far nd n n 0 0 M' → Code.wp Tryz.prog c11 Q { tmps := #[v0, v1, .bool false, v3, v4, .int .i64 (n : Int), v6, v7, v8, v9, v10, v11, v12, .slice (some ⟨fb, 0, none⟩) n fcp, v14, v15, v16, v17, undef, undef, undef, undef, undef, undef, undef, undef, undef, u27, u28, u29, u30, u31, u32, u33, u34, u35, u36, u37, u38, u39, u40, u41, u42, u43, u44, u45, u46, u47, u48, u49, u50, u51, u52, u53, u54, u55, u56, u57, u58, u59, u60, u61, u62, u63, u64, u65, u66, u67, u68, u69, u70, u71, u72, u73, u74, u75, u76, u77, u78, u79, u80, u81, u82, u83, u84, u85, u86, u87, u88, u89, u90, u91, u92, u93, u94, u95, u96, u97, u98, u99, u100, u101, u102, u103, u104, u105, u106, u107, u108, u109, u110, u111, u112, u113, u114, u115, u116, u117, u118, u119, u120, u121, u122, u123, u124, u125, u126, u127, u128, u129, u130, u131, u132, u133, u134, u135, u136, u137, u138, u139, u140, u141, u142, u143, u144, u145, u146, u147, u148, u149, u150, u151, u152, u153, u154, u155, u156, u157, u158, u159, u160, u161, u162, u163, u164, u165, u166, u167, u168, u169, u170, u171, u172, u173, u174, u175, u176, u177, u178, u179, u180, u181, u182, u183, u184, u185, u186, u187, u188, u189, u190, u191, u192, u193, u194, u195, u196, u197, u198, u199, u200, u201, u202, u203, u204, u205, u206, u207, u208, u209, u210, u211, u212, u213, u214, u215, u216, u217, u218, u219, u220, u221, u222, u223, u224, u225, u226, u227, u228, u229, u230, u231, u232, u233, u234, u235, u236, u237, u238, u239, u240, u241, u242, u243, u244, u245, u246, u247, u248, u249, u250, u251, u252, u253, u254, u255, u256, u257, u258], defers := [] } w') :
    Code.wp Tryz.prog (dropC 10 (Tryz.f7.body.getD .skip)) Q { tmps := #[v0, v1, .bool false, v3, v4, .int .i64 (n : Int), v6, v7, v8, v9, v10, v11, v12, .slice (some ⟨fb, 0, none⟩) n fcp, v14, undef, undef, undef, undef, undef, undef, undef, undef, undef, undef, undef, undef, u27, u28, u29, u30, u31, u32, u33, u34, u35, u36, u37, u38, u39, u40, u41, u42, u43, u44, u45, u46, u47, u48, u49, u50, u51, u52, u53, u54, u55, u56, u57, u58, u59, u60, u61, u62, u63, u64, u65, u66, u67, u68, u69, u70, u71, u72, u73, u74, u75, u76, u77, u78, u79, u80, u81, u82, u83, u84, u85, u86, u87, u88, u89, u90, u91, u92, u93, u94, u95, u96, u97, u98, u99, u100, u101, u102, u103, u104, u105, u106, u107, u108, u109, u110, u111, u112, u113, u114, u115, u116, u117, u118, u119, u120, u121, u122, u123, u124, u125, u126, u127, u128, u129, u130, u131, u132, u133, u134, u135, u136, u137, u138, u139, u140, u141, u142, u143, u144, u145, u146, u147, u148, u149, u150, u151, u152, u153, u154, u155, u156, u157, u158, u159, u160, u161, u162, u163, u164, u165, u166, u167, u168, u169, u170, u171, u172, u173, u174, u175, u176, u177, u178, u179, u180, u181, u182, u183, u184, u185, u186, u187, u188, u189, u190, u191, u192, u193, u194, u195, u196, u197, u198, u199, u200, u201, u202, u203, u204, u205, u206, u207, u208, u209, u210, u211, u212, u213, u214, u215, u216, u217, u218, u219, u220, u221, u222, u223, u224, u225, u226, u227, u228, u229, u230, u231, u232, u233, u234, u235, u236, u237, u238, u239, u240, u241, u242, u243, u244, u245, u246, u247, u248, u249, u250, u251, u252, u253, u254, u255, u256, u257, u258], defers := [] } wc := by
  have HK := hide hK
  clear hK
  have HM := hide (And.intro hm hf)
  clear hm hf
  obtain ⟨cd, hcd⟩ : ∃ cd, dropC 10 (Tryz.f7.body.getD .skip) = cd := ⟨_, rfl⟩
  rw [hcd]
  simp only [dropC, Tryz.f7, Option.getD] at hcd h11
  rw [h11] at hcd
  clear h11
  subst hcd
  refine wp_seq_k (fun K hKK => ?_)
  have HKK := hide hKK
  clear hKK
  go_wp2_with fail
  go_loopw [15] (fun xv wr => ∃ (x : Nat) (M' : Nat → Nat → Bool), x ≤ n ∧ xv = .int .i64 x ∧ Hid (FarAt wc wr fb n R Cp M' ∧ Lard.Far nd n x 0 0 M')) (fun xv _ => n - (intOf xv).toNat)
  case atStart => exact ⟨0, M, Nat.zero_le _, rfl, HM⟩
  case round =>
    obtain ⟨x, Mx, hx, rfl, HX⟩ := hrel
    by_cases hlt : x < n
    · have hxn : (x : Int) < (n : Int) := by omega
      go_wp2_with fail
      go_loopw [16] (fun iv wr => ∃ (i : Nat) (M' : Nat → Nat → Bool), i ≤ n ∧ iv = .int .i64 i ∧ Hid (FarAt wc wr fb n R Cp M' ∧ Lard.Far nd n x i 0 M')) (fun iv _ => n - (intOf iv).toNat)
      case atStart => exact ⟨0, Mx, Nat.zero_le _, rfl, HX⟩
      case round =>
        obtain ⟨i, Mi, hi, rfl, HI⟩ := hrel
        by_cases hlti : i < n
        · have hin : (i : Int) < (n : Int) := by omega
          go_wp2_with fail
          go_loopw [17] (fun kv wr => ∃ (k : Nat) (M' : Nat → Nat → Bool), k ≤ n ∧ kv = .int .i64 k ∧ Hid (FarAt wc wr fb n R Cp M' ∧ Lard.Far nd n x i k M')) (fun kv _ => n - (intOf kv).toNat)
          case atStart => exact ⟨0, Mi, Nat.zero_le _, rfl, HI⟩
          case round =>
            obtain ⟨k, Mk, hk, rfl, HKk⟩ := hrel
            by_cases hltk : k < n
            · have hkn : (k : Int) < (n : Int) := by omega
              have c1 := HKk.out.1.mat.rowAt hlti (Nat.le_refl _)
              have c2 := HKk.out.1.mat.rowAt hlt (Nat.le_refl _)
              have c3 := HKk.out.1.mat.at hlti hltk
              have c4 := HKk.out.1.mat.at hlti hlt
              have c5 := HKk.out.1.mat.at hlt hltk
              have fz := HKk.out.1.mat.froz hlti k
              go_upto_region 37 with fail
              refine fw_reg _ (by kernel_rfl) wr n x i k fb fcp (R i) (R x) (Cp i) (Cp x) (Mk i k) (Mk i x) (Mk x k) _ _ _ _ _ _ _ _ _ _ _ _ _ _ _ _ _ _ _ _ _ _ _ _ _ _ _ _ _ _ _ _ _ _ _ _ _ _ _ _ _ _ _ _ _ _ _ _ _ _ _ _ _ _ _ _ _ _ _ _ _ _ _ _ _ _ _ _ _ _ _ _ _ _ _ _ _ _ _ _ _ _ _ _ _ _ _ _ _ _ _ _ _ _ _ _ _ _ _ _ _ _ _ _ _ _ _ _ _ _ _ _ _ _ _ _ _ _ _ _ _ _ _ _ _ _ _ _ _ _ _ _ _ _ _ _ _ _ _ _ _ _ _ _ _ _ _ _ _ _ _ _ _ _ _ _ _ _ _ _ _ _ _ _ _ _ _ _ _ _ _ _ _ _ _ _ _ _ _ _ _ _ _ _ _ _ _ _ _ _ _ _ _ _ _ _ _ _ _ _ _ _ _ _ _ _ _ _ _ _ _ _ _ _ _ _ _ _ _ _ _ _ _ _ _ _ _ _ _ _ _ _ _ _ _ _ _ _ _ _ _ _ _ _ _ _ _ _ _ _ _ _ _ _ hxn hin hkn c1 c2 c3 c4 c5 fz (fun y124 y125 y126 y127 y128 y129 y130 y131 y132 y133 y134 y135 y136 y137 y138 y139 y140 y141 y142 y143 y144 y145 y146 y147 y148 y149 y150 y151 y152 y153 y154 => ?_)
              apply_assumption
              go_wp2_with fail
              refine ⟨⟨k + 1, _, by omega, by go_num, hide (fw_next HKk.out hlt hlti hltk _ rfl)⟩, ?_⟩
              simp [intOf]; omega
            · obtain rfl : n = k := by omega
              go_wp2_with fail
              refine ⟨⟨i + 1, Mk, by omega, by go_num, hide ⟨HKk.out.1, HKk.out.2.nextI⟩⟩, ?_⟩
              simp [intOf]; omega
        · obtain rfl : n = i := by omega
          go_wp2_with fail
          refine ⟨⟨x + 1, Mi, by omega, by go_num, hide ⟨HI.out.1, HI.out.2.nextX⟩⟩, ?_⟩
          simp [intOf]; omega
    · obtain rfl : n = x := by omega
      go_wp2_with fail
      exact HKK.out _ _ (HK.out _ _ _ _ _ _ _ _ _ _ _ _ _ _ _ _ _ _ _ _ _ _ _ _ _ _ _ _ _ _ _ _ _ _ _ _ _ _ _ _ _ _ _ _ _ _ _ _ _ _ _ _ _ _ _ _ _ _ _ _ _ _ _ _ _ _ _ _ _ _ _ _ _ _ _ _ _ _ _ _ _ _ _ _ _ _ _ _ _ _ _ _ _ _ _ _ _ _ _ _ _ _ _ _ _ _ _ _ _ _ _ _ _ _ _ _ _ _ _ _ _ _ _ _ _ _ _ _ _ _ _ _ _ _ _ _ _ _ _ _ _ _ _ _ _ _ _ _ _ _ _ _ _ _ _ _ _ _ _ _ _ _ _ _ _ _ _ _ _ _ _ _ _ _ _ _ _ _ _ _ _ _ _ _ _ _ _ _ _ _ _ _ _ _ _ _ _ _ _ _ _ _ _ _ _ _ _ _ _ _ _ _ _ _ _ _ _ _ _ _ _ _ _ _ _ _ _ _ _ _ _ _ _ _ _ _ Mx HX.out.1 HX.out.2)
end Go.Proofs.YtpekpdimdelncaaGreatDoor
namespace Go.Proofs.YtpekpdimdelncaaGreatDoor
open Go.RowKit Go.Shelf
set_option linter.unusedVariables false
set_option linter.unusedSimpArgs false
structure CopyAt (wc w : World) (fb n i : Nat) (Rf Cf : Nat → Nat) (M : Nat → Nat → Bool) : Prop where
  mat : Mat w fb n i Rf Cf M
  frm : Frm (fun b => b = fb) wc w
  new : ∀ j, j < i → wc.heap.size ≤ Rf j
theorem addr0 (b j : Nat) : (⟨b, 0, none⟩ : Addr).add j = ⟨b, j, none⟩ := by
  unfold Addr.add
  split <;> simp_all
theorem wp_normal {P : Program} {C : Code} {Q : Exit → Act → World → Prop} {a : Act} {w : World} (h : C.wp P (onlyN (fun a w => Q .normal a w)) a w) : C.wp P Q a w := wp_onlyN _ (fun _ _ h => h) h
theorem onlyN_of {K : Act → World → Prop} {a : Act} {w : World} (h : K a w) : onlyN K .normal a w := h
theorem boolInfo : (Tryz.prog.info? 4).map (fun i => (i.zero, i.size, i.bytes)) = some (some (.bool false), 1, 1) := by kernel_rfl
theorem brow_owns {w : World} {g cap n base : Nat} {f : Nat → Bool} (h : w.ownsRow base 4 1 (.slice (some ⟨g, 0, none⟩) n cap) n ((List.range n).map fun c => Value.bool (f c))) : BRow w g cap n f ∧ n ≤ cap := by
  obtain ⟨_, h | ⟨g', cap', cur, hv, hb, hg, hn, hm, hs, ht⟩⟩ := h
  · cases h.1
  · cases hv
    refine ⟨⟨fun c => cur[c]?.getD undef, ⟨cur, hg, by omega, fun i hi => ?_⟩, fun c hc => ?_⟩, hn⟩
    · show cur[i]? = some (cur[i]?.getD undef)
      rw [Array.getElem?_eq_getElem (by omega)]
      rfl
    · have h1 : (cur.toList.take (n * 1))[c]? = some (.bool (f c)) := by
        rw [ht, List.getElem?_map, List.getElem?_range hc]
        rfl
      rw [List.getElem?_take_of_lt (by omega)] at h1
      rw [Array.getElem?_toList] at h1
      show cur[c]?.getD undef = _
      rw [h1]
      rfl
theorem copy_next {wc wr w1 : World} {fb n i g cap : Nat} {Rf Cf : Nat → Nat} {M : Nat → Nat → Bool} (h : CopyAt wc wr fb n i Rf Cf M) (hi : i < n) (h8 : 8 ≤ wr.heap.size) (hgrow : wr.drew.grownBy w1 none) (hown : w1.ownsRow wr.heap.size 4 1 (.slice (some ⟨g, 0, none⟩) n cap) n ((List.range n).map fun c => Value.bool (M i c))) (hat : g = wr.heap.size) :
    CopyAt wc (w1.setCell ⟨fb, i, none⟩ (.slice (some ⟨g, 0, none⟩) n cap)) fb n (i + 1) (fun j => if j = i then g else Rf j) (fun j => if j = i then cap else Cf j) M := by
  obtain ⟨hrow, hcap⟩ := brow_owns hown
  have hsz : wr.heap.size ≤ w1.heap.size := hgrow.size
  have hblk : ∀ b, b < wr.heap.size → w1.heap[b]? = wr.heap[b]? := fun b hb => hgrow.block b hb (fun e => by cases e)
  have hm1 : Mat w1 fb n i Rf Cf M := h.mat.same (hblk _ h.mat.top.lt) (fun j hj => hblk _ (h.mat.row j hj).lt)
  have hfb := h.mat.top.lt
  have hp := hm1.push hi hrow hcap (by omega) (by omega) (fun j hj e => by have := (h.mat.row j hj).lt; omega)
  have hp2 := hp.congr (M' := M) (fun j c hj hc => by
    by_cases e : j = i
    · simp only [if_pos e]; rw [e]
    · simp only [if_neg e])
  refine ⟨hp2.same rfl (fun _ _ => rfl), ⟨hgrow.os.trans h.frm.os, hgrow.tape.trans h.frm.tape, hgrow.output.trans h.frm.output, ?_, fun b hb hn => ?_⟩, fun j hj => ?_⟩
  · have := h.frm.size
    show wc.heap.size ≤ (w1.setCell _ _).heap.size
    rw [show (w1.setCell ⟨fb, i, none⟩ (.slice (some ⟨g, 0, none⟩) n cap)).heap.size = w1.heap.size by simp [World.setCell]]
    omega
  · have := h.frm.size
    rw [← h.frm.block b hb hn, ← hblk b (by omega)]
    exact Deep.blk_setCell_other _ _ _ _ (fun e => hn e)
  · by_cases e : j = i
    · simp only [if_pos e]
      have := h.frm.size
      omega
    · simp only [if_neg e]
      exact h.new j (by omega)
set_option maxRecDepth 100000 in
set_option maxHeartbeats 8000000 in
theorem rnd_copy {Q : Exit → Act → World → Prop} (wc : World) (n tb fb tcp fcp : Nat) (Rt Ct R0 C0 : Nat → Nat) (Mt M0 : Nat → Nat → Bool) (v0 v1 v3 v4 v7 v8 v9 v10 v11 v12 : Value) (u27 u28 u29 u30 u31 u32 u33 u34 u35 u36 u37 u38 u39 u40 u41 u42 u43 u44 u45 u46 u47 u48 u49 u50 u51 u52 u53 u54 u55 u56 u57 u58 u59 u60 u61 u62 u63 u64 u65 u66 u67 u68 u69 u70 u71 u72 u73 u74 u75 u76 u77 u78 u79 u80 u81 u82 u83 u84 u85 u86 u87 u88 u89 u90 u91 u92 u93 u94 u95 u96 u97 u98 u99 u100 u101 u102 u103 u104 u105 u106 u107 u108 u109 u110 u111 u112 u113 u114 u115 u116 u117 u118 u119 u120 u121 u122 u123 u124 u125 u126 u127 u128 u129 u130 u131 u132 u133 u134 u135 u136 u137 u138 u139 u140 u141 u142 u143 u144 u145 u146 u147 u148 u149 u150 u151 u152 u153 u154 u155 u156 u157 u158 u159 u160 u161 u162 u163 u164 u165 u166 u167 u168 u169 u170 u171 u172 u173 u174 u175 u176 u177 u178 u179 u180 u181 u182 u183 u184 u185 u186 u187 u188 u189 u190 u191 u192 u193 u194 u195 u196 u197 u198 u199 u200 u201 u202 u203 u204 u205 u206 u207 u208 u209 u210 u211 u212 u213 u214 u215 u216 u217 u218 u219 u220 u221 u222 u223 u224 u225 u226 u227 u228 u229 u230 u231 u232 u233 u234 u235 u236 u237 u238 u239 u240 u241 u242 u243 u244 u245 u246 u247 u248 u249 u250 u251 u252 u253 u254 u255 u256 u257 u258 : Value)
    (hn : n ≤ 12) (h8 : 8 ≤ wc.heap.size) (ht : Mat wc tb n n Rt Ct Mt) (hf : Mat wc fb n 0 R0 C0 M0) (hne : tb ≠ fb) (hne2 : ∀ j, j < n → Rt j ≠ fb)
    (c10 : Code) (h10 : dropC 10 (Tryz.f7.body.getD .skip) = c10)
    (hK : ∀ (v14 : Value) (u27 u28 u29 u30 u31 u32 u33 u34 u35 u36 u37 u38 u39 u40 u41 u42 u43 u44 u45 u46 u47 u48 u49 u50 u51 u52 u53 u54 u55 u56 u57 u58 u59 u60 u61 u62 u63 u64 u65 u66 u67 u68 u69 u70 u71 u72 u73 u74 u75 u76 u77 u78 u79 u80 u81 u82 u83 u84 u85 u86 u87 u88 u89 u90 u91 u92 u93 u94 u95 u96 u97 u98 u99 u100 u101 u102 u103 u104 u105 u106 u107 u108 u109 u110 u111 u112 u113 u114 u115 u116 u117 u118 u119 u120 u121 u122 u123 u124 u125 u126 u127 u128 u129 u130 u131 u132 u133 u134 u135 u136 u137 u138 u139 u140 u141 u142 u143 u144 u145 u146 u147 u148 u149 u150 u151 u152 u153 u154 u155 u156 u157 u158 u159 u160 u161 u162 u163 u164 u165 u166 u167 u168 u169 u170 u171 u172 u173 u174 u175 u176 u177 u178 u179 u180 u181 u182 u183 u184 u185 u186 u187 u188 u189 u190 u191 u192 u193 u194 u195 u196 u197 u198 u199 u200 u201 u202 u203 u204 u205 u206 u207 u208 u209 u210 u211 u212 u213 u214 u215 u216 u217 u218 u219 u220 u221 u222 u223 u224 u225 u226 u227 u228 u229 u230 u231 u232 u233 u234 u235 u236 u237 u238 u239 u240 u241 u242 u243 u244 u245 u246 u247 u248 u249 u250 u251 u252 u253 u254 u255 u256 u257 u258 : Value) (w' : World) (Rf Cf : Nat → Nat), CopyAt wc w' fb n n Rf Cf Mt → Code.wp Tryz.prog c10 Q { tmps := #[v0, v1, .bool false, v3, v4, .int .i64 (n : Int), .slice (some ⟨tb, 0, none⟩) n tcp, v7, v8, v9, v10, v11, v12, .slice (some ⟨fb, 0, none⟩) n fcp, v14, undef, undef, undef, undef, undef, undef, undef, undef, undef, undef, undef, undef, u27, u28, u29, u30, u31, u32, u33, u34, u35, u36, u37, u38, u39, u40, u41, u42, u43, u44, u45, u46, u47, u48, u49, u50, u51, u52, u53, u54, u55, u56, u57, u58, u59, u60, u61, u62, u63, u64, u65, u66, u67, u68, u69, u70, u71, u72, u73, u74, u75, u76, u77, u78, u79, u80, u81, u82, u83, u84, u85, u86, u87, u88, u89, u90, u91, u92, u93, u94, u95, u96, u97, u98, u99, u100, u101, u102, u103, u104, u105, u106, u107, u108, u109, u110, u111, u112, u113, u114, u115, u116, u117, u118, u119, u120, u121, u122, u123, u124, u125, u126, u127, u128, u129, u130, u131, u132, u133, u134, u135, u136, u137, u138, u139, u140, u141, u142, u143, u144, u145, u146, u147, u148, u149, u150, u151, u152, u153, u154, u155, u156, u157, u158, u159, u160, u161, u162, u163, u164, u165, u166, u167, u168, u169, u170, u171, u172, u173, u174, u175, u176, u177, u178, u179, u180, u181, u182, u183, u184, u185, u186, u187, u188, u189, u190, u191, u192, u193, u194, u195, u196, u197, u198, u199, u200, u201, u202, u203, u204, u205, u206, u207, u208, u209, u210, u211, u212, u213, u214, u215, u216, u217, u218, u219, u220, u221, u222, u223, u224, u225, u226, u227, u228, u229, u230, u231, u232, u233, u234, u235, u236, u237, u238, u239, u240, u241, u242, u243, u244, u245, u246, u247, u248, u249, u250, u251, u252, u253, u254, u255, u256, u257, u258], defers := [] } w') :
    Code.wp Tryz.prog (dropC 9 (Tryz.f7.body.getD .skip)) Q { tmps := #[v0, v1, .bool false, v3, v4, .int .i64 (n : Int), .slice (some ⟨tb, 0, none⟩) n tcp, v7, v8, v9, v10, v11, v12, .slice (some ⟨fb, 0, none⟩) n fcp, undef, undef, undef, undef, undef, undef, undef, undef, undef, undef, undef, undef, undef, u27, u28, u29, u30, u31, u32, u33, u34, u35, u36, u37, u38, u39, u40, u41, u42, u43, u44, u45, u46, u47, u48, u49, u50, u51, u52, u53, u54, u55, u56, u57, u58, u59, u60, u61, u62, u63, u64, u65, u66, u67, u68, u69, u70, u71, u72, u73, u74, u75, u76, u77, u78, u79, u80, u81, u82, u83, u84, u85, u86, u87, u88, u89, u90, u91, u92, u93, u94, u95, u96, u97, u98, u99, u100, u101, u102, u103, u104, u105, u106, u107, u108, u109, u110, u111, u112, u113, u114, u115, u116, u117, u118, u119, u120, u121, u122, u123, u124, u125, u126, u127, u128, u129, u130, u131, u132, u133, u134, u135, u136, u137, u138, u139, u140, u141, u142, u143, u144, u145, u146, u147, u148, u149, u150, u151, u152, u153, u154, u155, u156, u157, u158, u159, u160, u161, u162, u163, u164, u165, u166, u167, u168, u169, u170, u171, u172, u173, u174, u175, u176, u177, u178, u179, u180, u181, u182, u183, u184, u185, u186, u187, u188, u189, u190, u191, u192, u193, u194, u195, u196, u197, u198, u199, u200, u201, u202, u203, u204, u205, u206, u207, u208, u209, u210, u211, u212, u213, u214, u215, u216, u217, u218, u219, u220, u221, u222, u223, u224, u225, u226, u227, u228, u229, u230, u231, u232, u233, u234, u235, u236, u237, u238, u239, u240, u241, u242, u243, u244, u245, u246, u247, u248, u249, u250, u251, u252, u253, u254, u255, u256, u257, u258], defers := [] } wc := by
  have HK := hide hK
  clear hK
  obtain ⟨ib, hib, hiz⟩ := Option.map_eq_some_iff.1 boolInfo
  simp only [Prod.mk.injEq] at hiz
  obtain ⟨hz0, hz1, hz2⟩ := hiz
  have HI := hide (And.intro hib (And.intro hz0 (And.intro hz1 hz2)))
  clear hib hz0 hz1 hz2
  have HM : Hid (CopyAt wc wc fb n 0 R0 C0 Mt) := hide ⟨hf.congr (fun j c hj => by omega), Frm.refl _ _, fun j hj => by omega⟩
  have HT := hide (And.intro ht (And.intro hne hne2))
  clear ht hf hne hne2
  obtain ⟨cd, hcd⟩ : ∃ cd, dropC 9 (Tryz.f7.body.getD .skip) = cd := ⟨_, rfl⟩
  rw [hcd]
  simp only [dropC, Tryz.f7, Option.getD] at hcd h10
  rw [h10] at hcd
  clear h10
  subst hcd
  refine wp_seq_k (fun K hKK => ?_)
  have HKK := hide hKK
  clear hKK
  go_wp2_with fail
  go_loopw [14] (fun iv wr => ∃ (i : Nat) (Rf Cf : Nat → Nat), i ≤ n ∧ iv = .int .i64 i ∧ Hid (CopyAt wc wr fb n i Rf Cf Mt)) (fun iv _ => n - (intOf iv).toNat)
  case atStart => exact ⟨0, R0, C0, Nat.zero_le _, rfl, HM⟩
  case round =>
    obtain ⟨i, Rf, Cf, hi, rfl, HX⟩ := hrel
    clear HM
    by_cases hlt : i < n
    · have hin : (i : Int) < (n : Int) := by omega
      have hsz := HX.out.frm.size
      have htm : Mat wr tb n n Rt Ct Mt := HT.out.1.frm HX.out.frm HT.out.2.1 HT.out.2.2
      have c1 : wr.cell? ⟨fb, i, none⟩ = some (.slice none 0 0) := by
        have := HX.out.mat.top.cell (i := i) hlt
        rw [if_neg (Nat.lt_irrefl i)] at this
        exact this
      have fz := HX.out.mat.top.frozen i
      have c2 := htm.rowAt hlt (Nat.le_refl _)
      have HC := hide (fun (j : Nat) (u : Value) (hu : ((List.range n).map fun c => Value.bool (Mt i c))[j]? = some u) => (by
        have hj : j < n := by
          have := (List.getElem?_eq_some_iff.1 hu).1
          simpa using this
        rw [List.getElem?_map, List.getElem?_range hj] at hu
        cases hu
        rw [addr0]
        exact htm.at hlt hj : wr.cell? ((⟨Rt i, 0, none⟩ : Addr).add j) = some u))
      have hfb := HX.out.mat.top.lt
      clear htm
      go_wp2_with fail
      refine wp_normal ?_
      go_region_law (refine step_append_lies _ rfl (.tmp 102) (.tmp 106) 50 rfl wr.heap.size 4 ib (.bool false) 1 1 Tryz.underlying50 HI.out.1 HI.out.2.1 HI.out.2.2.1 HI.out.2.2.2 rfl (by decide) (.slice none 0 0) 0 [] (by rfl) (World.ownsRow_nil _ _ _ _) ⟨Rt i, 0, none⟩ n (Ct i) ((List.range n).map fun c => Value.bool (Mt i c)) (by rfl) (by simp) (fun j u hu => HC.out j u hu) (fun u hu => by obtain ⟨c, _, rfl⟩ := List.mem_map.1 hu; rfl) (by omega) (by unfold maxLen; omega) (by omega) (Nat.le_refl _) wr.heap.size rfl ?_; intro g cap w1 hown hgrow hat hlt1; have c1' := (hgrow.cell_far ⟨fb, i, none⟩ hfb (fun e => by cases e)).trans c1; have fz' := (hgrow.frozen_far ⟨fb, i, none⟩ hfb (fun e => by cases e)).trans fz; rw [Nat.zero_add] at hown ⊢)
      all_goals
        refine onlyN_of ?_
        apply_assumption
        go_wp2_with fail
        refine ⟨⟨i + 1, _, _, by omega, by go_num, hide (copy_next HX.out hlt (by omega) hgrow hown (hat.resolve_left (fun e => by cases e)))⟩, ?_⟩
        simp [intOf]; omega
    · obtain rfl : n = i := by omega
      go_wp2_with fail
      exact HKK.out _ _ (HK.out _ _ _ _ _ _ _ _ _ _ _ _ _ _ _ _ _ _ _ _ _ _ _ _ _ _ _ _ _ _ _ _ _ _ _ _ _ _ _ _ _ _ _ _ _ _ _ _ _ _ _ _ _ _ _ _ _ _ _ _ _ _ _ _ _ _ _ _ _ _ _ _ _ _ _ _ _ _ _ _ _ _ _ _ _ _ _ _ _ _ _ _ _ _ _ _ _ _ _ _ _ _ _ _ _ _ _ _ _ _ _ _ _ _ _ _ _ _ _ _ _ _ _ _ _ _ _ _ _ _ _ _ _ _ _ _ _ _ _ _ _ _ _ _ _ _ _ _ _ _ _ _ _ _ _ _ _ _ _ _ _ _ _ _ _ _ _ _ _ _ _ _ _ _ _ _ _ _ _ _ _ _ _ _ _ _ _ _ _ _ _ _ _ _ _ _ _ _ _ _ _ _ _ _ _ _ _ _ _ _ _ _ _ _ _ _ _ _ _ _ _ _ _ _ _ _ _ _ _ _ _ _ _ _ Rf Cf HX.out)
end Go.Proofs.YtpekpdimdelncaaGreatDoor
