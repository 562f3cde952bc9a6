/- Out of: St, Sl, G1, G2. -/
import Derived.Test.YtpekpdimdelncaaGreatDoorP30
import Derived.Test.YtpekpdimdelncaaGreatDoorP40
import Derived.Test.YtpekpdimdelncaaGreatDoorP43
import Derived.Test.YtpekpdimdelncaaGreatDoorP42
namespace Go.Proofs.YtpekpdimdelncaaGreatDoor
namespace Lard
set_option linter.unusedVariables false
theorem quiet_ask {s : LS} (hs : Sound s) {k : By} (hu : Utd (srcOf s.has) s.has k) : (s.ask k).2.ran = [] ∧ (s.ask k).2.has = s.has ∧ (s.ask k).2.jr = s.jr := by
  obtain ⟨new, hon, _, _, _, hq, _⟩ := hs.bp k
  obtain rfl := hq hu
  have h1 := hon.ran
  have h2 := hon.quiet rfl
  exact ⟨by rw [h1]; rfl, h2.1, h2.2⟩
theorem ask_utd {s : LS} (hs : Sound s) {k : By} (h12 : (s.ask k).1 ≠ .error 12) : Utd (srcOf (s.ask k).2.has) (s.ask k).2.has k := by
  obtain ⟨new, hon, _, _, hu, _⟩ := hs.bp k
  rw [hs.src]
  exact (hu h12).1
theorem still_again {s : LS} (hs : Sound s) {k : By} (h12 : (s.ask k).1 ≠ .error 12) : ((s.ask k).2.ask k).2.ran = [] ∧ ((s.ask k).2.ask k).1 = (s.ask k).1 ∧ ((s.ask k).2.ask k).2.has = (s.ask k).2.has := by
  have h1 := quiet_ask (hs.ask k) (ask_utd hs h12)
  exact ⟨h1.1, ask_same (hs.ask k) hs (hs.src k) k, h1.2.1⟩
theorem utd_rules {e : Src} {h : List (By × Thing)} {k : By} (hn : ¬ Utd e h k) : ∃ t, e k = some (.inr t) :=
  Classical.byContradiction fun hc => hn (utd_none fun t ht => hc ⟨t, ht⟩)
theorem still_once {s : LS} (hs : Sound s) {k : By} : ((s.ask k).2.ran.map (·.key)).Nodup ∧ ((s.ask k).1 ≠ .error 12 → ∀ y ∈ (s.ask k).2.ran, ∃ kp, keptOf (s.ask k).2.has y.key = some kp) := by
  obtain ⟨new, hon, _, _, hu, _⟩ := hs.bp k
  have h1 : (s.ask k).2.ran = new := by rw [hon.ran]; rfl
  rw [h1]
  refine ⟨hon.nodup, fun h12 y hy => ?_⟩
  obtain ⟨t, ht⟩ := utd_rules (hon.old y hy).2.2.1
  obtain ⟨kp, h2, _⟩ := ((hu h12).2 y hy).rule ht
  exact ⟨kp, h2⟩
theorem utd_other {e e' : Src} {h h' : List (By × Thing)} {A : By → Prop} (hcl : ∀ x kp, A x → keptOf h x = some kp → ∀ q ∈ kp.needs, A q.1) (he : ∀ x, A x → e' x = e x) (hk : ∀ x, A x → keptOf h' x = keptOf h x) (hon : ∀ k t kp, e k = some (.inr t) → keptOf h k = some kp → Hon (prog t) [] kp.needs kp.worth) :
    ∀ (n : Nat) (k : By), A k → UtdN e h n k → UtdN e' h' n k ∧ ∀ w, W e k w → W e' k w
  | 0, k, ha, hu => by
    refine ⟨fun t ht => hu t (by rw [← he k ha]; exact ht), fun w hw => ?_⟩
    obtain ⟨m, hm⟩ := hw
    have hb : Base e k w := by
      cases m with
      | zero => exact hm
      | succ m =>
        rcases hm with hm | ⟨t, h1, _⟩
        · exact hm
        · exact (hu t h1).elim
    refine ⟨0, ?_⟩
    rcases hb with ⟨h1, h2⟩ | ⟨v, h1, h2⟩
    · exact .inl ⟨by rw [he k ha]; exact h1, h2⟩
    · exact .inr ⟨v, by rw [he k ha]; exact h1, h2⟩
  | n + 1, k, ha, hu => by
    rcases hu with hu | ⟨t, kp, h1, h2, h3⟩
    · obtain ⟨a, b⟩ := utd_other hcl he hk hon 0 k ha hu
      exact ⟨.inl a, b⟩
    · have hq : ∀ q ∈ kp.needs, UtdN e' h' n q.1 ∧ W e' q.1 q.2 := fun q hq => by
        obtain ⟨a, b⟩ := utd_other hcl he hk hon n q.1 (hcl k kp ha h2 q hq) (h3 q hq).2
        exact ⟨a, b _ (h3 q hq).1⟩
      have hh := hon k t kp h1 h2
      have h1' : e' k = some (.inr t) := by rw [he k ha]; exact h1
      refine ⟨.inr ⟨t, kp, h1', by rw [hk k ha]; exact h2, fun q hq' => ⟨(hq q hq').2, (hq q hq').1⟩⟩, fun w hw => ?_⟩
      have hw1 : W e k kp.worth := W.rule h1 (hh.all (fun q hq => (h3 q hq).1))
      rw [hw.det hw1]
      exact W.rule h1' (hh.all (fun q hq' => (hq q hq').2))
theorem still_other {s : LS} (hs : Sound s) {k m : By} {A : By → Prop} (ha : A k) (hcl : ∀ x kp, A x → keptOf s.has x = some kp → ∀ q ∈ kp.needs, A q.1) (hm : ¬ A m) (hu : Utd (srcOf s.has) s.has k) {th : Thing} (hf : FineT th) (hl : (look s.has m).isSome = true ∨ s.has.length < 40) (j : By) :
    (({ s with has := put s.has m th }.write j).ask k).2.ran = [] ∧ (({ s with has := put s.has m th }.write j).ask k).1 = (s.ask k).1 := by
  have hs' := hs.put hf hl j
  have he : ∀ x, A x → srcOf (put s.has m th) x = srcOf s.has x := fun x hx => by rw [src_put, if_neg (fun (e : m = x) => hm (e ▸ hx))]
  have hk : ∀ x, A x → keptOf (put s.has m th) x = keptOf s.has x := fun x hx => by rw [kept_put _ _ _ hf.1, if_neg (fun (e : m = x) => hm (e ▸ hx))]
  obtain ⟨n, hn⟩ := hu
  obtain ⟨h1, h2⟩ := utd_other (e' := srcOf (put s.has m th)) (h' := put s.has m th) hcl he hk hs.hon n k ha hn
  refine ⟨(quiet_ask hs' ⟨n, h1⟩).1, ?_⟩
  obtain ⟨_, _, i1, _⟩ := hs.bp k
  obtain ⟨_, _, i2, _⟩ := hs'.bp k
  have hw : ∃ w, W (srcOf s.has) k w := by
    cases n with
    | zero =>
      cases hb : srcOf s.has k with
      | none => exact ⟨.error 7, 0, .inl ⟨hb, rfl⟩⟩
      | some x =>
        cases x with
        | inl v => exact ⟨.ok v, 0, .inr ⟨v, hb, rfl⟩⟩
        | inr t => exact (hn t hb).elim
    | succ n =>
      rcases hn with hn | ⟨t, kp, g1, g2, g3⟩
      · cases hb : srcOf s.has k with
        | none => exact ⟨.error 7, 0, .inl ⟨hb, rfl⟩⟩
        | some x =>
          cases x with
          | inl v => exact ⟨.ok v, 0, .inr ⟨v, hb, rfl⟩⟩
          | inr t => exact (hn t hb).elim
      · exact ⟨kp.worth, W.rule g1 ((hs.hon k t kp g1 g2).all (fun q hq => (g3 q hq).1))⟩
  obtain ⟨w, hw⟩ := hw
  rw [i1.det (.inl hw)]
  exact i2.det (.inl (h2 w hw))
/-! What is kept. -/
theorem Sound.lose {s : LS} (h : Sound s) (key : By) : Sound (s.lose key) where
  ef := by
    show EF (srcOf (setKept s.has key none))
    rw [srcOf_setKept]
    exact h.ef
  hon k t kp h1 h2 := by
    have h1 : srcOf (setKept s.has key none) k = _ := h1
    have h2 : keptOf (setKept s.has key none) k = _ := h2
    rw [srcOf_setKept] at h1
    rw [keptOf_setKept] at h2
    split at h2
    · cases hl : look s.has k <;> rw [hl] at h2 <;> cases h2
    · exact h.hon k t kp h1 h2
  only k kp h2 := by
    have h2 : keptOf (setKept s.has key none) k = _ := h2
    show ∃ t, srcOf (setKept s.has key none) k = _
    rw [srcOf_setKept]
    rw [keptOf_setKept] at h2
    split at h2
    · cases hl : look s.has k <;> rw [hl] at h2 <;> cases h2
    · exact h.only k kp h2
  fine k kp h2 := by
    have h2 : keptOf (setKept s.has key none) k = _ := h2
    rw [keptOf_setKept] at h2
    split at h2
    · cases hl : look s.has k <;> rw [hl] at h2 <;> cases h2
    · exact h.fine k kp h2
  begun := h.begun
  kb := kb_setKept h.kb (fun kp e => by cases e)
  len := by
    show (setKept s.has key none).length ≤ 40
    unfold setKept
    rw [List.length_map]
    exact h.len
end Lard
end Go.Proofs.YtpekpdimdelncaaGreatDoor
namespace Go.Proofs.YtpekpdimdelncaaGreatDoor
namespace Lard
set_option linter.unusedVariables false
theorem ran_few {s : LS} (h : Sound s) (key : By) : (s.ask key).2.ran.length ≤ 40 := by
  have h1 := (h.nst key).ran
  have h2 : s.fresh.ran.length = 0 := rfl
  have h3 : Rs s.fresh ≤ s.has.length := by
    unfold Rs
    refine Nat.le_trans (List.length_filter_le _ _) ?_
    unfold ruled
    rw [List.length_map]
    exact List.length_filter_le _ _
  have := h.len
  omega
def needKeys : Option Keep → List By
  | none => []
  | some kp => kp.needs.map (·.1)
def allNeeds (h : List (By × Thing)) : List By := h.flatMap fun p => needKeys p.2.kept
theorem allNeeds_len {h : List (By × Thing)} (hk : KB h) : (allNeeds h).length ≤ h.length * 401 := by
  unfold allNeeds
  induction h with
  | nil => exact Nat.le_refl _
  | cons p h ih =>
    rw [List.flatMap_cons, List.length_append, List.length_cons]
    have h1 := ih (fun q hq => hk q (List.mem_cons_of_mem _ hq))
    have h2 : (needKeys p.2.kept).length ≤ 401 := by
      cases hp : p.2.kept with
      | none => exact Nat.zero_le _
      | some kp =>
        unfold needKeys
        rw [List.length_map]
        exact hk p List.mem_cons_self kp hp
    omega
structure Grows (s : LS) (k : By) (l : List By) (i : Nat) : Prop where
  nodup : l.Nodup
  first : k ∈ l
  sub : ∀ x ∈ l, x = k ∨ x ∈ allNeeds s.has
  shut : ∀ j x, j < i → l[j]? = some x → ∀ kp, keptOf s.has x = some kp → ∀ q ∈ kp.needs, q.1 ∈ l
section
variable {s : LS} {k : By} {l : List By} {i : Nat}
theorem Grows.start (s : LS) (k : By) : Grows s k [k] 0 := ⟨by simp, by simp, fun x hx => .inl (by simpa using hx), fun j x hj => by omega⟩
theorem Grows.len (h : Grows s k l i) (hs : Sound s) : l.length ≤ 16041 := by
  have h1 := nodup_sub l (k :: allNeeds s.has) h.nodup (fun x hx => by
    rcases h.sub x hx with rfl | hx
    · exact List.mem_cons_self
    · exact List.mem_cons_of_mem _ hx)
  have h2 := allNeeds_len hs.kb
  have h3 := hs.len
  simp only [List.length_cons] at h1
  have : s.has.length * 401 ≤ 40 * 401 := Nat.mul_le_mul_right _ h3
  omega
theorem kept_mem {h : List (By × Thing)} {x : By} {kp : Keep} (hk : keptOf h x = some kp) : ∀ q ∈ kp.needs, q.1 ∈ allNeeds h := by
  intro q hq
  unfold keptOf at hk
  cases hl : look h x with
  | none => rw [hl] at hk; cases hk
  | some th =>
    rw [hl] at hk
    have hk : th.kept = some kp := hk
    unfold look at hl
    cases hf : h.find? (fun p => p.1 == x) with
    | none => rw [hf] at hl; cases hl
    | some p =>
      rw [hf] at hl
      cases hl
      refine List.mem_flatMap.2 ⟨p, List.mem_of_find?_eq_some hf, ?_⟩
      rw [hk]
      exact List.mem_map.2 ⟨q, hq, rfl⟩
structure Grow2 (s : LS) (k : By) (l : List By) (i : Nat) (ns : List (By × Wo)) (j : Nat) : Prop where
  gr : Grows s k l i
  part : ∀ (a : Nat) q, a < j → ns[a]? = some q → q.1 ∈ l
theorem Grow2.skip {ns : List (By × Wo)} {j : Nat} {q : By × Wo} (h : Grow2 s k l i ns j) (hq : ns[j]? = some q) (hm : q.1 ∈ l) : Grow2 s k l i ns (j + 1) :=
  ⟨h.gr, fun a p ha hp => by
    by_cases e : a = j
    · subst e
      rw [hq] at hp
      cases hp
      exact hm
    · exact h.part a p (by omega) hp⟩
theorem Grow2.push {ns : List (By × Wo)} {j : Nat} {q : By × Wo} (h : Grow2 s k l i ns j) (hi : i < l.length) (hq : ns[j]? = some q) (hm : q.1 ∉ l) (hn : q.1 ∈ allNeeds s.has) : Grow2 s k (l ++ [q.1]) i ns (j + 1) := by
  refine ⟨⟨?_, List.mem_append_left _ h.gr.first, fun x hx => ?_, fun a x ha hx kp hkp p hp => ?_⟩, fun a p ha hp => ?_⟩
  · rw [List.nodup_append]
    refine ⟨h.gr.nodup, by simp, fun x hx y hy => ?_⟩
    rw [List.mem_singleton.1 hy]
    exact fun e => hm (e ▸ hx)
  · rcases List.mem_append.1 hx with hx | hx
    · exact h.gr.sub x hx
    · rw [List.mem_singleton.1 hx]
      exact .inr hn
  · rw [List.getElem?_append_left (by omega)] at hx
    exact List.mem_append_left _ (h.gr.shut a x ha hx kp hkp p hp)
  · by_cases e : a = j
    · subst e
      rw [hq] at hp
      cases hp
      simp
    · exact List.mem_append_left _ (h.part a p (by omega) hp)
theorem Grow2.done {kp : Keep} {x : By} (h : Grow2 s k l i kp.needs kp.needs.length) (hx : l[i]? = some x) (hk : keptOf s.has x = some kp) : Grows s k l (i + 1) :=
  ⟨h.gr.nodup, h.gr.first, h.gr.sub, fun j y hj hy kp' hk' q hq => by
    by_cases e : j = i
    · subst e
      rw [hx] at hy
      cases hy
      rw [hk] at hk'
      cases hk'
      obtain ⟨a, ha⟩ := List.getElem?_of_mem hq
      exact h.part a q (List.getElem?_eq_some_iff.1 ha).1 ha
    · exact h.gr.shut j y (by omega) hy kp' hk' q hq⟩
theorem Grows.none {x : By} (h : Grows s k l i) (hx : l[i]? = some x) (hk : keptOf s.has x = none) : Grows s k l (i + 1) :=
  ⟨h.nodup, h.first, h.sub, fun j y hj hy kp' hk' q hq => by
    by_cases e : j = i
    · subst e
      rw [hx] at hy
      cases hy
      rw [hk] at hk'
      cases hk'
    · exact h.shut j y (by omega) hy kp' hk' q hq⟩
theorem Grows.closed (h : Grows s k l l.length) : ∀ x kp, x ∈ l → keptOf s.has x = some kp → ∀ q ∈ kp.needs, q.1 ∈ l := by
  intro x kp hx hk q hq
  obtain ⟨j, hj⟩ := List.getElem?_of_mem hx
  exact h.shut j x (List.getElem?_eq_some_iff.1 hj).1 hj kp hk q hq
end
end Lard
end Go.Proofs.YtpekpdimdelncaaGreatDoor
namespace Go.Proofs.YtpekpdimdelncaaGreatDoor
set_option maxRecDepth 100000
set_option maxHeartbeats 8000000
open Go.RowKit Go.Shelf
set_option linter.unusedVariables false
set_option linter.unusedSimpArgs false
structure LW (w0 w : World) (lb : Nat) (s : Lard.LS) (L : Nat → Prop) (N : Nat) : Prop where
  la : La w lb s L N
  off : ∀ k, L k → w0.heap.size ≤ k
  bel : Below w0.heap.size w0 w
section
variable {w0 w w' : World} {lb : Nat} {s s' : Lard.LS} {L : Nat → Prop} {N M : Nat}
theorem LW.below (h : LW w0 w lb s L N) (hB : Below w.heap.size w w') : LW w0 w' lb s L N := ⟨h.la.below hB, h.off, h.bel.trans (hB.mono h.bel.size)⟩
theorem LW.post (h : LW w0 w lb s L N) (hP : LaPost w lb L s' M w') : ∃ L', LW w0 w' lb s' L' M := by
  obtain ⟨L', h1, h2, h3, h4⟩ := hP
  have hb0 := h.bel.size
  refine ⟨L', h1, fun k hk => ?_, ?_⟩
  · rcases h2 k hk with h5 | h5
    · exact h.off k h5
    · omega
  · exact h.bel.trans ⟨h4.os, h4.tape, h4.output, h4.size, fun k hk => h4.block k (by omega) (fun hl => by have := h.off k hl; omega)⟩
end
def tailT : Nat → Code → Code
  | 0, c => c
  | n + 1, .seq _ y => tailT n y
  | _, c => c
theorem rd77 : Lard.rdV [55, 55] = some (Lard.vn 77) := by kernel_rfl
theorem st_end {E : Ending → World → Prop} (w0 wc : World) (lb : Nat) (s : Lard.LS) (L : Nat → Prop) (N k0 : Nat) (l : List (List UInt8)) (ot tc : Int) (ts : ByteArray) (base : Nat) (v25 : Value) (v0 v1 v3 v4 v5 v7 v8 v13 v14 v15 v16 v17 v18 v19 v20 v21 v22 v23 v24 v26 v27 v28 v29 v30 v31 : Value) (u39 u40 u41 u42 u43 u44 u45 u46 u47 u48 u49 u50 u51 u52 u53 u54 u55 u56 u57 u58 u59 u60 u61 u62 u63 u64 u65 u66 u67 u68 u69 u70 u71 u72 u73 u74 u75 u76 u77 u78 u79 u80 u81 u82 u83 u84 u85 u86 u87 u88 u89 u90 u91 u92 u93 u94 u95 u96 u97 u98 u99 u100 u101 u102 u103 u104 u105 u106 u107 u108 u109 u110 u111 u112 u113 u114 u115 u116 u117 u118 u119 u120 u121 u122 u123 u124 u125 u126 u127 u128 u129 u130 u131 u132 u133 u134 u135 u136 u137 u138 u139 u140 u141 u142 u143 u144 u145 u146 u147 u148 u149 u150 u151 u152 u153 u154 u155 u156 u157 u158 u159 u160 u161 u162 u163 u164 u165 u166 u167 u168 u169 u170 u171 u172 u173 u174 u175 u176 u177 u178 u179 u180 u181 u182 u183 u184 u185 u186 u187 u188 u189 u190 u191 u192 u193 u194 u195 u196 u197 u198 u199 : Value)
    (hN : N ≤ 1000000000000) (hw : LW w0 wc lb s L N) (hk0 : k0 < 8) (hot : -9223372036854775808 ≤ ot ∧ ot ≤ 9223372036854775807) (hroom : s.has.length < 40)
    (hl : wc.ownsRow base 9 1 v25 l.length (l.map str)) (hlen : l.length ≤ 1000000) (hg : Lard.Grows s (Lard.keyText k0) l l.length)
    (hu : Lard.Utd (Lard.srcOf s.has) s.has (Lard.keyText k0)) (hr : toldV (s.ask (Lard.keyText k0)).1 = .agg #[.int .i64 tc, .string ts])
    (hE : ∀ w', Below w0.heap.size w0 w' → E (.returned (.bool true)) w') :
    Code.wp Tryz.prog (tailT 16 (Tryz.f9.body.getD .skip)) (bodyPost Tryz.prog Tryz.f9 E) { tmps := #[v0, v1, .int .i64 ot, v3, v4, v5, .bool false, v7, v8, .pointer (some ⟨lb, 0, none⟩), .string (keyB k0), .string ts, .int .i64 tc, v13, v14, v15, v16, v17, v18, v19, v20, v21, v22, v23, v24, v25, v26, v27, v28, v29, v30, v31, undef, undef, undef, undef, undef, undef, undef, u39, u40, u41, u42, u43, u44, u45, u46, u47, u48, u49, u50, u51, u52, u53, u54, u55, u56, u57, u58, u59, u60, u61, u62, u63, u64, u65, u66, u67, u68, u69, u70, u71, u72, u73, u74, u75, u76, u77, u78, u79, u80, u81, u82, u83, u84, u85, u86, u87, u88, u89, u90, u91, u92, u93, u94, u95, u96, u97, u98, u99, u100, u101, u102, u103, u104, u105, u106, u107, u108, u109, u110, u111, u112, u113, u114, u115, u116, u117, u118, u119, u120, u121, u122, u123, u124, u125, u126, u127, u128, u129, u130, u131, u132, u133, u134, u135, u136, u137, u138, u139, u140, u141, u142, u143, u144, u145, u146, u147, u148, u149, u150, u151, u152, u153, u154, u155, u156, u157, u158, u159, u160, u161, u162, u163, u164, u165, u166, u167, u168, u169, u170, u171, u172, u173, u174, u175, u176, u177, u178, u179, u180, u181, u182, u183, u184, u185, u186, u187, u188, u189, u190, u191, u192, u193, u194, u195, u196, u197, u198, u199], defers := [] } wc := by
  have HP := hide (pick_any ot 8 wc hot.1 hot.2 (by omega) (by omega))
  have hm : pickN ot 8 < 8 := Nat.mod_lt _ (by omega)
  generalize pickN ot 8 = m at HP hm
  have HY := hide (key_any m wc (by omega))
  have HW := hide (And.intro hw (And.intro hl (And.intro hg (And.intro hu (And.intro hr hroom)))))
  have HE := hide hE
  have hnm := keyB_name m (by omega)
  have hnk := keyB_name k0 (by omega)
  clear hw hE hl hg hu hr hot hroom
  obtain ⟨cd, hcd⟩ : ∃ cd, tailT 16 (Tryz.f9.body.getD .skip) = cd := ⟨_, rfl⟩
  rw [hcd]
  simp only [tailT, Tryz.f9, Option.getD] at hcd
  subst hcd
  go_wp2_with fail
  refine HP.out.mono ?_
  rintro e w' ⟨rfl, hw'⟩
  obtain rfl := hw'.symm
  dsimp only
  go_wp2_with fail
  refine HY.out.mono ?_
  rintro e w1 ⟨rfl, hB1⟩
  dsimp only
  have hw1 := HW.out.1.below hB1
  have hl1 : w1.ownsRow base 9 1 v25 l.length (l.map str) := by
    have h1 := HW.out.2.1
    refine ⟨h1.1, ?_⟩
    rcases h1.2 with h | ⟨g, cap, cur, a, b, c, d⟩
    · exact .inl h
    · exact .inr ⟨g, cap, cur, a, b, (hB1.block g (lt_of_some c)).trans c, d⟩
  have HIN := hide (in_any w1 base v25 l (keyB m) hl1 (by omega))
  rw [keyB_list] at HIN
  obtain ⟨bn, hbn⟩ : ∃ b, l.contains (Lard.keyText m) = b := ⟨_, rfl⟩
  rw [hbn] at HIN
  have HPU := hide (la_put hw1.la (keyB m) ⟨#[55, 55]⟩ (Lard.vn 77) hnm rd77 HW.out.2.2.2.2.2 (by show 2 ≤ 1000; omega) (by omega))
  have H1 := hide hw1
  unfold ptr at HPU
  clear HP HY hB1 hw1 hl1
  go_wp2_with fail
  refine HIN.out.mono ?_
  rintro e w' ⟨rfl, hw'⟩
  obtain rfl := hw'.symm
  dsimp only
  clear HIN
  go_wp2_with fail
  refine HPU.out.mono ?_
  rintro e w2 ⟨rfl, hP2⟩
  dsimp only
  rw [keyB_list] at hP2
  obtain ⟨L2, h2⟩ := H1.out.post hP2
  have HA := hide (la_ask h2.la (keyB k0) hnk (by omega))
  have H2 := hide h2
  unfold ptr at HA
  clear HPU H1 hP2 h2
  go_wp2_with fail
  refine HA.out.mono ?_
  rintro e w3 ⟨v, tc3, ts3, rfl, htv, hP3, o3, c3, rfl, -⟩
  dsimp only
  rw [keyB_list] at htv hP3 ⊢
  obtain ⟨L3, h3⟩ := H2.out.post hP3
  have hf3 : ((s.gv (Lard.keyText m) ⟨Lard.vn 77, none, [], none⟩).ask (Lard.keyText k0)).2.ran.length ≤ 1000000000 := by
    have := Lard.ran_few H2.out.la.sound (Lard.keyText k0)
    omega
  have HR := hide (ran_any w3 lb _ L3 h3.la.lat hf3)
  have H3 := hide h3
  have HTV := hide htv
  unfold ptr at HR
  clear HA H2 hP3 h3 htv hf3
  generalize (if tc3 = 12 then ((s.gv (Lard.keyText m) ⟨Lard.vn 77, none, [], none⟩).ask (Lard.keyText k0)).2.ring else []).length = len3
  go_wp2_with fail
  refine HR.out.mono ?_
  rintro e w4 ⟨v4', rfl, ho4, hB4⟩
  dsimp only
  have HF := hide (HE.out w4 (H3.out.below hB4).bel)
  obtain ⟨o4, c4, rfl⟩ : ∃ o4 c4, v4' = .slice o4 ((s.gv (Lard.keyText m) ⟨Lard.vn 77, none, [], none⟩).ask (Lard.keyText k0)).2.ran.length c4 := by
    rcases ho4.2 with ⟨e, h0⟩ | ⟨g, cap, cur, e, _⟩
    · exact ⟨none, 0, by rw [e, h0]⟩
    · exact ⟨_, _, e⟩
  clear HE HR ho4 hB4
  cases bn with
  | true =>
    clear hbn HTV HW
    generalize ((s.gv (Lard.keyText m) ⟨Lard.vn 77, none, [], none⟩).ask (Lard.keyText k0)).2.ran.length = n4
    go_wp2_with fail
    exact HF.out
  | false =>
    have hin : Lard.keyText m ∉ l := by simpa using hbn
    have hso := Lard.still_other HW.out.1.la.sound (A := fun x => x ∈ l) HW.out.2.2.1.first (fun x kp hx hk q hq => HW.out.2.2.1.closed x kp hx hk q hq) hin HW.out.2.2.2.1 (th := ⟨Lard.vn 77, none, [], none⟩) ⟨rfl, .inl ⟨rfl, Lard.l3_n 77⟩⟩ (.inr HW.out.2.2.2.2.2) (Lard.thingText (Lard.keyText m) ⟨Lard.vn 77, none, [], none⟩)
    have h1 : ((s.gv (Lard.keyText m) ⟨Lard.vn 77, none, [], none⟩).ask (Lard.keyText k0)).2.ran.length = 0 := by
      have : ((s.gv (Lard.keyText m) ⟨Lard.vn 77, none, [], none⟩).ask (Lard.keyText k0)).2.ran = [] := hso.1
      rw [this]
      rfl
    have h2 : ((s.gv (Lard.keyText m) ⟨Lard.vn 77, none, [], none⟩).ask (Lard.keyText k0)).1 = (s.ask (Lard.keyText k0)).1 := hso.2
    have htv := HTV.out
    rw [h2] at htv
    obtain ⟨rfl, rfl⟩ := told_same2 HW.out.2.2.2.2.1 htv
    rw [h1]
    clear hbn hso h1 h2 htv HTV HW hin
    go_wp2_with fail
    exact HF.out
end Go.Proofs.YtpekpdimdelncaaGreatDoor
namespace Go.Proofs.YtpekpdimdelncaaGreatDoor
open Go.RowKit Go.Shelf
set_option linter.unusedVariables false
set_option linter.unusedSimpArgs false
theorem strInfo9 : (Tryz.prog.info? 9).map (fun i => (i.zero, i.size, i.bytes)) = some (some (.string ⟨#[]⟩), 1, 16) := by kernel_rfl
theorem imm_str : ¬ Imm 9 := by unfold Imm; decide
structure SR (w0 w : World) (L : Nat → Prop) (v : Value) (l : List (List UInt8)) : Prop where
  row : w.ownsRow 8 9 1 v l.length (l.map str)
  own : ∀ g, v.ownBlock = some g → w0.heap.size ≤ g ∧ ¬ L g
section
variable {w0 w w' : World} {lb : Nat} {s s' : Lard.LS} {L L' : Nat → Prop} {N M : Nat} {v : Value} {l : List (List UInt8)}
theorem SR.nil (w0 w : World) (L : Nat → Prop) : SR w0 w L (.slice none 0 0) [] := ⟨World.ownsRow_nil _ _ _ _, fun g h => by cases h⟩
theorem owns_block {base size n : Nat} {e : TypeId} {xs : List Value} (h : w.ownsRow base e size v n xs) {g : Nat} (hg : v.ownBlock = some g) : g < w.heap.size ∧ base ≤ g ∧ ∃ cs fz, w.heap[g]? = some (.cells cs e fz) := by
  rcases h.2 with ⟨rfl, _⟩ | ⟨g', cap, cur, rfl, hb, hc, _⟩
  · cases hg
  · cases hg
    exact ⟨lt_of_some hc, hb, cur, (0, 0), hc⟩
theorem owns_same {base size n : Nat} {e : TypeId} {xs : List Value} (h : w.ownsRow base e size v n xs) (hs : ∀ g, v.ownBlock = some g → w'.heap[g]? = w.heap[g]?) : w'.ownsRow base e size v n xs := by
  refine ⟨h.1, ?_⟩
  rcases h.2 with h1 | ⟨g, cap, cur, rfl, b, c, d⟩
  · exact .inl h1
  · exact .inr ⟨g, cap, cur, rfl, b, (hs g rfl).trans c, d⟩
theorem SR.below (h : SR w0 w L v l) (hB : Below w.heap.size w w') : SR w0 w' L v l := ⟨owns_same h.row (fun g hg => hB.block g (owns_block h.row hg).1), h.own⟩
theorem SR.post (h : SR w0 w L v l) (hP : LaPost w lb L s' M w') (hL' : ∀ k, L' k → L k ∨ w.heap.size ≤ k) (hf : Frm L w w') : SR w0 w' L' v l :=
  ⟨owns_same h.row (fun g hg => hf.block g (owns_block h.row hg).1 (h.own g hg).2), fun g hg => ⟨(h.own g hg).1, fun hl => by
    rcases hL' g hl with h1 | h1
    · exact (h.own g hg).2 h1
    · have := (owns_block h.row hg).1
      omega⟩⟩
theorem SR.push (h : SR w0 w L v l) (hw : LW w0 w lb s L N) (x : List UInt8) (ad : Addr) (c : Nat) (hx : w.cell? ad = some (str x)) (hl : l.length ≤ 1000000) :
    ∃ g cap w', (Builtin.append_ #[40, 40] 40 #[v, .slice (some ad) 1 c]).run Tryz.prog w = .ok (.slice (some ⟨g, 0, none⟩) (l.length + 1) cap) w' ∧ SR w0 w' L (.slice (some ⟨g, 0, none⟩) (l.length + 1) cap) (l ++ [x]) ∧ LW w0 w' lb s L N ∧ w.grownBy w' v.ownBlock ∧ (v.ownBlock = some g ∨ g = w.heap.size) := by
  obtain ⟨g, cap, w', h1, h2, h3, h4, h5⟩ := append_row 40 40 9 _ 1 16 Tryz.underlying40 strInfo9 rfl (by decide) v l.length (l.map str) h.row ad c [str x] rfl (fun j u hu => by
    cases j with
    | zero =>
      simp at hu
      subst hu
      exact hx
    | succ j => simp at hu) (fun u hu => by rw [List.mem_singleton.1 hu]; rfl) (by omega) (by unfold maxLen; omega) hw.la.g.size
  have hsz := hw.bel.size
  have hrow : v.ownBlock = some g ∨ g = w.heap.size := h4
  have hLW : LW w0 w' lb s L N := by
    refine ⟨hw.la.other (L2 := fun k => v.ownBlock = some k) ⟨h3.os, h3.tape, h3.output, h3.size, fun k hk hn => h3.block k hk (fun e => hn e.symm)⟩ (fun k hk => ?_) (fun k hk cs t fz hc => ?_) (fun k hk e => (h.own k e).2 hk), hw.off, hw.bel.trans ⟨h3.os, h3.tape, h3.output, h3.size, fun k hk => h3.block k (by omega) (fun e => by have := (h.own k e.symm).1; omega)⟩⟩
    · exact (owns_block h.row hk).2.1
    · obtain ⟨_, _, cs', fz', hc'⟩ := owns_block h.row hk
      rw [hc'] at hc
      cases hc
      exact imm_str
  refine ⟨g, cap, w', h1, ⟨by simpa using h2, fun g' hg' => ?_⟩, hLW, h3, h4⟩
  have hg2 : g = g' := by
    have : some g = some g' := hg'
    exact Option.some.inj this
  subst hg2
  rcases hrow with e | e
  · exact h.own g e
  · exact ⟨by omega, fun hl' => by have := (hw.la.lat.lt hl').2; omega⟩
end
theorem needs_short {w : World} {lb : Nat} {s : Lard.LS} {L : Nat → Prop} (h : LAt w lb s L) {x : List UInt8} {kp : Lard.Keep} (hk : Lard.keptOf s.has x = some kp) (hx : x.length ≤ 200) : ∀ q ∈ kp.needs, q.1.length ≤ 200 := by
  obtain ⟨hb, db, vb, vr, vn, vj, h0⟩ := h
  unfold Lard.keptOf at hk
  cases hl : Lard.look s.has x with
  | none => rw [hl] at hk; cases hk
  | some th =>
    rw [hl] at hk
    have hk : th.kept = some kp := hk
    obtain ⟨p, hth, _⟩ := h0.has.at hl
    obtain ⟨v, r, k, _, _, _, _, hkk⟩ := hth
    rcases hkk with ⟨h1, _⟩ | ⟨kp', kb, h1, _, h3⟩
    · rw [hk] at h1; cases h1
    · rw [hk] at h1
      cases h1
      obtain ⟨_, _, sl, _, _, _, hnd, _⟩ := h3
      obtain ⟨o, c, _, hcl⟩ := hnd.cell
      intro q hq
      obtain ⟨a, ha⟩ := List.getElem?_of_mem hq
      obtain ⟨g, x, y, _, _, hlen, _⟩ := hcl a q ha
      exact hlen
end Go.Proofs.YtpekpdimdelncaaGreatDoor
