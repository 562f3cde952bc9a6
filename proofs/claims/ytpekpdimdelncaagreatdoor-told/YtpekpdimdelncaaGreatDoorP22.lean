/- Out of: L14, L15. -/
import Derived.Test.YtpekpdimdelncaaGreatDoorP21
namespace Go.Proofs.YtpekpdimdelncaaGreatDoor
set_option maxRecDepth 100000
set_option maxHeartbeats 1000000
open Go.RowKit Go.Shelf
set_option linter.unusedVariables false
set_option linter.unusedSimpArgs false
theorem needInfo : (Tryz.prog.info? 133).map (fun i => (i.zero, i.size, i.bytes)) = some (some (.agg #[.string ⟨#[]⟩, .int .i64 0, .nilIface]), 3, 40) := by kernel_rfl
theorem NeedsAt.len {w : World} {ns : List (List UInt8 × Lard.Wo)} {sl : Value} (h : NeedsAt w ns sl) : ∃ o c, sl = .slice o ns.length c := by
  obtain ⟨o, c, h, _⟩ := h.cell
  exact ⟨o, c, h⟩
theorem NeedsAt.snoc {w w' : World} {ns : List (List UInt8 × Lard.Wo)} {sl sl' : Value} {n : List UInt8 × Lard.Wo} {x y : Value} (h : NeedsAt w ns sl) (hst : Stay w w') (hown : ∀ qs : List (Value × Value × Value), w.ownsRow 8 133 3 sl ns.length (qs.flatMap cells3) → w'.ownsRow 8 133 3 sl' (ns.length + 1) (qs.flatMap cells3 ++ [str n.1, x, y])) (hn : n.1.length ≤ 200) (hw : IsW w n.2 (.agg #[x, y])) : NeedsAt w' (ns ++ [n]) sl' := by
  obtain ⟨qs, h1, h2, h3⟩ := h
  refine ⟨qs ++ [(str n.1, x, y)], ?_, by simp [h2], fun i m q hm hq => ?_⟩
  · have := hown qs h1
    rw [List.length_append, List.flatMap_append]
    simpa [cells3] using this
  · rcases Nat.lt_or_ge i ns.length with hi | hi
    · rw [List.getElem?_append_left hi] at hm
      rw [List.getElem?_append_left (by omega)] at hq
      exact ⟨(h3 i m q hm hq).1, (h3 i m q hm hq).2.1, (h3 i m q hm hq).2.2.st hst⟩
    · rw [List.getElem?_append_right hi] at hm
      rw [List.getElem?_append_right (by omega)] at hq
      have hi0 : i - ns.length = 0 := by
        have := (List.getElem?_eq_some_iff.1 hm).1
        simp at this
        omega
      rw [hi0] at hm
      rw [h2, hi0] at hq
      simp at hm hq
      subst hm hq
      exact ⟨rfl, hn, hw.st hst⟩
structure Rw (w w' : World) (sl sl' : Value) : Prop where
  os : w'.os = w.os
  tape : w'.tape = w.tape
  output : w'.output = w.output
  size : w.heap.size ≤ w'.heap.size
  block : ∀ k, k < w.heap.size → sl.ownBlock ≠ some k → w'.heap[k]? = w.heap[k]?
  old : ∀ k, sl.ownBlock = some k → ∃ cs fz, w'.heap[k]? = some (.cells cs 133 fz)
  loc : ∀ k, sl'.ownBlock = some k → sl.ownBlock = some k ∨ w.heap.size ≤ k
  stay : Stay w w'
theorem Rw.below {w w' : World} {sl : Value} (h : Below w.heap.size w w') (hs : ∀ k, sl.ownBlock = some k → ∃ cs fz, w.heap[k]? = some (.cells cs 133 fz)) : Rw w w' sl sl :=
  ⟨h.os, h.tape, h.output, h.size, fun k hk _ => h.block k hk, fun k hk => by obtain ⟨cs, fz, h1⟩ := hs k hk; exact ⟨cs, fz, (h.block k (lt_of_some h1)).trans h1⟩, fun k hk => .inl hk, Stay.below h⟩
theorem NeedsAt.typed {w : World} {ns : List (List UInt8 × Lard.Wo)} {sl : Value} (h : NeedsAt w ns sl) : ∀ k, sl.ownBlock = some k → ∃ cs fz, w.heap[k]? = some (.cells cs 133 fz) := by
  obtain ⟨qs, h1, _⟩ := h
  exact fun k hk => row_typed h1 hk
theorem withNeed_any (w : World) (ns : List (List UInt8 × Lard.Wo)) (sl : Value) (key : ByteArray) (r : Lard.Wo) (x : Value) (g : G w) (h : NeedsAt w ns sl) (hn : ns.length ≤ 500) (hk : key.size ≤ 200) (hx : IsW w r x) :
    Calls Tryz.prog 163 #[sl, .string key, x] w fun e w' => ∃ sl', e = .returned sl' ∧ NeedsAt w' (Lard.withNeed ns key.data.toList r) sl' ∧ Rw w w' sl sl' := by
  obtain ⟨c, y, rfl, hy⟩ := hx.form
  obtain ⟨o, cp, rfl⟩ := h.len
  have hmf : ∀ (fn : Fn) (first cap : Array Value) (w : World), (Instr.makeFunc fn first cap).run Tryz.prog w = .ok (.func fn first cap) w := fun _ _ _ _ => rfl
  have hB2 : Below w.heap.size w ((w.alloc (.cells #[.string key] 9)).alloc (.cells #[.int .i64 c, y] 113)) := ((Below.refl _ _).alloc (Nat.le_refl _) _).alloc (by simp) _
  have hN2 : NeedsAt ((w.alloc (.cells #[.string key] 9)).alloc (.cells #[.int .i64 c, y] 113)) ns (.slice o ns.length cp) := h.st (fun k hk cs fz hb => (hB2.block k (lt_of_some hb)).trans hb) (Stay.below hB2)
  have ck : ((w.alloc (.cells #[.string key] 9)).alloc (.cells #[.int .i64 c, y] 113)).cell? ⟨w.heap.size, 0, none⟩ = some (.string key) := by simp [go_sem]
  have ck1 : ((w.alloc (.cells #[.string key] 9)).alloc (.cells #[.int .i64 c, y] 113)).cell? ⟨w.heap.size + 1, 0, none⟩ = some (.int .i64 c) := by simp [go_sem]
  have ck2 : ((w.alloc (.cells #[.string key] 9)).alloc (.cells #[.int .i64 c, y] 113)).cell? ⟨w.heap.size + 1, 1, none⟩ = some y := by simp [go_sem]
  have HK := hide (fun (w3 : World) (hB : Below ((w.alloc (.cells #[.string key] 9)).alloc (.cells #[.int .i64 c, y] 113)).heap.size ((w.alloc (.cells #[.string key] 9)).alloc (.cells #[.int .i64 c, y] 113)) w3) => show w3.cell? ⟨w.heap.size, 0, none⟩ = some (.string key) ∧ w3.cell? ⟨w.heap.size + 1, 0, none⟩ = some (.int .i64 c) ∧ w3.cell? ⟨w.heap.size + 1, 1, none⟩ = some y from ⟨(hB.cell (p := ⟨w.heap.size, 0, none⟩) (by show w.heap.size < _; simp; omega)).trans ck, (hB.cell (p := ⟨w.heap.size + 1, 0, none⟩) (by show w.heap.size + 1 < _; simp)).trans ck1, (hB.cell (p := ⟨w.heap.size + 1, 1, none⟩) (by show w.heap.size + 1 < _; simp)).trans ck2⟩)
  have HCF := hide (containsFunc_any _ ns _ key w.heap.size hN2 (by omega) ck)
  clear ck ck1 ck2
  cases hl : (Lard.look ns key.data.toList).isSome with
  | true =>
    have hwn : Lard.withNeed ns key.data.toList r = ns := by unfold Lard.withNeed; rw [if_pos hl]
    rw [hwn]
    have HF := hide (fun (w3 : World) (hB3 : Below w.heap.size w w3) => show NeedsAt w3 ns (.slice o ns.length cp) ∧ Rw w w3 (.slice o ns.length cp) (.slice o ns.length cp) from ⟨h.st (fun k hk cs fz hb => (hB3.block k (lt_of_some hb)).trans hb) (Stay.below hB3), Rw.below hB3 h.typed⟩)
    rw [hl] at HCF
    clear h hx hwn hl hN2
    rcases hy with rfl | ⟨t, a, rfl⟩
    all_goals
      go_enter Tryz.func163, Tryz.ntmps163
      go_wp2_with fail
      refine HCF.out.mono ?_
      rintro e w3 ⟨rfl, hB3⟩
      have hf := HF.out w3 (hB2.trans (hB3.mono (by simp; omega)))
      clear HCF HF HK
      go_wp2_with fail
      go_ret
      exact ⟨_, rfl, hf⟩
  | false =>
    have hwn : Lard.withNeed ns key.data.toList r = ns ++ [(key.data.toList, r)] := by unfold Lard.withNeed; rw [if_neg (by simp [hl])]
    rw [hwn]
    have HF := hide (fun (w3 : World) (hB3 : Below w.heap.size w w3) => show ∃ g' cap w4, (Builtin.append_ #[129, 129] 129 #[.slice o ns.length cp, .slice (some ⟨w3.heap.size, 0, none⟩) 1 1]).run Tryz.prog (w3.alloc (.cells #[.string key, .int .i64 c, y] 133)) = .ok (.slice (some ⟨g', 0, none⟩) (ns.length + 1) cap) w4 ∧ NeedsAt w4 (ns ++ [(key.data.toList, r)]) (.slice (some ⟨g', 0, none⟩) (ns.length + 1) cap) ∧ Rw w w4 (.slice o ns.length cp) (.slice (some ⟨g', 0, none⟩) (ns.length + 1) cap) from by
      have hB4 : Below w.heap.size w (w3.alloc (.cells #[.string key, .int .i64 c, y] 133)) := hB3.alloc hB3.size _
      have hN4 := h.st (fun k hk cs fz hb => (hB4.block k (lt_of_some hb)).trans hb) (Stay.below hB4)
      have hW4 := hx.st (Stay.below hB4)
      obtain ⟨qs, q1, q2, q3⟩ := hN4
      have hnew := heap_alloc_new w3 (.cells #[.string key, .int .i64 c, y] 133)
      obtain ⟨g', cap, w4, hr, ho, hg, hloc, hold⟩ := append_row 129 129 133 _ 3 40 Tryz.underlying129 needInfo rfl (by decide) _ ns.length (qs.flatMap cells3) q1 ⟨w3.heap.size, 0, none⟩ 1 [str key.data.toList, .int .i64 c, y] rfl (fun j u hj => by
        rw [addr_add, Nat.zero_add]
        simp only [World.cell?, hnew]
        match j, hj with
        | 0, hj => simp at hj; rw [← hj, str_bytes]; rfl
        | 1, hj => simp at hj; rw [← hj]; rfl
        | 2, hj => simp at hj; rw [← hj]; rfl) (fun u hu => by
        rcases hy with rfl | ⟨t, a, rfl⟩ <;> (simp at hu; rcases hu with rfl | rfl | rfl <;> rfl)) (by omega) (by unfold maxLen; omega) (Nat.le_trans g.size hB4.size)
      have htn : Tn 133 (w3.alloc (.cells #[.string key, .int .i64 c, y] 133)) w4 (Value.ownBlock (.slice o ns.length cp)) := ⟨hg, fun b hb => row_typed q1 hb⟩
      have hst4 : Stay _ w4 := htn.stay (.inr (.inr (.inr (.inr (.inr (.inr rfl))))))
      refine ⟨g', cap, w4, hr, NeedsAt.snoc (n := (key.data.toList, r)) ⟨qs, q1, q2, q3⟩ hst4 (fun qs' hq' => ?_) (by rw [← size_data]; exact hk) hW4, ?_⟩
      · have : qs'.flatMap cells3 = qs.flatMap cells3 := by
          have a1 := q1.2
          have a2 := hq'.2
          rcases a1 with ⟨a1, b1⟩ | ⟨g1, cap1, cur1, a1, _, c1, _, _, _, d1⟩
          · have e1 : qs.flatMap cells3 = [] := List.eq_nil_of_length_eq_zero (by rw [q1.1, b1])
            have e2 : qs'.flatMap cells3 = [] := List.eq_nil_of_length_eq_zero (by rw [hq'.1, b1])
            rw [e1, e2]
          · rcases a2 with ⟨a2, b2⟩ | ⟨g2, cap2, cur2, a2, _, c2, _, _, _, d2⟩
            · rw [a2] at a1; cases a1
            · rw [a1] at a2
              cases a2
              rw [c1] at c2
              cases c2
              rw [← d1, ← d2]
        rw [this]
        exact ho
      · exact {
          os := hg.os.trans hB4.os
          tape := hg.tape.trans hB4.tape
          output := hg.output.trans hB4.output
          size := Nat.le_trans hB4.size hg.size
          block := fun k hk hne => (hg.block k (Nat.lt_of_lt_of_le hk hB4.size) (fun e => hne e.symm)).trans (hB4.block k hk)
          old := hold
          loc := fun k hk => by
            cases hk
            rcases hloc with hloc | hloc
            · exact .inl hloc
            · right
              rw [hloc]
              exact hB4.size
          stay := (Stay.below hB4).trans hst4 })
    rw [hl] at HCF
    have HB2 := hide hB2
    clear h hx hwn hl hN2 hB2
    rcases hy with rfl | ⟨t, a, rfl⟩
    all_goals
      go_enter Tryz.func163, Tryz.ntmps163
      go_wp2_with fail
      refine HCF.out.mono ?_
      rintro e w3 ⟨rfl, hB3⟩
      have hB3' : Below w.heap.size w w3 := HB2.out.trans (hB3.mono (by simp; omega))
      obtain ⟨k0, k1, k2⟩ := HK.out w3 hB3
      obtain ⟨g', cap, w4, hr, hN, hR⟩ := HF.out w3 hB3'
      have HN := hide hN
      have HR := hide hR
      clear HCF HF HK hN hR hB3 hB3'
      go_wp2_with (at_builtin; refine wpList_run_append _ rfl _ _ _ _ rfl _ _ _ _ rfl rfl hr ?_)
      go_ret
      exact ⟨_, rfl, HN.out, HR.out⟩
end Go.Proofs.YtpekpdimdelncaaGreatDoor
namespace Go.Proofs.YtpekpdimdelncaaGreatDoor
open Go.RowKit Go.Shelf
set_option linter.unusedVariables false
set_option linter.unusedSimpArgs false
def LM : Nat := 50000000
def Phi (s : Lard.LS) : Nat := (jbytes s.jr).length + LM * Lard.Rs s
structure Rc where
  lb : Nat
  rb : Nat
  b3 : Nat
  b7 : Nat
  b8 : Nat
  l : Nat
  w0 : World
  L0 : Nat → Prop
  s0 : Lard.LS
  lp : Loop
structure RcOK (c : Rc) : Prop where
  loop : c.w0.heap[c.l]? = some (.loop c.lp)
  ready : c.lp.state = .ready
  pend : c.lp.pending = none
  c3 : c.w0.heap[c.b3]? = some (.cells #[ptr c.lb] 29 (0, 0))
  c7 : c.w0.heap[c.b7]? = some (.cells #[ptr c.rb] 242 (0, 0))
  out : ¬ c.L0 c.l ∧ ¬ c.L0 c.b3 ∧ ¬ c.L0 c.b7 ∧ ¬ c.L0 c.b8 ∧ ¬ c.L0 c.rb
  ne : c.b3 ≠ c.b8 ∧ c.b7 ≠ c.b8 ∧ c.l ≠ c.b8 ∧ c.l ≠ c.rb ∧ c.b3 ≠ c.rb ∧ c.b7 ≠ c.rb ∧ c.b8 ≠ c.rb
  lt : c.b8 < c.w0.heap.size ∧ c.rb < c.w0.heap.size
  ge : 8 ≤ c.b8 ∧ 8 ≤ c.rb ∧ 8 ≤ c.l
  deb : Deb c.w0
  low : ∀ k, c.L0 k → 8 ≤ k
abbrev Sg : Type := (Lard.LS × List (List UInt8 × Lard.Wo)) × Nat
def Sam (lb : Nat) (L : Nat → Prop) (w w' : World) : Prop :=
  K2 L w w' ∧ ∀ hb, L hb → w.cell? ⟨lb, 0, none⟩ = some (.map (some hb)) → w'.cell? ⟨lb, 0, none⟩ = some (.map (some hb)) ∧ w'.heap[hb]? = w.heap[hb]?
theorem Sam.refl (lb : Nat) (L : Nat → Prop) (w : World) : Sam lb L w w := ⟨fun _ _ _ _ _ h _ => h, fun _ _ h => ⟨h, rfl⟩⟩
theorem Sam.same {lb : Nat} {L L1 : Nat → Prop} {w W W1 : World} (h : Sam lb L w W) (hs : ∀ k, L1 k → W1.heap[k]? = W.heap[k]?) (hL : ∀ k, L k → L1 k) (hl : L1 lb) : Sam lb L w W1 :=
  ⟨fun k hk cs t fz hc ht => (hs k (hL k hk)).trans (h.1 k hk cs t fz hc ht), fun hb hk hc => ⟨(World.cell?_of_block (hs lb hl)).trans (h.2 hb hk hc).1, (hs hb (hL hb hk)).trans (h.2 hb hk hc).2⟩⟩
theorem Sam.frw {lb : Nat} {L L1 : Nat → Prop} {w W W1 : World} (h : Sam lb L w W) (hf : Frw lb L1 W W1) (hL : ∀ k, L k → L1 k) (hlt : ∀ k, L1 k → k < W.heap.size) : Sam lb L w W1 :=
  ⟨fun k hk cs t fz hc ht => hf.k2 k (hL k hk) cs t fz (h.1 k hk cs t fz hc ht) ht, fun hb hk hc => by
    obtain ⟨h1, h2⟩ := h.2 hb hk hc
    obtain ⟨h3, h4⟩ := hf.hasm hb (hlt hb (hL hb hk)) h1
    exact ⟨h3, h4.trans h2⟩⟩
theorem LAt.here {w : World} {lb : Nat} {s : Lard.LS} {L : Nat → Prop} (h : LAt w lb s L) : L lb := by
  obtain ⟨hb, db, vb, vr, vn, vj, h⟩ := h
  exact h.here
def JL (c : Rc) (F : Nat → Prop) (σ : Sg) (W : World) : Prop :=
  ∃ (L' : Nat → Prop) (sl : Value), F = (fun k => (k < c.w0.heap.size ∧ k ≠ c.rb) ∨ L' k ∨ sl.ownBlock = some k) ∧
    LAt W c.lb σ.1.1 L' ∧ (∀ k, L' k → c.L0 k ∨ c.w0.heap.size ≤ k) ∧ (∀ k, c.L0 k → L' k) ∧ c.w0.heap.size ≤ W.heap.size ∧
    (∀ k, k < c.w0.heap.size → ¬ c.L0 k → k ≠ c.b8 → k ≠ c.rb → W.heap[k]? = c.w0.heap[k]?) ∧
    W.heap[c.b8]? = some (.cells #[sl] 129 (0, 0)) ∧ NeedsAt W σ.1.2 sl ∧ (∀ g, sl.ownBlock = some g → c.w0.heap.size ≤ g ∧ ¬ L' g) ∧
    Lard.Nst c.s0 σ.1.1 σ.2 ∧ σ.1.2.length ≤ σ.2 ∧ Phi σ.1.1 ≤ Phi c.s0 ∧ Sam c.lb c.L0 c.w0 W
theorem LAt.typed {w : World} {lb : Nat} {s : Lard.LS} {L : Nat → Prop} (h : LAt w lb s L) : ∀ k, L k → 8 ≤ k ∧ k < w.heap.size ∧ ((∃ es c, w.heap[k]? = some (.map es c)) ∨ ∃ cs t fz, w.heap[k]? = some (.cells cs t fz) ∧ LT t) := by
  obtain ⟨hb, db, vb, vr, vn, vj, h⟩ := h
  exact fun k hk => ⟨(h.typed k hk).1, h.lt hk, (h.typed k hk).2⟩
theorem LAt.not {w : World} {lb : Nat} {s : Lard.LS} {L : Nat → Prop} (h : LAt w lb s L) {k : Nat} {cs : Array Value} {t : TypeId} {fz : Nat × Nat} (hk : w.heap[k]? = some (.cells cs t fz)) (ht : ¬ LT t) : ¬ L k := fun hl => by
  rcases (h.typed k hl).2.2 with ⟨es, c, h1⟩ | ⟨cs', t', fz', h1, h2⟩
  · rw [hk] at h1; cases h1
  · rw [hk] at h1; cases h1; exact ht h2
theorem LAt.notObj {w : World} {lb : Nat} {s : Lard.LS} {L : Nat → Prop} (h : LAt w lb s L) {k : Nat} {o : Obj} (hk : w.heap[k]? = some o) (h1 : ∀ es c, o ≠ .map es c) (h2 : ∀ cs t fz, o ≠ .cells cs t fz) : ¬ L k := fun hl => by
  rcases (h.typed k hl).2.2 with ⟨es, c, h3⟩ | ⟨cs', t', fz', h3, _⟩
  · rw [hk] at h3; cases h3; exact h1 _ _ rfl
  · rw [hk] at h3; cases h3; exact h2 _ _ _ rfl
theorem not_lt_run : ¬ LT 291 := by rintro (h | h | h | h | h | h | h) <;> cases h
theorem not_lt_needs : ¬ LT 129 := by rintro (h | h | h | h | h | h | h) <;> cases h
theorem not_lt_ptr : ¬ LT 29 := by rintro (h | h | h | h | h | h | h) <;> cases h
theorem not_lt_prun : ¬ LT 242 := by rintro (h | h | h | h | h | h | h) <;> cases h
theorem not_lt_worth : ¬ LT 113 := by rintro (h | h | h | h | h | h | h) <;> cases h
theorem stay_grown {w w' : World} {b : Nat} (h : w.grownBy w' (some b)) (hb : ∀ cs t fz, w.heap[b]? = some (.cells cs t fz) → ¬ Imm t) : Stay w w' :=
  Keeps.stay (fun k cs t fz hk ht => (h.block k (lt_of_some hk) (fun e => by cases e; exact hb cs t fz hk ht)).trans hk)
theorem grown_put (W : World) (l : Nat) (o : Obj) : W.grownBy (W.putObj l o) (some l) := ⟨rfl, rfl, rfl, by simp, fun k _ hk => World.putObj_heap_other (fun e => hk (by rw [e]))⟩
theorem JL.stab {c : Rc} (ok : RcOK c) : ∀ F σ w w', JL c F σ w → w.heap.size ≤ w'.heap.size → (∀ k, F k → w'.heap[k]? = w.heap[k]?) → Stay w w' → JL c F σ w' := by
  rintro F σ w w' ⟨L', sl, rfl, h1, h2, h2', h3, h4, h5, h6, h7, h8, h9, h10, h11⟩ hsz hF hst
  refine ⟨L', sl, rfl, h1.st (fun k hk => hF k (.inr (.inl hk))) hst, h2, h2', Nat.le_trans h3 hsz, fun k hk hn hb hr => (hF k (.inl ⟨hk, hr⟩)).trans (h4 k hk hn hb hr), (hF c.b8 (.inl ⟨ok.lt.1, ok.ne.2.2.2.2.2.2⟩)).trans h5, ?_, h7, h8, h9, h10, h11.same (fun k hk => hF k (.inr (.inl hk))) h2' h1.here⟩
  exact h6.st (fun g hg cs fz hb => (hF g (.inr (.inr hg))).trans hb) hst
theorem JL.dom {c : Rc} (ok : RcOK c) {tree y tc ti wc wi : Value} {f : Nat} : ∀ F σ w k, JL c F σ w → RunAt w c.rb tree y tc ti f wc wi → F k → k < w.heap.size ∧ k ≠ c.rb := by
  rintro F σ w k ⟨L', sl, rfl, h1, h2, h2', h3, h4, h5, h6, h7, h8⟩ hr hk
  rcases hk with ⟨hk, hne⟩ | hk | hk
  · exact ⟨by omega, hne⟩
  · refine ⟨(h1.typed k hk).2.1, fun e => ?_⟩
    rw [e] at hk
    exact h1.not hr not_lt_run hk
  · obtain ⟨cs, fz, hb⟩ := h6.typed k hk
    have hg := (h7 k hk).1
    have := ok.lt.2
    exact ⟨lt_of_some hb, by omega⟩
theorem JL.round {c : Rc} (ok : RcOK c) {F : Nat → Prop} {σ : Sg} {W : World} (hJ : JL c F σ W) {tree y tc ti wc wi : Value} {f : Nat} (hR : RunAt W c.rb tree y tc ti f wc wi) (g : G W) {busy : Loop} :
    ∃ (L' : Nat → Prop) (sl : Value), LAt (W.putObj c.l (.loop busy)) c.lb σ.1.1 L' ∧ G (W.putObj c.l (.loop busy)) ∧ Deb (W.putObj c.l (.loop busy)) ∧
      W.heap[c.l]? = some (.loop c.lp) ∧ NeedsAt W σ.1.2 sl ∧
      ∀ (r : Lard.Wo) (s2 : Lard.LS) (w2 : World) (x i : Value), LPost (W.putObj c.l (.loop busy)) c.lb L' s2 w2 → IsW w2 r (.agg #[x, i]) → Lard.Nst σ.1.1 s2 1 → Phi s2 ≤ Phi σ.1.1 →
        (∀ o, RunAt (w2.alloc o) c.rb tree y tc ti f wc wi) ∧ IsW (w2.alloc (.cells #[x, i] 113)) r (.agg #[x, i]) ∧ w2.heap[c.b7]? = some (.cells #[ptr c.rb] 242 (0, 0)) ∧
        ∀ (w4 : World), (w2.alloc (.cells #[x, i] 113)).grownBy w4 (some c.rb) → RunAt w4 c.rb tree y x i f wc wi →
          G w4 ∧ NeedsAt w4 σ.1.2 sl ∧ IsW w4 r (.agg #[x, i]) ∧ w4.heap[c.b8]? = some (.cells #[sl] 129 (0, 0)) ∧ w4.heap[w2.heap.size]? = some (.cells #[x, i] 113 (0, 0)) ∧
          ∀ (key : List UInt8) (w5 : World) (sl' : Value), NeedsAt w5 (Lard.withNeed σ.1.2 key r) sl' → Rw w4 w5 sl sl' →
            w5.heap[c.b8]? = some (.cells #[sl] 129 (0, 0)) ∧ (w5.setCell ⟨c.b8, 0, none⟩ sl').heap[c.l]? = some (.loop busy) ∧
            ∃ F', IsW ((w5.setCell ⟨c.b8, 0, none⟩ sl').putObj c.l (.loop c.lp)) r (.agg #[x, i]) ∧ RunAt ((w5.setCell ⟨c.b8, 0, none⟩ sl').putObj c.l (.loop c.lp)) c.rb tree y x i f wc wi ∧
              JL c F' ((s2, Lard.withNeed σ.1.2 key r), σ.2 + 1) ((w5.setCell ⟨c.b8, 0, none⟩ sl').putObj c.l (.loop c.lp)) ∧ (∀ k, F' k → F k ∨ W.heap.size ≤ k) ∧ Fm 8 W ((w5.setCell ⟨c.b8, 0, none⟩ sl').putObj c.l (.loop c.lp)) := by
  obtain ⟨L', sl, rfl, h1, h2, h2', h3, h4, h5, h6, h7, h8, h9, h10, h11⟩ := hJ
  obtain ⟨o1, o2, o3, o4, o5⟩ := ok.out
  obtain ⟨n1, n2, n3, n4, n5, n6, n7⟩ := ok.ne
  obtain ⟨e1, e2, e3⟩ := ok.ge
  have hlw : W.heap[c.l]? = some (.loop c.lp) := (h4 c.l (Array.getElem?_eq_some_iff.1 ok.loop).1 o1 n3 n4).trans ok.loop
  have hl_lt : c.l < W.heap.size := (Array.getElem?_eq_some_iff.1 hlw).1
  have hg1 := grown_put W c.l (.loop busy)
  have hkeep1 : ∀ (k : Nat) (cs : Array Value) (t : TypeId) (fz : Nat × Nat), W.heap[k]? = some (.cells cs t fz) → (W.putObj c.l (.loop busy)).heap[k]? = some (.cells cs t fz) := fun k cs t fz hk => (hg1.block k (lt_of_some hk) (fun e => by cases e; rw [hlw] at hk; cases hk)).trans hk
  have hst1 : Stay W (W.putObj c.l (.loop busy)) := Keeps.stay (fun k cs t fz hk _ => hkeep1 k cs t fz hk)
  have hLl : ¬ L' c.l := h1.notObj hlw (fun _ _ e => by cases e) (fun _ _ _ e => by cases e)
  have hA1 : LAt (W.putObj c.l (.loop busy)) c.lb σ.1.1 L' := h1.st (fun k hk => hg1.block k (h1.typed k hk).2.1 (fun e => by cases e; exact hLl hk)) hst1
  have hdebW : Deb W := by
    have hd := ok.deb
    unfold Deb at hd ⊢
    rw [← hd]
    refine World.cell?_of_block (h4 7 ?_ (fun h => ?_) ?_ ?_)
    · have := ok.lt.1; omega
    · have := ok.low _ h; omega
    · omega
    · omega
  have hB1 : Below 8 W (W.putObj c.l (.loop busy)) := ⟨rfl, rfl, rfl, by simp, fun k hk => World.putObj_heap_other (by omega)⟩
  have g1 : G (W.putObj c.l (.loop busy)) := g.below hB1 (Nat.le_refl _)
  refine ⟨L', sl, hA1, g1, hdebW.below hB1 (Nat.le_refl _), hlw, h6, fun r s2 w2 x i hP hW2 hN hPhi => ?_⟩
  obtain ⟨L2, p1, p2, p3, p4⟩ := hP
  have hsz2 : W.heap.size ≤ w2.heap.size := by have := p4.size; simpa using this
  have hLrb : ¬ L' c.rb := h1.not hR not_lt_run
  have hLb8 : ¬ L' c.b8 := h1.not h5 not_lt_needs
  have hb7W : W.heap[c.b7]? = some (.cells #[ptr c.rb] 242 (0, 0)) := (h4 c.b7 (lt_of_some ok.c7) o3 n2 n6).trans ok.c7
  have hLb7 : ¬ L' c.b7 := h1.not hb7W not_lt_prun
  have hkeep2 : ∀ (k : Nat) (cs : Array Value) (t : TypeId) (fz : Nat × Nat), W.heap[k]? = some (.cells cs t fz) → ¬ L' k → w2.heap[k]? = some (.cells cs t fz) := fun k cs t fz hk hn => (p4.block k (by simpa using lt_of_some hk) hn).trans (hkeep1 k cs t fz hk)
  have hR2 : RunAt w2 c.rb tree y tc ti f wc wi := hkeep2 _ _ _ _ hR hLrb
  have hl2 : w2.heap[c.l]? = some (.loop busy) := (p4.block c.l (by simpa using hl_lt) hLl).trans (World.putObj_heap_same hl_lt)
  have hB3 : Below w2.heap.size w2 (w2.alloc (.cells #[x, i] 113)) := (Below.refl _ _).alloc (Nat.le_refl _) _
  have hstW2 : Stay W w2 := hst1.trans (frm_keeps hA1 p4.toFrm).stay
  refine ⟨fun o => (Below.heap_alloc w2 o c.rb (lt_of_some hR2)).trans hR2, hW2.keeps (Keeps.below hB3), hkeep2 _ _ _ _ hb7W hLb7, fun w4 hg4 hR4 => ?_⟩
  have hB38 : Below 8 w2 (w2.alloc (.cells #[x, i] 113)) := hB3.mono (by have := g.size; omega)
  have hR3 : RunAt (w2.alloc (.cells #[x, i] 113)) c.rb tree y tc ti f wc wi := (Below.heap_alloc w2 _ c.rb (lt_of_some hR2)).trans hR2
  have hst34 : Stay (w2.alloc (.cells #[x, i] 113)) w4 := stay_grown hg4 (fun cs t fz hb => by
    rw [RunAt] at hR3
    rw [hR3] at hb; cases hb
    rintro (h | h | h) <;> cases h)
  have hst24 : Stay w2 w4 := (Stay.below hB3).trans hst34
  have hkeep4 : ∀ k o, w2.heap[k]? = some o → k ≠ c.rb → w4.heap[k]? = some o := fun k o hk hne => by
    have hlt : k < w2.heap.size := (Array.getElem?_eq_some_iff.1 hk).1
    exact (hg4.block k (by simp; omega) (fun e => hne (by cases e; rfl))).trans ((Below.heap_alloc w2 _ k hlt).trans hk)
  have g2 : G w2 := frm_g hA1 p4.toFrm g1
  have g4 : G w4 := (g2.below hB38 (Nat.le_refl _)).below (B := 8) ((Below.refl 8 _).grown hg4 (by have := g2.size; simp; omega) (fun k hk => by cases hk; exact e2)) (Nat.le_refl _)
  have hb8_2 : w2.heap[c.b8]? = some (.cells #[sl] 129 (0, 0)) := hkeep2 _ _ _ _ h5 hLb8
  have hb8_4 := hkeep4 _ _ hb8_2 n7
  have hrow2 : ∀ gk, sl.ownBlock = some gk → ∀ (cs : Array Value) (fz : Nat × Nat), W.heap[gk]? = some (.cells cs 133 fz) → w4.heap[gk]? = some (.cells cs 133 fz) := fun gk hgk cs fz hb => by
    have hne : gk ≠ c.rb := by have := (h7 gk hgk).1; have := ok.lt.2; omega
    exact hkeep4 _ _ (hkeep2 _ _ _ _ hb (h7 gk hgk).2) hne
  have hN4 : NeedsAt w4 σ.1.2 sl := h6.st hrow2 (hstW2.trans hst24)
  have hbx4 : w4.heap[w2.heap.size]? = some (.cells #[x, i] 113 (0, 0)) := by
    have hne : w2.heap.size ≠ c.rb := by have := lt_of_some hR2; omega
    exact (hg4.block w2.heap.size (by simp) (fun e => hne (Option.some.inj e))).trans (heap_alloc_new w2 _)
  refine ⟨g4, hN4, hW2.st hst24, hb8_4, hbx4, fun key w5 sl' hN5 hRw => ?_⟩
  have hrowlt : ∀ gk, sl.ownBlock = some gk → c.w0.heap.size ≤ gk ∧ gk < W.heap.size := fun gk hgk => by
    obtain ⟨cs, fz, hb⟩ := h6.typed gk hgk
    exact ⟨(h7 gk hgk).1, lt_of_some hb⟩
  have hsz4 : w2.heap.size + 1 ≤ w4.heap.size := by have := hg4.size; simpa using this
  have hkeep5 : ∀ k o, w4.heap[k]? = some o → sl.ownBlock ≠ some k → w5.heap[k]? = some o := fun k o hk hne => (hRw.block k (Array.getElem?_eq_some_iff.1 hk).1 hne).trans hk
  have hlow : ∀ k, k < c.w0.heap.size → sl.ownBlock ≠ some k := fun k hk e => by have := (hrowlt k e).1; omega
  have hb8_5 := hkeep5 _ _ hb8_4 (hlow _ ok.lt.1)
  have hl5 : w5.heap[c.l]? = some (.loop busy) := hkeep5 _ _ (hkeep4 _ _ hl2 n4) (hlow _ (Array.getElem?_eq_some_iff.1 ok.loop).1)
  have hR5 : RunAt w5 c.rb tree y x i f wc wi := hkeep5 _ _ hR4 (hlow _ ok.lt.2)
  have hl6 : (w5.setCell ⟨c.b8, 0, none⟩ sl').heap[c.l]? = some (.loop busy) := (Below.heap_setCell w5 ⟨c.b8, 0, none⟩ sl' c.l n3).trans hl5
  refine ⟨hb8_5, hl6, ?_⟩
  have hg6 := grown_set (World.grownBy.refl w5 (some c.b8)) 0 sl'
  have hg7 := grown_put (w5.setCell ⟨c.b8, 0, none⟩ sl') c.l (.loop c.lp)
  have hst56 : Stay w5 (w5.setCell ⟨c.b8, 0, none⟩ sl') := stay_grown hg6 (fun cs t fz hb => by
    rw [hb8_5] at hb; cases hb
    rintro (h | h | h) <;> cases h)
  have hst67 : Stay (w5.setCell ⟨c.b8, 0, none⟩ sl') ((w5.setCell ⟨c.b8, 0, none⟩ sl').putObj c.l (.loop c.lp)) := stay_grown hg7 (fun cs t fz hb => by rw [hl6] at hb; cases hb)
  have hst57 := hst56.trans hst67
  have hkeep7 : ∀ k o, w5.heap[k]? = some o → k ≠ c.b8 → k ≠ c.l → ((w5.setCell ⟨c.b8, 0, none⟩ sl').putObj c.l (.loop c.lp)).heap[k]? = some o := fun k o hk hn hl => (World.putObj_heap_other hl).trans ((Below.heap_setCell w5 ⟨c.b8, 0, none⟩ sl' k hn).trans hk)
  have hst27 : Stay w2 ((w5.setCell ⟨c.b8, 0, none⟩ sl').putObj c.l (.loop c.lp)) := (hst24.trans hRw.stay).trans hst57
  have hL2rb : ¬ L2 c.rb := p1.not hR2 not_lt_run
  have hL2b8 : ¬ L2 c.b8 := p1.not hb8_2 not_lt_needs
  have hL2l : ¬ L2 c.l := p1.notObj hl2 (fun _ _ e => by cases e) (fun _ _ _ e => by cases e)
  have hL2row : ∀ gk, sl.ownBlock = some gk → ¬ L2 gk := fun gk hgk hl => by
    rcases p2 gk hl with h | h
    · exact (h7 gk hgk).2 h
    · have := (hrowlt gk hgk).2
      simp at h
      omega
  have hsame27 : ∀ k, L2 k → ((w5.setCell ⟨c.b8, 0, none⟩ sl').putObj c.l (.loop c.lp)).heap[k]? = w2.heap[k]? := fun k hk => by
    obtain ⟨_, hlt, _⟩ := p1.typed k hk
    obtain ⟨o, ho⟩ : ∃ o, w2.heap[k]? = some o := ⟨_, Array.getElem?_eq_getElem hlt⟩
    rw [ho]
    exact hkeep7 k o (hkeep5 k o (hkeep4 k o ho (fun e => hL2rb (e ▸ hk))) (fun e => hL2row k e hk)) (fun e => hL2b8 (e ▸ hk)) (fun e => hL2l (e ▸ hk))
  have hsz7 : W.heap.size ≤ ((w5.setCell ⟨c.b8, 0, none⟩ sl').putObj c.l (.loop c.lp)).heap.size := by
    have := hRw.size
    simp [World.setCell]
    omega
  -- what of the old blocks stays
  have hold : ∀ k o, W.heap[k]? = some o → ¬ L' k → k ≠ c.b8 → k ≠ c.rb → sl.ownBlock ≠ some k → ((w5.setCell ⟨c.b8, 0, none⟩ sl').putObj c.l (.loop c.lp)).heap[k]? = some o := fun k o hk hn hb hr hs => by
    by_cases hkl : k = c.l
    · subst hkl
      rw [hlw] at hk; cases hk
      exact World.putObj_heap_same (Array.getElem?_eq_some_iff.1 hl6).1
    · have hlt : k < W.heap.size := (Array.getElem?_eq_some_iff.1 hk).1
      have h2k : w2.heap[k]? = some o := (p4.block k (by simpa using hlt) hn).trans ((World.putObj_heap_other hkl).trans hk)
      exact hkeep7 k o (hkeep5 k o (hkeep4 k o h2k hr) hs) hb hkl
  have hsam7 : Sam c.lb c.L0 c.w0 ((w5.setCell ⟨c.b8, 0, none⟩ sl').putObj c.l (.loop c.lp)) :=
    ((h11.same (fun k hk => hg1.block k (h1.typed k hk).2.1 (fun e => by cases e; exact hLl hk)) h2' h1.here).frw p4 h2' (fun k hk => (hA1.typed k hk).2.1)).same hsame27 (fun k hk => p3 k (h2' k hk)) p1.here
  refine ⟨fun k => (k < c.w0.heap.size ∧ k ≠ c.rb) ∨ L2 k ∨ sl'.ownBlock = some k, hW2.st hst27, hkeep7 _ _ hR5 (fun e => n7 e.symm) (fun e => n4 e.symm), ⟨L2, sl', rfl, p1.st hsame27 hst27, fun k hk => ?_, fun k hk => p3 k (h2' k hk), Nat.le_trans h3 hsz7, fun k hk hn hb hr => ?_, ?_, ?_, fun gk hgk => ?_, ?_, ?_, Nat.le_trans hPhi h10, hsam7⟩, fun k hk => ?_, ?_⟩
  · rcases p2 k hk with h | h
    · exact h2 k h
    · simp at h
      exact .inr (by omega)
  · rw [← h4 k hk hn hb hr]
    obtain ⟨o, ho⟩ : ∃ o, W.heap[k]? = some o := ⟨_, Array.getElem?_eq_getElem (by omega)⟩
    rw [ho]
    refine hold k o ho (fun hl => ?_) hb hr (hlow k hk)
    rcases h2 k hl with h | h
    · exact hn h
    · omega
  · exact (World.putObj_heap_other (fun e => n3 e.symm)).trans (blk_cell hb8_5 0 sl')
  · exact hN5.st (fun gk hgk cs fz hb => hkeep7 _ _ hb (fun e => by rw [e, hb8_5] at hb; cases hb) (fun e => by rw [e, hl5] at hb; cases hb)) hst57
  · rcases hRw.loc gk hgk with h | h
    · exact ⟨(hrowlt gk h).1, hL2row gk h⟩
    · refine ⟨by omega, fun hl => ?_⟩
      have := (p1.typed gk hl).2.1
      omega
  · exact h8.trans hN
  · have := Lard.withNeed_len σ.1.2 key r
    show (Lard.withNeed σ.1.2 key r).length ≤ σ.2 + 1
    omega
  · rcases hk with hk | hk | hk
    · exact .inl (.inl hk)
    · rcases p2 k hk with h | h
      · exact .inl (.inr (.inl h))
      · simp at h
        exact .inr (by omega)
    · rcases hRw.loc k hk with h | h
      · exact .inl (.inr (.inr h))
      · exact .inr (by omega)
  · refine ⟨⟨?_, ?_, ?_, hsz7, fun k hk => ?_⟩, fun k cs t fz hk ht => ?_⟩
    · show w5.os = W.os
      rw [hRw.os, hg4.os]
      exact p4.os
    · show w5.tape = W.tape
      rw [hRw.tape, hg4.tape]
      exact p4.tape
    · show w5.output = W.output
      rw [hRw.output, hg4.output]
      exact p4.output
    · obtain ⟨o, ho⟩ : ∃ o, W.heap[k]? = some o := ⟨_, Array.getElem?_eq_getElem (by have := g.size; omega)⟩
      rw [ho]
      exact hold k o ho (fun hl => by have := (h1.typed k hl).1; omega) (by omega) (by omega) (hlow k (by have := ok.lt.1; omega))
    · refine hold k _ hk (h1.not hk (fun h => h.imm ht)) (fun e => ?_) (fun e => ?_) (fun e => ?_)
      · rw [e, h5] at hk; cases hk; rcases ht with (h | h | h) | h | h <;> cases h
      · rw [RunAt] at hR; rw [e, hR] at hk; cases hk; rcases ht with (h | h | h) | h | h <;> cases h
      · obtain ⟨cs', fz', hb⟩ := h6.typed k e
        rw [hk] at hb; cases hb; rcases ht with (h | h | h) | h | h <;> cases h
end Go.Proofs.YtpekpdimdelncaaGreatDoor
