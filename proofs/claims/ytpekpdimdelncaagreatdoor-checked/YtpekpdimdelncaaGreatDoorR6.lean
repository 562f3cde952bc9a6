/- The document's reader: a node more. -/
import Derived.Test.YtpekpdimdelncaaGreatDoorR5
import Derived.Deep.RegionLaw
namespace Go.Proofs.YtpekpdimdelncaaGreatDoor
open Go.RowKit

/-- An append onto a row of the call's own, as one step of a region that draws its order. -/
theorem step_append_own {P : Program} {ops : Array Oper} {o : Oper} {a : Act} {w : World} {K : Act → World → Prop} {Q : Exit → Act → World → Prop} {E : Prop}
    (hg : o.guard = none) (s x : Operand) (t : TypeId) (hop : o.op = Op.call { callee := Callee.builtin Builtin.append, args := #[s, x], argTypes := #[t, t] })
    (base : Nat) (e : TypeId) (i : TypeInfo) (z : Value) (size bytes : Nat) (h1 : P.underlying t = some (.slice e)) (h2 : P.info? e = some i) (h3 : i.zero = some z) (h4 : i.size = size) (h5 : i.bytes = bytes) (h6 : z.cells.size = size) (h7 : 0 < size)
    (v : Value) (n : Nat) (xs : List Value) (hs : a.eval s = v) (hown : w.ownsRow base e size v n xs)
    (ad : Addr) (m c : Nat) (news : List Value) (hx : a.eval x = .slice (some ad) m c) (hn : news.length = m * size) (hc : ∀ j u, news[j]? = some u → w.cell? (ad.add j) = some u) (h1c : ∀ u ∈ news, u.oneCell' = true)
    (b1 : n + m ≤ maxLen) (b2 : (n + m) * bytes ≤ 140737488355328) (hb : base ≤ w.heap.size)
    (hK : ∀ v' w', w'.ownsRow base e size v' (n + m) (xs ++ news) → w.grownBy w' v.ownBlock → K (a.put o.dst v') w') :
    if Region.wanted o (yielded ops a.tmps) = true then Oper.wp P o a w K Q else E := by
  have hw : Region.wanted o (yielded ops a.tmps) = true := by simp [Region.wanted, hg]
  rw [if_pos hw]
  obtain ⟨v', w', hrun, r1, r2, _⟩ := run_append_own (P := P) w base t o.type e i z size bytes h1 h2 h3 h4 h5 h6 h7 v n xs hown ad m c news hn hc h1c b1 b2 hb
  unfold Oper.wp
  simp [execOp, hop, resolve, invoke, builtin, hs, hx, hrun, Result.andThen]
  exact hK v' w' r1 r2

theorem rnodeInfo : (Tryz.prog.info? 147).map (fun i => (i.zero, i.size, i.bytes)) = some (some (.agg #[.int .u8 0, .string ⟨#[]⟩, .int .i64 0, .int .i64 0, .int .i64 0, .slice none 0 0]), 6, 72) := by kernel_rfl

/-- The cells of a node. -/
def NodeAt (xs : List Value) (k : Nat) : Prop :=
  ∃ (b : Int) (t : ByteArray) (x y z : Int) (p : Option Addr) (pn pc : Nat), xs[6 * k]? = some (.int .u8 b) ∧ xs[6 * k + 1]? = some (.string t) ∧ xs[6 * k + 2]? = some (.int .i64 x) ∧ xs[6 * k + 3]? = some (.int .i64 y) ∧ xs[6 * k + 4]? = some (.int .i64 z) ∧ xs[6 * k + 5]? = some (.slice p pn pc)

/-- The nodes so far: a row of the reader's own. -/
structure Nodes (w : World) (B : Nat) (v : Value) (n : Nat) : Prop where
  own : ∃ xs, w.ownsRow B 147 6 v n xs ∧ ∀ k, k < n → NodeAt xs k

theorem NodeAt.old {xs : List Value} {k : Nat} (h : NodeAt xs k) (ys : List Value) : NodeAt (xs ++ ys) k := by
  obtain ⟨b, t, x, y, z, p, pn, pc, h0, h1, h2, h3, h4, h5⟩ := h
  have e : ∀ (j : Nat) (u : Value), xs[j]? = some u → (xs ++ ys)[j]? = some u := fun j u hj => by
    obtain ⟨hl, hu⟩ := List.getElem?_eq_some_iff.1 hj
    rw [List.getElem?_append_left hl]; exact hj
  exact ⟨b, t, x, y, z, p, pn, pc, e _ _ h0, e _ _ h1, e _ _ h2, e _ _ h3, e _ _ h4, e _ _ h5⟩

theorem NodeAt.new {xs : List Value} {k : Nat} (hl : xs.length = k * 6) (b : Int) (t : ByteArray) (x y z : Int) (p : Option Addr) (pn pc : Nat) : NodeAt (xs ++ [.int .u8 b, .string t, .int .i64 x, .int .i64 y, .int .i64 z, .slice p pn pc]) k := by
  refine ⟨b, t, x, y, z, p, pn, pc, ?_, ?_, ?_, ?_, ?_, ?_⟩
  all_goals rw [List.getElem?_append_right (by omega)]
  · rw [show 6 * k - xs.length = 0 by omega]; rfl
  · rw [show 6 * k + 1 - xs.length = 1 by omega]; rfl
  · rw [show 6 * k + 2 - xs.length = 2 by omega]; rfl
  · rw [show 6 * k + 3 - xs.length = 3 by omega]; rfl
  · rw [show 6 * k + 4 - xs.length = 4 by omega]; rfl
  · rw [show 6 * k + 5 - xs.length = 5 by omega]; rfl

/-- From one world to a later one: all is as it was but for the reader and what is a row of nodes from B on. -/
structure RF (rb B : Nat) (w w' : World) : Prop where
  os : w'.os = w.os
  tape : w'.tape = w.tape
  output : w'.output = w.output
  size : w.heap.size ≤ w'.heap.size
  low : ∀ k, k < B → k < w.heap.size → k ≠ rb → w'.heap[k]? = w.heap[k]?
  other : ∀ k o, w.heap[k]? = some o → k ≠ rb → (∀ c fz, o ≠ .cells c 147 fz) → w'.heap[k]? = some o

theorem RF.refl (rb B : Nat) (w : World) : RF rb B w w := ⟨rfl, rfl, rfl, Nat.le_refl _, fun _ _ _ _ => rfl, fun _ _ h _ _ => h⟩

theorem RF.trans {rb B : Nat} {a b c : World} (h : RF rb B a b) (k : RF rb B b c) : RF rb B a c :=
  ⟨k.os.trans h.os, k.tape.trans h.tape, k.output.trans h.output, Nat.le_trans h.size k.size,
   fun i hi h0 h1 => (k.low i hi (Nat.lt_of_lt_of_le h0 h.size) h1).trans (h.low i hi h0 h1),
   fun i o h0 h1 h2 => k.other i o (h.other i o h0 h1 h2) h1 h2⟩

theorem lt_of_heap {w : World} {k : Nat} {o : Obj} (h : w.heap[k]? = some o) : k < w.heap.size := by
  by_cases hp : k < w.heap.size
  · exact hp
  · rw [Array.getElem?_eq_none (by omega)] at h; cases h

theorem RF.of_fr {rb B : Nat} {w w' : World} (h : w.grownBy w' (some rb)) : RF rb B w w' :=
  ⟨h.os, h.tape, h.output, h.size, fun k _ hk h1 => h.block k hk (fun e => h1 (by injection e)), fun k o h0 h1 _ => (h.block k (lt_of_heap h0) (fun e => h1 (by injection e))).trans h0⟩

theorem RF.fr {rb B : Nat} {w w1 w' : World} (k : RF rb B w w1) (h : w1.grownBy w' (some rb)) : RF rb B w w' := k.trans (RF.of_fr h)

theorem Nodes.fr {w w' : World} {B rb n : Nat} {v : Value} (h : Nodes w B v n) (hf : w.grownBy w' (some rb)) (hB : rb < B) : Nodes w' B v n := by
  obtain ⟨xs, ho, h1⟩ := h.own
  exact ⟨xs, ho.kept hf (Or.inr (fun e => by have := (ho.lt _ e).1; omega)), h1⟩

theorem RRaw.alloc {w : World} {s : ByteArray} {rb i : Nat} {t : ByteArray} {code place its : Nat} {v : Value} (h : RRaw w s rb i t code place its v) (o : Obj) : RRaw (w.alloc o) s rb i t code place its v :=
  (Below.heap_alloc w o rb h.lt).trans h

theorem RRaw.grown {w w' : World} {s : ByteArray} {rb i : Nat} {t : ByteArray} {code place its : Nat} {v : Value} {row : Option Nat} (h : RRaw w s rb i t code place its v) (hg : w.grownBy w' row) (hne : some rb ≠ row) : RRaw w' s rb i t code place its v :=
  (hg.block rb h.lt hne).trans h

theorem RRaw.nodes {w : World} {s : ByteArray} {rb i : Nat} {t : ByteArray} {code place its : Nat} {v : Value} (h : RRaw w s rb i t code place its v) (v' : Value) : RRaw (w.setCell ⟨rb, 6, none⟩ v') s rb i t code place its v' := blk_set h 6 v'

theorem own_forms {w : World} {base size n : Nat} {e : TypeId} {v : Value} {xs : List Value} (h : w.ownsRow base e size v n xs) : ∃ p c, v = .slice p n c := by
  rcases h.2 with ⟨rfl, rfl⟩ | ⟨g, cap, _, hv, _⟩
  · exact ⟨_, _, rfl⟩
  · exact ⟨_, _, hv⟩

theorem new_six (w : World) (A : Obj) (k : Nat) (T : TypeId) (a0 a1 a2 a3 a4 a5 : Value) : ∀ j u, [a0, a1, a2, a3, a4, a5][j]? = some u → (((w.alloc A).drewN k).alloc (.cells #[a0, a1, a2, a3, a4, a5] T)).cell? ((⟨w.heap.size + 1, 0, none⟩ : Addr).add j) = some u := by
  intro j u hj
  have hn : (((w.alloc A).drewN k).alloc (.cells #[a0, a1, a2, a3, a4, a5] T)).heap[w.heap.size + 1]? = some (.cells #[a0, a1, a2, a3, a4, a5] T) := by
    have := heap_alloc_new ((w.alloc A).drewN k) (.cells #[a0, a1, a2, a3, a4, a5] T)
    simpa using this
  have h6 : j < 6 := by have := List.getElem?_eq_some_iff.1 hj; exact this.1
  rcases (by omega : j = 0 ∨ j = 1 ∨ j = 2 ∨ j = 3 ∨ j = 4 ∨ j = 5) with rfl | rfl | rfl | rfl | rfl | rfl
  all_goals
    simp only [World.cell?, Addr.add]
    generalize (((w.alloc A).drewN k).alloc (.cells #[a0, a1, a2, a3, a4, a5] T)).heap = H at hn
    simp [hn]
    simpa using hj

theorem own_ne {w : World} {B rb n : Nat} {v : Value} {e : TypeId} {size : Nat} {xs : List Value} (h : w.ownsRow B e size v n xs) (hB : rb < B) : some rb ≠ v.ownBlock := fun e => by
  have := (h.lt _ e.symm).1; omega

theorem rf_add {w w' : World} {v : Value} {n : Nat} {xs : List Value} (rb B : Nat) {u : Value} (hown : w.ownsRow B 147 6 v n xs) (hg : w.grownBy w' v.ownBlock) : RF rb B w (w'.setCell ⟨rb, 6, none⟩ u) := by
  refine RF.trans (b := w') ⟨hg.os, hg.tape, hg.output, hg.size, fun k h0 hk _ => hg.block k hk (fun e => ?_), fun k o h0 _ h2 => (hg.block k (lt_of_heap h0) (fun e => ?_)).trans h0⟩ (RF.of_fr (Fr.set (World.grownBy.refl _ _) _ _))
  · have := (hown.lt _ e.symm).1; omega
  · rcases hown.2 with ⟨rfl, _⟩ | ⟨g, cap, cur, rfl, _, hb, _⟩
    · simp [Value.ownBlock] at e
    · simp [Value.ownBlock] at e
      subst e
      rw [h0] at hb
      injection hb with hb
      exact h2 _ _ hb

set_option maxRecDepth 100000 in
set_option maxHeartbeats 2000000 in
theorem add_any (s : ByteArray) (rb B i : Nat) (t : ByteArray) (code place its n : Nat) (v : Value) (b : Int) (t2 : ByteArray) (x y z : Int) (p : Option Addr) (pn pc : Nat) (w : World) (h : RRaw w s rb i t code place its v) (hN : Nodes w B v n) (hB : rb < B) (hBw : B ≤ w.heap.size) (hn : n ≤ 100000) :
    Calls Tryz.prog 67 #[.pointer (some ⟨rb, 0, none⟩), .agg #[.int .u8 b, .string t2, .int .i64 x, .int .i64 y, .int .i64 z, .slice p pn pc]] w fun e w' => e = .returned (.int .i64 (n : Int)) ∧ ∃ v', RRaw w' s rb i t code place its v' ∧ Nodes w' B v' (n + 1) ∧ RF rb B w w' := by
  obtain ⟨c0, c1, c2, c3, c4, c5, c6, cf⟩ := h.cells
  obtain ⟨xs, hown, hone⟩ := hN.own
  obtain ⟨i0, hi0, hz0, hz1, hz2⟩ := info_parts rnodeInfo
  have hlt := h.lt
  obtain ⟨vp, vc, rfl⟩ := own_forms hown
  go_enter Tryz.func67, Tryz.ntmps67
  go_wp2_with fail
  go_region_law (refine step_append_own rfl (.tmp 9) (.tmp 11) 80 rfl B 147 i0 _ 6 72 Tryz.underlying80 hi0 hz0 hz1 hz2 rfl (by decide) (.slice vp n vc) _ xs rfl (hown.kept (row := none) (Fr.alloc (Fr.drewN (Fr.alloc (World.grownBy.refl _ _) _) 1) _) (Classical.em _)) ⟨w.heap.size + 1, 0, none⟩ 1 1 [.int .u8 b, .string t2, .int .i64 x, .int .i64 y, .int .i64 z, .slice p pn pc] rfl rfl (new_six w _ _ _ _ _ _ _ _ _) (by intro u hu; simp at hu; rcases hu with rfl | rfl | rfl | rfl | rfl | rfl <;> rfl) (by unfold maxLen; omega) (by omega) (by simp; omega) ?_; intro v' w' ho hg; obtain ⟨vp', vc', rfl⟩ := own_forms ho; have hg' := Fr.trans (row := _) (Fr.alloc (Fr.drewN (Fr.alloc (World.grownBy.refl w _) _) 1) _) hg; have hr' := RRaw.grown h hg' (own_ne hown hB); obtain ⟨k0, k1, k2, k3, k4, k5, k6, kf⟩ := hr'.cells)
  all_goals
    clear c0 c1 c2 c3 c4 c5 c6 cf hg
    go_wp2_with fail
    go_ret
    refine ⟨by congr 2, _, RRaw.nodes hr' _, ⟨_, ownsRow_setCell_below ho hB _, ?_⟩, ?_⟩
    · intro k hk
      rcases (by omega : k < n ∨ k = n) with hk | rfl
      · exact (hone k hk).old _
      · exact NodeAt.new hown.1 _ _ _ _ _ _ _ _
    · exact rf_add rb B hown hg'
end Go.Proofs.YtpekpdimdelncaaGreatDoor
