/- Out of: E9, E11, F2, F3, F4, F5, F6. -/
import Derived.Test.YtpekpdimdelncaaGreatDoorP43
import Derived.Deep.SlicePairs
import Derived.OpenShut
import Derived.Test.YtpekpdimdelncaaGreatDoorP42
import Derived.Deep.AppendLies
import Derived.Laws.MakeOwn
import Derived.Deep.RegionWith
namespace Go.Proofs.YtpekpdimdelncaaGreatDoor
open Go.RowKit Go.Shelf
set_option linter.unusedVariables false
set_option linter.unusedSimpArgs false
def StepsAt (w : World) (o : Option Addr) (len : Nat) (K Y Z : Nat → Int) : Prop :=
  ∀ i, i < len → ∃ ab ao, o = some ⟨ab, ao, none⟩ ∧ w.cell? ⟨ab, ao + i * 3, none⟩ = some (.int .i64 (K i)) ∧ w.cell? ⟨ab, ao + i * 3 + 1, none⟩ = some (.int .i64 (Y i)) ∧ w.cell? ⟨ab, ao + i * 3 + 2, none⟩ = some (.int .i64 (Z i)) ∧
    (-9223372036854775808 ≤ K i ∧ K i ≤ 9223372036854775807) ∧ (-9223372036854775808 ≤ Y i ∧ Y i ≤ 9223372036854775807) ∧ (-9223372036854775808 ≤ Z i ∧ Z i ≤ 9223372036854775807)
def hasZero : Array Value := #[.int .i64 0, .string ⟨#[]⟩, .int .i64 0, .string ⟨#[]⟩, .int .i64 0, .string ⟨#[]⟩, .int .i64 0, .string ⟨#[]⟩, .int .i64 0, .string ⟨#[]⟩, .int .i64 0, .string ⟨#[]⟩, .int .i64 0, .string ⟨#[]⟩, .int .i64 0, .string ⟨#[]⟩]
theorem make_has (w : World) : (Instr.makeSlice 31 (.int .i64 8) (.int .i64 8)).run Tryz.prog w = .ok (.slice (some ⟨w.heap.size, 0, none⟩) 8 8) (w.alloc (.cells hasZero 69)) := by kernel_rfl
theorem hm_zero (w : World) : HM (w.alloc (.cells hasZero 69)) w.heap.size (fun _ => (0, [])) := by
  refine ⟨hasZero, heap_alloc_new w _, rfl, fun i hi => ?_⟩
  have : ∀ i, i < 16 → hasZero[i]? = some (if i % 2 = 0 then Value.int .i64 ((0 : Nat) : Int) else str []) := by
    intro i hi
    match i, hi with
    | 0, _ => rfl
    | 1, _ => rfl
    | 2, _ => rfl
    | 3, _ => rfl
    | 4, _ => rfl
    | 5, _ => rfl
    | 6, _ => rfl
    | 7, _ => rfl
    | 8, _ => rfl
    | 9, _ => rfl
    | 10, _ => rfl
    | 11, _ => rfl
    | 12, _ => rfl
    | 13, _ => rfl
    | 14, _ => rfl
    | 15, _ => rfl
    | n + 16, h => omega
  exact this i hi
def tailS : Nat → Code → Code
  | 0, c => c
  | n + 1, .seq _ y => tailS n y
  | _, c => c
end Go.Proofs.YtpekpdimdelncaaGreatDoor
namespace Go.Proofs.YtpekpdimdelncaaGreatDoor
set_option maxRecDepth 100000
open Go.ChangeShapes Go.WideShapes Go.RowKit Go.Deep
set_option linter.unusedVariables false
theorem cells34 : Tryz.prog.cellsOf 34 = 3 := by kernel_rfl
theorem cells3i : Tryz.prog.cellsOf 3 = 1 := by kernel_rfl
theorem steps_open {H : Type} {enc : TypeId × Value → H} {w : World} {base fuel : Nat} {spare : Nat → Bool} {held : Bool} {cs : List Value} {x : DataW H × List MemPlace} (h : DataW.trod enc Tryz.prog w base spare held fuel 27 cs = some x) :
    ∃ o len cap K Y Z, cs = [.slice o len cap] ∧ StepsAt w o len K Y Z := by
  rcases open_slice Tryz.underlying27 h with ⟨h0, _⟩ | ⟨a, len, cap, m, n, D, Pl, rfl, hb, hl, hm, hmm, rfl, hx⟩
  · exact ⟨none, 0, 0, fun _ => 0, fun _ => 0, fun _ => 0, h0, fun i hi => by omega⟩
  · have hlm : len ≤ m := by rw [hmm]; split <;> omega
    have each : ∀ i, i < len → ∃ q : Int × Int × Int, w.cell? (a.add (i * 3)) = some (.int .i64 q.1) ∧ w.cell? (a.add (i * 3 + 1)) = some (.int .i64 q.2.1) ∧ w.cell? (a.add (i * 3 + 2)) = some (.int .i64 q.2.2) ∧ (Lit.int .i64 q.1).wf = true ∧ (Lit.int .i64 q.2.1).wf = true ∧ (Lit.int .i64 q.2.2).wf = true := by
      intro i hi
      obtain ⟨cs', h1, h2⟩ := hx i (by omega)
      rw [cells34] at h1
      obtain ⟨_, hlen, hcell⟩ := World.cells?_some h1
      obtain ⟨xs, k, hk, hxy, _, hxl, hf⟩ := DataW.trod_struct Tryz.underlying34 h2
      match xs, hxl, cs', hlen with
      | [y0, y1, y2], _, [v0, v1, v2], _ =>
        have g0 := hf 0 _ rfl
        have g1 := hf 1 _ rfl
        have g2 := hf 2 _ rfl
        simp [cells3i] at g0 g1 g2
        have e0 := hcell 0 (by omega)
        have e1 := hcell 1 (by omega)
        have e2 := hcell 2 (by omega)
        rw [add_add] at e0 e1 e2
        obtain ⟨n0, k0, _, w0⟩ := DataW.trod_int Tryz.underlying3 g0
        obtain ⟨n1, k1, _, w1⟩ := DataW.trod_int Tryz.underlying3 g1
        obtain ⟨n2, k2, _, w2⟩ := DataW.trod_int Tryz.underlying3 g2
        simp at k0 k1 k2
        subst k0
        subst k1
        subst k2
        exact ⟨(n0, n1, n2), by simpa using e0, by simpa using e1, by simpa using e2, w0, w1, w2⟩
    obtain ⟨q, hq⟩ := choose_lt each
    refine ⟨some a, len, cap, fun i => (q i).1, fun i => (q i).2.1, fun i => (q i).2.2, rfl, fun i hi => ?_⟩
    obtain ⟨h1, h2, h3, b1, b2, b3⟩ := hq i hi
    obtain ⟨ab, ao, ap⟩ := a
    have hspot : ap = none := by
      obtain ⟨h1', _⟩ := hq 0 (by omega)
      simpa [Addr.add] using World.cell?_spot h1'
    subst hspot
    rw [add_plain] at h1 h2 h3
    exact ⟨ab, ao, rfl, h1, by rw [Nat.add_assoc]; exact h2, by rw [Nat.add_assoc]; exact h3, bounds_i64 b1, bounds_i64 b2, bounds_i64 b3⟩
end Go.Proofs.YtpekpdimdelncaaGreatDoor
namespace Go.Proofs.YtpekpdimdelncaaGreatDoor
set_option maxRecDepth 100000
set_option maxHeartbeats 1000000
open Go.RowKit Go.Shelf
set_option linter.unusedVariables false
set_option linter.unusedSimpArgs false
theorem eqNilC (w : World) (a : Option Addr) (n c n' c' : Nat) : (binOp .eql 55 (.slice a n c) (.slice none n' c')).run Tryz.prog w = .ok (.bool a.isNone) w :=
  Lib.run_eql_slice_nil w _ _ a n c n' c' Tryz.underlying55
theorem clone_causes (w : World) (v : Value) (n : Nat) (xs : List Value) (hown : w.ownsRow 8 61 6 v n xs) (h1 : ∀ u ∈ xs, u.oneCell' = true) (hn : n ≤ 1000000000) :
    Calls Tryz.prog 55 #[v] w fun e w' => ∃ v', e = .returned v' ∧ w'.ownsRow w.heap.size 61 6 v' n xs ∧ Below w.heap.size w w' := by
  have hown' := hown
  obtain ⟨hxl, ⟨rfl, rfl⟩ | ⟨g, cap, cur, rfl, hb, hg, hnc, hcm, hcs, htk⟩⟩ := hown
  · have hq := eqNilC w none 0 0 0 0
    have hx : xs = [] := List.eq_nil_of_length_eq_zero (by simpa using hxl)
    subst hx
    have HF : Hid (w.ownsRow w.heap.size 61 6 (.slice none 0 0) 0 [] ∧ Below w.heap.size w w) := hide ⟨World.ownsRow_nil _ _ _ _, Below.refl _ _⟩
    clear hown' hxl h1 hn
    go_enter Tryz.func55, Tryz.ntmps55
    go_wp2_with fail
    go_ret
    exact ⟨_, rfl, HF.out.1, HF.out.2⟩
  · have hq := eqNilC w (some ⟨g, 0, none⟩) n cap 0 0
    have hB1 : Below w.heap.size w (w.alloc (.cells #[] 61)) := (Below.refl _ w).alloc (Nat.le_refl _) _
    have hcells : ∀ j u, xs[j]? = some u → (w.alloc (.cells #[] 61)).cell? ((⟨g, 0, none⟩ : Addr).add j) = some u := fun j u hu => cell_later hB1 (hown'.cells (g := g) rfl j u hu)
    have hown1 : (w.alloc (.cells #[] 61)).ownsRow w.heap.size 61 6 (.slice (some ⟨w.heap.size, 0, none⟩) 0 0) 0 [] := ⟨rfl, .inr ⟨w.heap.size, 0, #[], rfl, Nat.le_refl _, heap_alloc_new w _, Nat.le_refl _, Nat.zero_le _, rfl, rfl⟩⟩
    obtain ⟨i0, hi0, hz0, hz1, hz2⟩ := info_parts causeInfo
    obtain ⟨v', w', hr, ho, hgr, _⟩ := run_append_own (P := Tryz.prog) (w.alloc (.cells #[] 61)) w.heap.size 55 55 61 i0 _ 6 80 Tryz.underlying55 hi0 hz0 hz1 hz2 rfl (by decide) _ 0 [] hown1 ⟨g, 0, none⟩ n cap xs (by rw [hxl]) hcells h1 (by unfold maxLen; omega) (by omega) (by simp)
    rw [Nat.zero_add, List.nil_append] at ho
    have HF : Hid (w'.ownsRow w.heap.size 61 6 v' n xs ∧ Below w.heap.size w w') := hide ⟨ho, hB1.trans ⟨hgr.os, hgr.tape, hgr.output, hgr.size, fun k hk => hgr.block k (by simp; omega) (fun e => by have e' : some k = some w.heap.size := e; injection e' with e'; omega)⟩⟩
    clear hown' hxl h1 hcells hown1 ho hgr hi0 hz0 hz1 hz2 hg htk hB1
    go_enter Tryz.func55, Tryz.ntmps55
    go_wp2_with (at_builtin; refine wpList_run_append _ rfl _ _ _ _ rfl _ _ _ _ rfl rfl hr ?_)
    go_ret
    exact ⟨_, rfl, HF.out.1, HF.out.2⟩
theorem why_one (l : List Lard.Why) : ∀ u ∈ l.flatMap whyCells, u.oneCell' = true := by
  intro u hu
  obtain ⟨y, _, hy⟩ := List.mem_flatMap.1 hu
  have hw : ∀ (r : Lard.Wo), ∀ u ∈ woCells r, u.oneCell' = true := fun r u hu => by
    cases r with
    | ok v =>
      simp only [woCells, List.mem_cons, List.not_mem_nil, or_false] at hu
      rcases hu with rfl | rfl <;> rfl
    | error c =>
      simp only [woCells, List.mem_cons, List.not_mem_nil, or_false] at hu
      rcases hu with rfl | rfl <;> rfl
  unfold whyCells at hy
  simp only [List.mem_cons, List.mem_append] at hy
  rcases hy with rfl | rfl | h | h
  · rfl
  · rfl
  · exact hw _ u h
  · exact hw _ u h
theorem ran_any (w : World) (lb : Nat) (s : Lard.LS) (L : Nat → Prop) (h : LAt w lb s L) (hn : s.ran.length ≤ 1000000000) :
    Calls Tryz.prog 28 #[ptr lb] w fun e w' => ∃ v', e = .returned v' ∧ w'.ownsRow w.heap.size 61 6 v' s.ran.length (s.ran.flatMap whyCells) ∧ Below w.heap.size w w' := by
  obtain ⟨hb, db, vb, vr, vn, vj, h0⟩ := h
  have c4 : w.cell? ⟨lb, 4, none⟩ = some vn := by simp [World.cell?, h0.blk]
  have HC := hide (clone_causes w vn _ _ h0.ran (why_one s.ran) hn)
  clear h0
  unfold ptr
  go_enter Tryz.func28, Tryz.ntmps28
  go_wp2_with fail
  refine HC.out.mono ?_
  rintro e w1 ⟨v', rfl, ho, hB1⟩
  dsimp only
  clear HC
  go_wp2_with fail
  go_ret
  exact ⟨_, rfl, ho, hB1⟩
end Go.Proofs.YtpekpdimdelncaaGreatDoor
namespace Go.Proofs.YtpekpdimdelncaaGreatDoor
set_option maxRecDepth 100000
set_option maxHeartbeats 2000000
open Go.RowKit Go.Shelf
set_option linter.unusedVariables false
set_option linter.unusedSimpArgs false
theorem needInfoA : (Tryz.prog.info? 66).map (fun i => (i.zero, i.size, i.bytes)) = some (some (.agg #[.string ⟨#[]⟩, .int .i64 0, .string ⟨#[]⟩]), 3, 40) := by kernel_rfl
def needCells (n : List UInt8 × Lard.Wo) : List Value := str n.1 :: woCells n.2
def KeptTold (s : Lard.LS) (key : List UInt8) (w w' : World) (e : Ending) : Prop :=
  if Lard.isName key = true then
    match Lard.keptOf s.has key with
    | none => e = .returned (.tuple #[.agg #[.int .i64 0, .string ⟨#[]⟩], .slice none 0 0, .int .i64 7])
    | some kp => ∃ v, e = .returned (.tuple #[toldV kp.worth, v, .int .i64 0]) ∧ w'.ownsRow w.heap.size 66 3 v kp.needs.length (kp.needs.flatMap needCells)
  else e = .returned (.tuple #[.agg #[.int .i64 0, .string ⟨#[]⟩], .slice none 0 0, .int .i64 1])
theorem worth_blk {w w1 : World} (h : Below (w.alloc (.cells #[.int .i64 0, .string ⟨#[]⟩] 59)).heap.size (w.alloc (.cells #[.int .i64 0, .string ⟨#[]⟩] 59)) w1) : w1.heap[w.heap.size]? = some (.cells #[.int .i64 0, .string ⟨#[]⟩] 59 (0, 0)) :=
  (h.block _ (by simp)).trans (heap_alloc_new w _)
theorem kept_noname (w : World) (lb : Nat) (key : ByteArray) (g : G w) (hk : key.size ≤ 200) (hn : Lard.isName key.data.toList = false) :
    Calls Tryz.prog 30 #[ptr lb, .string key] w fun e w' => e = .returned (.tuple #[.agg #[.int .i64 0, .string ⟨#[]⟩], .slice none 0 0, .int .i64 1]) ∧ Below w.heap.size w w' := by
  have hB0 : Below w.heap.size w (w.alloc (.cells #[.int .i64 0, .string ⟨#[]⟩] 59)) := (Below.refl _ w).alloc (Nat.le_refl _) _
  have HN := hide (isName_any key _ (g.below hB0 g.size) (by omega))
  rw [hn] at HN
  have HB0 := hide hB0
  clear g hB0 hn
  unfold ptr
  go_enter Tryz.func30, Tryz.ntmps30
  go_wp2_with fail
  refine HN.out.mono ?_
  rintro e w1 ⟨rfl, hB1⟩
  dsimp only
  have hblk := worth_blk hB1
  have c0 : w1.cell? ⟨w.heap.size, 0, none⟩ = some (.int .i64 0) := by simp [World.cell?, hblk]
  have c1 : w1.cell? ⟨w.heap.size, 1, none⟩ = some (.string ⟨#[]⟩) := by simp [World.cell?, hblk]
  have f0 : w1.frozen? ⟨w.heap.size, 0, none⟩ = false := by simp [World.frozen?, hblk]
  have f1 : w1.frozen? ⟨w.heap.size, 1, none⟩ = false := by simp [World.frozen?, hblk]
  have HB : Hid (Below w.heap.size w w1) := hide (HB0.out.trans (hB1.mono (by simp)))
  have h2 := blk_cell (blk_cell hblk 0 (.int .i64 0)) 1 (.string ⟨#[]⟩)
  have HB2 : Hid (Below w.heap.size w ((w1.setCell ⟨w.heap.size, 0, none⟩ (.int .i64 0)).setCell ⟨w.heap.size, 1, none⟩ (.string ⟨#[]⟩))) := hide ((HB.out.setCell (Nat.le_refl _) _).setCell (Nat.le_refl _) _)
  clear HN HB0 hB1 HB hblk
  go_wp2_with fail
  clear c0 c1 f0 f1
  generalize (w1.setCell ⟨w.heap.size, 0, none⟩ (.int .i64 0)).setCell ⟨w.heap.size, 1, none⟩ (.string ⟨#[]⟩) = w2 at h2 HB2 ⊢
  have e0 : w2.cell? ⟨w.heap.size, 0, none⟩ = some (.int .i64 0) := by simp [World.cell?, h2]
  have e1 : w2.cell? ⟨w.heap.size, 1, none⟩ = some (.string ⟨#[]⟩) := by simp [World.cell?, h2]
  exact bodyPost_ret (v := .tuple #[.agg #[.int .i64 0, .string ⟨#[]⟩], .slice none 0 0, .int .i64 1]) (by simp [results, Tryz.results30, go_sem, e0, e1]) rfl ⟨rfl, HB2.out⟩
theorem kept_none (w : World) (lb : Nat) (s : Lard.LS) (L : Nat → Prop) (key : ByteArray) (h : LAt w lb s L) (g : G w) (hk : key.size ≤ 200) (hn : Lard.isName key.data.toList = true) (hkp : Lard.keptOf s.has key.data.toList = none) :
    Calls Tryz.prog 30 #[ptr lb, .string key] w fun e w' => e = .returned (.tuple #[.agg #[.int .i64 0, .string ⟨#[]⟩], .slice none 0 0, .int .i64 7]) ∧ Below w.heap.size w w' := by
  have hB0 : Below w.heap.size w (w.alloc (.cells #[.int .i64 0, .string ⟨#[]⟩] 59)) := (Below.refl _ w).alloc (Nat.le_refl _) _
  have HN := hide (isName_any key _ (g.below hB0 g.size) (by omega))
  rw [hn] at HN
  have HB0 := hide hB0
  have HL := hide (And.intro h hkp)
  clear g hB0 hn h hkp
  unfold ptr
  go_enter Tryz.func30, Tryz.ntmps30
  go_wp2_with fail
  refine HN.out.mono ?_
  rintro e w1 ⟨rfl, hB1⟩
  dsimp only
  have hblk := worth_blk hB1
  have c0 : w1.cell? ⟨w.heap.size, 0, none⟩ = some (.int .i64 0) := by simp [World.cell?, hblk]
  have c1 : w1.cell? ⟨w.heap.size, 1, none⟩ = some (.string ⟨#[]⟩) := by simp [World.cell?, hblk]
  have f0 : w1.frozen? ⟨w.heap.size, 0, none⟩ = false := by simp [World.frozen?, hblk]
  have f1 : w1.frozen? ⟨w.heap.size, 1, none⟩ = false := by simp [World.frozen?, hblk]
  have HB : Hid (Below w.heap.size w w1) := hide (HB0.out.trans (hB1.mono (by simp)))
  have h2 := blk_cell (blk_cell hblk 0 (.int .i64 0)) 1 (.string ⟨#[]⟩)
  have HB2 : Hid (Below w.heap.size w ((w1.setCell ⟨w.heap.size, 0, none⟩ (.int .i64 0)).setCell ⟨w.heap.size, 1, none⟩ (.string ⟨#[]⟩))) := hide ((HB.out.setCell (Nat.le_refl _) _).setCell (Nat.le_refl _) _)
  have hA1 : LAt w1 lb s L := HL.out.1.st (fun k hk => HB.out.block k (HL.out.1.typed k hk).2.1) (Stay.below HB.out)
  have HKO := hide (keptOf_any w1 lb s L key hA1 hk)
  rw [HL.out.2] at HKO
  unfold ptr at HKO
  clear HN HB0 hB1 HB hblk hA1 HL
  go_wp2_with fail
  refine HKO.out.mono ?_
  rintro e w' ⟨⟨v, rfl, hv⟩, hw'⟩
  obtain rfl := hw'.symm
  dsimp only
  obtain rfl : v = .pointer none := by
    rcases hv with ⟨_, h⟩ | ⟨kp, kb, h, _⟩
    · exact h
    · cases h
  clear hv HKO
  go_wp2_with fail
  clear c0 c1 f0 f1
  generalize (w1.setCell ⟨w.heap.size, 0, none⟩ (.int .i64 0)).setCell ⟨w.heap.size, 1, none⟩ (.string ⟨#[]⟩) = w2 at h2 HB2 ⊢
  have e0 : w2.cell? ⟨w.heap.size, 0, none⟩ = some (.int .i64 0) := by simp [World.cell?, h2]
  have e1 : w2.cell? ⟨w.heap.size, 1, none⟩ = some (.string ⟨#[]⟩) := by simp [World.cell?, h2]
  exact bodyPost_ret (v := .tuple #[.agg #[.int .i64 0, .string ⟨#[]⟩], .slice none 0 0, .int .i64 7]) (by simp [results, Tryz.results30, go_sem, e0, e1]) rfl ⟨rfl, HB2.out⟩
end Go.Proofs.YtpekpdimdelncaaGreatDoor
namespace Go.Proofs.YtpekpdimdelncaaGreatDoor
open Go.RowKit Go.Shelf
set_option linter.unusedVariables false
set_option linter.unusedSimpArgs false
def needF (ns : List (List UInt8 × Lard.Wo)) (Z : Nat → Value) (k j : Nat) : Value := if j < k * 3 then (ns.flatMap needCells)[j]?.getD undef else Z j
theorem woCells_len (r : Lard.Wo) : (woCells r).length = 2 := by cases r <;> rfl
theorem needCells_len (n : List UInt8 × Lard.Wo) : (needCells n).length = 3 := by
  unfold needCells
  rw [List.length_cons, woCells_len]
theorem needs_at : ∀ (ns : List (List UInt8 × Lard.Wo)) (k : Nat) (n : List UInt8 × Lard.Wo), ns[k]? = some n → ∀ j, j < 3 → (ns.flatMap needCells)[k * 3 + j]? = (needCells n)[j]?
  | [], k, n, h, j, hj => by simp at h
  | m :: ns, 0, n, h, j, hj => by
    simp at h
    subst h
    rw [List.flatMap_cons, Nat.zero_mul, Nat.zero_add, List.getElem?_append_left (by rw [needCells_len]; exact hj)]
  | m :: ns, k + 1, n, h, j, hj => by
    rw [List.flatMap_cons, List.getElem?_append_right (by rw [needCells_len]; omega), needCells_len, show (k + 1) * 3 + j - 3 = k * 3 + j by omega]
    exact needs_at ns k n (by simpa using h) j hj
theorem needs_len (ns : List (List UInt8 × Lard.Wo)) : (ns.flatMap needCells).length = ns.length * 3 := by
  induction ns with
  | nil => rfl
  | cons m ns ih =>
    rw [List.flatMap_cons, List.length_append, needCells_len, ih, List.length_cons]
    omega
theorem need_next {w : World} {nb : Nat} {ns : List (List UInt8 × Lard.Wo)} {Z : Nat → Value} {k : Nat} {n : List UInt8 × Lard.Wo} {tc : Value} {ts : Value} (h : w.rowIs nb 66 (ns.length * 3) (needF ns Z k)) (hn : ns[k]? = some n) (ht : woCells n.2 = [tc, ts]) :
    (((w.setCell ⟨nb, k * 3, none⟩ (str n.1)).setCell ⟨nb, k * 3 + 1, none⟩ tc).setCell ⟨nb, k * 3 + 2, none⟩ ts).rowIs nb 66 (ns.length * 3) (needF ns Z (k + 1)) := by
  refine (((h.set (k * 3) (str n.1)).set (k * 3 + 1) tc).set (k * 3 + 2) ts).congr (fun j hj => ?_)
  have hc : needCells n = [str n.1, tc, ts] := by unfold needCells; rw [ht]
  have a0 := needs_at ns k n hn 0 (by omega)
  have a1 := needs_at ns k n hn 1 (by omega)
  have a2 := needs_at ns k n hn 2 (by omega)
  rw [hc] at a0 a1 a2
  unfold needF
  by_cases e2 : j = k * 3 + 2
  · rw [if_pos e2, if_pos (by omega), e2, a2]
    rfl
  · rw [if_neg e2]
    by_cases e1 : j = k * 3 + 1
    · rw [if_pos e1, if_pos (by omega), e1, a1]
      rfl
    · rw [if_neg e1]
      by_cases e0 : j = k * 3
      · rw [if_pos e0, if_pos (by omega), e0]
        rw [Nat.add_zero] at a0
        rw [a0]
        rfl
      · rw [if_neg e0]
        by_cases e3 : j < k * 3
        · rw [if_pos e3, if_pos (by omega)]
        · rw [if_neg e3, if_neg (by omega)]
theorem needs_own {w : World} {base nb : Nat} {ns : List (List UInt8 × Lard.Wo)} {Z : Nat → Value} (h : w.rowIs nb 66 (ns.length * 3) (needF ns Z ns.length)) (hb : base ≤ nb) (hl : ns.length ≤ maxLen) : w.ownsRow base 66 3 (.slice (some ⟨nb, 0, none⟩) ns.length ns.length) ns.length (ns.flatMap needCells) := by
  obtain ⟨c, h1, h2, h3⟩ := h
  refine ⟨needs_len ns, .inr ⟨nb, ns.length, c, rfl, hb, h1, Nat.le_refl _, hl, h2, ?_⟩⟩
  apply List.ext_getElem?
  intro j
  by_cases hj : j < ns.length * 3
  · rw [List.getElem?_take_of_lt hj, Array.getElem?_toList, h3 j hj]
    unfold needF
    rw [if_pos hj, List.getElem?_eq_getElem (by rw [needs_len]; exact hj)]
    rfl
  · rw [List.getElem?_eq_none (by rw [List.length_take]; omega), List.getElem?_eq_none (by rw [needs_len]; omega)]
end Go.Proofs.YtpekpdimdelncaaGreatDoor
namespace Go.Proofs.YtpekpdimdelncaaGreatDoor
set_option maxRecDepth 100000
set_option maxHeartbeats 4000000
open Go.RowKit Go.Shelf
set_option linter.unusedVariables false
set_option linter.unusedSimpArgs false
theorem told_cells (r : Lard.Wo) : ∃ (tc : Int) (ts : ByteArray), toldV r = .agg #[.int .i64 tc, .string ts] ∧ woCells r = [.int .i64 tc, .string ts] := by
  cases r with
  | ok v => exact ⟨0, ⟨(Lard.wr 3 v).toArray⟩, rfl, rfl⟩
  | error c => exact ⟨c, ⟨#[]⟩, rfl, rfl⟩
theorem kept_some (w : World) (lb : Nat) (s : Lard.LS) (L : Nat → Prop) (key : ByteArray) (kp : Lard.Keep) (h : LAt w lb s L) (g : G w) (hk : key.size ≤ 200) (hn : Lard.isName key.data.toList = true) (hkp : Lard.keptOf s.has key.data.toList = some kp) :
    Calls Tryz.prog 30 #[ptr lb, .string key] w fun e w' => (∃ v, e = .returned (.tuple #[toldV kp.worth, v, .int .i64 0]) ∧ w'.ownsRow w.heap.size 66 3 v kp.needs.length (kp.needs.flatMap needCells)) ∧ Below w.heap.size w w' := by
  have hB0 : Below w.heap.size w (w.alloc (.cells #[.int .i64 0, .string ⟨#[]⟩] 59)) := (Below.refl _ w).alloc (Nat.le_refl _) _
  have HN := hide (isName_any key _ (g.below hB0 g.size) (by omega))
  rw [hn] at HN
  have HB0 := hide hB0
  have HL := hide (And.intro h (And.intro hkp g))
  generalize hRR : (fun (e : Ending) (w' : World) => (∃ v, e = .returned (.tuple #[toldV kp.worth, v, .int .i64 0]) ∧ w'.ownsRow w.heap.size 66 3 v kp.needs.length (kp.needs.flatMap needCells)) ∧ Below w.heap.size w w') = RR
  have HRR := hide hRR
  clear g hB0 hn h hkp hRR
  unfold ptr
  go_enter Tryz.func30, Tryz.ntmps30
  go_wp2_with fail
  refine HN.out.mono ?_
  rintro e w1 ⟨rfl, hB1⟩
  dsimp only
  have HBK := hide (worth_blk hB1)
  have HB : Hid (Below w.heap.size w w1) := hide (HB0.out.trans (hB1.mono (by simp)))
  have hA1 : LAt w1 lb s L := HL.out.1.st (fun k hk => HB.out.block k (HL.out.1.typed k hk).2.1) (Stay.below HB.out)
  have HKO := hide (keptOf_any w1 lb s L key hA1 hk)
  rw [HL.out.2.1] at HKO
  have g1 : G w1 := HL.out.2.2.below HB.out HL.out.2.2.size
  unfold ptr at HKO
  clear HN HB0 hB1 hA1 HL
  go_wp2_with fail
  refine HKO.out.mono ?_
  rintro e w' ⟨⟨v, rfl, hv⟩, hw'⟩
  obtain rfl := hw'.symm
  dsimp only
  obtain ⟨kb, rfl, hKA⟩ : ∃ kb, v = ptr kb ∧ KeepAt w1 L kp kb := by
    rcases hv with ⟨h, _⟩ | ⟨kp', kb, h, h2, h3⟩
    · cases h
    · cases h
      exact ⟨kb, h2, h3⟩
  obtain ⟨c, i, sl, hblk, hLkb, hisw, hnds, _, hfew⟩ := hKA
  obtain ⟨o, cp, rfl, hcl⟩ := hnds.cell
  have d0 : w1.cell? ⟨kb, 0, none⟩ = some c := by simp [World.cell?, hblk]
  have d1 : w1.cell? ⟨kb, 1, none⟩ = some i := by simp [World.cell?, hblk]
  have d2 : w1.cell? ⟨kb, 2, none⟩ = some (.slice o kp.needs.length cp) := by simp [World.cell?, hblk]
  obtain ⟨i0, hi0, hz0, hz1, hz2⟩ := info_parts needInfoA
  have hmk := run_make (P := Tryz.prog) w1 62 66 i0 _ Tryz.underlying62 hi0 hz0 .i64 .i64 (kp.needs.length : Int) (kp.needs.length : Int) (by omega) (by omega) (by rw [hz2]; omega) (by omega)
  rw [hz1] at hmk
  simp only [Int.toNat_natCast] at hmk
  have hal : Below w1.heap.size w1 (w1.alloc (.cells (madeCells #[.string ⟨#[]⟩, .int .i64 0, .string ⟨#[]⟩] (kp.needs.length * 3)) 66)) := (Below.refl _ w1).alloc (Nat.le_refl _) _
  have d2' := cell_later hal d2
  have hz : ∃ Z : Nat → Value, (w1.alloc (.cells (madeCells #[.string ⟨#[]⟩, .int .i64 0, .string ⟨#[]⟩] (kp.needs.length * 3)) 66)).rowIs w1.heap.size 66 (kp.needs.length * 3) (needF kp.needs Z 0) := by
    refine ⟨fun j => (madeCells #[.string ⟨#[]⟩, .int .i64 0, .string ⟨#[]⟩] (kp.needs.length * 3))[j]?.getD undef, _, heap_alloc_new w1 _, size_madeCells _ _, fun j hj => ?_⟩
    unfold needF
    rw [if_neg (by omega)]
    show (madeCells #[.string ⟨#[]⟩, .int .i64 0, .string ⟨#[]⟩] (kp.needs.length * 3))[j]? = some ((madeCells #[.string ⟨#[]⟩, .int .i64 0, .string ⟨#[]⟩] (kp.needs.length * 3))[j]?.getD undef)
    rw [Array.getElem?_eq_getElem (by rw [size_madeCells]; exact hj)]
    rfl
  obtain ⟨Z, hz⟩ := hz
  have HW : Hid (Below w1.heap.size w1 (w1.alloc (.cells (madeCells #[.string ⟨#[]⟩, .int .i64 0, .string ⟨#[]⟩] (kp.needs.length * 3)) 66)) ∧ (w1.alloc (.cells (madeCells #[.string ⟨#[]⟩, .int .i64 0, .string ⟨#[]⟩] (kp.needs.length * 3)) 66)).rowIs w1.heap.size 66 (kp.needs.length * 3) (needF kp.needs Z 0)) := hide ⟨hal, hz⟩
  clear hal hz
  have HC := hide (And.intro hcl (And.intro hisw hfew))
  clear hv HKO hblk hcl hisw hnds hi0 hz0 hz1 hz2
  unfold ptr
  go_wp2_with fail
  clear hmk d2'
  generalize w1.alloc (.cells (madeCells #[.string ⟨#[]⟩, .int .i64 0, .string ⟨#[]⟩] (kp.needs.length * 3)) 66) = w2 at HW ⊢
  go_loopw [32] (fun kv wr => ∃ k : Nat, k ≤ kp.needs.length ∧ kv = .int .i64 k ∧ Hid (Below w1.heap.size w1 wr ∧ wr.rowIs w1.heap.size 66 (kp.needs.length * 3) (needF kp.needs Z k))) (fun kv _ => kp.needs.length - (intOf kv).toNat)
  case atStart => exact ⟨0, Nat.zero_le _, rfl, HW⟩
  case round =>
    obtain ⟨k, hk2, rfl, HX⟩ := hrel
    clear HW
    by_cases hlt : k < kp.needs.length
    · have hki : (k : Int) < (kp.needs.length : Int) := by omega
      obtain ⟨nd, hnd⟩ : ∃ nd, kp.needs[k]? = some nd := ⟨_, List.getElem?_eq_getElem hlt⟩
      obtain ⟨gn, x, y, rfl, hgn, hnl, e0, e1, e2, hw⟩ := HC.out.1 k nd hnd
      have q0 := (HX.out.1.cell (p := ⟨gn, k * 3, none⟩) hgn).trans e0
      have q1 := (HX.out.1.cell (p := ⟨gn, k * 3 + 1, none⟩) hgn).trans e1
      have q2 := (HX.out.1.cell (p := ⟨gn, k * 3 + 2, none⟩) hgn).trans e2
      obtain ⟨c, y', hxy, hy⟩ := hw.form
      cases hxy
      obtain ⟨tc, ts, ht1, ht2⟩ := told_cells nd.2
      have hstr : str nd.1 = .string (txB nd.1) := rfl
      rw [hstr] at q0
      have hnb : w1.heap.size < wr.heap.size := HX.out.2.lt
      have HTL : Hid (∀ w', Below wr.heap.size wr w' → Calls Tryz.prog 50 #[.agg #[.int .i64 c, y]] w' fun e w'' => e = .returned (.agg #[.int .i64 tc, .string ts]) ∧ Below w'.heap.size w' w'') := hide (fun w' hB => by
        have hBw : Below w1.heap.size w1 w' := HX.out.1.trans (hB.mono HX.out.1.size)
        have := told_worth w' (g1.below hBw g1.size) (hw.keeps (Keeps.below hBw))
        rw [ht1] at this
        exact this)
      have HNX := hide (fun (w' : World) (hB : Below wr.heap.size wr w') => And.intro (HX.out.1.trans (hB.mono HX.out.1.size)) (need_next (HX.out.2.of_block (hB.block _ hnb)) hnd ht2))
      have HNB : Hid (∀ w', Below wr.heap.size wr w' → (∃ a, w'.cell? ⟨w1.heap.size, k * 3, none⟩ = some a) ∧ (∃ a, w'.cell? ⟨w1.heap.size, k * 3 + 1, none⟩ = some a) ∧ (∃ a, w'.cell? ⟨w1.heap.size, k * 3 + 2, none⟩ = some a) ∧ w'.frozen? ⟨w1.heap.size, k * 3, none⟩ = false ∧ w'.frozen? ⟨w1.heap.size, k * 3 + 1, none⟩ = false ∧ w'.frozen? ⟨w1.heap.size, k * 3 + 2, none⟩ = false) := hide (fun w' hB => by
        have hr := HX.out.2.of_block (hB.block _ hnb)
        exact ⟨⟨_, hr.cell (i := k * 3) (by omega)⟩, ⟨_, hr.cell (i := k * 3 + 1) (by omega)⟩, ⟨_, hr.cell (i := k * 3 + 2) (by omega)⟩, hr.frozen _, hr.frozen _, hr.frozen _⟩)
      clear e0 e1 e2 hw hgn hnl hnd ht1 ht2
      rcases hy with rfl | ⟨ty, av, rfl⟩
      · go_wp2_with fail
        have hB3 : Below wr.heap.size wr (wr.alloc (.cells #[.string (txB nd.1), .int .i64 c, .nilIface] 133)) := (Below.refl _ wr).alloc (Nat.le_refl _) _
        have r0 : (wr.alloc (.cells #[.string (txB nd.1), .int .i64 c, .nilIface] 133)).cell? ⟨wr.heap.size, 0, none⟩ = some (.string (txB nd.1)) := by simp [go_sem]
        have r1 : (wr.alloc (.cells #[.string (txB nd.1), .int .i64 c, .nilIface] 133)).cell? ⟨wr.heap.size, 1, none⟩ = some (.int .i64 c) := by simp [go_sem]
        have r2 : (wr.alloc (.cells #[.string (txB nd.1), .int .i64 c, .nilIface] 133)).cell? ⟨wr.heap.size, 2, none⟩ = some (.nilIface) := by simp [go_sem]
        have hlt3 : wr.heap.size < (wr.alloc (.cells #[.string (txB nd.1), .int .i64 c, .nilIface] 133)).heap.size := by simp
        generalize wr.alloc (.cells #[.string (txB nd.1), .int .i64 c, .nilIface] 133) = w3 at hB3 r0 r1 r2 hlt3 ⊢
        have hBd : Below wr.heap.size wr w3.drew := hB3.drew
        rw [hstr] at HNX
        generalize txB nd.1 = kx at r0 HNX
        clear q0 q1 q2 hstr
        refine wp_nrm ?_
        go_region_with (go_at_call 50; refine (HTL.out _ (by assumption)).mono ?_; rintro e w4 ⟨rfl, hB4⟩; have hB4' := hBd.trans (hB4.mono hBd.size); have r0' := (hB4.cell (p := ⟨wr.heap.size, 0, none⟩) hlt3).trans r0; obtain ⟨⟨a0, m0⟩, ⟨a1, m1⟩, ⟨a2, m2⟩, z0, z1, z2⟩ := HNB.out w4 hB4')
        all_goals
          have h5 := HNX.out w4 hB4'
          have H5 : Hid (Below w1.heap.size w1 (((w4.setCell ⟨w1.heap.size, k * 3, none⟩ (.string kx)).setCell ⟨w1.heap.size, k * 3 + 1, none⟩ (.int .i64 tc)).setCell ⟨w1.heap.size, k * 3 + 2, none⟩ (.string ts)) ∧ (((w4.setCell ⟨w1.heap.size, k * 3, none⟩ (.string kx)).setCell ⟨w1.heap.size, k * 3 + 1, none⟩ (.int .i64 tc)).setCell ⟨w1.heap.size, k * 3 + 2, none⟩ (.string ts)).rowIs w1.heap.size 66 (kp.needs.length * 3) (needF kp.needs Z (k + 1))) := hide ⟨((h5.1.setCell (Nat.le_refl _) _).setCell (Nat.le_refl _) _).setCell (Nat.le_refl _) _, h5.2⟩
          refine onlyN_is ?_
          apply_assumption
          clear h5 HNX HTL HNB hB4 hB4' r0 r0' r1 r2 m0 m1 m2 z0 z1 z2 hBd hB3
          go_wp2_with fail
          refine ⟨⟨k + 1, by omega, by go_num, H5⟩, ?_⟩
          simp [intOf]; omega
      · go_wp2_with fail
        have hB3 : Below wr.heap.size wr (wr.alloc (.cells #[.string (txB nd.1), .int .i64 c, .iface ty av] 133)) := (Below.refl _ wr).alloc (Nat.le_refl _) _
        have r0 : (wr.alloc (.cells #[.string (txB nd.1), .int .i64 c, .iface ty av] 133)).cell? ⟨wr.heap.size, 0, none⟩ = some (.string (txB nd.1)) := by simp [go_sem]
        have r1 : (wr.alloc (.cells #[.string (txB nd.1), .int .i64 c, .iface ty av] 133)).cell? ⟨wr.heap.size, 1, none⟩ = some (.int .i64 c) := by simp [go_sem]
        have r2 : (wr.alloc (.cells #[.string (txB nd.1), .int .i64 c, .iface ty av] 133)).cell? ⟨wr.heap.size, 2, none⟩ = some (.iface ty av) := by simp [go_sem]
        have hlt3 : wr.heap.size < (wr.alloc (.cells #[.string (txB nd.1), .int .i64 c, .iface ty av] 133)).heap.size := by simp
        generalize wr.alloc (.cells #[.string (txB nd.1), .int .i64 c, .iface ty av] 133) = w3 at hB3 r0 r1 r2 hlt3 ⊢
        have hBd : Below wr.heap.size wr w3.drew := hB3.drew
        rw [hstr] at HNX
        generalize txB nd.1 = kx at r0 HNX
        clear q0 q1 q2 hstr
        refine wp_nrm ?_
        go_region_with (go_at_call 50; refine (HTL.out _ (by assumption)).mono ?_; rintro e w4 ⟨rfl, hB4⟩; have hB4' := hBd.trans (hB4.mono hBd.size); have r0' := (hB4.cell (p := ⟨wr.heap.size, 0, none⟩) hlt3).trans r0; obtain ⟨⟨a0, m0⟩, ⟨a1, m1⟩, ⟨a2, m2⟩, z0, z1, z2⟩ := HNB.out w4 hB4')
        all_goals
          have h5 := HNX.out w4 hB4'
          have H5 : Hid (Below w1.heap.size w1 (((w4.setCell ⟨w1.heap.size, k * 3, none⟩ (.string kx)).setCell ⟨w1.heap.size, k * 3 + 1, none⟩ (.int .i64 tc)).setCell ⟨w1.heap.size, k * 3 + 2, none⟩ (.string ts)) ∧ (((w4.setCell ⟨w1.heap.size, k * 3, none⟩ (.string kx)).setCell ⟨w1.heap.size, k * 3 + 1, none⟩ (.int .i64 tc)).setCell ⟨w1.heap.size, k * 3 + 2, none⟩ (.string ts)).rowIs w1.heap.size 66 (kp.needs.length * 3) (needF kp.needs Z (k + 1))) := hide ⟨((h5.1.setCell (Nat.le_refl _) _).setCell (Nat.le_refl _) _).setCell (Nat.le_refl _) _, h5.2⟩
          refine onlyN_is ?_
          apply_assumption
          clear h5 HNX HTL HNB hB4 hB4' r0 r0' r1 r2 m0 m1 m2 z0 z1 z2 hBd hB3
          go_wp2_with fail
          refine ⟨⟨k + 1, by omega, by go_num, H5⟩, ?_⟩
          simp [intOf]; omega
    · obtain rfl : k = kp.needs.length := by omega
      have q0 := (HX.out.1.cell (World.block_lt_of_cell? _ _ d0)).trans d0
      have q1 := (HX.out.1.cell (World.block_lt_of_cell? _ _ d1)).trans d1
      obtain ⟨tc, ts, ht1, ht2⟩ := told_cells kp.worth
      have htl := told_worth wr (g1.below HX.out.1 g1.size) (HC.out.2.1.keeps (Keeps.below HX.out.1))
      rw [ht1] at htl
      obtain ⟨c0, i0, hci, hi0⟩ := HC.out.2.1.form
      cases hci
      have HTL := hide htl
      clear htl ht2
      go_wp2_with fail
      refine HTL.out.mono ?_
      rintro e w4 ⟨rfl, hB4⟩
      dsimp only
      have hB14 : Below w1.heap.size w1 w4 := HX.out.1.trans (hB4.mono HX.out.1.size)
      have hblk4 := (hB14.block w.heap.size (lt_of_some HBK.out)).trans HBK.out
      have c0' : w4.cell? ⟨w.heap.size, 0, none⟩ = some (.int .i64 0) := by simp [World.cell?, hblk4]
      have c1' : w4.cell? ⟨w.heap.size, 1, none⟩ = some (.string ⟨#[]⟩) := by simp [World.cell?, hblk4]
      have f0' : w4.frozen? ⟨w.heap.size, 0, none⟩ = false := by simp [World.frozen?, hblk4]
      have f1' : w4.frozen? ⟨w.heap.size, 1, none⟩ = false := by simp [World.frozen?, hblk4]
      have h2 := blk_cell (blk_cell hblk4 0 (.int .i64 tc)) 1 (.string ts)
      have hne : w1.heap.size ≠ w.heap.size := by have := lt_of_some HBK.out; omega
      have hrow := ((HX.out.2.of_block (hB4.block _ HX.out.2.lt)).setOther (a := ⟨w.heap.size, 0, none⟩) hne (.int .i64 tc)).setOther (a := ⟨w.heap.size, 1, none⟩) hne (.string ts)
      have hown := needs_own hrow (base := w.heap.size) HB.out.size (by have := HC.out.2.2; unfold maxLen; omega)
      have HFN : Hid (RR (.returned (.tuple #[.agg #[.int .i64 tc, .string ts], .slice (some ⟨w1.heap.size, 0, none⟩) kp.needs.length kp.needs.length, .int .i64 0])) ((w4.setCell ⟨w.heap.size, 0, none⟩ (.int .i64 tc)).setCell ⟨w.heap.size, 1, none⟩ (.string ts))) := hide (by
        rw [← HRR.out]
        refine ⟨⟨_, by rw [ht1], hown⟩, ?_⟩
        exact ((HB.out.trans (hB14.mono HB.out.size)).setCell (Nat.le_refl _) _).setCell (Nat.le_refl _) _)
      clear hrow hown hB14 hB4 HTL hblk4 HX HRR HC ht1 q0 q1 d0 d1 d2
      go_wp2_with fail
      clear c0' c1' f0' f1'
      generalize (w4.setCell ⟨w.heap.size, 0, none⟩ (.int .i64 tc)).setCell ⟨w.heap.size, 1, none⟩ (.string ts) = w5 at h2 HFN ⊢
      have e0 : w5.cell? ⟨w.heap.size, 0, none⟩ = some (.int .i64 tc) := by simp [World.cell?, h2]
      have e1 : w5.cell? ⟨w.heap.size, 1, none⟩ = some (.string ts) := by simp [World.cell?, h2]
      exact bodyPost_ret (v := .tuple #[.agg #[.int .i64 tc, .string ts], .slice (some ⟨w1.heap.size, 0, none⟩) kp.needs.length kp.needs.length, .int .i64 0]) (by simp [results, Tryz.results30, go_sem, e0, e1]) rfl HFN.out
end Go.Proofs.YtpekpdimdelncaaGreatDoor
namespace Go.Proofs.YtpekpdimdelncaaGreatDoor
open Go.RowKit Go.Shelf
set_option linter.unusedVariables false
set_option linter.unusedSimpArgs false
theorem kept_any (w : World) (lb : Nat) (s : Lard.LS) (L : Nat → Prop) (key : ByteArray) (h : LAt w lb s L) (g : G w) (hk : key.size ≤ 200) :
    Calls Tryz.prog 30 #[ptr lb, .string key] w fun e w' => KeptTold s key.data.toList w w' e ∧ Below w.heap.size w w' := by
  cases hn : Lard.isName key.data.toList with
  | false =>
    refine (kept_noname w lb key g hk hn).mono ?_
    rintro e w' ⟨rfl, hB⟩
    refine ⟨?_, hB⟩
    unfold KeptTold
    rw [hn]
    rfl
  | true =>
    cases hkp : Lard.keptOf s.has key.data.toList with
    | none =>
      refine (kept_none w lb s L key h g hk hn hkp).mono ?_
      rintro e w' ⟨rfl, hB⟩
      refine ⟨?_, hB⟩
      unfold KeptTold
      rw [if_pos hn, hkp]
    | some kp =>
      refine (kept_some w lb s L key kp h g hk hn hkp).mono ?_
      rintro e w' ⟨h1, hB⟩
      refine ⟨?_, hB⟩
      unfold KeptTold
      rw [if_pos hn, hkp]
      exact h1
end Go.Proofs.YtpekpdimdelncaaGreatDoor
