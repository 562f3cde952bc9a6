/- Parse: the error and its place are those of the plain function. -/
import Derived.Test.YtpekpdimdelncaaGreatDoorW15
namespace Go.Proofs.YtpekpdimdelncaaGreatDoor
open Go.RowKit

/-- What Parse leaves: some tree, the error and its place; nothing old has turned. -/
def PostP (w : World) (c i : Nat) (e : Ending) (w' : World) : Prop :=
  (∃ q, e = .returned (.tuple #[.pointer q, .int .i64 (c : Int), .int .i64 (i : Int)])) ∧ Below w.heap.size w w'

set_option maxRecDepth 100000 in
set_option maxHeartbeats 1000000 in
theorem parse_long (s : ByteArray) (w : World) (hs : 200 < s.size) (hmax : s.size ≤ 9223372036854775807) : Calls Tryz.prog 54 #[.string s] w (PostP w 2 0) := by
  go_enter_defers Tryz.func54, Tryz.ntmps54
  go_wp2_with fail
  refine ⟨.tuple #[.pointer none, .int .i64 2, .int .i64 0], by simp [results, Tryz.results54, go_sem], ⟨none, rfl⟩, ?_⟩
  exact (((Below.refl _ _).alloc (Nat.le_refl _) _).alloc (by simp) _).alloc (by simp; omega) _

/-- Behind the reading the closure is called: where the reader has given up. -/
theorem door_panic (w0 w : World) (b c i : Nat) (tmps : Array Value) (t2 : tmps[2]?.getD undef = .pointer (some ⟨b, 0, none⟩)) (t3 : tmps[3]?.getD undef = .pointer (some ⟨b + 1, 0, none⟩)) (t4 : tmps[4]?.getD undef = .pointer (some ⟨b + 1 + 1, 0, none⟩)) (q : Option Addr) (v1 v2 : Int) (hb : b + 1 + 1 < w.heap.size)
    (c0 : w.cell? ⟨b, 0, none⟩ = some (.pointer q)) (c1 : w.cell? ⟨b + 1, 0, none⟩ = some (.int .i64 v1)) (c2 : w.cell? ⟨b + 1 + 1, 0, none⟩ = some (.int .i64 v2))
    (z0 : w.frozen? ⟨b, 0, none⟩ = false) (z1 : w.frozen? ⟨b + 1, 0, none⟩ = false) (z2 : w.frozen? ⟨b + 1 + 1, 0, none⟩ = false) (hB : Below w0.heap.size w0 w) (hb0 : w0.heap.size ≤ b) :
    Leaves Tryz.prog Tryz.f54 tmps (PostP w0 c i) [{ target := Target.fn (Fn.func 87) #[.pointer (some ⟨b, 0, none⟩), .pointer (some ⟨b + 1, 0, none⟩), .pointer (some ⟨b + 1 + 1, 0, none⟩)], args := #[] }] (.panicking [{ v := .iface 179 (.agg #[.int .i64 (c : Int), .int .i64 (i : Int)]), recovered := false }]) w := by
  refine leaves_cons (f := 87) (args := #[.pointer (some ⟨b, 0, none⟩), .pointer (some ⟨b + 1, 0, none⟩), .pointer (some ⟨b + 1 + 1, 0, none⟩)]) (by simp) (by simp [go_sem]) ?_
  refine (parse_catch b c i w (.pointer q) ⟨q, rfl⟩ v1 v2 hb c0 c1 c2 z0 z1 z2).mono ?_
  rintro e u' w' ⟨rfl, rfl, d0, d1, d2, hB'⟩
  refine ⟨.tuple #[.pointer none, .int .i64 (c : Int), .int .i64 (i : Int)], ?_, ⟨none, rfl⟩, hB.trans (hB'.mono hb0)⟩
  simp [results, Tryz.results54, go_sem, t2, t3, t4, d0, d1, d2]

/-- Behind the reading the closure is called: where all is well. -/
theorem door_idle (w0 w : World) (b c i : Nat) (tmps : Array Value) (t2 : tmps[2]?.getD undef = .pointer (some ⟨b, 0, none⟩)) (t3 : tmps[3]?.getD undef = .pointer (some ⟨b + 1, 0, none⟩)) (t4 : tmps[4]?.getD undef = .pointer (some ⟨b + 1 + 1, 0, none⟩)) (q : Option Addr)
    (c0 : w.cell? ⟨b, 0, none⟩ = some (.pointer q)) (c1 : w.cell? ⟨b + 1, 0, none⟩ = some (.int .i64 (c : Int))) (c2 : w.cell? ⟨b + 1 + 1, 0, none⟩ = some (.int .i64 (i : Int))) (hB : Below w0.heap.size w0 w) :
    Leaves Tryz.prog Tryz.f54 tmps (PostP w0 c i) [{ target := Target.fn (Fn.func 87) #[.pointer (some ⟨b, 0, none⟩), .pointer (some ⟨b + 1, 0, none⟩), .pointer (some ⟨b + 1 + 1, 0, none⟩)], args := #[] }] .returning w := by
  refine leaves_cons (f := 87) (args := #[.pointer (some ⟨b, 0, none⟩), .pointer (some ⟨b + 1, 0, none⟩), .pointer (some ⟨b + 1 + 1, 0, none⟩)]) (by simp) (by simp [go_sem]) ?_
  refine (parse_idle _ _ _ w).mono ?_
  rintro e u' w' ⟨rfl, rfl, rfl⟩
  refine ⟨.tuple #[.pointer q, .int .i64 (c : Int), .int .i64 (i : Int)], ?_, ⟨q, rfl⟩, hB⟩
  simp [results, Tryz.results54, go_sem, t2, t3, t4, c0, c1, c2]

set_option maxRecDepth 100000 in
set_option maxHeartbeats 1000000 in
theorem parse_short (s : ByteArray) (w : World) (g : G w) (hs : s.size ≤ 200) : Calls Tryz.prog 54 #[.string s] w (PostP w (Lard.check s.data.toList).1 (Lard.check s.data.toList).2) := by
  have hmf : ∀ (fn : Fn) (first cap : Array Value) (w : World), (Instr.makeFunc fn first cap).run Tryz.prog w = .ok (.func fn first cap) w := fun _ _ _ _ => rfl
  have hB0 : Below w.heap.size w (((w.alloc (Obj.cells #[Value.pointer none] 121)).alloc (Obj.cells #[Value.int IntKind.i64 0] 39)).alloc (Obj.cells #[Value.int IntKind.i64 0] 3)) := (((Below.refl _ _).alloc (Nat.le_refl _) _).alloc (by simp) _).alloc (by simp; omega) _
  have g0 := g.below hB0 g.size
  have hi0 : Lard.skip s.data.toList 0 ≤ s.size := by have := Lard.skip_le s.data.toList 0 (Nat.zero_le _); simpa using this
  have hck : Lard.check s.data.toList = Lard.endOf s.data.toList (Lard.P s.data.toList (8 * s.data.toList.length + 5) 0 0 0 (Lard.skip s.data.toList 0)) := by
    rw [Lard.check, if_neg (by simp; omega)]
  generalize hi0e : Lard.skip s.data.toList 0 = i0 at hi0 hck
  have HI0 := hide hi0e
  clear hi0e
  have hread := fun pb hpb => (reader_all s pb hs hpb (8 * s.data.toList.length + 5)).1 0 0 i0 hi0 (by omega) (Nat.le_refl _) (by simp [Lard.nd]; omega)
  generalize hre : Lard.P s.data.toList (8 * s.data.toList.length + 5) 0 0 0 i0 = r at hck hread
  have hrj : ∀ j, r = .ok j → j ≤ s.size := fun j hj => (P_in rfl (hre.trans hj) hi0).2
  clear hre
  generalize Lard.check s.data.toList = ck at hck
  have HCK := hide hck
  have HREAD := hide hread
  clear hck hread
  go_enter_defers Tryz.func54, Tryz.ntmps54
  go_wp2_with fail
  refine (tokenAt_int s 0 0 _ rfl g0 (by omega) (Nat.zero_le _)).mono ?_
  rw [HI0.out]
  rintro e w1 ⟨rfl, hb1⟩
  obtain ⟨hc, hf⟩ := bcell hb1
  have hz : w.heap.size + 1 + 1 < w1.heap.size := by have := hb1.size; simp at this; omega
  have hB1 : Below w.heap.size w w1 := hB0.trans (hb1.mono (by simp; omega))
  have n0 : w1.cell? ⟨w.heap.size, 0, none⟩ = some (.pointer none) := by rw [hc _ _ (by simp; omega)]; simp [go_sem]
  have n1 : w1.cell? ⟨w.heap.size + 1, 0, none⟩ = some (.int .i64 0) := by rw [hc _ _ (by simp)]; simp [go_sem]
  have n2 : w1.cell? ⟨w.heap.size + 1 + 1, 0, none⟩ = some (.int .i64 0) := by rw [hc _ _ (by simp)]; simp [go_sem]
  have m0 : w1.frozen? ⟨w.heap.size, 0, none⟩ = false := by rw [hf _ _ (by simp; omega)]; simp [go_sem]
  have m1 : w1.frozen? ⟨w.heap.size + 1, 0, none⟩ = false := by rw [hf _ _ (by simp)]; simp [go_sem]
  have m2 : w1.frozen? ⟨w.heap.size + 1 + 1, 0, none⟩ = false := by rw [hf _ _ (by simp)]; simp [go_sem]
  have hpb : 8 ≤ w1.heap.size := by have := g.size; omega
  have hP : ∀ v, isV (s.data.toList.drop i0) = v → PAt (w1.alloc (.cells #[.string s, .int .i64 ((Lard.tok (s.data.toList.drop i0)).1 : Int), .string (s.extract i0 (i0 + (Lard.tok (s.data.toList.drop i0)).2)), .int .i64 (i0 : Int), v, .int .i64 0, .int .i64 0] 183)) s w1.heap.size i0 0 0 := fun v hv => by
    subst hv; exact heap_alloc_new _ _
  have HP := hide hP
  clear hc hf hP g0 hB0 hb1 
  have hform := isV_form (s.data.toList.drop i0)
  unfold tokV
  generalize hv : isV (s.data.toList.drop i0) = v at hform
  have HV := hide hv
  clear hv
  rcases hform with rfl | ⟨t, x, rfl⟩
  all_goals
    go_wp2_with fail
    refine (HREAD.out _ hpb _ ((g.below hB1 g.size).below ((Below.refl _ _).alloc (Nat.le_refl _) _) hpb) (HP.out _ HV.out)).mono ?_
    rintro e w2 hp
    have f2 := hp.1
    have hz2 : w1.heap.size < w2.heap.size := by have := f2.size; simp at this; omega
    have hB2 : Below w1.heap.size w1 w2 := ⟨f2.os, f2.tape, f2.output, by omega, fun k hk => (f2.block k (by simp; omega) (fun e => by injection e; omega)).trans (Below.heap_alloc _ _ k hk)⟩
    have hB02 : Below w.heap.size w w2 := hB1.trans (hB2.mono (by omega))
    have n0' : w2.cell? ⟨w.heap.size, 0, none⟩ = some (.pointer none) := (hB2.cell (p := ⟨w.heap.size, 0, none⟩) (by show w.heap.size < _; omega)).trans n0
    have n1' : w2.cell? ⟨w.heap.size + 1, 0, none⟩ = some (.int .i64 0) := (hB2.cell (p := ⟨w.heap.size + 1, 0, none⟩) (by show w.heap.size + 1 < _; omega)).trans n1
    have n2' : w2.cell? ⟨w.heap.size + 1 + 1, 0, none⟩ = some (.int .i64 0) := (hB2.cell (p := ⟨w.heap.size + 1 + 1, 0, none⟩) hz).trans n2
    have m0' : w2.frozen? ⟨w.heap.size, 0, none⟩ = false := (hB2.frozen (p := ⟨w.heap.size, 0, none⟩) (by show w.heap.size < _; omega)).trans m0
    have m1' : w2.frozen? ⟨w.heap.size + 1, 0, none⟩ = false := (hB2.frozen (p := ⟨w.heap.size + 1, 0, none⟩) (by show w.heap.size + 1 < _; omega)).trans m1
    have m2' : w2.frozen? ⟨w.heap.size + 1 + 1, 0, none⟩ = false := (hB2.frozen (p := ⟨w.heap.size + 1 + 1, 0, none⟩) hz).trans m2
    clear n0 n1 n2 m0 m1 m2 HP HV HREAD
  all_goals cases r with
    | error x =>
      obtain ⟨_, rfl⟩ := hp.err
      have hck : ck = x := HCK.out
      subst hck
      exact door_panic w w2 w.heap.size ck.1 ck.2 _ rfl rfl rfl none 0 0 (by omega) n0' n1' n2' m0' m1' m2' hB02 (Nat.le_refl _)
    | ok j =>
      obtain ⟨_, ⟨q, rfl⟩, h2⟩ := hp.ok
      have hjs := hrj j rfl
      have hne : ¬ w.heap.size = w1.heap.size := by omega
      obtain ⟨d0, d1, d2, d3, d4, d5, d6, df⟩ := h2.cells
      have hck : ck = if (Lard.tok (s.data.toList.drop j)).1 = 0 then (0, 0) else (3, j) := HCK.out
      clear hp hrj HCK f2
      by_cases hk0 : (Lard.tok (s.data.toList.drop j)).1 = 0
      · rw [if_pos hk0] at hck
        subst hck
        have hk0' : (((Lard.tok (s.data.toList.drop j)).1 : Int) != 0) = false := by rw [hk0]; rfl
        go_wp2_with fail
        refine door_idle w _ w.heap.size 0 0 _ rfl rfl rfl q (by simp [go_sem, n0']) (by simp [go_sem, n1']) (by simp [go_sem, n2']) ?_
        repeat' (first | exact hB02 | exact Nat.le_refl _ | exact Nat.le_add_right _ _ | exact Nat.le_trans (Nat.le_add_right _ 1) (Nat.le_add_right _ 1) | apply Below.setCell)
      · rw [if_neg hk0] at hck
        subst hck
        have hk0' : (((Lard.tok (s.data.toList.drop j)).1 : Int) != 0) = true := by rw [bne_iff_ne]; omega
        go_wp2_with fail
        refine (refuse_any s w1.heap.size j 0 0 3 _ (h2.other hne _ _)).mono ?_
        rintro e w3 ⟨rfl, rfl⟩
        exact door_panic w _ w.heap.size 3 j _ rfl rfl rfl q 0 0 (by simp [World.setCell]; omega) (by simp [go_sem, n0']) (by simp [go_sem, n1']) (by simp [go_sem, n2']) (by simp [go_sem, m0']) (by simp [go_sem, m1']) (by simp [go_sem, m2']) (hB02.setCell (p := ⟨w.heap.size, 0, none⟩) (Nat.le_refl _) _) (Nat.le_refl _)
end Go.Proofs.YtpekpdimdelncaaGreatDoor
