/- Out of: W15, W16, X16, Lw. -/
import Derived.Test.YtpekpdimdelncaaGreatDoorP10
import Derived.Defers
import Derived.Recover
import Derived.Test.YtpekpdimdelncaaGreatDoorP37
import Derived.Test.YtpekpdimdelncaaGreatDoorP20
namespace Go.Proofs.YtpekpdimdelncaaGreatDoor
set_option maxRecDepth 100000
set_option maxHeartbeats 1000000
open Go.RowKit
theorem parse_idle (p0 p1 p2 : Addr) (w : World) :
    CallsD Tryz.prog 87 #[.pointer (some p0), .pointer (some p1), .pointer (some p2)] .returning w fun e u' w' => e = .returned (.tuple #[]) ∧ u' = .returning ∧ w' = w := by
  refine callsD_of_wpS Tryz.func87 rfl fun c₀ cs hu => ?_
  apply wpS_seq
  apply wpS_region
  simp [wpOpsS, go_sem, recoverD, hu, Tryz.ntmps87, Exit.thenS]
  refine wpS_of_wp ?_
  have ht : (#[Value.pointer (some p0), Value.pointer (some p1), Value.pointer (some p2)] ++ ((Array.replicate 15 undef).setIfInBounds 4 Value.nilIface).setIfInBounds 0 Value.nilIface) = #[Value.pointer (some p0), Value.pointer (some p1), Value.pointer (some p2), Value.nilIface, undef, undef, undef, Value.nilIface, undef, undef, undef, undef, undef, undef, undef, undef, undef, undef] := rfl
  rw [ht]
  clear ht
  go_wp2_with fail
  cases c₀
  simp_all [bodyPostS, results, Tryz.results87]
theorem parse_catch (b : Nat) (c i : Nat) (w : World) (q0 : Value) (hq : ∃ q, q0 = .pointer q) (v1 v2 : Int) (hb : b + 1 + 1 < w.heap.size)
    (c0 : w.cell? ⟨b, 0, none⟩ = some q0) (c1 : w.cell? ⟨b + 1, 0, none⟩ = some (.int .i64 v1)) (c2 : w.cell? ⟨b + 1 + 1, 0, none⟩ = some (.int .i64 v2))
    (z0 : w.frozen? ⟨b, 0, none⟩ = false) (z1 : w.frozen? ⟨b + 1, 0, none⟩ = false) (z2 : w.frozen? ⟨b + 1 + 1, 0, none⟩ = false) :
    CallsD Tryz.prog 87 #[.pointer (some ⟨b, 0, none⟩), .pointer (some ⟨b + 1, 0, none⟩), .pointer (some ⟨b + 1 + 1, 0, none⟩)] (.panicking [{ v := .iface 179 (.agg #[.int .i64 (c : Int), .int .i64 (i : Int)]), recovered := false }]) w fun e u' w' =>
      e = .returned (.tuple #[]) ∧ u' = .panicking [{ v := .iface 179 (.agg #[.int .i64 (c : Int), .int .i64 (i : Int)]), recovered := true }] ∧ w'.cell? ⟨b, 0, none⟩ = some (.pointer none) ∧ w'.cell? ⟨b + 1, 0, none⟩ = some (.int .i64 (c : Int)) ∧ w'.cell? ⟨b + 1 + 1, 0, none⟩ = some (.int .i64 (i : Int)) ∧ Below b w w' := by
  obtain ⟨q, rfl⟩ := hq
  have hb0 : b < w.heap.size := by omega
  have hb1 : b + 1 < w.heap.size := by omega
  have hta : ∀ (a : Value) (w : World), (Instr.typeAssert (.iface 179 a) 20 179 true).run Tryz.prog w = .ok (.tuple #[a, .bool true]) w := fun _ _ => by kernel_rfl
  refine callsD_of_wpS Tryz.func87 rfl fun c₀ cs hu => ?_
  apply wpS_seq
  apply wpS_region
  simp [wpOpsS, go_sem, recoverD, hu, Tryz.ntmps87, Exit.thenS]
  refine wpS_of_wp ?_
  generalize hv : Value.iface 179 (.agg #[.int .i64 (c : Int), .int .i64 (i : Int)]) = vv
  have ht : (#[Value.pointer (some ⟨b, 0, none⟩), Value.pointer (some ⟨b + 1, 0, none⟩), Value.pointer (some ⟨b + 1 + 1, 0, none⟩)] ++ ((Array.replicate 15 undef).setIfInBounds 4 vv).setIfInBounds 0 vv) = #[Value.pointer (some ⟨b, 0, none⟩), Value.pointer (some ⟨b + 1, 0, none⟩), Value.pointer (some ⟨b + 1 + 1, 0, none⟩), vv, undef, undef, undef, vv, undef, undef, undef, undef, undef, undef, undef, undef, undef, undef] := rfl
  rw [ht]
  clear ht
  subst hv
  go_wp2_with fail
  go_region
  refine ⟨rfl, _, rfl, .tuple #[], by simp [results, Tryz.results87], rfl, rfl, ?_, ?_, ?_, ?_⟩
  · simp [go_sem, hb0, c0]
  · simp [go_sem, hb1, c1]
  · simp [go_sem, hb, c2]
  · exact ((((((Below.refl b w).setCell (p := ⟨b, 0, none⟩) (Nat.le_refl _) _).setCell (p := ⟨b + 1, 0, none⟩) (Nat.le_add_right _ _) _).setCell (p := ⟨b + 1 + 1, 0, none⟩) (by show b ≤ b + 1 + 1; omega) _).alloc (by simp [World.setCell]; omega) _).drew)
end Go.Proofs.YtpekpdimdelncaaGreatDoor
namespace Go.Proofs.YtpekpdimdelncaaGreatDoor
set_option maxRecDepth 100000
set_option maxHeartbeats 1000000
open Go.RowKit
def PostP (w : World) (c i : Nat) (e : Ending) (w' : World) : Prop :=
  (∃ q, e = .returned (.tuple #[.pointer q, .int .i64 (c : Int), .int .i64 (i : Int)])) ∧ Below w.heap.size w w'
theorem parse_long (s : ByteArray) (w : World) (hs : 200 < s.size) (hmax : s.size ≤ 9223372036854775807) : Calls Tryz.prog 54 #[.string s] w (PostP w 2 0) := by
  go_enter_defers Tryz.func54, Tryz.ntmps54
  go_wp2_with fail
  refine ⟨.tuple #[.pointer none, .int .i64 2, .int .i64 0], by simp [results, Tryz.results54, go_sem], ⟨none, rfl⟩, ?_⟩
  exact (((Below.refl _ _).alloc (Nat.le_refl _) _).alloc (by simp) _).alloc (by simp; omega) _
end Go.Proofs.YtpekpdimdelncaaGreatDoor
namespace Go.Proofs.YtpekpdimdelncaaGreatDoor
set_option maxRecDepth 100000
set_option maxHeartbeats 1000000
open Go.RowKit
set_option linter.unusedSimpArgs false
set_option linter.unusedVariables false
theorem readerT_all (s : ByteArray) (pb : Nat) (hs : s.size ≤ 200) (hpb : 8 ≤ pb) : ∀ n, CTT s pb n 0 89 ∧ CTT s pb n 1 131 ∧ CTT s pb n 2 173 ∧ CTT s pb n 3 212 := by
  have hs' : s.size ≤ 281474976710656 := by omega
  intro n
  induction n using Nat.strongRecOn with
  | ind n ih =>
    cases n with
    | zero =>
      refine ⟨?_, ?_, ?_, ?_⟩
      all_goals
        intro deep its i hi hd hits hfuel
        simp [Lard.nd] at hfuel
    | succ n =>
      have ih' : ∀ m, m ≤ n → _ := fun m hm => ih m (by omega)
      exact ⟨ruleT_step s pb n hs' hpb (ih' n (Nat.le_refl _)).2.1, sumT_step s pb n hs' hpb (fun m hm => (ih' m hm).2.2.1), termT_step s pb n hs' hpb (fun m hm => (ih' m hm).2.2.2), factorT_step s pb n hs hpb (fun m hm => (ih' m hm).1) (ih' n (Nat.le_refl _)).2.2.2⟩
def Lard.ruleT (l : List UInt8) : Option Lard.T :=
  if 200 < l.length then none
  else match Lard.PT l (8 * l.length + 5) 0 0 0 (Lard.skip l 0) [] with
    | .ok (j, ts) => if (Lard.tok (l.drop j)).1 = 0 then ts.head? else none
    | .error _ => none
def PostPT (w : World) (o : Option Lard.T) (c i : Nat) (e : Ending) (w' : World) : Prop :=
  (∃ q, e = .returned (.tuple #[.pointer q, .int .i64 (c : Int), .int .i64 (i : Int)]) ∧ ∀ t, o = some t → c = 0 ∧ i = 0 ∧ ∃ a, q = some a ∧ TreeAt w' t a) ∧ Below w.heap.size w w'
theorem parseT_long (s : ByteArray) (w : World) (hs : 200 < s.size) (hmax : s.size ≤ 9223372036854775807) : Calls Tryz.prog 54 #[.string s] w (PostPT w (Lard.ruleT s.data.toList) (Lard.check s.data.toList).1 (Lard.check s.data.toList).2) := by
  have h1 : Lard.ruleT s.data.toList = none := by rw [Lard.ruleT, if_pos (by simpa using hs)]
  have h2 : Lard.check s.data.toList = (2, 0) := by rw [Lard.check, if_pos (by simpa using hs)]
  rw [h1, h2]
  refine (parse_long s w hs hmax).mono ?_
  rintro e w' ⟨⟨q, rfl⟩, hB⟩
  exact ⟨⟨q, rfl, fun t ht => by cases ht⟩, hB⟩
theorem doorT_panic (w0 w : World) (b c i : Nat) (tmps : Array Value) (t2 : tmps[2]?.getD undef = .pointer (some ⟨b, 0, none⟩)) (t3 : tmps[3]?.getD undef = .pointer (some ⟨b + 1, 0, none⟩)) (t4 : tmps[4]?.getD undef = .pointer (some ⟨b + 1 + 1, 0, none⟩)) (q : Option Addr) (v1 v2 : Int) (hb : b + 1 + 1 < w.heap.size)
    (c0 : w.cell? ⟨b, 0, none⟩ = some (.pointer q)) (c1 : w.cell? ⟨b + 1, 0, none⟩ = some (.int .i64 v1)) (c2 : w.cell? ⟨b + 1 + 1, 0, none⟩ = some (.int .i64 v2))
    (z0 : w.frozen? ⟨b, 0, none⟩ = false) (z1 : w.frozen? ⟨b + 1, 0, none⟩ = false) (z2 : w.frozen? ⟨b + 1 + 1, 0, none⟩ = false) (hB : Below w0.heap.size w0 w) (hb0 : w0.heap.size ≤ b) :
    Leaves Tryz.prog Tryz.f54 tmps (PostPT w0 none c i) [{ target := Target.fn (Fn.func 87) #[.pointer (some ⟨b, 0, none⟩), .pointer (some ⟨b + 1, 0, none⟩), .pointer (some ⟨b + 1 + 1, 0, none⟩)], args := #[] }] (.panicking [{ v := .iface 179 (.agg #[.int .i64 (c : Int), .int .i64 (i : Int)]), recovered := false }]) w := by
  refine leaves_cons (f := 87) (args := #[.pointer (some ⟨b, 0, none⟩), .pointer (some ⟨b + 1, 0, none⟩), .pointer (some ⟨b + 1 + 1, 0, none⟩)]) (by simp) (by simp [go_sem]) ?_
  refine (parse_catch b c i w (.pointer q) ⟨q, rfl⟩ v1 v2 hb c0 c1 c2 z0 z1 z2).mono ?_
  rintro e u' w' ⟨rfl, rfl, d0, d1, d2, hB'⟩
  refine ⟨.tuple #[.pointer none, .int .i64 (c : Int), .int .i64 (i : Int)], ?_, ⟨none, rfl, fun t ht => by cases ht⟩, hB.trans (hB'.mono hb0)⟩
  simp [results, Tryz.results54, go_sem, t2, t3, t4, d0, d1, d2]
theorem doorT_idle (w0 w : World) (b c i : Nat) (tmps : Array Value) (t2 : tmps[2]?.getD undef = .pointer (some ⟨b, 0, none⟩)) (t3 : tmps[3]?.getD undef = .pointer (some ⟨b + 1, 0, none⟩)) (t4 : tmps[4]?.getD undef = .pointer (some ⟨b + 1 + 1, 0, none⟩)) (q : Addr) (t : Lard.T) (ht : TreeAt w t q)
    (c0 : w.cell? ⟨b, 0, none⟩ = some (.pointer (some q))) (c1 : w.cell? ⟨b + 1, 0, none⟩ = some (.int .i64 (c : Int))) (c2 : w.cell? ⟨b + 1 + 1, 0, none⟩ = some (.int .i64 (i : Int))) (hB : Below w0.heap.size w0 w) (hc : c = 0) (hi : i = 0) :
    Leaves Tryz.prog Tryz.f54 tmps (PostPT w0 (some t) c i) [{ target := Target.fn (Fn.func 87) #[.pointer (some ⟨b, 0, none⟩), .pointer (some ⟨b + 1, 0, none⟩), .pointer (some ⟨b + 1 + 1, 0, none⟩)], args := #[] }] .returning w := by
  refine leaves_cons (f := 87) (args := #[.pointer (some ⟨b, 0, none⟩), .pointer (some ⟨b + 1, 0, none⟩), .pointer (some ⟨b + 1 + 1, 0, none⟩)]) (by simp) (by simp [go_sem]) ?_
  refine (parse_idle _ _ _ w).mono ?_
  rintro e u' w' ⟨rfl, rfl, rfl⟩
  refine ⟨.tuple #[.pointer (some q), .int .i64 (c : Int), .int .i64 (i : Int)], ?_, ⟨some q, rfl, fun t' ht' => by cases ht'; exact ⟨hc, hi, q, rfl, ht⟩⟩, hB⟩
  simp [results, Tryz.results54, go_sem, t2, t3, t4, c0, c1, c2]
theorem parseT_short (s : ByteArray) (w : World) (g : G w) (hs : s.size ≤ 200) : Calls Tryz.prog 54 #[.string s] w (PostPT w (Lard.ruleT s.data.toList) (Lard.check s.data.toList).1 (Lard.check s.data.toList).2) := by
  have hmf : ∀ (fn : Fn) (first cap : Array Value) (w : World), (Instr.makeFunc fn first cap).run Tryz.prog w = .ok (.func fn first cap) w := fun _ _ _ _ => rfl
  have hB0 : Below w.heap.size w (((w.alloc (Obj.cells #[Value.pointer none] 121)).alloc (Obj.cells #[Value.int IntKind.i64 0] 39)).alloc (Obj.cells #[Value.int IntKind.i64 0] 3)) := (((Below.refl _ _).alloc (Nat.le_refl _) _).alloc (by simp) _).alloc (by simp; omega) _
  have g0 := g.below hB0 g.size
  have hi0 : Lard.skip s.data.toList 0 ≤ s.size := by have := Lard.skip_le s.data.toList 0 (Nat.zero_le _); simpa using this
  have hck : Lard.check s.data.toList = Lard.endOf s.data.toList (Lard.P s.data.toList (8 * s.data.toList.length + 5) 0 0 0 (Lard.skip s.data.toList 0)) := by
    rw [Lard.check, if_neg (by simp; omega)]
  generalize hi0e : Lard.skip s.data.toList 0 = i0 at hi0 hck
  have hru : Lard.ruleT s.data.toList = match Lard.PT s.data.toList (8 * s.data.toList.length + 5) 0 0 0 (Lard.skip s.data.toList 0) [] with
      | .ok (j, ts) => if (Lard.tok (s.data.toList.drop j)).1 = 0 then ts.head? else none
      | .error _ => none := by
    rw [Lard.ruleT, if_neg (by simp; omega)]
  rw [hi0e] at hru
  have hread := fun pb hpb => (readerT_all s pb hs hpb (8 * s.data.toList.length + 5)).1 0 0 i0 hi0 (by omega) (Nat.le_refl _) (by simp [Lard.nd]; omega)
  have HI0 := hide hi0e
  clear hi0e
  rw [← Lard.place_PT s.data.toList _ _ _ _ _ []] at hck
  generalize hre : Lard.PT s.data.toList (8 * s.data.toList.length + 5) 0 0 0 i0 [] = r at hck hread hru
  have hrj : ∀ j ts, r = .ok (j, ts) → j ≤ s.size := fun j ts hj => (PT_in rfl (hre.trans hj) hi0).2
  clear hre
  generalize Lard.check s.data.toList = ck at hck
  generalize Lard.ruleT s.data.toList = ru at hru
  have HRU := hide hru
  clear hru
  have HCK := hide hck
  have HREAD := hide hread
  clear hck hread
  go_enter_defers Tryz.func54, Tryz.ntmps54
  go_wp2_with fail
  refine (tokenAt_int s 0 0 _ rfl g0 (by omega) (Nat.zero_le _)).mono ?_
  rw [HI0.out]
  rintro e w1 ⟨rfl, hb1⟩
  obtain ⟨hc, hf⟩ := bcell hb1
  have hz : w.heap.size + 1 + 1 < w1.heap.size := by have := hb1.size; simp at this; omega
  have hB1 : Below w.heap.size w w1 := hB0.trans (hb1.mono (by simp; omega))
  have n0 : w1.cell? ⟨w.heap.size, 0, none⟩ = some (.pointer none) := by rw [hc _ _ (by simp; omega)]; simp [go_sem]
  have n1 : w1.cell? ⟨w.heap.size + 1, 0, none⟩ = some (.int .i64 0) := by rw [hc _ _ (by simp)]; simp [go_sem]
  have n2 : w1.cell? ⟨w.heap.size + 1 + 1, 0, none⟩ = some (.int .i64 0) := by rw [hc _ _ (by simp)]; simp [go_sem]
  have m0 : w1.frozen? ⟨w.heap.size, 0, none⟩ = false := by rw [hf _ _ (by simp; omega)]; simp [go_sem]
  have m1 : w1.frozen? ⟨w.heap.size + 1, 0, none⟩ = false := by rw [hf _ _ (by simp)]; simp [go_sem]
  have m2 : w1.frozen? ⟨w.heap.size + 1 + 1, 0, none⟩ = false := by rw [hf _ _ (by simp)]; simp [go_sem]
  have hpb : 8 ≤ w1.heap.size := by have := g.size; omega
  have hP : ∀ v, isV (s.data.toList.drop i0) = v → PAt (w1.alloc (.cells #[.string s, .int .i64 ((Lard.tok (s.data.toList.drop i0)).1 : Int), .string (s.extract i0 (i0 + (Lard.tok (s.data.toList.drop i0)).2)), .int .i64 (i0 : Int), v, .int .i64 0, .int .i64 0] 183)) s w1.heap.size i0 0 0 := fun v hv => by
    subst hv; exact heap_alloc_new _ _
  have HP := hide hP
  clear hc hf hP g0 hB0 hb1 
  have hform := isV_form (s.data.toList.drop i0)
  unfold tokV
  generalize hv : isV (s.data.toList.drop i0) = v at hform
  have HV := hide hv
  clear hv
  rcases hform with rfl | ⟨t, x, rfl⟩
  all_goals
    go_wp2_with fail
    refine (HREAD.out _ hpb _ ((g.below hB1 g.size).below ((Below.refl _ _).alloc (Nat.le_refl _) _) hpb) (HP.out _ HV.out)).mono ?_
    rintro e w2 hp
    have f2 := hp.1
    have hz2 : w1.heap.size < w2.heap.size := by have := f2.size; simp at this; omega
    have hB2 : Below w1.heap.size w1 w2 := ⟨f2.os, f2.tape, f2.output, by omega, fun k hk => (f2.block k (by simp; omega) (fun e => by injection e; omega)).trans (Below.heap_alloc _ _ k hk)⟩
    have hB02 : Below w.heap.size w w2 := hB1.trans (hB2.mono (by omega))
    have n0' : w2.cell? ⟨w.heap.size, 0, none⟩ = some (.pointer none) := (hB2.cell (p := ⟨w.heap.size, 0, none⟩) (by show w.heap.size < _; omega)).trans n0
    have n1' : w2.cell? ⟨w.heap.size + 1, 0, none⟩ = some (.int .i64 0) := (hB2.cell (p := ⟨w.heap.size + 1, 0, none⟩) (by show w.heap.size + 1 < _; omega)).trans n1
    have n2' : w2.cell? ⟨w.heap.size + 1 + 1, 0, none⟩ = some (.int .i64 0) := (hB2.cell (p := ⟨w.heap.size + 1 + 1, 0, none⟩) hz).trans n2
    have m0' : w2.frozen? ⟨w.heap.size, 0, none⟩ = false := (hB2.frozen (p := ⟨w.heap.size, 0, none⟩) (by show w.heap.size < _; omega)).trans m0
    have m1' : w2.frozen? ⟨w.heap.size + 1, 0, none⟩ = false := (hB2.frozen (p := ⟨w.heap.size + 1, 0, none⟩) (by show w.heap.size + 1 < _; omega)).trans m1
    have m2' : w2.frozen? ⟨w.heap.size + 1 + 1, 0, none⟩ = false := (hB2.frozen (p := ⟨w.heap.size + 1 + 1, 0, none⟩) hz).trans m2
    clear n0 n1 n2 m0 m1 m2 HP HV HREAD
  all_goals rcases r with x | ⟨j, ts⟩
  all_goals try
      obtain ⟨_, rfl⟩ := PostT.err hp
      have hck : ck = x := HCK.out
      have hru : ru = none := HRU.out
      subst hck
      subst hru
      exact doorT_panic w w2 w.heap.size ck.1 ck.2 _ rfl rfl rfl none 0 0 (by omega) n0' n1' n2' m0' m1' m2' hB02 (Nat.le_refl _)
  all_goals
      obtain ⟨_, ⟨q, t, rfl, rfl, ht2⟩, h2⟩ := PostT.ok hp
      have hjs := hrj j _ rfl
      have hne : ¬ w.heap.size = w1.heap.size := by omega
      obtain ⟨d0, d1, d2, d3, d4, d5, d6, df⟩ := h2.cells
      have hck : ck = if (Lard.tok (s.data.toList.drop j)).1 = 0 then (0, 0) else (3, j) := HCK.out
      have hru : ru = if (Lard.tok (s.data.toList.drop j)).1 = 0 then some t else none := HRU.out
      have hlo : w1.heap.size + 1 ≤ (w1.alloc (Obj.cells #[] 183)).heap.size := by simp
      have HT2 := hide ht2
      clear hp hrj HCK f2 HRU ht2
      by_cases hk0 : (Lard.tok (s.data.toList.drop j)).1 = 0
      · rw [if_pos hk0] at hck hru
        subst hck
        subst hru
        have hk0' : (((Lard.tok (s.data.toList.drop j)).1 : Int) != 0) = false := by rw [hk0]; rfl
        go_wp2_with fail
        refine doorT_idle w _ w.heap.size 0 0 _ rfl rfl rfl q t ?_ (by simp [go_sem, n0']) (by simp [go_sem, n1']) (by simp [go_sem, n2']) ?_ rfl rfl
        · have ht := HT2.out
          refine (ht _ ?_)
          intro k hk _ cs t' fz hc _
          have hk' : w1.heap.size + 1 ≤ k := by simpa using hk
          repeat' first | exact hc | refine (Below.heap_setCell _ _ _ k (by show k ≠ _; simp; omega)).trans ?_
        · repeat' (first | exact hB02 | exact Nat.le_refl _ | exact Nat.le_add_right _ _ | exact Nat.le_trans (Nat.le_add_right _ 1) (Nat.le_add_right _ 1) | apply Below.setCell)
      · rw [if_neg hk0] at hck hru
        subst hck
        subst hru
        have hk0' : (((Lard.tok (s.data.toList.drop j)).1 : Int) != 0) = true := by rw [bne_iff_ne]; omega
        go_wp2_with fail
        refine (refuse_any s w1.heap.size j 0 0 3 _ (h2.other hne _ _)).mono ?_
        rintro e w3 ⟨rfl, rfl⟩
        exact doorT_panic w _ w.heap.size 3 j _ rfl rfl rfl (some q) 0 0 (by simp [World.setCell]; omega) (by simp [go_sem, n0']) (by simp [go_sem, n1']) (by simp [go_sem, n2']) (by simp [go_sem, m0']) (by simp [go_sem, m1']) (by simp [go_sem, m2']) (hB02.setCell (p := ⟨w.heap.size, 0, none⟩) (Nat.le_refl _) _) (Nat.le_refl _)
theorem parseT_any (s : ByteArray) (w : World) (g : G w) (hmax : s.size ≤ 9223372036854775807) : Calls Tryz.prog 54 #[.string s] w (PostPT w (Lard.ruleT s.data.toList) (Lard.check s.data.toList).1 (Lard.check s.data.toList).2) := by
  by_cases hs : 200 < s.size
  · exact parseT_long s w hs hmax
  · exact parseT_short s w g (by omega)
end Go.Proofs.YtpekpdimdelncaaGreatDoor
namespace Go.Proofs.YtpekpdimdelncaaGreatDoor
namespace Lard
set_option linter.unusedVariables false
theorem first_congr {E E' : T → Nat → Pe V} {t : T} (hk : t.parts.length = partsOf t.kind) (h0 : t.kind ≠ 2 ∧ t.kind ≠ 3 ∧ t.kind ≠ 4) (h : ∀ u ∈ t.parts, ∀ f, E u f = E' u f) (f : Nat) : firstP E t f = firstP E' t f := by
  have hp : ∀ i, i < partsOf t.kind → ∀ f, E (t.part i) f = E' (t.part i) f := fun i hi f => by
    rw [← hk] at hi
    unfold T.part
    rw [List.getElem?_eq_getElem hi]
    exact h _ (List.getElem_mem hi) f
  have p0 : 0 < partsOf t.kind := by
    unfold partsOf
    split
    · omega
    · split
      · omega
      · split
        · omega
        · omega
  unfold firstP
  rw [hp 0 p0]
  congr 1
  funext v f
  split
  · rename_i h1
    have : 1 < partsOf t.kind := by
      unfold partsOf
      rw [if_pos (by omega)]
      omega
    rw [hp 1 this]
  · split
    · rfl
    · split
      · rfl
      · split
        · rename_i h9
          have e : partsOf t.kind = 3 := by rw [h9]; rfl
          rw [hp 2 (by omega), hp 1 (by omega)]
        · rfl
theorem seq_congr {α : Type} {E E' : α → Nat → Pe V} : ∀ (l : List α) (acc : List V) (f : Nat), (∀ a ∈ l, ∀ f, E a f = E' a f) → seqP E l acc f = seqP E' l acc f
  | [], _, _, _ => rfl
  | a :: r, acc, f, h => by
    unfold seqP
    rw [h a List.mem_cons_self]
    congr 1
    funext v f
    exact seq_congr r _ f (fun a ha => h a (List.mem_cons_of_mem _ ha))
theorem okT_parts {n : Nat} {b : Bool} {t : T} (h : okT (n + 1) b t = true) : 1 ≤ t.kind ∧ t.kind ≤ 16 ∧ (t.kind = 8 ∨ t.parts.length = partsOf t.kind) ∧ (t.kind = 15 ∨ t.kind = 16 → okT n b (t.part 0) = true ∧ okT n true (t.part 1) = true) ∧ (¬ (t.kind = 15 ∨ t.kind = 16) → ∀ u ∈ t.parts, okT n b u = true) := by
  unfold okT at h
  simp only [Bool.and_eq_true, decide_eq_true_eq, Bool.or_eq_true, beq_iff_eq] at h
  obtain ⟨⟨⟨⟨⟨⟨⟨⟨h1, h2⟩, h3⟩, h4⟩, h5⟩, h6⟩, h7⟩, h8⟩, h9⟩ := h
  refine ⟨h1, h2, h3, fun hk => ?_, fun hk u hu => ?_⟩
  · rw [if_pos hk] at h9
    simpa using h9
  · rw [if_neg hk] at h9
    exact List.all_eq_true.1 h9 u hu
theorem tr_high : ∀ (n m : Nat) (b : Bool) (t : T) (it : Option V) (f : Nat), okT n b t = true → n ≤ m → tr m t it f = tr n t it f
  | 0, m, b, t, it, f, h, _ => by unfold okT at h; cases h
  | n + 1, 0, b, t, it, f, h, hm => by omega
  | n + 1, m + 1, b, t, it, f, h, hm => by
    obtain ⟨h1, h2, h3, h4, h5⟩ := okT_parts h
    have hp : ¬ (t.kind = 15 ∨ t.kind = 16) → ∀ u ∈ t.parts, ∀ it f, tr m u it f = tr n u it f := fun hk u hu it f => tr_high n m b u it f (h5 hk u hu) (by omega)
    unfold tr
    by_cases k1 : t.kind = 1
    · rw [if_pos k1, if_pos k1]
      exact first_congr (by omega) (by omega) (fun u hu f => hp (by omega) u hu it f) f
    rw [if_neg k1, if_neg k1]
    by_cases kf : f = 0
    · rw [if_pos kf, if_pos kf]
    rw [if_neg kf, if_neg kf]
    by_cases k2 : t.kind = 2
    · rw [if_pos k2, if_pos k2]
    rw [if_neg k2, if_neg k2]
    by_cases k3 : t.kind = 3
    · rw [if_pos k3, if_pos k3]
    rw [if_neg k3, if_neg k3]
    by_cases k4 : t.kind = 4
    · rw [if_pos k4, if_pos k4]
    rw [if_neg k4, if_neg k4]
    by_cases k14 : t.kind = 14
    · rw [if_pos k14, if_pos k14]
      have hl : t.parts.length = 2 := by rcases h3 with h3 | h3; omega; rw [h3, k14]; rfl
      have hq : ∀ i, i < 2 → ∀ it f, tr m (t.part i) it f = tr n (t.part i) it f := fun i hi it f => by
        unfold T.part
        rw [List.getElem?_eq_getElem (by omega)]
        exact hp (by omega) _ (List.getElem_mem (by omega)) it f
      rw [hq 0 (by omega)]
      congr 1
      funext f
      exact hq 1 (by omega) it f
    rw [if_neg k14, if_neg k14]
    by_cases k15 : t.kind = 15
    · rw [if_pos k15, if_pos k15]
      obtain ⟨a, c⟩ := h4 (.inl k15)
      rw [tr_high n m b _ it _ a (by omega)]
      congr 1
      funext v f
      cases listIn v with
      | error e => rfl
      | ok l => exact seq_congr l [] f (fun u _ f => tr_high n m true _ _ f c (by omega))
    rw [if_neg k15, if_neg k15]
    by_cases k16 : t.kind = 16
    · rw [if_pos k16, if_pos k16]
      obtain ⟨a, c⟩ := h4 (.inr k16)
      rw [tr_high n m b _ it _ a (by omega)]
      congr 1
      funext v f
      cases listIn v with
      | error e => rfl
      | ok l =>
        have : (fun (u : V) f => tr m (t.part 1) (some u) f) = fun u f => tr n (t.part 1) (some u) f := by
          funext u f
          exact tr_high n m true _ _ f c (by omega)
        simp only [this]
    rw [if_neg k16, if_neg k16]
    by_cases k8 : t.kind = 8
    · rw [if_pos k8, if_pos k8]
      exact seq_congr _ _ _ (fun u hu f => hp (by omega) u hu it f)
    rw [if_neg k8, if_neg k8]
    exact first_congr (by omega) (by omega) (fun u hu f => hp (by omega) u hu it f) _
def ans (N0 : By → Option Wo) (k : By) (b : Bool) : Wo × Bool :=
  match N0 k with
  | some u => (u, b)
  | none => (.error 7, false)
theorem rn_ans {e : Src} {N0 : By → Option Wo} (hN : ∀ k u, N0 k = some u → W e k u) : ∀ (p : Pg Wo) (b : Bool), (p.run (ans N0) b).2 = true → (p.run (ans N0) b).1 ≠ .error 12 → b = true ∧ Rn (W e) p (p.run (ans N0) b).1
  | ⟨.inl w⟩, b, h, h12 => ⟨h, rfl, h12⟩
  | ⟨.inr (k, c)⟩, b, h, h12 => by
    have e1 : (⟨.inr (k, c)⟩ : Pg Wo).run (ans N0) b = (c (ans N0 k b).1).run (ans N0) (ans N0 k b).2 := rfl
    rw [e1] at h h12 ⊢
    cases hk : N0 k with
    | none =>
      have e2 : ans N0 k b = (.error 7, false) := by unfold ans; rw [hk]
      rw [e2] at h h12
      obtain ⟨h3, _⟩ := rn_ans hN (c (.error 7)) false h h12
      cases h3
    | some u =>
      have e2 : ans N0 k b = (u, b) := by unfold ans; rw [hk]
      rw [e2] at h h12 ⊢
      obtain ⟨h3, h4⟩ := rn_ans hN (c u) b h h12
      exact ⟨h3, u, hN k u hk, h4⟩
theorem w_ev {e : Src} {N0 : By → Option Wo} (hN : ∀ k u, N0 k = some u → W e k u) {key : By} {t : T} {n : Nat} (hk : e key = some (.inr t)) (hok : okT n false t = true) (hn : n ≤ hM t) {w : Wo} {f : Nat} (h : ev (ans N0) n t none (400, true) = (w, (f, true))) (h12 : w ≠ .error 12) : W e key w := by
  have h1 : (prog t).run (ans N0) true = (w, true) := by
    unfold prog
    rw [tr_high n (hM t) false t none 400 hok hn, Pg.run_worth]
    have h2 := ev_tr (ans N0) n t none 400 true
    rw [h] at h2
    unfold flat at h2
    have h3 := congrArg Prod.fst h2
    have h4 := congrArg (fun q => q.2.2) h2
    simp only at h3 h4
    rw [← h3, ← h4]
  refine W.rule hk ?_
  have := rn_ans hN (prog t) true (by rw [h1]) (by rw [h1]; exact h12)
  rw [h1] at this
  exact this.2
end Lard
end Go.Proofs.YtpekpdimdelncaaGreatDoor
