/- The reader of rules, whole; and Parse and Check by it. -/
import Derived.Test.YtpekpdimdelncaaGreatDoorW14
import Derived.Defers
import Derived.Recover
namespace Go.Proofs.YtpekpdimdelncaaGreatDoor
open Go.RowKit

/-- Every function of the reader reads as the plain function does, where the fuel is enough. -/
theorem reader_all (s : ByteArray) (pb : Nat) (hs : s.size ≤ 200) (hpb : 8 ≤ pb) : ∀ n, CT s pb n 0 89 ∧ CT s pb n 1 131 ∧ CT s pb n 2 173 ∧ CT s pb n 3 212 := by
  have hs' : s.size ≤ 281474976710656 := by omega
  intro n
  induction n using Nat.strongRecOn with
  | ind n ih =>
    cases n with
    | zero =>
      refine ⟨?_, ?_, ?_, ?_⟩
      all_goals
        intro deep its i hi hd hits hfuel
        simp [Lard.nd] at hfuel
    | succ n =>
      have ih' : ∀ m, m ≤ n → _ := fun m hm => ih m (by omega)
      exact ⟨rule_step s pb n hs' hpb (ih' n (Nat.le_refl _)).2.1, sum_step s pb n hs' hpb (fun m hm => (ih' m hm).2.2.1), term_step s pb n hs' hpb (fun m hm => (ih' m hm).2.2.2), factor_step s pb n hs hpb (fun m hm => (ih' m hm).1) (ih' n (Nat.le_refl _)).2.2.2⟩

/-- The closure that Parse defers, where nothing is wrong. -/
theorem parse_idle (p0 p1 p2 : Addr) (w : World) :
    CallsD Tryz.prog 87 #[.pointer (some p0), .pointer (some p1), .pointer (some p2)] .returning w fun e u' w' => e = .returned (.tuple #[]) ∧ u' = .returning ∧ w' = w := by
  refine callsD_of_wpS Tryz.func87 rfl fun c₀ cs hu => ?_
  apply wpS_seq
  apply wpS_region
  simp [wpOpsS, go_sem, recoverD, hu, Tryz.ntmps87, Exit.thenS]
  refine wpS_of_wp ?_
  have ht : (#[Value.pointer (some p0), Value.pointer (some p1), Value.pointer (some p2)] ++ ((Array.replicate 15 undef).setIfInBounds 4 Value.nilIface).setIfInBounds 0 Value.nilIface) = #[Value.pointer (some p0), Value.pointer (some p1), Value.pointer (some p2), Value.nilIface, undef, undef, undef, Value.nilIface, undef, undef, undef, undef, undef, undef, undef, undef, undef, undef] := rfl
  rw [ht]
  clear ht
  go_wp2_with fail
  cases c₀
  simp_all [bodyPostS, results, Tryz.results87]

set_option maxRecDepth 100000 in
set_option maxHeartbeats 1000000 in
/-- The closure that Parse defers, where the reader has given up. -/
theorem parse_catch (b : Nat) (c i : Nat) (w : World) (q0 : Value) (hq : ∃ q, q0 = .pointer q) (v1 v2 : Int) (hb : b + 1 + 1 < w.heap.size)
    (c0 : w.cell? ⟨b, 0, none⟩ = some q0) (c1 : w.cell? ⟨b + 1, 0, none⟩ = some (.int .i64 v1)) (c2 : w.cell? ⟨b + 1 + 1, 0, none⟩ = some (.int .i64 v2))
    (z0 : w.frozen? ⟨b, 0, none⟩ = false) (z1 : w.frozen? ⟨b + 1, 0, none⟩ = false) (z2 : w.frozen? ⟨b + 1 + 1, 0, none⟩ = false) :
    CallsD Tryz.prog 87 #[.pointer (some ⟨b, 0, none⟩), .pointer (some ⟨b + 1, 0, none⟩), .pointer (some ⟨b + 1 + 1, 0, none⟩)] (.panicking [{ v := .iface 179 (.agg #[.int .i64 (c : Int), .int .i64 (i : Int)]), recovered := false }]) w fun e u' w' =>
      e = .returned (.tuple #[]) ∧ u' = .panicking [{ v := .iface 179 (.agg #[.int .i64 (c : Int), .int .i64 (i : Int)]), recovered := true }] ∧ w'.cell? ⟨b, 0, none⟩ = some (.pointer none) ∧ w'.cell? ⟨b + 1, 0, none⟩ = some (.int .i64 (c : Int)) ∧ w'.cell? ⟨b + 1 + 1, 0, none⟩ = some (.int .i64 (i : Int)) ∧ Below b w w' := by
  obtain ⟨q, rfl⟩ := hq
  have hb0 : b < w.heap.size := by omega
  have hb1 : b + 1 < w.heap.size := by omega
  have hta : ∀ (a : Value) (w : World), (Instr.typeAssert (.iface 179 a) 20 179 true).run Tryz.prog w = .ok (.tuple #[a, .bool true]) w := fun _ _ => by kernel_rfl
  refine callsD_of_wpS Tryz.func87 rfl fun c₀ cs hu => ?_
  apply wpS_seq
  apply wpS_region
  simp [wpOpsS, go_sem, recoverD, hu, Tryz.ntmps87, Exit.thenS]
  refine wpS_of_wp ?_
  generalize hv : Value.iface 179 (.agg #[.int .i64 (c : Int), .int .i64 (i : Int)]) = vv
  have ht : (#[Value.pointer (some ⟨b, 0, none⟩), Value.pointer (some ⟨b + 1, 0, none⟩), Value.pointer (some ⟨b + 1 + 1, 0, none⟩)] ++ ((Array.replicate 15 undef).setIfInBounds 4 vv).setIfInBounds 0 vv) = #[Value.pointer (some ⟨b, 0, none⟩), Value.pointer (some ⟨b + 1, 0, none⟩), Value.pointer (some ⟨b + 1 + 1, 0, none⟩), vv, undef, undef, undef, vv, undef, undef, undef, undef, undef, undef, undef, undef, undef, undef] := rfl
  rw [ht]
  clear ht
  subst hv
  go_wp2_with fail
  go_region
  refine ⟨rfl, _, rfl, .tuple #[], by simp [results, Tryz.results87], rfl, rfl, ?_, ?_, ?_, ?_⟩
  · simp [go_sem, hb0, c0]
  · simp [go_sem, hb1, c1]
  · simp [go_sem, hb, c2]
  · exact ((((((Below.refl b w).setCell (p := ⟨b, 0, none⟩) (Nat.le_refl _) _).setCell (p := ⟨b + 1, 0, none⟩) (Nat.le_add_right _ _) _).setCell (p := ⟨b + 1 + 1, 0, none⟩) (by show b ≤ b + 1 + 1; omega) _).alloc (by simp [World.setCell]; omega) _).drew)
end Go.Proofs.YtpekpdimdelncaaGreatDoor
