/- The document's Read: the error and its place are those of the plain function. -/
import Derived.Test.YtpekpdimdelncaaGreatDoorR11
import Derived.Test.YtpekpdimdelncaaGreatDoorW16
namespace Go.Proofs.YtpekpdimdelncaaGreatDoor
open Go.RowKit
set_option linter.unusedVariables false

theorem tok_zero (l : List UInt8) : (Lard.tok l).1 = 0 ↔ l = [] := by
  cases l with
  | nil => simp [Lard.tok]
  | cons c r =>
    rw [Lard.tok_cons (c :: r) c r rfl]
    constructor
    · intro h
      exfalso
      split at h
      · split at h <;> simp at h
      · split at h
        · split at h
          · simp at h
          · split at h <;> simp at h
        · split at h
          · cases hw : Lard.wordOf (c :: r) with
            | none => rw [hw] at h; simp [Lard.wordTok] at h
            | some n => rw [hw] at h; simp [Lard.wordTok] at h
          · split at h <;> simp at h
    · intro h; cases h

theorem rsz_pos (c : UInt8) (r : List UInt8) : 1 ≤ rsz (c :: r) := by
  show 1 ≤ if c = 39 then max (quotedN (c :: r)) 1 else if Lard.isLet c = true then Lard.lead Lard.isAl (c :: r) else if Lard.isDig c = true then Lard.lead Lard.isDig (c :: r) else 1
  split
  · omega
  · split
    · rename_i h; exact Lard.lead_pos Lard.isAl c r (by rw [al_or, h]; rfl)
    · split
      · rename_i h; exact Lard.lead_pos Lard.isDig c r h
      · exact Nat.le_refl _

theorem tok_none (s : ByteArray) (j : Nat) : ((s.extract j (j + rsz (s.data.toList.drop j))).toList == []) = decide ((Lard.tok (s.data.toList.drop j)).1 = 0) := by
  rw [Lib.toList_data, rtx_data, Bool.eq_iff_iff, beq_iff_eq, decide_eq_true_iff, tok_zero]
  unfold rtx
  cases hl : s.data.toList.drop j with
  | nil => simp
  | cons c r =>
    have := rsz_pos c r
    constructor
    · intro h
      exfalso
      obtain ⟨m, hm⟩ : ∃ m, rsz (c :: r) = m + 1 := ⟨rsz (c :: r) - 1, by omega⟩
      rw [hm] at h; cases h
    · intro h; cases h

/-- What Read leaves: some nodes, the error and its place; nothing old has turned. -/
def PostR (w : World) (c i : Nat) (e : Ending) (w' : World) : Prop :=
  (∃ p n k, e = .returned (.tuple #[.slice p n k, .int .i64 (c : Int), .int .i64 (i : Int)])) ∧ Below w.heap.size w w'

set_option maxRecDepth 100000 in
set_option maxHeartbeats 1000000 in
theorem read_long (s : ByteArray) (w : World) (hs : 200 < s.size) (hmax : s.size ≤ 9223372036854775807) : Calls Tryz.prog 38 #[.string s] w (PostR w 2 0) := by
  have hs' : (200 : Int) < (s.size : Int) := by omega
  go_enter Tryz.func38, Tryz.ntmps38
  go_wp2_with fail
  exact bodyPost_ret (results_tmp3 rfl _ _ _) rfl ⟨⟨none, 0, 0, rfl⟩, Below.refl _ _⟩

theorem below_drewN {b : Nat} {w w' : World} (h : Below b w w') (n : Nat) : Below b w (w'.drewN n) := ⟨h.os, h.tape, h.output, h.size, h.block⟩

theorem RF.below {w w' : World} {o : Obj} (h : RF w.heap.size (w.heap.size + 1) (w.alloc o) w') : Below w.heap.size w w' :=
  ⟨h.os, h.tape, h.output, by have := h.size; simp at this; omega, fun k hk => (h.low k (by omega) (by simp; omega) (by omega)).trans (Below.heap_alloc w o k hk)⟩

set_option maxRecDepth 100000 in
set_option maxHeartbeats 2000000 in
theorem read_short (s : ByteArray) (w : World) (hs : s.size ≤ 200) : Calls Tryz.prog 38 #[.string s] w (PostR w (Lard.check s.data.toList).1 (Lard.check s.data.toList).2) := by
  have hs' : ¬ (200 : Int) < (s.size : Int) := by omega
  have hi0 : Lard.skip s.data.toList 0 ≤ s.size := by have := Lard.skip_le s.data.toList 0 (Nat.zero_le _); simpa using this
  have hck : Lard.check s.data.toList = Lard.endOf s.data.toList (Lard.P s.data.toList (8 * s.data.toList.length + 5) 0 0 0 (Lard.skip s.data.toList 0)) := by
    rw [Lard.check, if_neg (by simp; omega)]
  generalize hi0e : Lard.skip s.data.toList 0 = i0 at hi0 hck
  have hg0 : Good s i0 (.ok i0) := fun a ha => by cases ha; exact ⟨Nat.le_refl _, hi0⟩
  have hroom : room s (.ok i0) ≤ 800 := by simp only [room]; omega
  have hread := fun w1 (k1 : RX s w.heap.size (w.heap.size + 1) 0 0 (.ok i0) w1) => (rreader_all s w.heap.size (w.heap.size + 1) hs (8 * s.data.toList.length + 5)).1 0 0 i0 (.ok i0) w1 0 (by omega) (Nat.le_refl _) (by simp [Lard.nd]; omega) hg0 k1 (by omega)
  have hck2 : Lard.check s.data.toList = Lard.endOf s.data.toList (Lard.andThen (.ok i0) (Lard.P s.data.toList (8 * s.data.toList.length + 5) 0 0 0)) := hck
  have hrg := hg0.P (8 * s.data.toList.length + 5) 0 0 0
  generalize Lard.andThen (.ok i0) (Lard.P s.data.toList (8 * s.data.toList.length + 5) 0 0 0) = r at hck2 hread hrg
  generalize Lard.check s.data.toList = ck at hck2
  have HCK := hide hck2
  have HREAD := hide hread
  have h0 : RRaw (w.alloc (.cells #[.string s, .int .i64 0, .string ⟨#[]⟩, .int .i64 0, .int .i64 0, .int .i64 0, .slice none 0 0] 142)) s w.heap.size 0 ⟨#[]⟩ 0 0 0 (.slice none 0 0) := heap_alloc_new _ _
  have hnx := next_any s w.heap.size 0 ⟨#[]⟩ 0 0 0 (.slice none 0 0) _ h0 (by omega) (by show 0 + 0 ≤ s.size; omega)
  rw [show 0 + (⟨#[]⟩ : ByteArray).size = 0 from rfl, hi0e] at hnx
  have HNX := hide hnx
  clear hck hck2 hread hi0e hnx h0
  go_enter Tryz.func38, Tryz.ntmps38
  go_wp2_with fail
  refine HNX.out.mono ?_
  rintro e w1 ⟨rfl, q1, f1⟩
  have k1 : RX s w.heap.size (w.heap.size + 1) 0 0 (.ok i0) w1 := RX.mkOk q1 ⟨[], ⟨rfl, Or.inl ⟨rfl, rfl⟩⟩, fun k hk => by omega⟩ (by omega) (by have := f1.size; simpa using this)
  have r1 : RF w.heap.size (w.heap.size + 1) _ w1 := RF.of_fr f1
  clear HNX q1 f1
  go_wp2_with fail
  refine (HREAD.out w1 k1).mono ?_
  rintro e w2 ⟨x2, n2, rfl, k2, r2, b2, xk⟩
  have r12 := r1.trans r2
  have hB2 := r12.below
  clear HREAD k1 r1 r2
  cases r with
  | error y =>
    have hck : ck = y := HCK.out
    subst hck
    obtain ⟨hy, v, i1, t1, q1, q2⟩ := k2.err
    obtain ⟨c0, c1, c2, c3, c4, c5, c6, cf⟩ := q1.cells
    have hy' : ((ck.1 : Int) == 0) = false := by rw [beq_eq_false_iff_ne]; omega
    have hy'' : ((ck.1 : Int) != 0) = true := by rw [bne_iff_ne]; omega
    go_wp2_with fail
    go_quiet (fail)
    go_wp2_with fail
    exact bodyPost_ret (results_tmp3 rfl _ _ _) rfl ⟨⟨none, 0, 0, rfl⟩, below_drewN hB2 _⟩
  | ok j =>
    have hj := hrg j rfl
    have htn := tok_none s j
    have hck : ck = if (Lard.tok (s.data.toList.drop j)).1 = 0 then (0, 0) else (3, j) := HCK.out
    obtain ⟨v, p, q1, q2⟩ := k2.ok
    obtain ⟨c0, c1, c2, c3, c4, c5, c6, cf⟩ := q1.cells
    clear HCK
    by_cases hk0 : (Lard.tok (s.data.toList.drop j)).1 = 0
    · rw [if_pos hk0] at hck
      rw [decide_eq_true hk0] at htn
      subst hck
      obtain ⟨k, rfl, hkn⟩ := xk j rfl
      obtain ⟨xs, hown, hnode⟩ := q2.own
      obtain ⟨nb, nt, nx, ny, nz, np, npn, npc, e0, e1, e2, e3, e4, e5⟩ := hnode k hkn
      rcases hown.2 with ⟨_, h0⟩ | ⟨g, cap, cur, rfl, hBg, hbk, hcap, hcap2, hcur, htake⟩
      · omega
      have hkI : (k : Int) < (n2 : Int) := by omega
      have hcell : ∀ (j : Nat) (u : Value), xs[j]? = some u → w2.cell? ⟨g, j, none⟩ = some u := fun j u hju => by
        have := hown.cells (g := g) rfl j u hju
        rcases Nat.eq_zero_or_pos j with rfl | hj0
        · simpa [Addr.add] using this
        · rw [Addr.add] at this
          rw [if_neg (by omega)] at this
          simpa using this
      rw [Nat.mul_comm 6 k] at e0 e1 e2 e3 e4 e5
      have z0 := hcell _ _ e0
      have z1 := hcell _ _ e1
      have z2 := hcell _ _ e2
      have z3 := hcell _ _ e3
      have z4 := hcell _ _ e4
      have z5 := hcell _ _ e5
      clear hcell e0 e1 e2 e3 e4 e5 hbk hcur htake hown hnode q2
      go_wp2_with fail
      refine (add_x s w.heap.size (w.heap.size + 1) 0 n2 (.ok j) w2 k2 _ _ _ _ _ _ _ _ (by omega)).mono ?_
      rintro e w3 ⟨rfl, k3, r3⟩
      have hB3 := (r12.trans r3).below
      obtain ⟨v3, p3, q3, q4⟩ := k3.ok
      obtain ⟨d0, d1, d2, d3, d4, d5, d6, df⟩ := q3.cells
      obtain ⟨ys, hown3, _⟩ := q4.own
      obtain ⟨vp3, vc3, rfl⟩ := own_forms hown3
      clear c0 c1 c2 c3 c4 c5 c6 cf z0 z1 z2 z3 z4 z5
      go_wp2_with fail
      exact bodyPost_ret (results_tmp3 rfl _ _ _) rfl ⟨⟨_, _, _, rfl⟩, hB3⟩
    · rw [if_neg hk0] at hck
      rw [decide_eq_false hk0] at htn
      subst hck
      have HF := hide (fail_any s w.heap.size j _ p 0 3 v w2 q1)
      go_wp2_with fail
      refine HF.out.mono ?_
      rintro e w3 ⟨rfl, q3, f3⟩
      have hB3 := (r12.fr f3).below
      obtain ⟨d0, d1, d2, d3, d4, d5, d6, df⟩ := q3.cells
      clear c0 c1 c2 c3 c4 c5 c6 cf
      go_wp2_with fail
      go_quiet (fail)
      go_wp2_with fail
      exact bodyPost_ret (results_tmp3 rfl _ _ _) rfl ⟨⟨none, 0, 0, rfl⟩, below_drewN hB3 _⟩
end Go.Proofs.YtpekpdimdelncaaGreatDoor
