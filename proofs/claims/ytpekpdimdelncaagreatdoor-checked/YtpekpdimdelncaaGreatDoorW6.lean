/- The reader of rules: where it stands, and the small steps that only look. -/
import Derived.Test.YtpekpdimdelncaaGreatDoorW5
import Derived.Lib.BufferOwn
namespace Go.Proofs.YtpekpdimdelncaaGreatDoor
open Go.RowKit
attribute [local go_sem] run_store_isV

/-- What the reader holds: the text, the token at place i, how deep it is, in how many second rules. -/
def pCells (s : ByteArray) (i deep its : Nat) : Array Value :=
  #[.string s, .int .i64 ((Lard.tok (s.data.toList.drop i)).1 : Int), .string (s.extract i (i + (Lard.tok (s.data.toList.drop i)).2)), .int .i64 (i : Int), isV (s.data.toList.drop i), .int .i64 (deep : Int), .int .i64 (its : Int)]

def PAt (w : World) (s : ByteArray) (pb i deep its : Nat) : Prop := w.heap[pb]? = some (.cells (pCells s i deep its) 183 (0, 0))

theorem PAt.lt {w : World} {s : ByteArray} {pb i deep its : Nat} (h : PAt w s pb i deep its) : pb < w.heap.size := by
  by_cases hp : pb < w.heap.size
  · exact hp
  · unfold PAt at h; rw [Array.getElem?_eq_none (by omega)] at h; cases h

theorem PAt.cells {w : World} {s : ByteArray} {pb i deep its : Nat} (h : PAt w s pb i deep its) :
    w.cell? ⟨pb, 0, none⟩ = some (.string s) ∧ w.cell? ⟨pb, 1, none⟩ = some (.int .i64 ((Lard.tok (s.data.toList.drop i)).1 : Int)) ∧ w.cell? ⟨pb, 2, none⟩ = some (.string (s.extract i (i + (Lard.tok (s.data.toList.drop i)).2))) ∧ w.cell? ⟨pb, 3, none⟩ = some (.int .i64 (i : Int)) ∧ w.cell? ⟨pb, 4, none⟩ = some (isV (s.data.toList.drop i)) ∧ w.cell? ⟨pb, 5, none⟩ = some (.int .i64 (deep : Int)) ∧ w.cell? ⟨pb, 6, none⟩ = some (.int .i64 (its : Int)) ∧ (∀ o, w.frozen? ⟨pb, o, none⟩ = false) := by
  unfold PAt at h
  refine ⟨?_, ?_, ?_, ?_, ?_, ?_, ?_, ?_⟩
  all_goals simp [World.cell?, World.frozen?, h, pCells]

/-- The panic that the reader gives up with. -/
def refusal (c i : Nat) : Ending := .panicked [{ v := .iface 179 (.agg #[.int .i64 (c : Int), .int .i64 (i : Int)]), recovered := false }]

set_option maxHeartbeats 400000 in
theorem refuse_any (s : ByteArray) (pb i deep its : Nat) (c : Nat) (w : World) (h : PAt w s pb i deep its) :
    Calls Tryz.prog 90 #[.pointer (some ⟨pb, 0, none⟩), .int .i64 (c : Int)] w fun e w' => e = refusal c i ∧ w = w' := by
  obtain ⟨c0, c1, c2, c3, c4, c5, c6, cf⟩ := h.cells
  go_enter Tryz.func90, Tryz.ntmps90
  go_wp2_with fail
  exact ⟨rfl, rfl, rfl⟩

theorem tx_extract (s : ByteArray) (i : Nat) : (s.extract i (i + (Lard.tok (s.data.toList.drop i)).2)).toList = Lard.tx s.data.toList i := by
  rw [Lib.extract_toList, Nat.add_sub_cancel_left]; rfl

theorem tx_extract_data (s : ByteArray) (i : Nat) : (s.extract i (i + (Lard.tok (s.data.toList.drop i)).2)).data.toList = Lard.tx s.data.toList i := by
  rw [Lib.extract_data, Nat.add_sub_cancel_left]; rfl

theorem ret_bool {a b : Bool} (h : a = b) : Ending.returned (.bool a) = .returned (.bool b) := by rw [h]

set_option maxHeartbeats 400000 in
theorem sees_any (s : ByteArray) (pb i deep its : Nat) (t : ByteArray) (w : World) (h : PAt w s pb i deep its) :
    Calls Tryz.prog 313 #[.pointer (some ⟨pb, 0, none⟩), .string t] w fun e w' => e = .returned (.bool (Lard.tx s.data.toList i == t.data.toList)) ∧ w = w' := by
  obtain ⟨c0, c1, c2, c3, c4, c5, c6, cf⟩ := h.cells
  go_enter Tryz.func313, Tryz.ntmps313
  go_wp2_with fail
  go_ret
  exact ⟨ret_bool (by rw [tx_extract, Lib.toList_data]), rfl⟩

set_option maxHeartbeats 400000 in
theorem seesOne_any (s : ByteArray) (pb i deep its : Nat) (t : ByteArray) (w : World) (h : PAt w s pb i deep its) :
    Calls Tryz.prog 132 #[.pointer (some ⟨pb, 0, none⟩), .string t] w fun e w' => e = .returned (.bool (Lard.oneB s.data.toList i t.data.toList)) ∧ w = w' := by
  obtain ⟨c0, c1, c2, c3, c4, c5, c6, cf⟩ := h.cells
  by_cases hk : (Lard.tok (s.data.toList.drop i)).1 = 6
  · obtain ⟨c, r, hl, ht⟩ := Lard.tok_sign _ hk
    have hx : Lard.tx s.data.toList i = [c] := by rw [Lard.tx, ht, hl]; rfl
    have he : s.extract i (i + (Lard.tok (s.data.toList.drop i)).2) = ⟨#[c]⟩ := by
      rw [Lib.extract_eq, Nat.add_sub_cancel_left, ht, hl]; rfl
    have hv : Lard.oneB s.data.toList i t.data.toList = decide (0 ≤ Lib.indexByte t.data.toList c) := by
      rw [Lard.oneB, hx]; simp [hk]
    rw [he] at c2
    rw [ht] at c1
    have HV := hide hv
    clear hv he hx hl ht hk h
    go_enter Tryz.func132, Tryz.ntmps132
    go_wp2_with (go_at_call 174; refine (Tryz.strings_Contains_one _ _ _).mono ?_; rintro e w' ⟨rfl, rfl⟩)
    go_ret
    exact ⟨ret_bool HV.out.symm, rfl⟩
  · have hv : Lard.oneB s.data.toList i t.data.toList = false := by
      unfold Lard.oneB
      split
      · simp [hk]
      · rfl
    have HV := hide hv
    have hk' : (((Lard.tok (s.data.toList.drop i)).1 : Int) == 6) = false := by
      rw [beq_eq_false_iff_ne]; omega
    clear hv hk h
    go_enter Tryz.func132, Tryz.ntmps132
    go_wp2_with fail
    go_ret
    exact ⟨ret_bool HV.out.symm, rfl⟩

set_option maxHeartbeats 1000000 in
theorem signKind_any (t : ByteArray) (w : World) :
    Calls Tryz.prog 293 #[.string t] w fun e w' => e = .returned (.int .i64 (Lard.signK t.data.toList : Int)) ∧ w = w' := by
  go_enter Tryz.func293, Tryz.ntmps293
  go_wp2_with fail
  all_goals first
    | (exfalso; simp_all; done)
    | (go_ret; refine ⟨?_, rfl⟩; rw [← Lib.toList_data]; simp_all [Lard.signK])

set_option maxHeartbeats 1000000 in
theorem termKind_raw (x : ByteArray) (pb its : Nat) (w : World) (c2 : w.cell? ⟨pb, 2, none⟩ = some (.string x)) (c6 : w.cell? ⟨pb, 6, none⟩ = some (.int .i64 (its : Int))) :
    Calls Tryz.prog 292 #[.pointer (some ⟨pb, 0, none⟩)] w fun e w' => e = .returned (.int .i64 (Lard.termK x.toList its : Int)) ∧ w = w' := by
  go_enter Tryz.func292, Tryz.ntmps292
  go_wp2_with fail
  all_goals clear c2 c6
  all_goals first
    | (exfalso; simp_all; done)
    | (go_ret; refine ⟨?_, rfl⟩; simp_all [Lard.termK]; done)
    | (go_ret; refine ⟨?_, rfl⟩; simp_all [Lard.termK]; omega)

set_option maxHeartbeats 400000 in
theorem termByte_any (t : ByteArray) (w : World) :
    Calls Tryz.prog 262 #[.string t] w fun e w' => (∃ n : Nat, e = .returned (.int .u8 (n : Int))) ∧ w = w' := by
  go_enter Tryz.func262, Tryz.ntmps262
  go_wp2_with fail
  all_goals first
    | (exfalso; simp_all; done)
    | (go_ret; exact ⟨⟨109, rfl⟩, rfl⟩)
    | (go_ret; exact ⟨⟨120, rfl⟩, rfl⟩)
    | (go_ret; exact ⟨⟨64, rfl⟩, rfl⟩)

set_option maxHeartbeats 1000000 in
theorem kindHere_any (s : ByteArray) (pb i deep its : Nat) (w : World) (h : PAt w s pb i deep its) :
    Calls Tryz.prog 261 #[.pointer (some ⟨pb, 0, none⟩)] w fun e w' => e = .returned (.int .i64 (Lard.kind s.data.toList i its : Int)) ∧ w = w' := by
  obtain ⟨c0, c1, c2, c3, c4, c5, c6, cf⟩ := h.cells
  have ht := termKind_raw _ _ _ _ c2 c6
  have hsg := signKind_any (s.extract i (i + (Lard.tok (s.data.toList.drop i)).2)) w
  rw [tx_extract_data] at hsg
  rw [tx_extract] at ht
  have hv : Lard.kind s.data.toList i its = Lard.kindOf (Lard.tok (s.data.toList.drop i)).1 (Lard.tx s.data.toList i) its := rfl
  rw [hv]
  have HT := hide ht
  have HS := hide hsg
  clear ht hsg hv c0 c3 c4 c5 h
  generalize (Lard.tok (s.data.toList.drop i)).1 = k at *
  by_cases h2 : k = 2
  · subst h2
    go_enter Tryz.func261, Tryz.ntmps261
    go_wp2_with fail
    go_ret
    exact ⟨by simp [Lard.kindOf], rfl⟩
  by_cases h3 : k = 3
  · subst h3
    go_enter Tryz.func261, Tryz.ntmps261
    go_wp2_with fail
    go_ret
    exact ⟨by simp [Lard.kindOf], rfl⟩
  by_cases h4 : k = 4
  · subst h4
    go_enter Tryz.func261, Tryz.ntmps261
    go_wp2_with fail
    go_ret
    exact ⟨by simp [Lard.kindOf], rfl⟩
  by_cases h5 : k = 5
  · subst h5
    go_enter Tryz.func261, Tryz.ntmps261
    go_wp2_with fail
    refine HT.out.mono ?_
    rintro e w' ⟨rfl, rfl⟩
    go_wp2_with fail
    go_ret
    exact ⟨by simp [Lard.kindOf], rfl⟩
  by_cases h6 : k = 6
  · subst h6
    go_enter Tryz.func261, Tryz.ntmps261
    go_wp2_with fail
    refine HS.out.mono ?_
    rintro e w' ⟨rfl, rfl⟩
    go_wp2_with fail
    go_ret
    exact ⟨by simp [Lard.kindOf], rfl⟩
  · have e2 : ((k : Int) == 2) = false := by rw [beq_eq_false_iff_ne]; omega
    have e3 : ((k : Int) == 3) = false := by rw [beq_eq_false_iff_ne]; omega
    have e4 : ((k : Int) == 4) = false := by rw [beq_eq_false_iff_ne]; omega
    have e5 : ((k : Int) == 5) = false := by rw [beq_eq_false_iff_ne]; omega
    have e6 : ((k : Int) == 6) = false := by rw [beq_eq_false_iff_ne]; omega
    have HV := hide (show Lard.kindOf k (Lard.tx s.data.toList i) its = 0 by simp [Lard.kindOf, h2, h3, h4, h5, h6])
    clear h2 h3 h4 h5 h6
    go_enter Tryz.func261, Tryz.ntmps261
    go_wp2_with fail
    go_ret
    exact ⟨by rw [HV.out]; rfl, rfl⟩
end Go.Proofs.YtpekpdimdelncaaGreatDoor
