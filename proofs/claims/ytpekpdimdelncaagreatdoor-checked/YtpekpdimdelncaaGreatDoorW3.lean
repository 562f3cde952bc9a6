/- Tokens: firstToken and tokenAt answer the token that a text begins with. -/
import Derived.Test.YtpekpdimdelncaaGreatDoorW2
namespace Go.Proofs.YtpekpdimdelncaaGreatDoor
open Go.RowKit

/-- The value that a token bears: a number, a word, or nothing. -/
def isV (l : List UInt8) : Value :=
  match (Lard.tok l).1 with
  | 2 => .iface 219 (.int .i64 ((Lard.numOf (l.take (Lard.tok l).2)).getD 0))
  | 3 => .iface 215 (.string ⟨((l.drop 1).take ((Lard.tok l).2 - 2)).toArray⟩)
  | _ => .nilIface

theorem isV_one (l : List UInt8) : (isV l).oneCell' = true := by
  unfold isV; split <;> rfl

theorem run_store_isV {P : Program} {w : World} (a : Addr) (m : Mode) (l : List UInt8) : (store a (isV l) m).run P w = stored P w a (isV l) m := run_store P w a _ m (isV_one l)

/-- The token that stands in a text at a place. -/
def tokV (s : ByteArray) (i : Nat) : Value :=
  .agg #[.int .i64 ((Lard.tok (s.data.toList.drop i)).1 : Int), .string (s.extract i (i + (Lard.tok (s.data.toList.drop i)).2)), .int .i64 (i : Int), isV (s.data.toList.drop i)]


theorem bcell {W w1 : World} (hb : Below W.heap.size W w1) : (∀ b o, b < W.heap.size → w1.cell? ⟨b, o, none⟩ = W.cell? ⟨b, o, none⟩) ∧ (∀ b o, b < W.heap.size → w1.frozen? ⟨b, o, none⟩ = W.frozen? ⟨b, o, none⟩) :=
  ⟨fun b o h => hb.cell (p := ⟨b, o, none⟩) h, fun b o h => hb.frozen (p := ⟨b, o, none⟩) h⟩

theorem size_ext (s : ByteArray) (a b : Nat) : (s.extract a b).size ≤ s.size := by
  rw [ByteArray.size_extract]; omega

theorem set4 {B : Nat} {a w : World} (h : Below B a w) {b : Nat} (hp : B ≤ b) (u0 u1 u2 u3 : Value) : Below B a ((((w.setCell ⟨b, 0, none⟩ u0).setCell ⟨b, 1, none⟩ u1).setCell ⟨b, 2, none⟩ u2).setCell ⟨b, 3, none⟩ u3) :=
  (((h.setCell (p := ⟨b, 0, none⟩) hp _).setCell (p := ⟨b, 1, none⟩) hp _).setCell (p := ⟨b, 2, none⟩) hp _).setCell (p := ⟨b, 3, none⟩) hp _

def badV : Value := .agg #[.int .i64 1, .string ⟨#[]⟩, .int .i64 0, .nilIface]
def digV (s : ByteArray) : Option Int → Value
  | none => badV
  | some v => .agg #[.int .i64 2, .string (s.extract 0 (Lard.lead Lard.isDig s.data.toList)), .int .i64 0, .iface 219 (.int .i64 v)]

set_option maxHeartbeats 400000 in
theorem digitsToken_any (s : ByteArray) (w : World) (g : G w) (hs : s.size ≤ 281474976710656) (o : Option Int) (hn : Lard.numOf (s.data.toList.take (Lard.lead Lard.isDig s.data.toList)) = o) :
    Calls Tryz.prog 119 #[.string s] w fun e w' => e = .returned (digV s o) ∧ Below w.heap.size w w' := by
  have hr := fun (w : World) (g : G w) => readNumber_any (s.extract 0 (Lard.lead Lard.isDig s.data.toList)) w g (by have := size_ext s 0 (Lard.lead Lard.isDig s.data.toList); omega)
  rw [Lib.extract_data, List.drop_zero, Nat.sub_zero, hn] at hr
  have HR := hide hr
  have G' := g.below ((Below.refl w.heap.size w).alloc (Nat.le_refl _) (Obj.cells #[Value.int IntKind.i64 0, Value.string { data := #[] }, Value.int IntKind.i64 0, Value.nilIface] 172)) g.size
  clear hn hr
  go_enter Tryz.func119, Tryz.ntmps119
  go_wp2_with (go_at_call 155; refine (leading_dig _ _ (by omega)).mono ?_; rintro e w' ⟨rfl, rfl⟩)
  refine (HR.out _ G').mono ?_
  rintro e w1 ⟨rfl, hb⟩
  obtain ⟨hc, hf⟩ := bcell hb
  have hz : w.heap.size < w1.heap.size := by have := hb.size; simp at this; omega
  have hB : Below w.heap.size w w1 := ((Below.refl _ _).alloc (Nat.le_refl _) _).trans (hb.mono (by simp))
  clear HR G'
  cases o with
  | none =>
    go_wp2_with fail
    exact bodyPost_ret (v := badV) (by simp [results, Tryz.results119, go_sem, hc, badV]) rfl ⟨rfl, set4 hB (Nat.le_refl _) _ _ _ _⟩
  | some v =>
    go_wp2_with fail
    exact bodyPost_ret (v := digV s (some v)) (by simp [results, Tryz.results119, go_sem, hc, digV]) rfl ⟨rfl, set4 hB (Nat.le_refl _) _ _ _ _⟩

def letV (s : ByteArray) (n : Nat) (b : Bool) : Value :=
  if b = true then .agg #[.int .i64 5, .string (s.extract 0 n), .int .i64 0, .nilIface]
  else if 8 < n then badV
  else .agg #[.int .i64 4, .string (s.extract 0 n), .int .i64 0, .nilIface]

set_option maxHeartbeats 400000 in
theorem letterToken_any (s : ByteArray) (w : World) (hs : s.size ≤ 281474976710656) (b : Bool) (hb : Lard.termB (s.data.toList.take (Lard.lead Lard.isAl s.data.toList)) = b) :
    Calls Tryz.prog 121 #[.string s] w fun e w' => e = .returned (letV s (Lard.lead Lard.isAl s.data.toList) b) ∧ Below w.heap.size w w' := by
  have hl : Lard.lead Lard.isAl s.data.toList ≤ s.size := by have := Lard.lead_le Lard.isAl s.data.toList; simpa using this
  have hr := isTerm_any (s.extract 0 (Lard.lead Lard.isAl s.data.toList))
  rw [Lib.extract_data, List.drop_zero, Nat.sub_zero, hb] at hr
  have HR := hide hr
  clear hr hb
  go_enter Tryz.func121, Tryz.ntmps121
  go_wp2_with (first | (go_at_call 155; refine (leading_al _ _ (by omega)).mono ?_; rintro e w' ⟨rfl, rfl⟩) | (go_at_call 157; refine (HR.out _).mono ?_; rintro e w' ⟨rfl, rfl⟩))
  · rename_i hb
    subst hb
    exact bodyPost_ret (v := letV s (Lard.lead Lard.isAl s.data.toList) true) (by simp [results, Tryz.results121, go_sem, letV]) rfl ⟨rfl, (Below.refl _ _).alloc (Nat.le_refl _) _⟩
  · rename_i hb h8
    subst hb
    have h8' : 8 < Lard.lead Lard.isAl s.data.toList := by omega
    exact bodyPost_ret (v := letV s (Lard.lead Lard.isAl s.data.toList) false) (by simp [results, Tryz.results121, go_sem, letV, h8', badV]) rfl ⟨rfl, (Below.refl _ _).alloc (Nat.le_refl _) _⟩
  · rename_i hb h8
    subst hb
    have h8' : ¬ 8 < Lard.lead Lard.isAl s.data.toList := by omega
    exact bodyPost_ret (v := letV s (Lard.lead Lard.isAl s.data.toList) false) (by simp [results, Tryz.results121, go_sem, letV, h8']) rfl ⟨rfl, (Below.refl _ _).alloc (Nat.le_refl _) _⟩

def worV (s : ByteArray) : Option Nat → Value
  | none => badV
  | some n => .agg #[.int .i64 3, .string (s.extract 0 (n + 2)), .int .i64 0, .iface 215 (.string (s.extract 1 (n + 1)))]

set_option maxHeartbeats 400000 in
theorem wordToken_any (s : ByteArray) (w : World) (hs : s.size ≤ 281474976710656) (o : Option Nat) (ho : Lard.wordOf s.data.toList = o) :
    Calls Tryz.prog 122 #[.string s] w fun e w' => e = .returned (worV s o) ∧ Below w.heap.size w w' := by
  have hr := readWord_any s
  have hn : ∀ n, o = some n → n + 2 ≤ s.size := fun n h => by have := Lard.wordOf_le (ho.trans h); simpa using this
  rw [ho] at hr
  have HR := hide hr
  clear hr ho
  cases o with
  | none =>
    clear hn
    go_enter Tryz.func122, Tryz.ntmps122
    go_wp2_with fail
    refine (HR.out _ (by omega)).mono ?_
    rintro e w' ⟨rfl, rfl⟩
    unfold wordRes
    go_wp2_with fail
    exact bodyPost_ret (v := badV) (by simp [results, Tryz.results122, go_sem, badV]) rfl ⟨rfl, (Below.refl _ _).alloc (Nat.le_refl _) _⟩
  | some n =>
    have hn' := hn n rfl
    have hsz : (s.extract 1 (n + 1)).size = n := by rw [ByteArray.size_extract]; omega
    clear hn
    go_enter Tryz.func122, Tryz.ntmps122
    go_wp2_with fail
    refine (HR.out _ (by omega)).mono ?_
    rintro e w' ⟨rfl, rfl⟩
    unfold wordRes
    go_wp2_with fail
    exact bodyPost_ret (v := worV s (some n)) (by simp [results, Tryz.results122, go_sem, worV]) rfl ⟨rfl, (Below.refl _ _).alloc (Nat.le_refl _) _⟩

end Go.Proofs.YtpekpdimdelncaaGreatDoor
