/- The reader of rules: the step to the next token. -/
import Derived.Test.YtpekpdimdelncaaGreatDoorW6
import Derived.Deep.RegionWith
namespace Go.Proofs.YtpekpdimdelncaaGreatDoor
open Go.RowKit
attribute [local go_sem] run_store_isV

theorem tokenAt_int (s : ByteArray) (x : Int) (a : Nat) (w : World) (hx : x = (a : Int)) (g : G w) (hs : s.size ≤ 281474976710656) (ha : a ≤ s.size) :
    Calls Tryz.prog 88 #[.string s, .int .i64 x] w fun e w' => e = .returned (tokV s (Lard.skip s.data.toList a)) ∧ Below w.heap.size w w' := by
  subst hx; exact tokenAt_any s a w g hs ha

theorem wrap_sum (a b : Nat) (h : a + b ≤ 281474976710656) : IntKind.i64.wrap ((a : Int) + (b : Int)) = ((a + b : Nat) : Int) := by
  rw [IntKind.wrap_i64]; omega

theorem after {w X w1 : World} {pb : Nat} (h0 : Below w.heap.size w X) (h1 : Below X.heap.size X w1) (hlt : pb < w.heap.size) (cf : ∀ o, w.frozen? ⟨pb, o, none⟩ = false) :
    Below w.heap.size w w1 ∧ (∀ o, w1.cell? ⟨pb, o, none⟩ = w.cell? ⟨pb, o, none⟩) ∧ (∀ o, w1.frozen? ⟨pb, o, none⟩ = false) := by
  have hB := h0.trans (h1.mono h0.size)
  exact ⟨hB, fun o => hB.cell (p := ⟨pb, o, none⟩) hlt, fun o => (hB.frozen (p := ⟨pb, o, none⟩) hlt).trans (cf o)⟩

theorem blk_set {w : World} {b : Nat} {cs : Array Value} {t : TypeId} {m : Nat × Nat} (h : w.heap[b]? = some (.cells cs t m)) (o : Nat) (v : Value) : (w.setCell ⟨b, o, none⟩ v).heap[b]? = some (.cells (cs.setIfInBounds o v) t m) := by
  simp [World.setCell, Array.getElem?_modify, h]

theorem PAt.other {w : World} {s : ByteArray} {pb i deep its : Nat} (h : PAt w s pb i deep its) {b : Nat} (hb : b ≠ pb) (o : Nat) (v : Value) : PAt (w.setCell ⟨b, o, none⟩ v) s pb i deep its :=
  (Below.heap_setCell w ⟨b, o, none⟩ v pb (fun e => hb e.symm)).trans h

theorem PAt.alloc {w : World} {s : ByteArray} {pb i deep its : Nat} (h : PAt w s pb i deep its) (o : Obj) : PAt (w.alloc o) s pb i deep its :=
  (Below.heap_alloc w o pb h.lt).trans h

theorem PAt.below {w w' : World} {s : ByteArray} {pb i deep its B : Nat} (h : PAt w s pb i deep its) (hB : Below B w w') (hb : pb < B) : PAt w' s pb i deep its :=
  (hB.block pb hb).trans h

theorem PAt.step {w : World} {s : ByteArray} {pb i deep its : Nat} (h : PAt w s pb i deep its) (j : Nat) :
    PAt ((((w.setCell ⟨pb, 1, none⟩ (.int .i64 ((Lard.tok (s.data.toList.drop j)).1 : Int))).setCell ⟨pb, 2, none⟩ (.string (s.extract j (j + (Lard.tok (s.data.toList.drop j)).2)))).setCell ⟨pb, 3, none⟩ (.int .i64 (j : Int))).setCell ⟨pb, 4, none⟩ (isV (s.data.toList.drop j))) s pb j deep its := by
  have h1 := blk_set (blk_set (blk_set (blk_set h 1 (.int .i64 ((Lard.tok (s.data.toList.drop j)).1 : Int))) 2 (.string (s.extract j (j + (Lard.tok (s.data.toList.drop j)).2)))) 3 (.int .i64 (j : Int))) 4 (isV (s.data.toList.drop j))
  exact h1

theorem PAt.deep {w : World} {s : ByteArray} {pb i deep its : Nat} (h : PAt w s pb i deep its) (d : Nat) : PAt (w.setCell ⟨pb, 5, none⟩ (.int .i64 (d : Int))) s pb i d its := blk_set h 5 _

theorem PAt.its {w : World} {s : ByteArray} {pb i deep its : Nat} (h : PAt w s pb i deep its) (d : Nat) : PAt (w.setCell ⟨pb, 6, none⟩ (.int .i64 (d : Int))) s pb i deep d := blk_set h 6 _

theorem Fr.trans {a w w' : World} {row : Option Nat} (h : a.grownBy w row) (k : w.grownBy w' row) : a.grownBy w' row := Lib.grownBy_trans h k

theorem Fr.set {a w : World} {pb : Nat} (h : a.grownBy w (some pb)) (i : Nat) (v : Value) : a.grownBy (w.setCell ⟨pb, i, none⟩ v) (some pb) := Lib.grownBy_setB h i v

theorem Fr.new {a w : World} {row : Option Nat} (h : a.grownBy w row) {b : Nat} (hb : a.heap.size ≤ b) (i : Nat) (v : Value) : a.grownBy (w.setCell ⟨b, i, none⟩ v) row :=
  ⟨h.os, h.tape, h.output, by simpa [World.setCell] using h.size, fun k hk hr => (Below.heap_setCell w ⟨b, i, none⟩ v k (by show k ≠ b; omega)).trans (h.block k hk hr)⟩

theorem Fr.below {a w w' : World} {row : Option Nat} (h : a.grownBy w row) {B : Nat} (hb : Below B w w') (hB : a.heap.size ≤ B) : a.grownBy w' row :=
  ⟨hb.os.trans h.os, hb.tape.trans h.tape, hb.output.trans h.output, Nat.le_trans h.size hb.size, fun k hk hr => (hb.block k (by omega)).trans (h.block k hk hr)⟩

set_option maxHeartbeats 1000000 in
theorem take_any (s : ByteArray) (pb i deep its : Nat) (w : World) (g : G w) (h : PAt w s pb i deep its) (hs : s.size ≤ 281474976710656) (hi : i ≤ s.size) :
    Calls Tryz.prog 175 #[.pointer (some ⟨pb, 0, none⟩)] w fun e w' => e = .returned (tokV s i) ∧ PAt w' s pb (Lard.nxt s.data.toList i) deep its ∧ w.grownBy w' (some pb) := by
  obtain ⟨c0, c1, c2, c3, c4, c5, c6, cf⟩ := h.cells
  have hlt := h.lt
  have hin : i + (Lard.tok (s.data.toList.drop i)).2 ≤ s.size := by
    have := Lard.tok_in s.data.toList i (by simpa using hi); simpa using this
  have hsz : (s.extract i (i + (Lard.tok (s.data.toList.drop i)).2)).size = (Lard.tok (s.data.toList.drop i)).2 := by
    rw [ByteArray.size_extract]; omega
  go_enter Tryz.func175, Tryz.ntmps175
  go_wp2_with fail
  have hB0 : Below w.heap.size w (((w.alloc (Obj.cells #[Value.int IntKind.i64 0, Value.string { data := #[] }, Value.int IntKind.i64 0, Value.nilIface] 172)).alloc (Obj.cells #[Value.int IntKind.i64 ↑(Lard.tok (List.drop i s.data.toList)).fst, Value.string (s.extract i (i + (Lard.tok (List.drop i s.data.toList)).snd)), Value.int IntKind.i64 ↑i, isV (List.drop i s.data.toList)] 172)).drew) :=
    (((Below.refl _ _).alloc (Nat.le_refl _) _).alloc (by simp) _).drew
  have g0 := g.below hB0 g.size
  go_region_with (go_at_call 88; refine (tokenAt_int s _ (i + (Lard.tok (s.data.toList.drop i)).2) _ ?_ g0 hs hin).mono ?_; (· rw [wrap_sum _ _ (by omega)]); rintro e w1 ⟨rfl, hb1⟩; (obtain ⟨hB1, e1, f1⟩ := after hB0 hb1 hlt cf); unfold tokV)
  all_goals (obtain ⟨hc, hf⟩ := bcell hb1)
  all_goals (have hz1 : w.heap.size + 1 < w1.heap.size := by have := hb1.size; simp at this; omega)
  all_goals clear g0 g hi
  all_goals (have hne1 : ¬ w.heap.size = pb := by omega)
  all_goals (have hne2 : ¬ pb = w.heap.size := by omega)
  all_goals (have n0 : w1.cell? ⟨w.heap.size, 0, none⟩ = some (.int .i64 0) := by rw [hc _ _ (by simp; omega)]; simp [go_sem])
  all_goals (have n1 : w1.cell? ⟨w.heap.size, 1, none⟩ = some (.string ⟨#[]⟩) := by rw [hc _ _ (by simp; omega)]; simp [go_sem])
  all_goals (have n2 : w1.cell? ⟨w.heap.size, 2, none⟩ = some (.int .i64 0) := by rw [hc _ _ (by simp; omega)]; simp [go_sem])
  all_goals (have n3 : w1.cell? ⟨w.heap.size, 3, none⟩ = some .nilIface := by rw [hc _ _ (by simp; omega)]; simp [go_sem])
  all_goals go_wp2_with fail
  all_goals refine bodyPost_ret (v := tokV s i) (by simp [results, Tryz.results175, go_sem, tokV, n0, n1, n2, n3]) rfl ⟨rfl, ((((PAt.step (h.below hB1 hlt) _).other hne1 _ _).other hne1 _ _).other hne1 _ _).other hne1 _ _, Fr.new (Fr.new (Fr.new (Fr.new (Fr.set (Fr.set (Fr.set (Fr.set (Fr.below (World.grownBy.refl _ _) hB1 (Nat.le_refl _)) _ _) _ _) _ _) _ _) (Nat.le_refl _) _ _) (Nat.le_refl _) _ _) (Nat.le_refl _) _ _) (Nat.le_refl _) _ _⟩
end Go.Proofs.YtpekpdimdelncaaGreatDoor
