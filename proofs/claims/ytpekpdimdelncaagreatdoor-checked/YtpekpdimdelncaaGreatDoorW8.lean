/- The reader of rules: the token that must come; an operator and what stands behind it. -/
import Derived.Test.YtpekpdimdelncaaGreatDoorW7
import Derived.Test.YtpekpdimdelncaaGreatDoorGram
namespace Go.Proofs.YtpekpdimdelncaaGreatDoor
open Go.RowKit

theorem G.fr {w w' : World} {pb : Nat} (g : G w) (h : w.grownBy w' (some pb)) (hp : 8 ≤ pb) : G w' :=
  g.below (B := 8) ⟨h.os, h.tape, h.output, h.size, fun k hk => h.block k (by have := g.size; omega) (fun e => by injection e; omega)⟩ (Nat.le_refl _)

theorem Fr.alloc {a w : World} {row : Option Nat} (h : a.grownBy w row) (o : Obj) : a.grownBy (w.alloc o) row := Lib.grownBy_allocR h o

/-- What a reading of a part leaves. -/
def Post (s : ByteArray) (pb deep its : Nat) (w : World) (r : Except (Nat × Nat) Nat) (e : Ending) (w' : World) : Prop :=
  w.grownBy w' (some pb) ∧ (∀ j, r = .ok j → (∃ q, e = .returned (.pointer q)) ∧ PAt w' s pb j deep its) ∧ (∀ x, r = .error x → e = refusal x.1 x.2)

theorem Post.ok {s : ByteArray} {pb deep its j : Nat} {w w' : World} {e : Ending} (h : Post s pb deep its w (.ok j) e w') : w.grownBy w' (some pb) ∧ (∃ q, e = .returned (.pointer q)) ∧ PAt w' s pb j deep its :=
  ⟨h.1, h.2.1 j rfl⟩

theorem Post.err {s : ByteArray} {pb deep its : Nat} {w w' : World} {e : Ending} {x : Nat × Nat} (h : Post s pb deep its w (.error x) e w') : w.grownBy w' (some pb) ∧ e = refusal x.1 x.2 :=
  ⟨h.1, h.2.2 x rfl⟩

theorem Post.mkOk {s : ByteArray} {pb deep its j : Nat} {w w' : World} {q : Option Addr} (h : w.grownBy w' (some pb)) (hp : PAt w' s pb j deep its) : Post s pb deep its w (.ok j) (.returned (.pointer q)) w' :=
  ⟨h, fun k hk => (by cases hk; exact ⟨⟨q, rfl⟩, hp⟩), fun x hx => (by cases hx)⟩

theorem Post.mkErr {s : ByteArray} {pb deep its : Nat} {w w' : World} {x : Nat × Nat} (h : w.grownBy w' (some pb)) : Post s pb deep its w (.error x) (refusal x.1 x.2) w' :=
  ⟨h, fun k hk => (by cases hk), fun y hy => (by cases hy; rfl)⟩

/-- A function of the reader reads from place i to r. -/
def Con (s : ByteArray) (f pb deep its i : Nat) (r : Except (Nat × Nat) Nat) : Prop :=
  ∀ w : World, G w → PAt w s pb i deep its → Calls Tryz.prog f #[.pointer (some ⟨pb, 0, none⟩)] w (Post s pb deep its w r)

set_option maxHeartbeats 400000 in
theorem expect_ok (s : ByteArray) (pb i deep its : Nat) (t : ByteArray) (w : World) (g : G w) (h : PAt w s pb i deep its) (hs : s.size ≤ 281474976710656) (hi : i ≤ s.size) (ht : Lard.tx s.data.toList i = t.data.toList) :
    Calls Tryz.prog 296 #[.pointer (some ⟨pb, 0, none⟩), .string t] w fun e w' => e = .returned (.tuple #[]) ∧ PAt w' s pb (Lard.nxt s.data.toList i) deep its ∧ w.grownBy w' (some pb) := by
  have hb : (Lard.tx s.data.toList i == t.data.toList) = true := by rw [ht]; simp
  have HT := hide ht
  clear ht
  go_enter Tryz.func296, Tryz.ntmps296
  go_wp2_with (go_at_call 313; refine (sees_any s pb i deep its t _ h).mono ?_; rintro e w' ⟨rfl, rfl⟩)
  refine (take_any s pb i deep its _ g h hs hi).mono ?_
  rintro e w1 ⟨rfl, h1, f1⟩
  go_wp2_with fail
  go_end0
  exact ⟨rfl, h1, f1⟩

set_option maxHeartbeats 400000 in
theorem expect_no (s : ByteArray) (pb i deep its : Nat) (t : ByteArray) (w : World) (h : PAt w s pb i deep its) (ht : ¬ Lard.tx s.data.toList i = t.data.toList) :
    Calls Tryz.prog 296 #[.pointer (some ⟨pb, 0, none⟩), .string t] w fun e w' => e = refusal 3 i ∧ w = w' := by
  have hb : (Lard.tx s.data.toList i == t.data.toList) = false := by rw [beq_eq_false_iff_ne]; exact ht
  have HT := hide ht
  clear ht
  go_enter Tryz.func296, Tryz.ntmps296
  go_wp2_with (go_at_call 313; refine (sees_any s pb i deep its t _ h).mono ?_; rintro e w' ⟨rfl, rfl⟩)
  refine (refuse_any s pb i deep its 3 _ h).mono ?_
  rintro e w' ⟨rfl, rfl⟩
  exact ⟨rfl, rfl, rfl⟩

/-- The token that must come, by the plain function. -/
theorem expect_any (s : ByteArray) (pb i deep its : Nat) (t : ByteArray) (w : World) (g : G w) (h : PAt w s pb i deep its) (hs : s.size ≤ 281474976710656) (hi : i ≤ s.size) :
    Calls Tryz.prog 296 #[.pointer (some ⟨pb, 0, none⟩), .string t] w fun e w' => w.grownBy w' (some pb) ∧ (∀ j, Lard.expect s.data.toList t.data.toList i = .ok j → e = .returned (.tuple #[]) ∧ PAt w' s pb j deep its) ∧ (∀ x, Lard.expect s.data.toList t.data.toList i = .error x → e = refusal x.1 x.2) := by
  by_cases ht : Lard.tx s.data.toList i = t.data.toList
  · refine (expect_ok s pb i deep its t w g h hs hi ht).mono ?_
    rintro e w' ⟨rfl, h1, f1⟩
    refine ⟨f1, fun j hj => ?_, fun x hx => ?_⟩
    · rw [Lard.expect, if_pos ht] at hj; cases hj; exact ⟨rfl, h1⟩
    · rw [Lard.expect, if_pos ht] at hx; cases hx
  · refine (expect_no s pb i deep its t w h ht).mono ?_
    rintro e w' ⟨rfl, rfl⟩
    refine ⟨World.grownBy.refl _ _, fun j hj => ?_, fun x hx => ?_⟩
    · rw [Lard.expect, if_neg ht] at hj; cases hj
    · rw [Lard.expect, if_neg ht] at hx; cases hx; rfl

set_option maxRecDepth 100000 in
set_option maxHeartbeats 1000000 in
theorem operator_any (s : ByteArray) (f pb i deep its : Nat) (q : Option Addr) (w : World) (g : G w) (h : PAt w s pb i deep its) (hs : s.size ≤ 281474976710656) (hi : i ≤ s.size) (hpb : 8 ≤ pb)
    (hf : f = 131 ∨ f = 173 ∨ f = 212)
    (ho : 1 ≤ (Lard.tok (s.data.toList.drop i)).2) (r : Except (Nat × Nat) Nat) (H : Con s f pb deep its (Lard.nxt s.data.toList i) r) :
    Calls Tryz.prog 133 #[.pointer (some ⟨pb, 0, none⟩), .pointer q, .func (.func f) #[.pointer (some ⟨pb, 0, none⟩)] #[]] w (Post s pb deep its w r) := by
  have hin : i + (Lard.tok (s.data.toList.drop i)).2 ≤ s.size := by
    have := Lard.tok_in s.data.toList i (by simpa using hi); simpa using this
  have hsz : (s.extract i (i + (Lard.tok (s.data.toList.drop i)).2)).size = (Lard.tok (s.data.toList.drop i)).2 := by
    rw [ByteArray.size_extract]; omega
  have HC := hide H
  have hfield : ∀ (a b c d : Value) (w : World), (Instr.field 172 (.agg #[a, b, c, d]) 1).run Tryz.prog w = .ok b w := fun _ _ _ _ _ => by kernel_rfl
  clear H
  rcases hf with rfl | rfl | rfl
  all_goals
    go_enter Tryz.func133, Tryz.ntmps133
    go_wp2_with fail
    refine (take_any s pb i deep its _ g h hs hi).mono ?_
    rintro e w1 ⟨rfl, h1, f1⟩
    unfold tokV
    go_wp2_with fail
  all_goals
    refine (HC.out _ (g.fr f1 hpb) h1).mono ?_
    rintro e w2 hp
  all_goals cases r with
    | error x =>
      obtain ⟨f2, rfl⟩ := hp.err
      exact ⟨rfl, Post.mkErr (Fr.trans f1 f2)⟩
    | ok j =>
      obtain ⟨f2, ⟨q2, rfl⟩, h2⟩ := hp.ok
      clear hp HC
      go_wp2_with fail
      go_ret
      exact Post.mkOk (Fr.alloc (Fr.alloc (Fr.trans f1 f2) _) _) ((h2.alloc _).alloc _)
end Go.Proofs.YtpekpdimdelncaaGreatDoor
