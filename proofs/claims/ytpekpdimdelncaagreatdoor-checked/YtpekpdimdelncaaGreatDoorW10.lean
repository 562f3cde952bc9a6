/- The reader of rules: a RULE up to a token, and in a second rule. -/
import Derived.Test.YtpekpdimdelncaaGreatDoorW9
namespace Go.Proofs.YtpekpdimdelncaaGreatDoor
open Go.RowKit

set_option maxRecDepth 100000 in
set_option maxHeartbeats 1000000 in
theorem upTo_any (s : ByteArray) (pb i deep its : Nat) (t : ByteArray) (w : World) (g : G w) (h : PAt w s pb i deep its) (hs : s.size ≤ 281474976710656) (hpb : 8 ≤ pb) (r : Except (Nat × Nat) Nat) (H : Con s 89 pb deep its i r) (hr : ∀ j, r = .ok j → j ≤ s.size) :
    Calls Tryz.prog 294 #[.pointer (some ⟨pb, 0, none⟩), .string t] w (Post s pb deep its w (Lard.andThen r (Lard.expect s.data.toList t.data.toList))) := by
  have HC := hide H
  clear H
  cases r with
  | error x =>
    show Calls _ _ _ _ (Post s pb deep its w (.error x))
    clear hr
    go_enter Tryz.func294, Tryz.ntmps294
    go_wp2_with fail
    refine (HC.out _ g h).mono ?_
    rintro e w1 hp
    obtain ⟨f1, rfl⟩ := hp.err
    exact ⟨rfl, Post.mkErr f1⟩
  | ok j =>
    have hj := hr j rfl
    show Calls _ _ _ _ (Post s pb deep its w (Lard.expect s.data.toList t.data.toList j))
    clear hr
    generalize hx : Lard.expect s.data.toList t.data.toList j = r
    have HX := hide hx
    clear hx
    go_enter Tryz.func294, Tryz.ntmps294
    go_wp2_with fail
    refine (HC.out _ g h).mono ?_
    rintro e w1 hp
    obtain ⟨f1, ⟨q1, rfl⟩, h1⟩ := hp.ok
    clear hp HC
    go_wp2_with fail
    refine (expect_any s pb j deep its t _ (g.fr f1 hpb) h1 hs hj).mono ?_
    rintro e w2 ⟨f2, h2, h3⟩
    rw [HX.out] at h2 h3
    cases r with
    | error x =>
      have he := h3 x rfl
      subst he
      exact ⟨rfl, Post.mkErr (Fr.trans f1 f2)⟩
    | ok k =>
      obtain ⟨rfl, h4⟩ := h2 k rfl
      clear h2 h3 HX
      go_wp2_with fail
      go_ret
      exact Post.mkOk (Fr.trans f1 f2) h4

set_option maxRecDepth 100000 in
set_option maxHeartbeats 1000000 in
theorem withIt_any (s : ByteArray) (pb i deep its : Nat) (w : World) (g : G w) (h : PAt w s pb i deep its) (hs : s.size ≤ 281474976710656) (hpb : 8 ≤ pb) (hits : its ≤ 20) (r : Except (Nat × Nat) Nat) (H : Con s 89 pb deep (its + 1) i r) (hr : ∀ j, r = .ok j → j ≤ s.size) :
    Calls Tryz.prog 297 #[.pointer (some ⟨pb, 0, none⟩)] w (Post s pb deep its w (Lard.andThen r (Lard.expect s.data.toList [41]))) := by
  obtain ⟨c0, c1, c2, c3, c4, c5, c6, cf⟩ := h.cells
  have hp1 := h.its (its + 1)
  have hf1 : w.grownBy (w.setCell ⟨pb, 6, none⟩ (.int .i64 ((its + 1 : Nat) : Int))) (some pb) := Fr.set (World.grownBy.refl _ _) _ _
  have hu := upTo_any s pb i deep (its + 1) ⟨#[41]⟩ _ (g.fr hf1 hpb) hp1 hs hpb r H hr
  have hu' : Calls Tryz.prog 294 #[.pointer (some ⟨pb, 0, none⟩), .string ⟨#[41]⟩] (w.setCell ⟨pb, 6, none⟩ (.int .i64 ((its : Int) + 1))) (Post s pb deep (its + 1) (w.setCell ⟨pb, 6, none⟩ (.int .i64 ((its : Int) + 1))) (Lard.andThen r (Lard.expect s.data.toList [41]))) := hu
  generalize Lard.andThen r (Lard.expect s.data.toList [41]) = r' at hu'
  have HU := hide hu'
  have HF1 := hide hf1
  clear hu hu' H hr hp1 hf1
  go_enter Tryz.func297, Tryz.ntmps297
  go_wp2_with fail
  refine HU.out.mono ?_
  rintro e w1 hp
  cases r' with
  | error x =>
    obtain ⟨f1, rfl⟩ := hp.err
    exact ⟨rfl, Post.mkErr (Fr.trans HF1.out f1)⟩
  | ok j =>
    obtain ⟨f1, ⟨q1, rfl⟩, h1⟩ := hp.ok
    obtain ⟨d0, d1, d2, d3, d4, d5, d6, df⟩ := h1.cells
    clear hp HU
    go_wp2_with fail
    go_ret
    exact Post.mkOk (Fr.set (Fr.trans HF1.out f1) _ _) (h1.its its)
end Go.Proofs.YtpekpdimdelncaaGreatDoor
