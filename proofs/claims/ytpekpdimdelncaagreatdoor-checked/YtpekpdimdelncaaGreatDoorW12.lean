/- The reader of rules: what stands in a FACTOR behind its first token. -/
import Derived.Test.YtpekpdimdelncaaGreatDoorW11
namespace Go.Proofs.YtpekpdimdelncaaGreatDoor
open Go.RowKit

/-- The plain reader's parts, at fuel n. -/
def partsAt (l : List UInt8) (n deep its k i : Nat) : Except (Nat × Nat) Nat :=
  Lard.parts l k i (fun j => Lard.P l n 0 deep its j) (fun j => Lard.P l n 3 deep its j) (fun j => Lard.P l n 6 deep its j) (fun j => Lard.P l n 0 deep (its + 1) j)

theorem P_in {l : List UInt8} {n tag deep its i j : Nat} {s : ByteArray} (hl : l = s.data.toList) (h : Lard.P l n tag deep its i = .ok j) (hi : i ≤ s.size) : i ≤ j ∧ j ≤ s.size := by
  subst hl
  have := Lard.P_prog s.data.toList n tag deep its i j h (by simpa using hi)
  simp at this
  omega

set_option maxRecDepth 100000 in
set_option maxHeartbeats 1000000 in
theorem parts_minus (s : ByteArray) (pb n deep its i : Nat) (hi : i ≤ s.size) (hd : deep ≤ 20) (hits : its ≤ deep) (hfuel : 8 * (s.size - i) + 4 ≤ n)
    (H3 : CT s pb n 3 212) (w : World) (g : G w) (h : PAt w s pb i deep its) :
    Calls Tryz.prog 263 #[.pointer (some ⟨pb, 0, none⟩), .int .i64 5] w (PostS s pb deep its w (partsAt s.data.toList n deep its 5 i)) := by
  have hr : partsAt s.data.toList n deep its 5 i = Lard.P s.data.toList n 3 deep its i := rfl
  have h1 := H3 deep its i hi hd hits (by simp [Lard.nd]; omega)
  rw [hr]
  generalize Lard.P s.data.toList n 3 deep its i = r at h1
  have H1 := hide h1
  clear h1 hr H3
  go_enter Tryz.func263, Tryz.ntmps263
  go_wp2_with fail
  refine (H1.out _ g h).mono ?_
  rintro e w1 hp
  cases r with
  | error x =>
    obtain ⟨f1, rfl⟩ := hp.err
    exact ⟨rfl, PostS.mkErr f1⟩
  | ok j =>
    obtain ⟨f1, ⟨q1, rfl⟩, h1⟩ := hp.ok
    clear hp H1
    go_wp2_with fail
    go_ret
    exact PostS.mkOk (Fr.alloc f1 _) (h1.alloc _)

set_option maxRecDepth 100000 in
set_option maxHeartbeats 1000000 in
theorem parts_group (s : ByteArray) (pb n deep its i : Nat) (hs : s.size ≤ 200) (hpb : 8 ≤ pb) (hi : i ≤ s.size) (hd : deep ≤ 20) (hits : its ≤ deep) (hfuel : 8 * (s.size - i) + 4 ≤ n)
    (H : ∀ m, m ≤ n → CT s pb m 0 89) (w : World) (g : G w) (h : PAt w s pb i deep its) :
    Calls Tryz.prog 263 #[.pointer (some ⟨pb, 0, none⟩), .int .i64 6] w (PostS s pb deep its w (partsAt s.data.toList n deep its 6 i)) := by
  have hr : partsAt s.data.toList n deep its 6 i = Lard.andThen (Lard.P s.data.toList n 0 deep its i) (Lard.expect s.data.toList [41]) := rfl
  have h1 := H n (Nat.le_refl _) deep its i hi hd hits hfuel
  have hu := upTo_any s pb i deep its ⟨#[41]⟩ w g h (by omega) hpb _ h1 (fun j hj => (P_in rfl hj hi).2)
  have hu' : Calls Tryz.prog 294 #[.pointer (some ⟨pb, 0, none⟩), .string ⟨#[41]⟩] w (Post s pb deep its w (Lard.andThen (Lard.P s.data.toList n 0 deep its i) (Lard.expect s.data.toList [41]))) := hu
  rw [hr]
  generalize Lard.andThen (Lard.P s.data.toList n 0 deep its i) (Lard.expect s.data.toList [41]) = r at hu'
  have HU := hide hu'
  clear h1 hr H hu hu'
  go_enter Tryz.func263, Tryz.ntmps263
  go_wp2_with fail
  refine HU.out.mono ?_
  rintro e w1 hp
  cases r with
  | error x =>
    obtain ⟨f1, rfl⟩ := hp.err
    exact ⟨rfl, PostS.mkErr f1⟩
  | ok j =>
    obtain ⟨f1, ⟨q1, rfl⟩, h1⟩ := hp.ok
    clear hp HU
    go_wp2_with fail
    go_ret
    exact PostS.mkOk (Fr.alloc f1 _) (h1.alloc _)

set_option maxRecDepth 100000 in
set_option maxHeartbeats 1000000 in
theorem parts_key (s : ByteArray) (pb n deep its i : Nat) (hs : s.size ≤ 200) (hpb : 8 ≤ pb) (hi : i ≤ s.size) (hd : deep ≤ 20) (hits : its ≤ deep) (hfuel : 8 * (s.size - i) + 4 ≤ n)
    (H : ∀ m, m ≤ n → CT s pb m 0 89) (w : World) (g : G w) (h : PAt w s pb i deep its) :
    Calls Tryz.prog 263 #[.pointer (some ⟨pb, 0, none⟩), .int .i64 7] w (PostS s pb deep its w (partsAt s.data.toList n deep its 7 i)) := by
  have hr : partsAt s.data.toList n deep its 7 i = Lard.andThen (Lard.P s.data.toList n 0 deep its i) (Lard.expect s.data.toList [93]) := rfl
  have h1 := H n (Nat.le_refl _) deep its i hi hd hits hfuel
  have hu := upTo_any s pb i deep its ⟨#[93]⟩ w g h (by omega) hpb _ h1 (fun j hj => (P_in rfl hj hi).2)
  have hu' : Calls Tryz.prog 294 #[.pointer (some ⟨pb, 0, none⟩), .string ⟨#[93]⟩] w (Post s pb deep its w (Lard.andThen (Lard.P s.data.toList n 0 deep its i) (Lard.expect s.data.toList [93]))) := hu
  rw [hr]
  generalize Lard.andThen (Lard.P s.data.toList n 0 deep its i) (Lard.expect s.data.toList [93]) = r at hu'
  have HU := hide hu'
  clear h1 hr H hu hu'
  go_enter Tryz.func263, Tryz.ntmps263
  go_wp2_with fail
  refine HU.out.mono ?_
  rintro e w1 hp
  cases r with
  | error x =>
    obtain ⟨f1, rfl⟩ := hp.err
    exact ⟨rfl, PostS.mkErr f1⟩
  | ok j =>
    obtain ⟨f1, ⟨q1, rfl⟩, h1⟩ := hp.ok
    clear hp HU
    go_wp2_with fail
    go_ret
    exact PostS.mkOk (Fr.alloc f1 _) (h1.alloc _)

set_option maxRecDepth 100000 in
set_option maxHeartbeats 1000000 in
theorem parts_list (s : ByteArray) (pb n deep its i : Nat) (hs : s.size ≤ 200) (hpb : 8 ≤ pb) (hi : i ≤ s.size) (hd : deep ≤ 20) (hits : its ≤ deep) (hfuel : 8 * (s.size - i) + 4 ≤ n)
    (H : ∀ m, m ≤ n → CT s pb m 0 89) (w : World) (g : G w) (h : PAt w s pb i deep its) :
    Calls Tryz.prog 263 #[.pointer (some ⟨pb, 0, none⟩), .int .i64 8] w (PostS s pb deep its w (partsAt s.data.toList n deep its 8 i)) := by
  have hr : partsAt s.data.toList n deep its 8 i = if Lard.tx s.data.toList i = [125] then .ok (Lard.nxt s.data.toList i) else Lard.andThen (Lard.P s.data.toList n 0 deep its i) fun j => Lard.P s.data.toList n 6 deep its j := rfl
  have hu := items_any s pb n deep its i hs hpb hi hd hits hfuel H w g h
  rw [hr]
  generalize (if Lard.tx s.data.toList i = [125] then .ok (Lard.nxt s.data.toList i) else Lard.andThen (Lard.P s.data.toList n 0 deep its i) fun j => Lard.P s.data.toList n 6 deep its j : Except (Nat × Nat) Nat) = r at hu
  have HU := hide hu
  clear hr H hu
  go_enter Tryz.func263, Tryz.ntmps263
  go_wp2_with fail
  refine HU.out.mono ?_
  rintro e w1 hp
  cases r with
  | error x =>
    obtain ⟨f1, rfl⟩ := hp.err
    exact ⟨rfl, PostS.mkErr f1⟩
  | ok j =>
    obtain ⟨f1, ⟨a, nn, c, rfl⟩, h1⟩ := hp.ok
    clear hp HU
    go_wp2_with fail
    go_ret
    exact PostS.mkOk f1 h1

set_option maxRecDepth 100000 in
set_option maxHeartbeats 1000000 in
theorem parts_one (s : ByteArray) (pb n deep its i k : Nat) (hk : k = 10 ∨ k = 11 ∨ k = 12) (hs : s.size ≤ 200) (hpb : 8 ≤ pb) (hi : i ≤ s.size) (hd : deep ≤ 20) (hits : its ≤ deep) (hfuel : 8 * (s.size - i) + 4 ≤ n)
    (H : ∀ m, m ≤ n → CT s pb m 0 89) (w : World) (g : G w) (h : PAt w s pb i deep its) :
    Calls Tryz.prog 263 #[.pointer (some ⟨pb, 0, none⟩), .int .i64 (k : Int)] w (PostS s pb deep its w (partsAt s.data.toList n deep its k i)) := by
  have hr : partsAt s.data.toList n deep its k i = Lard.andThen (Lard.expect s.data.toList [40] i) fun j => Lard.andThen (Lard.P s.data.toList n 0 deep its j) (Lard.expect s.data.toList [41]) := by
    rcases hk with rfl | rfl | rfl <;> rfl
  have he := expect_any s pb i deep its ⟨#[40]⟩ w g h (by omega) hi
  rw [hr]
  cases hx : Lard.expect s.data.toList [40] i with
  | error x =>
    show Calls _ _ _ _ (PostS s pb deep its w (.error x))
    have hx' : Lard.expect s.data.toList (⟨#[40]⟩ : ByteArray).data.toList i = .error x := hx
    have HE := hide he
    have HX := hide hx'
    clear hr H he hx hx' hfuel
    rcases hk with rfl | rfl | rfl
    all_goals
      go_enter Tryz.func263, Tryz.ntmps263
      go_wp2_with fail
      refine HE.out.mono ?_
      rintro e w1 ⟨f1, _, h3⟩
      have he := h3 x HX.out
      subst he
      exact ⟨rfl, PostS.mkErr f1⟩
  | ok j =>
    have hj := Lard.expect_prog hx (by simp) (by simpa using hi)
    have hj1 := hj.1
    have hj2 : j ≤ s.size := by simpa using hj.2
    have h1 := H n (Nat.le_refl _) deep its j hj2 hd hits (by simp [Lard.nd]; omega)
    have hx' : Lard.expect s.data.toList (⟨#[40]⟩ : ByteArray).data.toList i = .ok j := hx
    have hu := fun w g h => upTo_any s pb j deep its ⟨#[41]⟩ w g h (by omega) hpb _ h1 (fun j' hj' => (P_in rfl hj' hj2).2)
    have hu' : ∀ w, G w → PAt w s pb j deep its → Calls Tryz.prog 294 #[.pointer (some ⟨pb, 0, none⟩), .string ⟨#[41]⟩] w (Post s pb deep its w (Lard.andThen (Lard.P s.data.toList n 0 deep its j) (Lard.expect s.data.toList [41]))) := hu
    show Calls _ _ _ _ (PostS s pb deep its w (Lard.andThen (Lard.P s.data.toList n 0 deep its j) (Lard.expect s.data.toList [41])))
    generalize Lard.andThen (Lard.P s.data.toList n 0 deep its j) (Lard.expect s.data.toList [41]) = r at hu'
    have HE := hide he
    have HX := hide hx'
    have HU := hide hu'
    clear hr H he hx hx' hfuel h1 hu hu' hj hj1
    rcases hk with rfl | rfl | rfl
    all_goals
      go_enter Tryz.func263, Tryz.ntmps263
      go_wp2_with fail
      refine HE.out.mono ?_
      rintro e w1 ⟨f1, h2, _⟩
      obtain ⟨rfl, hp1⟩ := h2 j HX.out
      clear h2 HE HX
      go_wp2_with fail
      refine (HU.out _ (g.fr f1 hpb) hp1).mono ?_
      rintro e w2 hp
      cases r with
      | error x =>
        obtain ⟨f2, rfl⟩ := hp.err
        exact ⟨rfl, PostS.mkErr (Fr.trans f1 f2)⟩
      | ok j =>
        obtain ⟨f2, ⟨q1, rfl⟩, h1⟩ := hp.ok
        clear hp HU
        go_wp2_with fail
        go_ret
        exact PostS.mkOk (Fr.alloc (Fr.trans f1 f2) _) (h1.alloc _)
end Go.Proofs.YtpekpdimdelncaaGreatDoor
