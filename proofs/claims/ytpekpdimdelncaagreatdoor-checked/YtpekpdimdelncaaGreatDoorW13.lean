/- The reader of rules: what stands in a FACTOR with two or three parts. -/
import Derived.Test.YtpekpdimdelncaaGreatDoorW12
namespace Go.Proofs.YtpekpdimdelncaaGreatDoor
open Go.RowKit

/-- A rule up to a token, given as bytes. -/
theorem upTo_list (s : ByteArray) (pb i deep its : Nat) (t : List UInt8) (hs : s.size ≤ 200) (hpb : 8 ≤ pb) (r : Except (Nat × Nat) Nat) (H : Con s 89 pb deep its i r) (hr : ∀ j, r = .ok j → j ≤ s.size) :
    ∀ w, G w → PAt w s pb i deep its → Calls Tryz.prog 294 #[.pointer (some ⟨pb, 0, none⟩), .string ⟨t.toArray⟩] w (Post s pb deep its w (Lard.andThen r (Lard.expect s.data.toList t))) :=
  fun w g h => by
    have := upTo_any s pb i deep its ⟨t.toArray⟩ w g h (by omega) hpb r H hr
    simpa using this

theorem seq_in {s : ByteArray} {r : Except (Nat × Nat) Nat} {t : List UInt8} {i k : Nat} (ht : t ≠ []) (hr : ∀ j, r = .ok j → i ≤ j ∧ j ≤ s.size) (h : Lard.andThen r (Lard.expect s.data.toList t) = .ok k) : i + 1 ≤ k ∧ k ≤ s.size := by
  obtain ⟨j, h1, h2⟩ := Lard.andThen_ok h
  have a := hr j h1
  have b := Lard.expect_prog h2 ht (by simpa using a.2)
  have c : k ≤ s.size := by simpa using b.2
  omega

set_option maxRecDepth 100000 in
set_option maxHeartbeats 1000000 in
theorem parts_both (s : ByteArray) (pb n deep its i k : Nat) (hk : k = 13 ∨ k = 14) (hs : s.size ≤ 200) (hpb : 8 ≤ pb) (hi : i ≤ s.size) (hd : deep ≤ 20) (hits : its ≤ deep) (hfuel : 8 * (s.size - i) + 4 ≤ n)
    (H : ∀ m, m ≤ n → CT s pb m 0 89) (w : World) (g : G w) (h : PAt w s pb i deep its) :
    Calls Tryz.prog 263 #[.pointer (some ⟨pb, 0, none⟩), .int .i64 (k : Int)] w (PostS s pb deep its w (partsAt s.data.toList n deep its k i)) := by
  have hr : partsAt s.data.toList n deep its k i = Lard.andThen (Lard.expect s.data.toList [40] i) fun j => Lard.andThen (Lard.andThen (Lard.P s.data.toList n 0 deep its j) (Lard.expect s.data.toList [44])) fun j => Lard.andThen (Lard.P s.data.toList n 0 deep its j) (Lard.expect s.data.toList [41]) := by
    rcases hk with rfl | rfl <;> rfl
  have he := expect_any s pb i deep its ⟨#[40]⟩ w g h (by omega) hi
  rw [hr]
  cases hx : Lard.expect s.data.toList [40] i with
  | error x =>
    show Calls _ _ _ _ (PostS s pb deep its w (.error x))
    have hx' : Lard.expect s.data.toList (⟨#[40]⟩ : ByteArray).data.toList i = .error x := hx
    have HE := hide he
    have HX := hide hx'
    clear hr H he hx hx' hfuel
    rcases hk with rfl | rfl
    all_goals
      go_enter Tryz.func263, Tryz.ntmps263
      go_wp2_with fail
      refine HE.out.mono ?_
      rintro e w1 ⟨f1, _, h3⟩
      have he := h3 x HX.out
      subst he
      exact ⟨rfl, PostS.mkErr f1⟩
  | ok j =>
    have hj := Lard.expect_prog hx (by simp) (by simpa using hi)
    have hj1 := hj.1
    have hj2 : j ≤ s.size := by simpa using hj.2
    have h1 := H n (Nat.le_refl _) deep its j hj2 hd (by omega) (by simp [Lard.nd]; omega)
    have hx' : Lard.expect s.data.toList (⟨#[40]⟩ : ByteArray).data.toList i = .ok j := hx
    have hu := upTo_list s pb j deep its [44] hs hpb _ h1 (fun j' hj' => (P_in rfl hj' hj2).2)
    have hpr2 := fun k => seq_in (s := s) (t := [44]) (i := j) (k := k) (r := Lard.P s.data.toList n 0 deep its j) (by simp) (fun j' hj' => P_in rfl hj' hj2)
    show Calls _ _ _ _ (PostS s pb deep its w (Lard.andThen (Lard.andThen (Lard.P s.data.toList n 0 deep its j) (Lard.expect s.data.toList [44])) fun j => Lard.andThen (Lard.P s.data.toList n 0 deep its j) (Lard.expect s.data.toList [41])))
    generalize Lard.andThen (Lard.P s.data.toList n 0 deep its j) (Lard.expect s.data.toList [44]) = r2 at hu hpr2
    have HE := hide he
    have HX := hide hx'
    have HU := hide hu
    cases r2 with
    | error x =>
      show Calls _ _ _ _ (PostS s pb deep its w (.error x))
      clear hr H he hx hx' hfuel h1 hu hj hj1 hpr2
      rcases hk with rfl | rfl
      all_goals
        go_enter Tryz.func263, Tryz.ntmps263
        go_wp2_with fail
        refine HE.out.mono ?_
        rintro e w1 ⟨f1, h2, _⟩
        obtain ⟨rfl, hp1⟩ := h2 j HX.out
        clear h2 HE HX
        go_wp2_with fail
        refine (HU.out _ (g.fr f1 hpb) hp1).mono ?_
        rintro e w2 hp
        obtain ⟨f2, rfl⟩ := hp.err
        exact ⟨rfl, PostS.mkErr (Fr.trans f1 f2)⟩
    | ok j3 =>
      obtain ⟨hj3, hj4⟩ := hpr2 j3 rfl
      have h4 := H n (Nat.le_refl _) deep its j3 hj4 hd hits (by simp [Lard.nd]; omega)
      have hv := upTo_list s pb j3 deep its [41] hs hpb _ h4 (fun j' hj' => (P_in rfl hj' hj4).2)
      show Calls _ _ _ _ (PostS s pb deep its w (Lard.andThen (Lard.P s.data.toList n 0 deep its j3) (Lard.expect s.data.toList [41])))
      generalize Lard.andThen (Lard.P s.data.toList n 0 deep its j3) (Lard.expect s.data.toList [41]) = r3 at hv
      have HV := hide hv
      clear hr H he hx hx' hfuel h1 hu hj hj1 hpr2 h4 hv
      rcases hk with rfl | rfl
      all_goals
        go_enter Tryz.func263, Tryz.ntmps263
        go_wp2_with fail
        refine HE.out.mono ?_
        rintro e w1 ⟨f1, h2, _⟩
        obtain ⟨rfl, hp1⟩ := h2 j HX.out
        clear h2 HE HX
        go_wp2_with fail
        refine (HU.out _ (g.fr f1 hpb) hp1).mono ?_
        rintro e w2 hp
        obtain ⟨f2, ⟨q2, rfl⟩, hp2⟩ := hp.ok
        clear hp HU
        go_wp2_with fail
        refine (HV.out _ ((g.fr f1 hpb).fr f2 hpb) hp2).mono ?_
        rintro e w3 hp
        cases r3 with
        | error x =>
          obtain ⟨f3, rfl⟩ := hp.err
          exact ⟨rfl, PostS.mkErr (Fr.trans (Fr.trans f1 f2) f3)⟩
        | ok j =>
          obtain ⟨f3, ⟨q3, rfl⟩, hp3⟩ := hp.ok
          clear hp HV
          go_wp2_with fail
          go_ret
          exact PostS.mkOk (Fr.alloc (Fr.trans (Fr.trans f1 f2) f3) _) (hp3.alloc _)

set_option maxRecDepth 100000 in
set_option maxHeartbeats 1000000 in
theorem parts_each (s : ByteArray) (pb n deep its i k : Nat) (hk : k = 15 ∨ k = 16) (hs : s.size ≤ 200) (hpb : 8 ≤ pb) (hi : i ≤ s.size) (hd : deep ≤ 20) (hits : its + 1 ≤ deep) (hfuel : 8 * (s.size - i) + 4 ≤ n)
    (H : ∀ m, m ≤ n → CT s pb m 0 89) (w : World) (g : G w) (h : PAt w s pb i deep its) :
    Calls Tryz.prog 263 #[.pointer (some ⟨pb, 0, none⟩), .int .i64 (k : Int)] w (PostS s pb deep its w (partsAt s.data.toList n deep its k i)) := by
  have hr : partsAt s.data.toList n deep its k i = Lard.andThen (Lard.expect s.data.toList [40] i) fun j => Lard.andThen (Lard.andThen (Lard.P s.data.toList n 0 deep its j) (Lard.expect s.data.toList [44])) fun j => Lard.andThen (Lard.P s.data.toList n 0 deep (its + 1) j) (Lard.expect s.data.toList [41]) := by
    rcases hk with rfl | rfl <;> rfl
  have he := expect_any s pb i deep its ⟨#[40]⟩ w g h (by omega) hi
  rw [hr]
  cases hx : Lard.expect s.data.toList [40] i with
  | error x =>
    show Calls _ _ _ _ (PostS s pb deep its w (.error x))
    have hx' : Lard.expect s.data.toList (⟨#[40]⟩ : ByteArray).data.toList i = .error x := hx
    have HE := hide he
    have HX := hide hx'
    clear hr H he hx hx' hfuel
    rcases hk with rfl | rfl
    all_goals
      go_enter Tryz.func263, Tryz.ntmps263
      go_wp2_with fail
      refine HE.out.mono ?_
      rintro e w1 ⟨f1, _, h3⟩
      have he := h3 x HX.out
      subst he
      exact ⟨rfl, PostS.mkErr f1⟩
  | ok j =>
    have hj := Lard.expect_prog hx (by simp) (by simpa using hi)
    have hj1 := hj.1
    have hj2 : j ≤ s.size := by simpa using hj.2
    have h1 := H n (Nat.le_refl _) deep its j hj2 hd (by omega) (by simp [Lard.nd]; omega)
    have hx' : Lard.expect s.data.toList (⟨#[40]⟩ : ByteArray).data.toList i = .ok j := hx
    have hu := upTo_list s pb j deep its [44] hs hpb _ h1 (fun j' hj' => (P_in rfl hj' hj2).2)
    have hpr2 := fun k => seq_in (s := s) (t := [44]) (i := j) (k := k) (r := Lard.P s.data.toList n 0 deep its j) (by simp) (fun j' hj' => P_in rfl hj' hj2)
    show Calls _ _ _ _ (PostS s pb deep its w (Lard.andThen (Lard.andThen (Lard.P s.data.toList n 0 deep its j) (Lard.expect s.data.toList [44])) fun j => Lard.andThen (Lard.P s.data.toList n 0 deep (its + 1) j) (Lard.expect s.data.toList [41])))
    generalize Lard.andThen (Lard.P s.data.toList n 0 deep its j) (Lard.expect s.data.toList [44]) = r2 at hu hpr2
    have HE := hide he
    have HX := hide hx'
    have HU := hide hu
    cases r2 with
    | error x =>
      show Calls _ _ _ _ (PostS s pb deep its w (.error x))
      clear hr H he hx hx' hfuel h1 hu hj hj1 hpr2
      rcases hk with rfl | rfl
      all_goals
        go_enter Tryz.func263, Tryz.ntmps263
        go_wp2_with fail
        refine HE.out.mono ?_
        rintro e w1 ⟨f1, h2, _⟩
        obtain ⟨rfl, hp1⟩ := h2 j HX.out
        clear h2 HE HX
        go_wp2_with fail
        refine (HU.out _ (g.fr f1 hpb) hp1).mono ?_
        rintro e w2 hp
        obtain ⟨f2, rfl⟩ := hp.err
        exact ⟨rfl, PostS.mkErr (Fr.trans f1 f2)⟩
    | ok j3 =>
      obtain ⟨hj3, hj4⟩ := hpr2 j3 rfl
      have h4 := H n (Nat.le_refl _) deep (its + 1) j3 hj4 hd (by omega) (by simp [Lard.nd]; omega)
      have hv := fun w g h => withIt_any s pb j3 deep its w g h (by omega) hpb (by omega) _ h4 (fun j' hj' => (P_in rfl hj' hj4).2)
      show Calls _ _ _ _ (PostS s pb deep its w (Lard.andThen (Lard.P s.data.toList n 0 deep (its + 1) j3) (Lard.expect s.data.toList [41])))
      generalize Lard.andThen (Lard.P s.data.toList n 0 deep (its + 1) j3) (Lard.expect s.data.toList [41]) = r3 at hv
      have HV := hide hv
      clear hr H he hx hx' hfuel h1 hu hj hj1 hpr2 h4 hv
      rcases hk with rfl | rfl
      all_goals
        go_enter Tryz.func263, Tryz.ntmps263
        go_wp2_with fail
        refine HE.out.mono ?_
        rintro e w1 ⟨f1, h2, _⟩
        obtain ⟨rfl, hp1⟩ := h2 j HX.out
        clear h2 HE HX
        go_wp2_with fail
        refine (HU.out _ (g.fr f1 hpb) hp1).mono ?_
        rintro e w2 hp
        obtain ⟨f2, ⟨q2, rfl⟩, hp2⟩ := hp.ok
        clear hp HU
        go_wp2_with fail
        refine (HV.out _ ((g.fr f1 hpb).fr f2 hpb) hp2).mono ?_
        rintro e w3 hp
        cases r3 with
        | error x =>
          obtain ⟨f3, rfl⟩ := hp.err
          exact ⟨rfl, PostS.mkErr (Fr.trans (Fr.trans f1 f2) f3)⟩
        | ok j =>
          obtain ⟨f3, ⟨q3, rfl⟩, hp3⟩ := hp.ok
          clear hp HV
          go_wp2_with fail
          go_ret
          exact PostS.mkOk (Fr.alloc (Fr.trans (Fr.trans f1 f2) f3) _) (hp3.alloc _)

set_option maxRecDepth 100000 in
set_option maxHeartbeats 1000000 in
theorem parts_if (s : ByteArray) (pb n deep its i : Nat) (hs : s.size ≤ 200) (hpb : 8 ≤ pb) (hi : i ≤ s.size) (hd : deep ≤ 20) (hits : its ≤ deep) (hfuel : 8 * (s.size - i) + 4 ≤ n)
    (H : ∀ m, m ≤ n → CT s pb m 0 89) (H3 : CT s pb n 3 212) (w : World) (g : G w) (h : PAt w s pb i deep its) :
    Calls Tryz.prog 263 #[.pointer (some ⟨pb, 0, none⟩), .int .i64 9] w (PostS s pb deep its w (partsAt s.data.toList n deep its 9 i)) := by
  have hr : partsAt s.data.toList n deep its 9 i = Lard.andThen (Lard.andThen (Lard.P s.data.toList n 0 deep its i) (Lard.expect s.data.toList [116, 104, 101, 110])) fun j => Lard.andThen (Lard.andThen (Lard.P s.data.toList n 0 deep its j) (Lard.expect s.data.toList [101, 108, 115, 101])) fun j => Lard.P s.data.toList n 3 deep its j := rfl
  rw [hr]
  have h1 := H n (Nat.le_refl _) deep its i hi hd hits hfuel
  have hu := upTo_list s pb i deep its [116, 104, 101, 110] hs hpb _ h1 (fun j' hj' => (P_in rfl hj' hi).2)
  have hpr := fun k => seq_in (s := s) (t := [116, 104, 101, 110]) (i := i) (k := k) (r := Lard.P s.data.toList n 0 deep its i) (by simp) (fun j' hj' => P_in rfl hj' hi)
  generalize Lard.andThen (Lard.P s.data.toList n 0 deep its i) (Lard.expect s.data.toList [116, 104, 101, 110]) = r1 at hu hpr
  have HU := hide hu
  cases r1 with
  | error x =>
    show Calls _ _ _ _ (PostS s pb deep its w (.error x))
    clear hr H H3 h1 hu hpr hfuel
    go_enter Tryz.func263, Tryz.ntmps263
    go_wp2_with fail
    refine (HU.out _ g h).mono ?_
    rintro e w1 hp
    obtain ⟨f1, rfl⟩ := hp.err
    exact ⟨rfl, PostS.mkErr f1⟩
  | ok j =>
    obtain ⟨hj1, hj2⟩ := hpr j rfl
    have h2 := H n (Nat.le_refl _) deep its j hj2 hd hits (by simp [Lard.nd]; omega)
    have hv := upTo_list s pb j deep its [101, 108, 115, 101] hs hpb _ h2 (fun j' hj' => (P_in rfl hj' hj2).2)
    have hpr2 := fun k => seq_in (s := s) (t := [101, 108, 115, 101]) (i := j) (k := k) (r := Lard.P s.data.toList n 0 deep its j) (by simp) (fun j' hj' => P_in rfl hj' hj2)
    show Calls _ _ _ _ (PostS s pb deep its w (Lard.andThen (Lard.andThen (Lard.P s.data.toList n 0 deep its j) (Lard.expect s.data.toList [101, 108, 115, 101])) fun j => Lard.P s.data.toList n 3 deep its j))
    generalize Lard.andThen (Lard.P s.data.toList n 0 deep its j) (Lard.expect s.data.toList [101, 108, 115, 101]) = r2 at hv hpr2
    have HV := hide hv
    cases r2 with
    | error x =>
      show Calls _ _ _ _ (PostS s pb deep its w (.error x))
      clear hr H H3 h1 hu hpr hfuel h2 hv hpr2 hj1
      go_enter Tryz.func263, Tryz.ntmps263
      go_wp2_with fail
      refine (HU.out _ g h).mono ?_
      rintro e w1 hp
      obtain ⟨f1, ⟨q1, rfl⟩, hp1⟩ := hp.ok
      clear hp HU
      go_wp2_with fail
      refine (HV.out _ (g.fr f1 hpb) hp1).mono ?_
      rintro e w2 hp
      obtain ⟨f2, rfl⟩ := hp.err
      exact ⟨rfl, PostS.mkErr (Fr.trans f1 f2)⟩
    | ok j3 =>
      obtain ⟨hj3, hj4⟩ := hpr2 j3 rfl
      have h4 := H3 deep its j3 hj4 hd hits (by simp [Lard.nd]; omega)
      show Calls _ _ _ _ (PostS s pb deep its w (Lard.P s.data.toList n 3 deep its j3))
      generalize Lard.P s.data.toList n 3 deep its j3 = r3 at h4
      have H4 := hide h4
      clear hr H H3 h1 hu hpr hfuel h2 hv hpr2 hj1 hj3 h4
      go_enter Tryz.func263, Tryz.ntmps263
      go_wp2_with fail
      refine (HU.out _ g h).mono ?_
      rintro e w1 hp
      obtain ⟨f1, ⟨q1, rfl⟩, hp1⟩ := hp.ok
      clear hp HU
      go_wp2_with fail
      refine (HV.out _ (g.fr f1 hpb) hp1).mono ?_
      rintro e w2 hp
      obtain ⟨f2, ⟨q2, rfl⟩, hp2⟩ := hp.ok
      clear hp HV
      go_wp2_with fail
      refine (H4.out _ ((g.fr f1 hpb).fr f2 hpb) hp2).mono ?_
      rintro e w3 hp
      cases r3 with
      | error x =>
        obtain ⟨f3, rfl⟩ := hp.err
        exact ⟨rfl, PostS.mkErr (Fr.trans (Fr.trans f1 f2) f3)⟩
      | ok j =>
        obtain ⟨f3, ⟨q3, rfl⟩, hp3⟩ := hp.ok
        clear hp H4
        go_wp2_with fail
        go_ret
        exact PostS.mkOk (Fr.alloc (Fr.trans (Fr.trans f1 f2) f3) _) (hp3.alloc _)

set_option maxRecDepth 100000 in
set_option maxHeartbeats 1000000 in
theorem parts_none (s : ByteArray) (pb n deep its i k : Nat) (hk : k = 2 ∨ k = 3 ∨ k = 4) (w : World) (h : PAt w s pb i deep its) :
    Calls Tryz.prog 263 #[.pointer (some ⟨pb, 0, none⟩), .int .i64 (k : Int)] w (PostS s pb deep its w (partsAt s.data.toList n deep its k i)) := by
  have hr : partsAt s.data.toList n deep its k i = .ok i := by
    rcases hk with rfl | rfl | rfl <;> rfl
  rw [hr]
  clear hr
  rcases hk with rfl | rfl | rfl
  all_goals
    go_enter Tryz.func263, Tryz.ntmps263
    go_wp2_with fail
    go_ret
    exact PostS.mkOk (World.grownBy.refl _ _) h
end Go.Proofs.YtpekpdimdelncaaGreatDoor
