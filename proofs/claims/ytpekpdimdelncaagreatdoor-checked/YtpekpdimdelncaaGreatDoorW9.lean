/- The reader of rules: RULE, SUM, TERM, each given what stands in it. -/
import Derived.Test.YtpekpdimdelncaaGreatDoorW8
namespace Go.Proofs.YtpekpdimdelncaaGreatDoor
open Go.RowKit

/-- A function of the reader reads as the plain function does, where the fuel is enough. -/
def CT (s : ByteArray) (pb n tag f : Nat) : Prop :=
  ∀ deep its i : Nat, i ≤ s.size → deep ≤ 20 → its ≤ deep → 8 * (s.size - i) + Lard.nd tag ≤ n → Con s f pb deep its i (Lard.P s.data.toList n tag deep its i)

set_option maxRecDepth 100000 in
set_option maxHeartbeats 1000000 in
theorem rule_step (s : ByteArray) (pb n : Nat) (hs : s.size ≤ 281474976710656) (hpb : 8 ≤ pb) (H : CT s pb n 1 131) : CT s pb (n + 1) 0 89 := by
  intro deep its i hi hd hits hfuel w g h
  have hmf : ∀ (fn : Fn) (first cap : Array Value) (w : World), (Instr.makeFunc fn first cap).run Tryz.prog w = .ok (.func fn first cap) w := fun _ _ _ _ => rfl
  have h1 := H deep its i hi hd hits (by simp [Lard.nd] at hfuel ⊢; omega)
  have hr : Lard.P s.data.toList (n + 1) 0 deep its i = Lard.andThen (Lard.P s.data.toList n 1 deep its i) fun j => if Lard.oneB s.data.toList j [60, 61] = true then Lard.P s.data.toList n 1 deep its (Lard.nxt s.data.toList j) else .ok j := rfl
  have hpr := Lard.P_prog s.data.toList n 1 deep its i
  rw [hr]
  cases hx : Lard.P s.data.toList n 1 deep its i with
  | error x =>
    rw [hx] at h1
    have H1 := hide h1
    clear hr hx H h1 hfuel hpr
    go_enter Tryz.func89, Tryz.ntmps89
    go_wp2_with fail
    refine (H1.out _ g h).mono ?_
    rintro e w1 hp
    obtain ⟨f1, rfl⟩ := hp.err
    exact ⟨rfl, Post.mkErr f1⟩
  | ok j =>
    rw [hx] at h1
    have hj := hpr j hx (by simpa using hi)
    have hj2 : j ≤ s.size := by simpa using hj.2
    have hj1 : i + 1 ≤ j := by simpa using hj.1
    have H1 := hide h1
    by_cases ho : Lard.oneB s.data.toList j [60, 61] = true
    · have hn1 := Lard.nxt_gt (Lard.one_pos ho)
      have hn2 : Lard.nxt s.data.toList j ≤ s.size := by have := Lard.nxt_le s.data.toList j (by simpa using hj2); simpa using this
      have h2 := H deep its (Lard.nxt s.data.toList j) hn2 hd hits (by simp [Lard.nd] at hfuel ⊢; omega)
      have H2 := hide h2
      have HO := hide (Lard.one_pos ho)
      simp only [Lard.andThen, ho, if_true]
      clear hr hx H h1 hfuel h2 hpr hj
      generalize Lard.P s.data.toList n 1 deep its (Lard.nxt s.data.toList j) = r at H2 ⊢
      go_enter Tryz.func89, Tryz.ntmps89
      go_wp2_with fail
      refine (H1.out _ g h).mono ?_
      rintro e w1 hp
      obtain ⟨f1, ⟨q1, rfl⟩, h1⟩ := hp.ok
      clear hp
      go_wp2_with (go_at_call 132; refine (seesOne_any s pb j deep its _ _ h1).mono ?_; rintro e w' ⟨rfl, rfl⟩)
      refine (operator_any s _ pb j deep its q1 _ (g.fr f1 hpb) h1 hs hj2 hpb (Or.inl rfl) HO.out r H2.out).mono ?_
      rintro e w2 hp
      cases r with
      | error x =>
        obtain ⟨f2, rfl⟩ := hp.err
        exact ⟨rfl, Post.mkErr (Fr.trans f1 f2)⟩
      | ok k =>
        obtain ⟨f2, ⟨q2, rfl⟩, h2⟩ := hp.ok
        clear hp H2
        go_wp2_with fail
        go_ret
        exact Post.mkOk (Fr.trans f1 f2) h2
    · have ho' : Lard.oneB s.data.toList j [60, 61] = false := by simpa using ho
      simp only [Lard.andThen, ho', if_false, Bool.false_eq_true]
      clear hr hx H h1 hfuel hpr hj ho
      go_enter Tryz.func89, Tryz.ntmps89
      go_wp2_with fail
      refine (H1.out _ g h).mono ?_
      rintro e w1 hp
      obtain ⟨f1, ⟨q1, rfl⟩, h1⟩ := hp.ok
      clear hp
      go_wp2_with (go_at_call 132; refine (seesOne_any s pb j deep its _ _ h1).mono ?_; rintro e w' ⟨rfl, rfl⟩)
      go_ret
      exact Post.mkOk f1 h1

/-- Where the reader stands, read off memory: a measure for its loops. -/
def atOf (w : World) (pb : Nat) : Nat :=
  match w.cell? ⟨pb, 3, none⟩ with
  | some (.int _ k) => k.toNat
  | _ => 0

theorem atOf_eq {w : World} {s : ByteArray} {pb i deep its : Nat} (h : PAt w s pb i deep its) : atOf w pb = i := by
  rw [atOf, h.cells.2.2.2.1]; rfl

set_option maxRecDepth 100000 in
set_option maxHeartbeats 1000000 in
theorem row_any (s : ByteArray) (f pb n ptag ttag deep its i : Nat) (signs : ByteArray) (hs : s.size ≤ 281474976710656) (hpb : 8 ≤ pb) (hi : i ≤ s.size) (hd : deep ≤ 20) (hits : its ≤ deep)
    (hf : f = 173 ∨ f = 212) (hpt : ptag ≤ 3) (hnd : Lard.nd ptag ≤ 2) (hfuel : 8 * (s.size - i) + Lard.nd ptag ≤ n)
    (H : ∀ m, m ≤ n → CT s pb m ptag f)
    (hT : ∀ m j, Lard.P s.data.toList (m + 1) ttag deep its j = if Lard.oneB s.data.toList j signs.data.toList = true then Lard.andThen (Lard.P s.data.toList m ptag deep its (Lard.nxt s.data.toList j)) fun j => Lard.P s.data.toList m ttag deep its j else .ok j)
    (w : World) (g : G w) (h : PAt w s pb i deep its) :
    Calls Tryz.prog 172 #[.pointer (some ⟨pb, 0, none⟩), .string signs, .func (.func f) #[.pointer (some ⟨pb, 0, none⟩)] #[]] w (Post s pb deep its w (Lard.andThen (Lard.P s.data.toList n ptag deep its i) fun j => Lard.P s.data.toList n ttag deep its j)) := by
  have h1 := H n (Nat.le_refl _) deep its i hi hd hits hfuel
  have hpr := Lard.P_prog s.data.toList n ptag deep its i
  cases hx : Lard.P s.data.toList n ptag deep its i with
  | error x =>
    rw [hx] at h1
    have H1 := hide h1
    clear hx H h1 hfuel hpr hT
    rcases hf with rfl | rfl
    all_goals
      go_enter Tryz.func172, Tryz.ntmps172
      go_wp2_with fail
      refine (H1.out _ g h).mono ?_
      rintro e w1 hp
      obtain ⟨f1, rfl⟩ := hp.err
      exact ⟨rfl, Post.mkErr f1⟩
  | ok j =>
    rw [hx] at h1
    have hj := hpr j hx (by simpa using hi)
    rw [if_pos hpt] at hj
    have hj2 : j ≤ s.size := by simpa using hj.2
    have H1 := hide h1
    have HT := hide hT
    have HH := hide H
    have hfu : 8 * (s.size - j) + 1 ≤ n := by omega
    generalize hfin : Lard.P s.data.toList n ttag deep its j = fin
    have HF := hide hfin
    show Calls _ _ _ _ (Post s pb deep its w (Lard.andThen (.ok j) fun j => Lard.P s.data.toList n ttag deep its j))
    simp only [Lard.andThen, hfin]
    clear hx H h1 hpr hT hj hfin
    rcases hf with rfl | rfl
    all_goals
      go_enter Tryz.func172, Tryz.ntmps172
      go_wp2_with fail
      refine (H1.out _ g h).mono ?_
      rintro e w1 hp
      obtain ⟨f1, ⟨q1, rfl⟩, h1⟩ := hp.ok
      clear hp
      go_wp2_with fail
      go_loopw [7] (fun x wr => ∃ (q : Option Addr) (k m : Nat), x = .pointer q ∧ PAt wr s pb k deep its ∧ w.grownBy wr (some pb) ∧ k ≤ s.size ∧ 8 * (s.size - k) + 1 ≤ m ∧ m ≤ n ∧ Hid (Lard.P s.data.toList m ttag deep its k = fin)) (fun _ wr => s.size - atOf wr pb)
      case atStart => exact ⟨q1, j, n, rfl, h1, f1, hj2, hfu, Nat.le_refl _, HF⟩
      case round =>
        clear H1 HF h1 f1 hj2 hfu
        obtain ⟨q, k, m, rfl, hk, fk, hks, hm, hmn, HM⟩ := hrel
        obtain ⟨m, rfl⟩ : ∃ m', m = m' + 1 := ⟨m - 1, by omega⟩
        have hat := atOf_eq hk
        have HAT := hide hat
        clear hat
        have hM := HM.out
        rw [HT.out] at hM
        by_cases ho : Lard.oneB s.data.toList k signs.data.toList = true
        · rw [if_pos ho] at hM
          have hn1 := Lard.nxt_gt (Lard.one_pos ho)
          have hn2 : Lard.nxt s.data.toList k ≤ s.size := by have := Lard.nxt_le s.data.toList k (by simpa using hks); simpa using this
          have h2 := HH.out m (by omega) deep its (Lard.nxt s.data.toList k) hn2 hd hits (by omega)
          have hpr := Lard.P_prog s.data.toList m ptag deep its (Lard.nxt s.data.toList k)
          have HO := hide (Lard.one_pos ho)
          cases hx : Lard.P s.data.toList m ptag deep its (Lard.nxt s.data.toList k) with
          | error x =>
            rw [hx] at h2 hM
            have hM' : fin = .error x := hM.symm
            subst hM'
            have H2 := hide h2
            clear hx h2 hpr hM HM HT HH
            go_wp2_with (go_at_call 132; refine (seesOne_any s pb k deep its _ _ hk).mono ?_; rintro e w' ⟨rfl, rfl⟩)
            refine (operator_any s _ pb k deep its q _ (g.fr fk hpb) hk hs hks hpb (by omega) HO.out _ H2.out).mono ?_
            rintro e w2 hp
            obtain ⟨f2, rfl⟩ := hp.err
            exact ⟨rfl, Post.mkErr (Fr.trans fk f2)⟩
          | ok k2 =>
            have hj := hpr k2 hx (by simpa using hn2)
            rw [if_pos hpt] at hj
            have hk2 : k2 ≤ s.size := by simpa using hj.2
            rw [hx] at h2 hM
            have H2 := hide h2
            have hM2 : Lard.P s.data.toList m ttag deep its k2 = fin := hM
            have HM2 := hide hM2
            clear hx h2 hpr hM HM HT HH hM2
            go_wp2_with (go_at_call 132; refine (seesOne_any s pb k deep its _ _ hk).mono ?_; rintro e w' ⟨rfl, rfl⟩)
            refine (operator_any s _ pb k deep its q _ (g.fr fk hpb) hk hs hks hpb (by omega) HO.out _ H2.out).mono ?_
            rintro e w2 hp
            obtain ⟨f2, ⟨q2, rfl⟩, h2⟩ := hp.ok
            clear hp H2
            go_wp2_with fail
            refine ⟨⟨q2, k2, m, rfl, h2, Fr.trans fk f2, hk2, by omega, by omega, HM2⟩, ?_⟩
            rw [atOf_eq h2, HAT.out]
            omega
        · have ho' : Lard.oneB s.data.toList k signs.data.toList = false := by simpa using ho
          rw [if_neg ho] at hM
          subst hM
          clear HM HT HH ho
          go_wp2_with (go_at_call 132; refine (seesOne_any s pb k deep its _ _ hk).mono ?_; rintro e w' ⟨rfl, rfl⟩)
          go_ret
          exact Post.mkOk fk hk

set_option maxRecDepth 100000 in
set_option maxHeartbeats 1000000 in
theorem sum_step (s : ByteArray) (pb n : Nat) (hs : s.size ≤ 281474976710656) (hpb : 8 ≤ pb) (H : ∀ m, m ≤ n → CT s pb m 2 173) : CT s pb (n + 1) 1 131 := by
  intro deep its i hi hd hits hfuel w g h
  have hmf : ∀ (fn : Fn) (first cap : Array Value) (w : World), (Instr.makeFunc fn first cap).run Tryz.prog w = .ok (.func fn first cap) w := fun _ _ _ _ => rfl
  have hc := row_any s 173 pb n 2 4 deep its i ⟨#[43, 45]⟩ hs hpb hi hd hits (Or.inl rfl) (by omega) (by simp [Lard.nd]) (by simp [Lard.nd] at hfuel ⊢; omega) H (fun m j => rfl) w g h
  have hr : Lard.P s.data.toList (n + 1) 1 deep its i = Lard.andThen (Lard.P s.data.toList n 2 deep its i) fun j => Lard.P s.data.toList n 4 deep its j := rfl
  rw [hr]
  generalize (Lard.andThen (Lard.P s.data.toList n 2 deep its i) fun j => Lard.P s.data.toList n 4 deep its j) = r at hc
  have HC := hide hc
  clear hc H hr
  go_enter Tryz.func131, Tryz.ntmps131
  go_wp2_with fail
  refine HC.out.mono ?_
  rintro e w1 hp
  cases r with
  | error x =>
    obtain ⟨f1, rfl⟩ := hp.err
    exact ⟨rfl, Post.mkErr f1⟩
  | ok j =>
    obtain ⟨f1, ⟨q1, rfl⟩, h1⟩ := hp.ok
    clear hp HC
    go_wp2_with fail
    go_ret
    exact Post.mkOk f1 h1

set_option maxRecDepth 100000 in
set_option maxHeartbeats 1000000 in
theorem term_step (s : ByteArray) (pb n : Nat) (hs : s.size ≤ 281474976710656) (hpb : 8 ≤ pb) (H : ∀ m, m ≤ n → CT s pb m 3 212) : CT s pb (n + 1) 2 173 := by
  intro deep its i hi hd hits hfuel w g h
  have hmf : ∀ (fn : Fn) (first cap : Array Value) (w : World), (Instr.makeFunc fn first cap).run Tryz.prog w = .ok (.func fn first cap) w := fun _ _ _ _ => rfl
  have hc := row_any s 212 pb n 3 5 deep its i ⟨#[42, 47]⟩ hs hpb hi hd hits (Or.inr rfl) (by omega) (by simp [Lard.nd]) (by simp [Lard.nd] at hfuel ⊢; omega) H (fun m j => rfl) w g h
  have hr : Lard.P s.data.toList (n + 1) 2 deep its i = Lard.andThen (Lard.P s.data.toList n 3 deep its i) fun j => Lard.P s.data.toList n 5 deep its j := rfl
  rw [hr]
  generalize (Lard.andThen (Lard.P s.data.toList n 3 deep its i) fun j => Lard.P s.data.toList n 5 deep its j) = r at hc
  have HC := hide hc
  clear hc H hr
  go_enter Tryz.func173, Tryz.ntmps173
  go_wp2_with fail
  refine HC.out.mono ?_
  rintro e w1 hp
  cases r with
  | error x =>
    obtain ⟨f1, rfl⟩ := hp.err
    exact ⟨rfl, Post.mkErr f1⟩
  | ok j =>
    obtain ⟨f1, ⟨q1, rfl⟩, h1⟩ := hp.ok
    clear hp HC
    go_wp2_with fail
    go_ret
    exact Post.mkOk f1 h1
end Go.Proofs.YtpekpdimdelncaaGreatDoor
