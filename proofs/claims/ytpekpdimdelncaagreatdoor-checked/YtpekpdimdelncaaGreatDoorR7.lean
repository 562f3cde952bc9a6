/- The document's reader: where it stands, or what went wrong; RULE, SUM and TERM by what stands in them. -/
import Derived.Test.YtpekpdimdelncaaGreatDoorR6
namespace Go.Proofs.YtpekpdimdelncaaGreatDoor
open Go.RowKit

/-- How many nodes may still come. -/
def room (s : ByteArray) : Except (Nat × Nat) Nat → Nat
  | .ok i => 4 * (s.size - i)
  | .error _ => 0

/-- The document's reader stands at a place, or knows what went wrong; n nodes so far. -/
structure RX (s : ByteArray) (rb B its n : Nat) (st : Except (Nat × Nat) Nat) (w : World) : Prop where
  held : ∃ v i t code place, RRaw w s rb i t code place its v ∧ Nodes w B v n ∧ (∀ j, st = .ok j → i = j ∧ code = 0 ∧ t = s.extract j (j + rsz (s.data.toList.drop j))) ∧ (∀ y, st = .error y → code = y.1 ∧ place = y.2 ∧ y.1 ≠ 0)
  lt : rb < B
  le : B ≤ w.heap.size

theorem RX.ok {s : ByteArray} {rb B its n j : Nat} {w : World} (h : RX s rb B its n (.ok j) w) : ∃ v p, RAt w s rb j 0 p its v ∧ Nodes w B v n := by
  obtain ⟨v, i, t, code, place, h1, h2, h3, _⟩ := h.held
  obtain ⟨rfl, rfl, rfl⟩ := h3 j rfl
  exact ⟨v, place, h1, h2⟩

theorem RX.err {s : ByteArray} {rb B its n : Nat} {y : Nat × Nat} {w : World} (h : RX s rb B its n (.error y) w) : y.1 ≠ 0 ∧ ∃ v i t, RRaw w s rb i t y.1 y.2 its v ∧ Nodes w B v n := by
  obtain ⟨v, i, t, code, place, h1, h2, _, h4⟩ := h.held
  obtain ⟨rfl, rfl, h5⟩ := h4 y rfl
  exact ⟨h5, v, i, t, h1, h2⟩

theorem RX.mkOk {s : ByteArray} {rb B its n j p : Nat} {w : World} {v : Value} (h : RAt w s rb j 0 p its v) (hN : Nodes w B v n) (hl : rb < B) (hB : B ≤ w.heap.size) : RX s rb B its n (.ok j) w :=
  ⟨⟨v, j, _, 0, p, h, hN, fun k hk => (by cases hk; exact ⟨rfl, rfl, rfl⟩), fun y hy => (by cases hy)⟩, hl, hB⟩

theorem RX.mkErr {s : ByteArray} {rb B its n i : Nat} {t : ByteArray} {y : Nat × Nat} {w : World} {v : Value} (h : RRaw w s rb i t y.1 y.2 its v) (hy : y.1 ≠ 0) (hN : Nodes w B v n) (hl : rb < B) (hB : B ≤ w.heap.size) : RX s rb B its n (.error y) w :=
  ⟨⟨v, i, t, _, _, h, hN, fun k hk => (by cases hk), fun z hz => (by cases hz; exact ⟨rfl, rfl, hy⟩)⟩, hl, hB⟩

/-- A place within the text, from a place on. -/
def Good (s : ByteArray) (i : Nat) (st : Except (Nat × Nat) Nat) : Prop := ∀ j, st = .ok j → i ≤ j ∧ j ≤ s.size

theorem Good.andThen {s : ByteArray} {i : Nat} {st : Except (Nat × Nat) Nat} {F : Nat → Except (Nat × Nat) Nat} (h : Good s i st) (hF : ∀ a b, F a = .ok b → a ≤ s.size → a ≤ b ∧ b ≤ s.size) : Good s i (Lard.andThen st F) := fun k hk => by
  obtain ⟨j, h1, h2⟩ := Lard.andThen_ok hk
  have := h j h1
  have := hF j k h2 this.2
  omega

theorem Good.expect {s : ByteArray} {i : Nat} {st : Except (Nat × Nat) Nat} (h : Good s i st) {t : List UInt8} (ht : t ≠ []) : Good s i (Lard.andThen st (Lard.expect s.data.toList t)) :=
  h.andThen fun a b hab ha => by
    have := Lard.expect_prog hab ht (by simpa using ha)
    simp at this; omega

theorem Good.P {s : ByteArray} {i : Nat} {st : Except (Nat × Nat) Nat} (h : Good s i st) (n tag deep its : Nat) : Good s i (Lard.andThen st (Lard.P s.data.toList n tag deep its)) :=
  h.andThen fun a b hab ha => by
    have := Lard.P_prog s.data.toList n tag deep its a b hab (by simpa using ha)
    simp at this; omega

/-- A node more. -/
theorem add_x (s : ByteArray) (rb B its n : Nat) (st : Except (Nat × Nat) Nat) (w : World) (h : RX s rb B its n st w) (b : Int) (t2 : ByteArray) (x y z : Int) (p : Option Addr) (pn pc : Nat) (hn : n ≤ 100000) :
    Calls Tryz.prog 67 #[.pointer (some ⟨rb, 0, none⟩), .agg #[.int .u8 b, .string t2, .int .i64 x, .int .i64 y, .int .i64 z, .slice p pn pc]] w fun e w' => e = .returned (.int .i64 (n : Int)) ∧ RX s rb B its (n + 1) st w' ∧ RF rb B w w' := by
  obtain ⟨v, i, t, code, place, h1, h2, h3, h4⟩ := h.held
  refine (add_any s rb B i t code place its n v b t2 x y z p pn pc w h1 h2 h.lt h.le hn).mono ?_
  rintro e w' ⟨rfl, v', k1, k2, k3⟩
  exact ⟨rfl, ⟨⟨v', i, t, code, place, k1, k2, h3, h4⟩, h.lt, Nat.le_trans h.le k3.size⟩, k3⟩

/-- The token that must come. -/
theorem take_x (s : ByteArray) (rb B its n : Nat) (st : Except (Nat × Nat) Nat) (w : World) (h : RX s rb B its n st w) (hs : s.size ≤ 200) (t : ByteArray) (hk : known t.data.toList = true) (i : Nat) (hg : Good s i st) :
    Calls Tryz.prog 271 #[.pointer (some ⟨rb, 0, none⟩), .string t] w fun e w' => e = .returned (.tuple #[]) ∧ RX s rb B its n (Lard.andThen st (Lard.expect s.data.toList t.data.toList)) w' ∧ RF rb B w w' := by
  cases st with
  | error y =>
    obtain ⟨hy, v, i, x, h1, h2⟩ := h.err
    refine (rtake_err s rb i x y.1 y.2 its v t w h1 hy).mono ?_
    rintro e w' ⟨rfl, rfl⟩
    exact ⟨rfl, h, RF.refl _ _ _⟩
  | ok j =>
    obtain ⟨v, p, h1, h2⟩ := h.ok
    refine (rtake_ok s rb j p its v t w h1 hs (hg j rfl).2 hk).mono ?_
    rintro e w' ⟨rfl, f1, k1, k2⟩
    refine ⟨rfl, ?_, RF.of_fr f1⟩
    show RX s rb B its n (Lard.expect s.data.toList t.data.toList j) w'
    have hN := h2.fr f1 h.lt
    have hB := Nat.le_trans h.le f1.size
    cases hx : Lard.expect s.data.toList t.data.toList j with
    | ok k =>
      obtain ⟨p', k3⟩ := k1 k hx
      exact RX.mkOk k3 hN h.lt hB
    | error y =>
      have h3 : y.1 = 3 := by
        unfold Lard.expect at hx
        split at hx
        · cases hx
        · cases hx; rfl
      exact RX.mkErr (k2 y hx) (by omega) hN h.lt hB

/-- What a reading of a part leaves. -/
def RP (s : ByteArray) (rb B its n : Nat) (w : World) (st : Except (Nat × Nat) Nat) (m : Nat) (st' : Except (Nat × Nat) Nat) (e : Ending) (w' : World) : Prop :=
  ∃ (x : Int) (n' : Nat), e = .returned (.int .i64 x) ∧ RX s rb B its n' st' w' ∧ RF rb B w w' ∧ n' + room s st' ≤ n + room s st + m ∧ (∀ j, st' = .ok j → ∃ k : Nat, x = (k : Int) ∧ k < n')

/-- A function of the document's reader reads as the plain function does, where the fuel is enough. -/
def RT (s : ByteArray) (rb B f tag n : Nat) : Prop :=
  ∀ (deep its i : Nat) (st : Except (Nat × Nat) Nat) (w : World) (c : Nat), deep ≤ 20 → its ≤ deep → 8 * (s.size - i) + Lard.nd tag ≤ n → Good s i st → RX s rb B its c st w → c + room s st ≤ 2000 →
    Calls Tryz.prog f #[.pointer (some ⟨rb, 0, none⟩), .int .i64 (deep : Int)] w (RP s rb B its c w st 0 (Lard.andThen st (Lard.P s.data.toList n tag deep its)))

/-- The token's bytes, held against some that are known. -/
theorem tok_is (s : ByteArray) (j : Nat) (x : List UInt8) (hx : known x = true) : ((s.extract j (j + rsz (s.data.toList.drop j))).toList == x) = (Lard.tx s.data.toList j == x) := by
  rw [Lib.toList_data, rtx_data, Bool.eq_iff_iff, beq_iff_eq, beq_iff_eq]
  exact rtx_known _ _ _ hx

theorem tok_one (s : ByteArray) (j : Nat) (c : UInt8) (hx : known [c] = true) (h : Lard.tx s.data.toList j = [c]) : (s.extract j (j + rsz (s.data.toList.drop j))).size = 1 := by
  have := (rtx_known _ _ _ hx).2 h
  rw [← rtx_data] at this
  rw [Lib.size_eq, this]; rfl

theorem next_x (s : ByteArray) (rb B its n j : Nat) (w : World) (h : RX s rb B its n (.ok j) w) (hs : s.size ≤ 200) (hj : j ≤ s.size) (hg : 2 ≤ (Lard.tok (s.data.toList.drop j)).1) :
    Calls Tryz.prog 64 #[.pointer (some ⟨rb, 0, none⟩)] w fun e w' => e = .returned (.tuple #[]) ∧ RX s rb B its n (.ok (Lard.nxt s.data.toList j)) w' ∧ RF rb B w w' := by
  obtain ⟨v, p, h1, h2⟩ := h.ok
  refine (rnext_good s rb j 0 p its v w h1 hs hj hg).mono ?_
  rintro e w' ⟨rfl, k1, f1⟩
  exact ⟨rfl, RX.mkOk k1 (h2.fr f1 h.lt) h.lt (Nat.le_trans h.le f1.size), RF.of_fr f1⟩

theorem sign_kind {l : List UInt8} {j : Nat} {c : UInt8} (hc : Lard.signB c = true) (h : Lard.tx l j = [c]) : (Lard.tok (l.drop j)).1 = 6 := by
  have hg := good_of_tx (l := l) (i := j) (by rw [h]; simp)
  have ht : [c] = (l.drop j).take (rsz (l.drop j)) := by rw [tok_rsz _ hg]; exact h.symm
  obtain ⟨d1, d2, d3⟩ := sign_dig hc
  rcases tok_facts (l.drop j) _ ht with ⟨_, a⟩ | ⟨_, _, b⟩ | ⟨_, _, _, _, _, x, r, e, f⟩ | ⟨_, _, _, _, d⟩ | ⟨a, _⟩ | ⟨a, _⟩
  · rw [refDig_head d1] at a; cases a
  · rw [isWordB_head d3] at b; cases b
  · injection e with e1 e2; rw [← e1, d2] at f; cases f
  · obtain ⟨x, r, e, f⟩ := known_let d
    injection e with e1 e2; rw [← e1, d2] at f; cases f
  · exact a
  · omega

theorem one_two (l : List UInt8) (j : Nat) (a b : UInt8) (ha : Lard.signB a = true) (hb : Lard.signB b = true) : Lard.oneB l j [a, b] = (Lard.tx l j == [a] || Lard.tx l j == [b]) := by
  have h1 := fun (c : UInt8) (hc : Lard.signB c = true) (h : Lard.tx l j = [c]) => sign_kind hc h
  unfold Lard.oneB
  generalize Lard.tx l j = t at h1
  rcases t with _ | ⟨c, _ | ⟨d, r⟩⟩
  · rfl
  · have hi := ix_mem [a, b] c
    show ((Lard.tok (l.drop j)).1 == 6 && decide (0 ≤ Lib.indexByte [a, b] c)) = ([c] == [a] || [c] == [b])
    by_cases hx : c = a ∨ c = b
    · have h6 : (Lard.tok (l.drop j)).1 = 6 := by
        rcases hx with rfl | rfl
        · exact h1 c ha rfl
        · exact h1 c hb rfl
      have hm : 0 ≤ Lib.indexByte [a, b] c := hi.2 (by simpa using hx)
      rw [h6, decide_eq_true hm]
      rcases hx with rfl | rfl <;> simp
    · have hm : ¬ 0 ≤ Lib.indexByte [a, b] c := fun h => hx (by simpa using hi.1 h)
      rw [decide_eq_false hm]
      have : c ≠ a ∧ c ≠ b := ⟨fun e => hx (Or.inl e), fun e => hx (Or.inr e)⟩
      simp [this.1, this.2]
  · simp

set_option maxRecDepth 100000 in
set_option maxHeartbeats 2000000 in
theorem rrule_step (s : ByteArray) (rb B n : Nat) (hs : s.size ≤ 200) (H : RT s rb B 103 1 n) : RT s rb B 65 0 (n + 1) := by
  intro deep its i st w c hd hits hfuel hg h hc
  have hr : ∀ k, Lard.P s.data.toList (n + 1) 0 deep its k = Lard.andThen (Lard.P s.data.toList n 1 deep its k) fun j => if Lard.oneB s.data.toList j [60, 61] = true then Lard.P s.data.toList n 1 deep its (Lard.nxt s.data.toList j) else .ok j := fun _ => rfl
  have h1 := H deep its i st w c hd hits (by simp [Lard.nd] at hfuel ⊢; omega) hg h hc
  have hg1 := hg.P n 1 deep its
  have hst : Lard.andThen st (Lard.P s.data.toList (n + 1) 0 deep its) = Lard.andThen (Lard.andThen st (Lard.P s.data.toList n 1 deep its)) fun j => if Lard.oneB s.data.toList j [60, 61] = true then Lard.P s.data.toList n 1 deep its (Lard.nxt s.data.toList j) else .ok j := by
    cases st with
    | error y => rfl
    | ok k => exact hr k
  rw [hst]
  clear hst hr
  generalize Lard.andThen st (Lard.P s.data.toList n 1 deep its) = st1 at h1 hg1
  generalize hfin : (Lard.andThen st1 fun j => if Lard.oneB s.data.toList j [60, 61] = true then Lard.P s.data.toList n 1 deep its (Lard.nxt s.data.toList j) else .ok j) = fin
  have H1 := hide h1
  clear h1
  go_enter Tryz.func65, Tryz.ntmps65
  go_wp2_with fail
  refine H1.out.mono ?_
  rintro e w1 ⟨x1, n1, rfl, k1, r1, b1, x1k⟩
  clear H1
  cases st1 with
  | error y =>
    have hf : fin = .error y := hfin.symm
    clear hfin
    subst hf
    obtain ⟨hy, v, i1, t1, q1, q2⟩ := k1.err
    obtain ⟨c0, c1, c2, c3, c4, c5, c6, cf⟩ := q1.cells
    have hy' : ((y.1 : Int) == 0) = false := by rw [beq_eq_false_iff_ne]; omega
    go_wp2_with fail
    go_ret
    exact ⟨x1, n1, rfl, k1, r1, b1, fun j hj => (by cases hj)⟩
  | ok j =>
    obtain ⟨v, p, q1, q2⟩ := k1.ok
    obtain ⟨c0, c1, c2, c3, c4, c5, c6, cf⟩ := q1.cells
    have hj := hg1 j rfl
    have hone := one_two s.data.toList j 60 61 (by decide) (by decide)
    have t60 := tok_is s j [60] (by decide)
    have t61 := tok_is s j [61] (by decide)
    have hst : (if Lard.oneB s.data.toList j [60, 61] = true then Lard.andThen (.ok (Lard.nxt s.data.toList j)) (Lard.P s.data.toList n 1 deep its) else .ok j) = fin := hfin
    clear hfin
    rw [hone] at hst
    by_cases ho : (Lard.tx s.data.toList j == [60] || Lard.tx s.data.toList j == [61]) = true
    · rw [if_pos ho] at hst
      have hsg : ∃ c, Lard.signB c = true ∧ known [c] = true ∧ Lard.tx s.data.toList j = [c] := by
        rw [Bool.or_eq_true] at ho
        rcases ho with ho | ho
        · exact ⟨60, by decide, by decide, eq_of_beq ho⟩
        · exact ⟨61, by decide, by decide, eq_of_beq ho⟩
      obtain ⟨ch, hch, hkn, hcx⟩ := hsg
      have hsz := tok_one s j ch hkn hcx
      have hgd := good_of_tx (l := s.data.toList) (i := j) (by rw [hcx]; simp)
      have hn1 := Lard.nxt_gt (Lard.tok_pos _ hgd)
      have hn2 : Lard.nxt s.data.toList j ≤ s.size := by have := Lard.nxt_le s.data.toList j (by simpa using hj.2); simpa using this
      have HN := hide (next_x s rb B its n1 j w1 k1 hs hj.2 hgd)
      have hroom : n1 + room s (.ok (Lard.nxt s.data.toList j)) + 4 ≤ c + room s st := by simp only [room] at b1 ⊢; omega
      have HS := hide (fun (w2 : World) (k2 : RX s rb B its n1 (.ok (Lard.nxt s.data.toList j)) w2) => H deep its (Lard.nxt s.data.toList j) (.ok (Lard.nxt s.data.toList j)) w2 n1 hd hits (by simp [Lard.nd] at hfuel ⊢; omega) (fun a ha => by cases ha; exact ⟨Nat.le_refl _, hn2⟩) k2 (by omega))
      clear hgd hcx hch hkn hn1 hn2 hone b1 hg1 x1k H
      rw [hst] at HS
      clear hst
      cases h60 : (Lard.tx s.data.toList j == [60]) with
      | true =>
        rw [h60] at t60
        clear t61 ho h60
        go_wp2_with fail
        refine HN.out.mono ?_
        rintro e w2 ⟨rfl, k2, r2⟩
        clear c0 c1 c2 c3 c4 c5 c6 cf
        go_wp2_with fail
        refine (HS.out _ k2).mono ?_
        rintro e w3 ⟨x3, n3, rfl, k3, r3, b3, _⟩
        go_wp2_with fail
        refine (add_x s rb B its n3 fin w3 k3 _ _ _ _ _ _ _ _ (by omega)).mono ?_
        rintro e w4 ⟨rfl, k4, r4⟩
        go_wp2_with fail
        go_ret
        exact ⟨_, n3 + 1, rfl, k4, r1.trans (r2.trans (r3.trans r4)), by omega, fun _ _ => ⟨n3, rfl, by omega⟩⟩
      | false =>
        rw [h60] at t60 ho
        rw [Bool.false_or] at ho
        rw [ho] at t61
        clear ho h60
        go_wp2_with fail
        refine HN.out.mono ?_
        rintro e w2 ⟨rfl, k2, r2⟩
        clear c0 c1 c2 c3 c4 c5 c6 cf
        go_wp2_with fail
        refine (HS.out _ k2).mono ?_
        rintro e w3 ⟨x3, n3, rfl, k3, r3, b3, _⟩
        go_wp2_with fail
        refine (add_x s rb B its n3 fin w3 k3 _ _ _ _ _ _ _ _ (by omega)).mono ?_
        rintro e w4 ⟨rfl, k4, r4⟩
        go_wp2_with fail
        go_ret
        exact ⟨_, n3 + 1, rfl, k4, r1.trans (r2.trans (r3.trans r4)), by omega, fun _ _ => ⟨n3, rfl, by omega⟩⟩
    · rw [if_neg ho] at hst
      subst hst
      have ho' : (Lard.tx s.data.toList j == [60]) = false ∧ (Lard.tx s.data.toList j == [61]) = false := by
        rw [Bool.or_eq_true, not_or] at ho
        exact ⟨by simpa using ho.1, by simpa using ho.2⟩
      rw [ho'.1] at t60
      rw [ho'.2] at t61
      clear ho ho' hone
      go_wp2_with fail
      go_ret
      exact ⟨x1, n1, rfl, k1, r1, b1, x1k⟩
end Go.Proofs.YtpekpdimdelncaaGreatDoor
