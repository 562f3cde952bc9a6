/- The reader of rules: what stands between braces. -/
import Derived.Test.YtpekpdimdelncaaGreatDoorW10
namespace Go.Proofs.YtpekpdimdelncaaGreatDoor
open Go.RowKit

/-- What a reading of parts leaves: as Post, but a slice comes out. -/
def PostS (s : ByteArray) (pb deep its : Nat) (w : World) (r : Except (Nat × Nat) Nat) (e : Ending) (w' : World) : Prop :=
  w.grownBy w' (some pb) ∧ (∀ j, r = .ok j → (∃ a n c, e = .returned (.slice a n c)) ∧ PAt w' s pb j deep its) ∧ (∀ x, r = .error x → e = refusal x.1 x.2)

theorem PostS.ok {s : ByteArray} {pb deep its j : Nat} {w w' : World} {e : Ending} (h : PostS s pb deep its w (.ok j) e w') : w.grownBy w' (some pb) ∧ (∃ a n c, e = .returned (.slice a n c)) ∧ PAt w' s pb j deep its :=
  ⟨h.1, h.2.1 j rfl⟩

theorem PostS.err {s : ByteArray} {pb deep its : Nat} {w w' : World} {e : Ending} {x : Nat × Nat} (h : PostS s pb deep its w (.error x) e w') : w.grownBy w' (some pb) ∧ e = refusal x.1 x.2 :=
  ⟨h.1, h.2.2 x rfl⟩

theorem PostS.mkOk {s : ByteArray} {pb deep its j : Nat} {w w' : World} {a : Option Addr} {n c : Nat} (h : w.grownBy w' (some pb)) (hp : PAt w' s pb j deep its) : PostS s pb deep its w (.ok j) (.returned (.slice a n c)) w' :=
  ⟨h, fun k hk => (by cases hk; exact ⟨⟨a, n, c, rfl⟩, hp⟩), fun x hx => (by cases hx)⟩

theorem PostS.mkErr {s : ByteArray} {pb deep its : Nat} {w w' : World} {x : Nat × Nat} (h : w.grownBy w' (some pb)) : PostS s pb deep its w (.error x) (refusal x.1 x.2) w' :=
  ⟨h, fun k hk => (by cases hk), fun y hy => (by cases hy; rfl)⟩

theorem PAt.grown {w w' : World} {s : ByteArray} {pb i deep its : Nat} {row : Option Nat} (h : PAt w s pb i deep its) (hg : w.grownBy w' row) (hne : some pb ≠ row) : PAt w' s pb i deep its :=
  (hg.block pb h.lt hne).trans h

theorem Fr.grown {a w w' : World} {r row : Option Nat} (h : a.grownBy w r) (hg : w.grownBy w' row) (hr : ∀ k, row = some k → a.heap.size ≤ k) : a.grownBy w' r :=
  ⟨hg.os.trans h.os, hg.tape.trans h.tape, hg.output.trans h.output, Nat.le_trans h.size hg.size, fun k hk hn => (hg.block k (Nat.lt_of_lt_of_le hk h.size) (fun e => by have := hr k e.symm; omega)).trans (h.block k hk hn)⟩

theorem nodeInfo : (Tryz.prog.info? 121).map (fun i => (i.zero, i.size, i.bytes)) = some (some (.pointer none), 1, 8) := by kernel_rfl

theorem own_one (w : World) (B : Nat) (e : TypeId) (v : Value) (hB : B ≤ w.heap.size) : (w.alloc (.cells #[v] e)).ownsRow B e 1 (.slice (some ⟨w.heap.size, 0, none⟩) 1 1) 1 [v] :=
  ⟨rfl, .inr ⟨w.heap.size, 1, #[v], rfl, hB, heap_alloc_new w _, Nat.le_refl _, by unfold maxLen; omega, rfl, rfl⟩⟩

set_option maxRecDepth 100000 in
set_option maxHeartbeats 1000000 in
theorem items_any (s : ByteArray) (pb n deep its i : Nat) (hs : s.size ≤ 200) (hpb : 8 ≤ pb) (hi : i ≤ s.size) (hd : deep ≤ 20) (hits : its ≤ deep) (hfuel : 8 * (s.size - i) + 4 ≤ n)
    (H : ∀ m, m ≤ n → CT s pb m 0 89) (w : World) (g : G w) (h : PAt w s pb i deep its) :
    Calls Tryz.prog 295 #[.pointer (some ⟨pb, 0, none⟩)] w (PostS s pb deep its w (if Lard.tx s.data.toList i = [125] then .ok (Lard.nxt s.data.toList i) else Lard.andThen (Lard.P s.data.toList n 0 deep its i) fun j => Lard.P s.data.toList n 6 deep its j)) := by
  by_cases hb : Lard.tx s.data.toList i = [125]
  · rw [if_pos hb]
    have hb' : (Lard.tx s.data.toList i == [125]) = true := by rw [hb]; rfl
    clear hb H
    go_enter Tryz.func295, Tryz.ntmps295
    go_wp2_with (go_at_call 313; refine (sees_any s pb i deep its _ _ h).mono ?_; rintro e w' ⟨rfl, rfl⟩)
    refine (take_any s pb i deep its _ g h (by omega) hi).mono ?_
    rintro e w1 ⟨rfl, h1, f1⟩
    unfold tokV
    go_wp2_with fail
    go_ret
    exact PostS.mkOk f1 h1
  · rw [if_neg hb]
    have hb' : (Lard.tx s.data.toList i == [125]) = false := by rw [beq_eq_false_iff_ne]; exact hb
    have h1 := H n (Nat.le_refl _) deep its i hi hd hits hfuel
    have hpr := Lard.P_prog s.data.toList n 0 deep its i
    clear hb
    cases hx : Lard.P s.data.toList n 0 deep its i with
    | error x =>
      rw [hx] at h1
      show Calls _ _ _ _ (PostS s pb deep its w (.error x))
      have H1 := hide h1
      clear hx H h1 hfuel hpr
      go_enter Tryz.func295, Tryz.ntmps295
      go_wp2_with (go_at_call 313; refine (sees_any s pb i deep its _ _ h).mono ?_; rintro e w' ⟨rfl, rfl⟩)
      refine (H1.out _ g h).mono ?_
      rintro e w1 hp
      obtain ⟨f1, rfl⟩ := hp.err
      exact ⟨rfl, PostS.mkErr f1⟩
    | ok j =>
      rw [hx] at h1
      have hj := hpr j hx (by simpa using hi)
      have hj2 : j ≤ s.size := by simpa using hj.2
      have hj1 : i + 1 ≤ j := by simpa using hj.1
      have H1 := hide h1
      have HH := hide H
      have hfu : 8 * (s.size - j) + 1 ≤ n := by omega
      show Calls _ _ _ _ (PostS s pb deep its w (Lard.P s.data.toList n 6 deep its j))
      generalize hfin : Lard.P s.data.toList n 6 deep its j = fin
      have HF := hide hfin
      have hlt := h.lt
      obtain ⟨i0, hi0, hz0, hz1, hz2⟩ := info_parts nodeInfo
      clear hx H h1 hpr hj hfin
      go_enter Tryz.func295, Tryz.ntmps295
      go_wp2_with (go_at_call 313; refine (sees_any s pb i deep its _ _ h).mono ?_; rintro e w' ⟨rfl, rfl⟩)
      refine (H1.out _ g h).mono ?_
      rintro e w1 hp
      obtain ⟨f1, ⟨q1, rfl⟩, h1⟩ := hp.ok
      clear hp H1
      go_wp2_with fail
      have hB : w.heap.size ≤ w1.heap.size := f1.size
      go_loopw [3] (fun v wr => ∃ (cnt : Nat) (xs : List Value) (k m : Nat), wr.ownsRow w.heap.size 121 1 v cnt xs ∧ PAt wr s pb k deep its ∧ w.grownBy wr (some pb) ∧ k ≤ s.size ∧ 8 * (s.size - k) + 1 ≤ m ∧ m ≤ n ∧ cnt ≤ k ∧ Hid (Lard.P s.data.toList m 6 deep its k = fin)) (fun _ wr => s.size - atOf wr pb)
      case atStart => exact ⟨1, _, j, n, own_one w1 w.heap.size _ _ hB, h1.alloc _, Fr.alloc f1 _, hj2, hfu, Nat.le_refl _, by omega, HF⟩
      case round =>
        clear HF h1 f1 hj2 hfu hB
        obtain ⟨cnt, xs, k, m, hown, hk, fk, hks, hm, hmn, hcnt, HM⟩ := hrel
        obtain ⟨m, rfl⟩ : ∃ m', m = m' + 1 := ⟨m - 1, by omega⟩
        have HAT := hide (atOf_eq hk)
        have hM := HM.out
        have hT : Lard.P s.data.toList (m + 1) 6 deep its k = if Lard.tx s.data.toList k = [44] then Lard.andThen (Lard.P s.data.toList m 0 deep its (Lard.nxt s.data.toList k)) fun j => Lard.P s.data.toList m 6 deep its j else Lard.expect s.data.toList [125] k := rfl
        rw [hT] at hM
        by_cases ho : Lard.tx s.data.toList k = [44]
        · rw [if_pos ho] at hM
          have ho' : (Lard.tx s.data.toList k == [44]) = true := by rw [ho]; rfl
          have hn1 := Lard.nxt_gt (Lard.tx_pos (l := s.data.toList) (i := k) (by rw [ho]; simp))
          have hn2 : Lard.nxt s.data.toList k ≤ s.size := by have := Lard.nxt_le s.data.toList k (by simpa using hks); simpa using this
          have h2 := HH.out m (by omega) deep its (Lard.nxt s.data.toList k) hn2 hd hits (by simp [Lard.nd]; omega)
          have hpr := Lard.P_prog s.data.toList m 0 deep its (Lard.nxt s.data.toList k)
          cases hx : Lard.P s.data.toList m 0 deep its (Lard.nxt s.data.toList k) with
          | error x =>
            rw [hx] at h2 hM
            have hM' : fin = .error x := hM.symm
            subst hM'
            have H2 := hide h2
            clear hx h2 hpr hM HM HH hT ho
            go_wp2_with (go_at_call 313; refine (sees_any s pb k deep its _ _ hk).mono ?_; rintro e w' ⟨rfl, rfl⟩)
            refine (take_any s pb k deep its _ (g.fr fk hpb) hk (by omega) hks).mono ?_
            rintro e w2 ⟨rfl, hk2, f2⟩
            unfold tokV
            go_wp2_with fail
            refine (H2.out _ ((g.fr fk hpb).fr f2 hpb) hk2).mono ?_
            rintro e w3 hp
            obtain ⟨f3, rfl⟩ := hp.err
            exact ⟨rfl, PostS.mkErr (Fr.trans (Fr.trans fk f2) f3)⟩
          | ok k2 =>
            have hj := hpr k2 hx (by simpa using hn2)
            have hk2s : k2 ≤ s.size := by simpa using hj.2
            have hk2l : Lard.nxt s.data.toList k + 1 ≤ k2 := by simpa using hj.1
            rw [hx] at h2 hM
            have H2 := hide h2
            have hM2 : Lard.P s.data.toList m 6 deep its k2 = fin := hM
            have HM2 := hide hM2
            clear hx h2 hpr hM HM HH hT ho hj hM2
            go_wp2_with (go_at_call 313; refine (sees_any s pb k deep its _ _ hk).mono ?_; rintro e w' ⟨rfl, rfl⟩)
            refine (take_any s pb k deep its _ (g.fr fk hpb) hk (by omega) hks).mono ?_
            rintro e w2 ⟨rfl, hk2, f2⟩
            unfold tokV
            go_wp2_with fail
            refine (H2.out _ ((g.fr fk hpb).fr f2 hpb) hk2).mono ?_
            rintro e w3 hp
            obtain ⟨f3, ⟨q3, rfl⟩, h3⟩ := hp.ok
            clear hp H2
            have f23 := Fr.trans f2 f3
            have hbl : _ := hown.lt
            have hown3 : w3.ownsRow w.heap.size 121 1 _ cnt xs := hown.kept f23 (Or.inr (fun e => by have := (hown.lt _ e).1; omega))
            have hsz3 : w.heap.size ≤ w3.heap.size := Nat.le_trans fk.size f23.size
            clear hbl hown
            go_wp2_with (at_builtin; go_must (refine wpList_append_own _ rfl _ _ 261 rfl w.heap.size 121 i0 (.pointer none) 1 8 Tryz.underlying261 hi0 hz0 hz1 hz2 rfl (by decide) _ _ _ rfl (hown3.alloc _) ⟨w3.heap.size, 0, none⟩ 1 1 [.pointer q3] rfl rfl (cell_one_new _ _ _) (fun x hx => by simp at hx; subst hx; rfl) (by unfold maxLen; omega) (by omega) (by simp; omega) ?_); intro v' w4 hown4 hgrow4 hnil4)
            have hg4 : (w3.alloc (Obj.cells #[Value.pointer q3] 121)).grownBy w4 u3.ownBlock := hgrow4
            have hlo : ∀ b, u3.ownBlock = some b → w.heap.size ≤ b := fun b e => (hown3.lt b e).1
            have hP4 : PAt w4 s pb k2 deep its := (h3.alloc _).grown hg4 (fun e => by have := hlo pb e.symm; omega)
            refine ⟨⟨cnt + 1, _, k2, m, hown4, hP4, Fr.grown (Fr.alloc (Fr.trans fk f23) _) hg4 hlo, hk2s, by omega, by omega, by omega, HM2⟩, ?_⟩
            rw [atOf_eq hP4, HAT.out]
            omega
        · rw [if_neg ho] at hM
          have ho' : (Lard.tx s.data.toList k == [44]) = false := by rw [beq_eq_false_iff_ne]; exact ho
          have HX := hide hM
          clear HM HH hT ho hM
          go_wp2_with (go_at_call 313; refine (sees_any s pb k deep its _ _ hk).mono ?_; rintro e w' ⟨rfl, rfl⟩)
          refine (expect_any s pb k deep its ⟨#[125]⟩ _ (g.fr fk hpb) hk (by omega) hks).mono ?_
          rintro e w2 ⟨f2, h2, h3⟩
          have hX : Lard.expect s.data.toList (⟨#[125]⟩ : ByteArray).data.toList k = fin := HX.out
          rw [hX] at h2 h3
          cases fin with
          | error x =>
            have he := h3 x rfl
            subst he
            exact ⟨rfl, PostS.mkErr (Fr.trans fk f2)⟩
          | ok j2 =>
            obtain ⟨rfl, h4⟩ := h2 j2 rfl
            clear h2 h3 HX hX
            have hu : ∃ a nn c, u3 = .slice a nn c := by
              rcases hown.2 with ⟨hu, _⟩ | ⟨gg, cap, cur, hu, _⟩
              · exact ⟨_, _, _, hu⟩
              · exact ⟨_, _, _, hu⟩
            go_wp2_with fail
            go_ret
            obtain ⟨a, nn, c, hu⟩ := hu
            show PostS s pb deep its w (.ok j2) (.returned u3) w2
            rw [hu]
            exact PostS.mkOk (Fr.trans fk f2) h4
end Go.Proofs.YtpekpdimdelncaaGreatDoor
