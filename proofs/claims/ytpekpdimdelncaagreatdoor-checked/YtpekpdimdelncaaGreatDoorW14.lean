/- The reader of rules: a FACTOR. -/
import Derived.Test.YtpekpdimdelncaaGreatDoorW13
import Derived.Deep.AppendLies
namespace Go.Proofs.YtpekpdimdelncaaGreatDoor
open Go.RowKit
attribute [local go_sem] run_store_isV

def KR (x : Nat) : Prop := x = 0 ∨ (2 ≤ x ∧ x ≤ 16)
theorem KR.ite {c : Prop} [Decidable c] {a b : Nat} (ha : KR a) (hb : KR b) : KR (if c then a else b) := by split <;> assumption

theorem kind_range (l : List UInt8) (i its : Nat) : KR (Lard.kind l i its) := by
  unfold Lard.kind Lard.kindOf Lard.termK Lard.signK
  repeat' refine KR.ite ?_ ?_
  all_goals first
    | exact Or.inl rfl
    | exact Or.inr ⟨by decide, by decide⟩

theorem isV_form (l : List UInt8) : isV l = .nilIface ∨ ∃ t x, isV l = .iface t x := by
  unfold isV
  split
  · exact Or.inr ⟨_, _, rfl⟩
  · exact Or.inr ⟨_, _, rfl⟩
  · exact Or.inl rfl

theorem parts_any (s : ByteArray) (pb n deep its i k : Nat) (hk : 2 ≤ k ∧ k ≤ 16) (hs : s.size ≤ 200) (hpb : 8 ≤ pb) (hi : i ≤ s.size) (hd : deep ≤ 20) (hits : its + 1 ≤ deep) (hfuel : 8 * (s.size - i) + 4 ≤ n)
    (H : ∀ m, m ≤ n → CT s pb m 0 89) (H3 : CT s pb n 3 212) (w : World) (g : G w) (h : PAt w s pb i deep its) :
    Calls Tryz.prog 263 #[.pointer (some ⟨pb, 0, none⟩), .int .i64 (k : Int)] w (PostS s pb deep its w (partsAt s.data.toList n deep its k i)) := by
  have hits' : its ≤ deep := by omega
  by_cases k1 : k = 2 ∨ k = 3 ∨ k = 4
  · exact parts_none s pb n deep its i k k1 w h
  by_cases k5 : k = 5
  · subst k5; exact parts_minus s pb n deep its i hi hd hits' hfuel H3 w g h
  by_cases k6 : k = 6
  · subst k6; exact parts_group s pb n deep its i hs hpb hi hd hits' hfuel H w g h
  by_cases k7 : k = 7
  · subst k7; exact parts_key s pb n deep its i hs hpb hi hd hits' hfuel H w g h
  by_cases k8 : k = 8
  · subst k8; exact parts_list s pb n deep its i hs hpb hi hd hits' hfuel H w g h
  by_cases k9 : k = 9
  · subst k9; exact parts_if s pb n deep its i hs hpb hi hd hits' hfuel H H3 w g h
  by_cases k10 : k = 10 ∨ k = 11 ∨ k = 12
  · exact parts_one s pb n deep its i k k10 hs hpb hi hd hits' hfuel H w g h
  by_cases k13 : k = 13 ∨ k = 14
  · exact parts_both s pb n deep its i k k13 hs hpb hi hd hits' hfuel H w g h
  · exact parts_each s pb n deep its i k (by omega) hs hpb hi hd hits hfuel H w g h

set_option maxRecDepth 100000 in
set_option maxHeartbeats 1000000 in
theorem factor_none (s : ByteArray) (pb deep its i : Nat) (hk : Lard.kind s.data.toList i its = 0) : Con s 212 pb deep its i (.error (3, i)) := by
  intro w g h
  have hkk := kindHere_any s pb i deep its w h
  rw [hk] at hkk
  have HK := hide hkk
  clear hkk hk
  go_enter Tryz.func212, Tryz.ntmps212
  go_wp2_with fail
  refine HK.out.mono ?_
  rintro e w' ⟨rfl, rfl⟩
  go_wp2_with fail
  refine (refuse_any s pb i deep its 3 _ h).mono ?_
  rintro e w' ⟨rfl, rfl⟩
  exact ⟨rfl, Post.mkErr (x := (3, i)) (World.grownBy.refl _ _)⟩

set_option maxRecDepth 100000 in
set_option maxHeartbeats 1000000 in
theorem factor_deep (s : ByteArray) (pb its i : Nat) (hk : Lard.kind s.data.toList i its ≠ 0) : Con s 212 pb 20 its i (.error (4, i)) := by
  intro w g h
  have hkk := kindHere_any s pb i 20 its w h
  generalize Lard.kind s.data.toList i its = k at hkk hk
  have hk' : ((k : Int) == 0) = false := by rw [beq_eq_false_iff_ne]; omega
  obtain ⟨c0, c1, c2, c3, c4, c5, c6, cf⟩ := h.cells
  have HK := hide hkk
  clear hkk hk
  go_enter Tryz.func212, Tryz.ntmps212
  go_wp2_with fail
  refine HK.out.mono ?_
  rintro e w' ⟨rfl, rfl⟩
  go_wp2_with fail
  refine (refuse_any s pb i 20 its 4 _ h).mono ?_
  rintro e w' ⟨rfl, rfl⟩
  exact ⟨rfl, Post.mkErr (x := (4, i)) (World.grownBy.refl _ _)⟩

theorem node_cell {w2 w3 : World} {pb : Nat} {A : Obj} {a0 a1 a2 a3 a4 : Value} {T : TypeId} (f3 : ((w2.alloc A).alloc (.cells #[a0, a1, a2, a3, a4] T)).grownBy w3 (some pb)) (hlt : pb < w2.heap.size) :
    w3.cell? ⟨w2.heap.size + 1, 4, none⟩ = some a4 ∧ (∀ o, w3.frozen? ⟨w2.heap.size + 1, o, none⟩ = false) := by
  have hb := f3.block (w2.heap.size + 1) (by simp) (fun e => by injection e; omega)
  have hn : ((w2.alloc A).alloc (.cells #[a0, a1, a2, a3, a4] T)).heap[w2.heap.size + 1]? = some (.cells #[a0, a1, a2, a3, a4] T) := by
    have := heap_alloc_new (w2.alloc A) (.cells #[a0, a1, a2, a3, a4] T)
    simpa using this
  rw [hn] at hb
  constructor
  · simp [World.cell?, hb]
  · intro o; simp [World.frozen?, hb]

set_option maxRecDepth 100000 in
set_option maxHeartbeats 2000000 in
theorem factor_in (s : ByteArray) (pb deep its i k : Nat) (hs : s.size ≤ 200) (hpb : 8 ≤ pb) (hi : i ≤ s.size) (hd : deep ≤ 19) (hkr : 2 ≤ k ∧ k ≤ 16) (hk : Lard.kind s.data.toList i its = k)
    (r : Except (Nat × Nat) Nat) (HP : ∀ w, G w → PAt w s pb (Lard.nxt s.data.toList i) (deep + 1) its → Calls Tryz.prog 263 #[.pointer (some ⟨pb, 0, none⟩), .int .i64 (k : Int)] w (PostS s pb (deep + 1) its w r)) : Con s 212 pb deep its i r := by
  intro w g h
  have hkk := kindHere_any s pb i deep its w h
  rw [hk] at hkk
  have hk' : ((k : Int) == 0) = false := by rw [beq_eq_false_iff_ne]; omega
  have hd' : ((deep : Int) == 20) = false := by rw [beq_eq_false_iff_ne]; omega
  obtain ⟨c0, c1, c2, c3, c4, c5, c6, cf⟩ := h.cells
  have hp1 := h.deep (deep + 1)
  have hf1 : w.grownBy (w.setCell ⟨pb, 5, none⟩ (.int .i64 ((deep + 1 : Nat) : Int))) (some pb) := Fr.set (World.grownBy.refl _ _) _ _
  have ht := take_any s pb i (deep + 1) its _ (g.fr hf1 hpb) hp1 (by omega) hi
  have ht' : Calls Tryz.prog 175 #[.pointer (some ⟨pb, 0, none⟩)] (w.setCell ⟨pb, 5, none⟩ (.int .i64 ((deep : Int) + 1))) fun e w' => e = .returned (tokV s i) ∧ PAt w' s pb (Lard.nxt s.data.toList i) (deep + 1) its ∧ (w.setCell ⟨pb, 5, none⟩ (.int .i64 ((deep : Int) + 1))).grownBy w' (some pb) := ht
  have hlt := h.lt
  have HK := hide hkk
  have HT := hide ht'
  have HPP := hide HP
  have HF1 := hide hf1
  clear hkk hk ht ht' hp1 hf1 HP
  have hform := isV_form (s.data.toList.drop i)
  by_cases k3 : k = 3
  · subst k3
    go_enter Tryz.func212, Tryz.ntmps212
    go_wp2_with fail
    refine HK.out.mono ?_
    rintro e w' ⟨rfl, rfl⟩
    go_wp2_with fail
    refine HT.out.mono ?_
    rintro e w2 ⟨rfl, h2, f2⟩
    have f02 := Fr.trans HF1.out f2
    have hlt2 := h2.lt
    unfold tokV
    clear c0 c1 c2 c3 c4 c5 c6 cf HK HT HF1 f2
    generalize isV (s.data.toList.drop i) = v at hform
    rcases hform with rfl | ⟨t, x, rfl⟩
    all_goals
      go_wp2_with fail
      refine (HPP.out _ (g.fr (Fr.alloc (Fr.alloc f02 _) _) hpb) ((h2.alloc _).alloc _)).mono ?_
      rintro e w3 hp
    all_goals cases r with
      | error y =>
        obtain ⟨f3, rfl⟩ := hp.err
        exact ⟨rfl, Post.mkErr (Fr.trans (Fr.alloc (Fr.alloc f02 _) _) f3)⟩
      | ok j =>
        obtain ⟨f3, ⟨a, nn, c, rfl⟩, h3⟩ := hp.ok
        obtain ⟨e4, ef⟩ := node_cell f3 hlt2
        obtain ⟨d0, d1, d2, d3, d4, d5, d6, df⟩ := h3.cells
        have f03 := Fr.trans (Fr.alloc (Fr.alloc f02 _) _) f3
        clear hp HPP d0 d1 d2 d3 d4 d6 f3
        go_wp2_with fail
        go_ret
        exact Post.mkOk (Fr.set (Fr.new f03 (by have := f02.size; omega) _ _) _ _) ((h3.other (by omega) _ _).deep deep)
  by_cases k13 : k = 13
  · subst k13
    go_enter Tryz.func212, Tryz.ntmps212
    go_wp2_with fail
    refine HK.out.mono ?_
    rintro e w' ⟨rfl, rfl⟩
    go_wp2_with fail
    refine HT.out.mono ?_
    rintro e w2 ⟨rfl, h2, f2⟩
    have f02 := Fr.trans HF1.out f2
    have hlt2 := h2.lt
    unfold tokV
    clear c0 c1 c2 c3 c4 c5 c6 cf HK HT HF1 f2
    generalize isV (s.data.toList.drop i) = v at hform
    rcases hform with rfl | ⟨t, x, rfl⟩
    all_goals
      go_wp2_with (go_at_call 262; refine (termByte_any _ _).mono ?_; rintro e w' ⟨⟨nb, rfl⟩, rfl⟩)
      refine (HPP.out _ (g.fr (Fr.alloc (Fr.alloc f02 _) _) hpb) ((h2.alloc _).alloc _)).mono ?_
      rintro e w3 hp
    all_goals cases r with
      | error y =>
        obtain ⟨f3, rfl⟩ := hp.err
        exact ⟨rfl, Post.mkErr (Fr.trans (Fr.alloc (Fr.alloc f02 _) _) f3)⟩
      | ok j =>
        obtain ⟨f3, ⟨a, nn, c, rfl⟩, h3⟩ := hp.ok
        obtain ⟨e4, ef⟩ := node_cell f3 hlt2
        obtain ⟨d0, d1, d2, d3, d4, d5, d6, df⟩ := h3.cells
        have f03 := Fr.trans (Fr.alloc (Fr.alloc f02 _) _) f3
        clear hp HPP d0 d1 d2 d3 d4 d6 f3
        go_wp2_with fail
        go_ret
        exact Post.mkOk (Fr.set (Fr.new f03 (by have := f02.size; omega) _ _) _ _) ((h3.other (by omega) _ _).deep deep)
  · have e3 : ((k : Int) == 3) = false := by rw [beq_eq_false_iff_ne]; omega
    have e13 : ((k : Int) == 13) = false := by rw [beq_eq_false_iff_ne]; omega
    clear k3 k13
    go_enter Tryz.func212, Tryz.ntmps212
    go_wp2_with fail
    refine HK.out.mono ?_
    rintro e w' ⟨rfl, rfl⟩
    go_wp2_with fail
    refine HT.out.mono ?_
    rintro e w2 ⟨rfl, h2, f2⟩
    have f02 := Fr.trans HF1.out f2
    have hlt2 := h2.lt
    unfold tokV
    clear c0 c1 c2 c3 c4 c5 c6 cf HK HT HF1 f2
    generalize isV (s.data.toList.drop i) = v at hform
    rcases hform with rfl | ⟨t, x, rfl⟩
    all_goals
      go_wp2_with fail
      refine (HPP.out _ (g.fr (Fr.alloc (Fr.alloc f02 _) _) hpb) ((h2.alloc _).alloc _)).mono ?_
      rintro e w3 hp
    all_goals cases r with
      | error y =>
        obtain ⟨f3, rfl⟩ := hp.err
        exact ⟨rfl, Post.mkErr (Fr.trans (Fr.alloc (Fr.alloc f02 _) _) f3)⟩
      | ok j =>
        obtain ⟨f3, ⟨a, nn, c, rfl⟩, h3⟩ := hp.ok
        obtain ⟨e4, ef⟩ := node_cell f3 hlt2
        obtain ⟨d0, d1, d2, d3, d4, d5, d6, df⟩ := h3.cells
        have f03 := Fr.trans (Fr.alloc (Fr.alloc f02 _) _) f3
        clear hp HPP d0 d1 d2 d3 d4 d6 f3
        go_wp2_with fail
        go_ret
        exact Post.mkOk (Fr.set (Fr.new f03 (by have := f02.size; omega) _ _) _ _) ((h3.other (by omega) _ _).deep deep)

/-- A FACTOR. -/
theorem factor_step (s : ByteArray) (pb n : Nat) (hs : s.size ≤ 200) (hpb : 8 ≤ pb) (H : ∀ m, m ≤ n → CT s pb m 0 89) (H3 : CT s pb n 3 212) : CT s pb (n + 1) 3 212 := by
  intro deep its i hi hd hits hfuel
  have hr : Lard.P s.data.toList (n + 1) 3 deep its i = if Lard.kind s.data.toList i its = 0 then .error (3, i) else if deep = 20 then .error (4, i) else partsAt s.data.toList n (deep + 1) its (Lard.kind s.data.toList i its) (Lard.nxt s.data.toList i) := rfl
  rw [hr]
  by_cases hk : Lard.kind s.data.toList i its = 0
  · rw [if_pos hk]; exact factor_none s pb deep its i hk
  · rw [if_neg hk]
    by_cases hd20 : deep = 20
    · rw [if_pos hd20]; subst hd20; exact factor_deep s pb its i hk
    · rw [if_neg hd20]
      have hkr : 2 ≤ Lard.kind s.data.toList i its ∧ Lard.kind s.data.toList i its ≤ 16 := (kind_range s.data.toList i its).resolve_left hk
      have hn1 := Lard.nxt_gt (Lard.kind_pos hk)
      have hn2 : Lard.nxt s.data.toList i ≤ s.size := by have := Lard.nxt_le s.data.toList i (by simpa using hi); simpa using this
      have hf : 8 * (s.size - Lard.nxt s.data.toList i) + 4 ≤ n := by simp [Lard.nd] at hfuel; omega
      exact factor_in s pb deep its i _ hs hpb hi (by omega) hkr rfl _ (fun w g h => parts_any s pb n (deep + 1) its _ _ hkr hs hpb hn2 (by omega) (by omega) hf H H3 w g h)
end Go.Proofs.YtpekpdimdelncaaGreatDoor
