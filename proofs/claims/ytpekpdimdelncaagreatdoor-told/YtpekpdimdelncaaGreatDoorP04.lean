/- Out of: V9, V10, V11. -/
import Derived.Test.YtpekpdimdelncaaGreatDoorP03
import Derived.Lib.AppendZeros
import Derived.Laws.AppendOwnNone
namespace Go.Proofs.YtpekpdimdelncaaGreatDoor
set_option maxRecDepth 100000
set_option maxHeartbeats 800000
open Go.RowKit
attribute [local go_sem] ta_nn ta_wn ta_ln ta_nw ta_ww ta_lw ta_nl ta_wl ta_ll
theorem grow_any (n : Nat) (w : World) (h0 : 0 < n) (hn : n ≤ 1000) :
    Calls Tryz.prog 319 #[.slice none 0 0, .int .i64 (n : Int)] w fun e w' => ∃ v, e = .returned v ∧ w'.ownsRow w.heap.size 111 1 v 0 [] ∧ Below w.heap.size w w' := by
  obtain ⟨i0, hi0, hz0, hz1, hz2⟩ := info_parts valInfo
  have happ := Lib.run_append_nil_zeros (P := Tryz.prog) w 248 3 248 111 i0 .nilIface .i64 .i64 Tryz.underlying248 Tryz.underlying3 hi0 hz0 n h0 (by omega) (by omega) (by rw [hz2]; omega)
  have hge := grownCap_ge w n 0 111
  have hle := grownCap_le_maxLen w n 0 111 (by unfold maxLen; omega)
  generalize grownCap w n 0 111 = cap at happ hge hle
  go_enter Tryz.func319, Tryz.ntmps319
  go_wp2_with (at_builtin; refine Lib.wpList_append_run _ rfl _ _ 248 3 rfl _ _ rfl rfl _ _ happ ?_)
  go_ret
  refine ⟨_, rfl, ⟨rfl, .inr ⟨w.heap.size, cap, _, rfl, Nat.le_refl _, heap_alloc_new w _, Nat.zero_le _, hle, ?_, by simp⟩⟩, ((Below.refl _ w).alloc (Nat.le_refl _) _).drew⟩
  simp [size_zeroCells]; omega
theorem grow_none (w : World) :
    Calls Tryz.prog 319 #[.slice none 0 0, .int .i64 0] w fun e w' => e = .returned (.slice none 0 0) ∧ w' = w := by
  go_enter Tryz.func319, Tryz.ntmps319
  go_wp2
  go_ret
  exact ⟨rfl, rfl⟩
theorem grow_all (n : Nat) (w : World) (hn : n ≤ 1000) :
    Calls Tryz.prog 319 #[.slice none 0 0, .int .i64 (n : Int)] w fun e w' => ∃ v, e = .returned v ∧ w'.ownsRow w.heap.size 111 1 v 0 [] ∧ Below w.heap.size w w' := by
  rcases Nat.eq_zero_or_pos n with rfl | h0
  · refine (grow_none w).mono ?_
    rintro e w' ⟨rfl, rfl⟩
    exact ⟨_, rfl, ⟨rfl, .inl ⟨rfl, rfl⟩⟩, Below.refl _ _⟩
  · exact grow_any n w h0 hn
theorem wpList_append_row {w : World} {ops : Array Oper} {rest : List Oper} {o : Oper} {a : Act} {Q : Exit → Act → World → Prop} (hgd : o.guard = none) (s x : Operand) (t : TypeId)
    (ht : Tryz.prog.underlying t = some (.slice 111)) (ho : o.op = .call { callee := .builtin .append, args := #[s, x], argTypes := #[t, t] }) (base : Nat) (v : Value) (n : Nat) (xs : List Value) (hs : a.eval s = v) (hown : w.ownsRow base 111 1 v n xs)
    (sv : Value) (ys : List Value) (hx : a.eval x = sv) (hr : IsRow w sv ys) (h1 : ∀ u ∈ ys, u.oneCell' = true) (hn : n + ys.length ≤ 100000) (hbase : base ≤ w.heap.size)
    (h : ∀ v' w', w'.ownsRow base 111 1 v' (n + ys.length) (xs ++ ys) → w.grownBy w' v.ownBlock → wpList Tryz.prog ops Q rest (a.put o.dst v') w') : wpList Tryz.prog ops Q (o :: rest) a w := by
  obtain ⟨i0, hi0, hz0, hz1, hz2⟩ := info_parts valInfo
  rcases hr with ⟨rfl, rfl⟩ | ⟨b, cap, cs, fz, rfl, h2, h3, h4, h5⟩
  · exact wpList_append_own_none hgd s x t ho base 111 i0 1 ht hi0 v n xs hs hown hx (h v w (by simpa using hown) (World.grownBy.refl _ _))
  · refine wpList_append_own _ hgd s x t ho base 111 i0 _ 1 16 ht hi0 hz0 hz1 hz2 rfl (by decide) v n xs hs hown ⟨b, 0, none⟩ ys.length cap ys hx (by rw [Nat.mul_one]) (fun j u hj => ?_) h1 (by unfold maxLen; omega) (by omega) hbase (fun v' w' ho hg _ => h v' w' ho hg)
    obtain ⟨b', e, hc⟩ := IsRow.cell (.inr ⟨b, cap, cs, fz, rfl, h2, h3, h4, h5⟩) hj
    cases e
    rw [Addr.add_lit, Nat.zero_add]
    exact hc
theorem own_kept {w w' : World} {base n : Nat} {v : Value} {xs : List Value} (hown : w.ownsRow base 111 1 v n xs) (h : w.grownBy w' v.ownBlock) {w0 : World} (hB : Below base w0 w) (hb : base ≤ w.heap.size) : Below base w0 w' := by
  refine hB.grown h hb (fun k hk => ?_)
  obtain ⟨_, ⟨rfl, _⟩ | ⟨g, cap, cur, rfl, hg, _⟩⟩ := hown
  · cases hk
  · cases hk; exact hg
theorem concat_any (s1 s2 : Value) (ys1 ys2 : List Value) (b : Nat) (fz : Nat × Nat) (w : World) (hb : w.heap[b]? = some (.cells #[s1, s2] 248 fz)) (h1 : IsRow w s1 ys1) (h2 : IsRow w s2 ys2) (hn1 : ys1.length ≤ 100) (hn2 : ys2.length ≤ 100) (ho1 : ∀ u ∈ ys1, u.oneCell' = true) (ho2 : ∀ u ∈ ys2, u.oneCell' = true) :
    Calls Tryz.prog 315 #[.slice (some ⟨b, 0, none⟩) 2 2] w fun e w' => ∃ v, e = .returned v ∧ IsRow w' v (ys1 ++ ys2) ∧ Below w.heap.size w w' := by
  obtain ⟨o1, c1, rfl⟩ := h1.len
  obtain ⟨o2, c2, rfl⟩ := h2.len
  have hbl : b < w.heap.size := lt_of_some hb
  have cb : ∀ w', Below w.heap.size w w' → w'.cell? ⟨b, 0, none⟩ = some (.slice o1 ys1.length c1) ∧ w'.cell? ⟨b, 1, none⟩ = some (.slice o2 ys2.length c2) := fun w' hB =>
    ⟨(hB.cell (p := ⟨b, 0, none⟩) hbl).trans (by simp [World.cell?, hb]), (hB.cell (p := ⟨b, 1, none⟩) hbl).trans (by simp [World.cell?, hb])⟩
  obtain ⟨e1, e2⟩ := cb w (Below.refl _ _)
  have CB := hide cb
  clear cb hb
  go_enter Tryz.func315, Tryz.ntmps315
  go_wp2_with fail
  go_loop [3, 11] (fun a i => (i = .int .i64 0 ∧ a = .int .i64 0) ∨ (i = .int .i64 1 ∧ a = .int .i64 (ys1.length : Int)) ∨ (i = .int .i64 2 ∧ a = .int .i64 ((ys1.length + ys2.length : Nat) : Int))) (fun _ i => 2 - (intOf i).toNat)
  case atStart => exact .inl ⟨rfl, rfl⟩
  case round =>
    rcases hrel with ⟨rfl, rfl⟩ | ⟨rfl, rfl⟩ | ⟨rfl, rfl⟩
    · clear CB
      go_wp2_with fail
      exact ⟨.inr (.inl ⟨rfl, by simp⟩), by simp [intOf]⟩
    · clear CB
      go_wp2_with fail
      exact ⟨.inr (.inr ⟨rfl, by simp⟩), by simp [intOf]⟩
    · go_wp2_with (go_at_call 319; refine (grow_all (ys1.length + ys2.length) _ (by omega)).mono ?_; rintro e w1 ⟨v1, rfl, hown1, hB1⟩)
      clear e1 e2
      go_loopw [6, 27] (fun v i wr => Below w.heap.size w wr ∧ ((i = .int .i64 0 ∧ wr.ownsRow w.heap.size 111 1 v 0 []) ∨ (i = .int .i64 1 ∧ wr.ownsRow w.heap.size 111 1 v ys1.length ys1) ∨ (i = .int .i64 2 ∧ wr.ownsRow w.heap.size 111 1 v (ys1.length + ys2.length) (ys1 ++ ys2)))) (fun _ i _ => 2 - (intOf i).toNat)
      case atStart => exact ⟨hB1, .inl ⟨rfl, hown1⟩⟩
      case round =>
        clear hown1 hB1
        obtain ⟨hB, hrel⟩ := hrel
        obtain ⟨e1, e2⟩ := CB.out _ hB
        have hsz := hB.size
        rcases hrel with ⟨rfl, hown⟩ | ⟨rfl, hown⟩ | ⟨rfl, hown⟩
        · have hr1 := h1.keeps (Keeps.below hB)
          clear CB
          go_wp2_with (at_builtin; refine wpList_append_row rfl _ _ 248 Tryz.underlying248 rfl w.heap.size _ _ _ rfl hown _ ys1 rfl hr1 ho1 (by omega) hsz ?_; intro v' w' hown' hgrow')
          exact ⟨⟨own_kept hown hgrow' hB hsz, .inr (.inl ⟨rfl, by simpa using hown'⟩)⟩, by simp [intOf]⟩
        · have hr2 := h2.keeps (Keeps.below hB)
          clear CB
          go_wp2_with (at_builtin; refine wpList_append_row rfl _ _ 248 Tryz.underlying248 rfl w.heap.size _ _ _ rfl hown _ ys2 rfl hr2 ho2 (by omega) hsz ?_; intro v' w' hown' hgrow')
          exact ⟨⟨own_kept hown hgrow' hB hsz, .inr (.inr ⟨rfl, hown'⟩)⟩, by simp [intOf]⟩
        · clear CB
          go_wp2_with fail
          go_ret
          exact ⟨_, rfl, IsRow.of_own hown, hB⟩
end Go.Proofs.YtpekpdimdelncaaGreatDoor
namespace Go.Proofs.YtpekpdimdelncaaGreatDoor
set_option maxRecDepth 100000
set_option maxHeartbeats 800000
open Go.RowKit
attribute [local go_sem] ta_nn ta_wn ta_ln ta_nw ta_ww ta_lw ta_nl ta_wl ta_ll
theorem plus_kind {v u : Lard.V} (h : (∃ i, v = Lard.vn i) ∧ (∀ j, u ≠ Lard.vn j) ∨ (∃ b, v = Lard.vw b) ∧ (∀ b, u ≠ Lard.vw b) ∨ (∃ l, v = Lard.vl l) ∧ (∀ l, u ≠ Lard.vl l)) : Lard.plus v u = .error 9 := by
  rcases u with ⟨j | b | m⟩
  all_goals rcases h with ⟨⟨i, rfl⟩, h⟩ | ⟨⟨a, rfl⟩, h⟩ | ⟨⟨l, rfl⟩, h⟩
  all_goals first | rfl | exact absurd rfl (h _)
theorem Vals.up {w : World} {n : Nat} {l : List Lard.V} {ys : List Value} (h : Vals w n l ys) : Vals w (n + 1) l ys :=
  ⟨h.1, fun i u y hu hy => (h.2 i u y hu hy).up⟩
theorem Vals.append {w : World} {n : Nat} {l m : List Lard.V} {ys zs : List Value} (h : Vals w n l ys) (h' : Vals w n m zs) : Vals w n (l ++ m) (ys ++ zs) := by
  refine ⟨by simp [h.1, h'.1], fun i u y hu hy => ?_⟩
  rcases Nat.lt_or_ge i l.length with hi | hi
  · rw [List.getElem?_append_left hi] at hu
    rw [List.getElem?_append_left (by rw [← h.1]; exact hi)] at hy
    exact h.2 i u y hu hy
  · rw [List.getElem?_append_right hi] at hu
    rw [List.getElem?_append_right (by rw [← h.1]; exact hi), ← h.1] at hy
    exact h'.2 _ u y hu hy
theorem plus_any {v u : Lard.V} {x y : Value} (w : World) (hx : IsVal w 3 v x) (hy : IsVal w 3 u y) :
    Calls Tryz.prog 303 #[.agg #[x, y]] w (PV w (Lard.plus v u)) := by
  have hB0 : ∀ o, Below w.heap.size w (w.alloc o) := fun o => (Below.refl _ _).alloc (Nat.le_refl _) _
  rcases hx.forms with ⟨i, rfl, rfl, hi⟩ | ⟨b, rfl, rfl, hb⟩ | ⟨m, l, s, ys, hm, rfl, rfl, hr, hl, h12, hv⟩
  · rcases hy.num_or with ⟨j, rfl, rfl, hj⟩ | ⟨hn, t, a, rfl, ht⟩
    · clear hx hy
      show Calls _ _ _ _ (PV w (.ok (Lard.vn (Lard.wrap (i + j)))))
      go_enter Tryz.func303, Tryz.ntmps303
      go_wp2_with (go_at_call 280; refine (numberIn_ok _ _).mono ?_; rintro e w2 ⟨rfl, rfl⟩)
      go_ret
      exact PV.num (hB0 _) (by rw [wrapE]) (wrap_in _).1 (wrap_in _).2
    · rw [plus_kind (.inl ⟨⟨_, rfl⟩, hn⟩)]
      clear hx hy hn
      go_enter Tryz.func303, Tryz.ntmps303
      go_wp2_with fail
      refine (numberIn_no _ _ _ ht).mono ?_
      rintro e w2 ⟨rfl, rfl⟩
      exact ⟨rfl, PV.err (hB0 _)⟩
  · rcases hy.forms with ⟨j, rfl, rfl, hj⟩ | ⟨c, rfl, rfl, hc⟩ | ⟨m, l, s, ys, hm, rfl, rfl, hr, hl, h12, hv⟩
    · rw [plus_kind (.inr (.inl ⟨⟨_, rfl⟩, fun b h => (by cases h)⟩))]
      clear hx hy
      go_enter Tryz.func303, Tryz.ntmps303
      go_wp2_with fail
      exact ⟨rfl, PV.err (hB0 _)⟩
    · clear hx hy
      by_cases h30 : 30 < b.size + c.size
      · have hres : Lard.plus (Lard.vw b.data.toList) (Lard.vw c.data.toList) = .error 10 := by
          simp only [Lard.plus, Lard.vw, len_data]; rw [if_pos h30]
        rw [hres]
        go_enter Tryz.func303, Tryz.ntmps303
        go_wp2_with fail
        refine (join_no _ _ _ hb hc h30).mono ?_
        rintro e w2 ⟨rfl, rfl⟩
        exact ⟨rfl, PV.err (hB0 _)⟩
      · have hres : Lard.plus (Lard.vw b.data.toList) (Lard.vw c.data.toList) = .ok (Lard.vw (b.data.toList ++ c.data.toList)) := by
          simp only [Lard.plus, Lard.vw, len_data]; rw [if_neg h30]
        rw [hres]
        go_enter Tryz.func303, Tryz.ntmps303
        go_wp2_with (go_at_call 314; refine (join_ok _ _ _ (by omega)).mono ?_; rintro e w2 ⟨rfl, rfl⟩)
        go_ret
        exact PV.word (hB0 _) (by simp) (by simp; omega)
    · rw [plus_kind (.inr (.inl ⟨⟨_, rfl⟩, fun b h => (by cases h)⟩))]
      clear hx hy
      go_enter Tryz.func303, Tryz.ntmps303
      go_wp2_with fail
      exact ⟨rfl, PV.err (hB0 _)⟩
  · obtain ⟨o, c, rfl⟩ := hr.len
    rcases hy.forms with ⟨j, rfl, rfl, hj⟩ | ⟨c, rfl, rfl, hc⟩ | ⟨m2, l2, s2, ys2, hm2, rfl, rfl, hr2, hl2, h122, hv2⟩
    · rw [plus_kind (.inr (.inr ⟨⟨_, rfl⟩, fun b h => (by cases h)⟩))]
      clear hx hy hv
      go_enter Tryz.func303, Tryz.ntmps303
      go_wp2_with fail
      refine (listIn_no _ _ _ (.inr rfl)).mono ?_
      rintro e w2 ⟨rfl, rfl⟩
      exact ⟨rfl, PV.err (hB0 _)⟩
    · rw [plus_kind (.inr (.inr ⟨⟨_, rfl⟩, fun b h => (by cases h)⟩))]
      clear hx hy hv
      go_enter Tryz.func303, Tryz.ntmps303
      go_wp2_with fail
      refine (listIn_no _ _ _ (.inl rfl)).mono ?_
      rintro e w2 ⟨rfl, rfl⟩
      exact ⟨rfl, PV.err (hB0 _)⟩
    · obtain ⟨o2, c2, rfl⟩ := hr2.len
      obtain rfl : m = 2 := by omega
      obtain rfl : m2 = 2 := by omega
      show Calls _ _ _ _ (PV w (Lard.listOf (l ++ l2)))
      generalize hres : Lard.listOf (l ++ l2) = res
      have HRES := hide hres
      clear hres
      go_enter Tryz.func303, Tryz.ntmps303
      go_wp2_with (go_at_call 278; refine (listIn_ok _ _ _ _).mono ?_; rintro e w2 ⟨rfl, rfl⟩)
      generalize hwx : (w.alloc (Obj.cells #[Value.iface 248 (Value.slice o ys.length c), Value.iface 248 (Value.slice o2 ys2.length c2)] 370)) = wx
      have hBx : Below w.heap.size w wx := by rw [← hwx]; exact hB0 _
      have hszx : wx.heap.size = w.heap.size + 1 := by rw [← hwx]; simp
      have hB1 : Below w.heap.size w (wx.alloc (Obj.cells #[Value.slice o ys.length c, Value.slice o2 ys2.length c2] 248)) := hBx.alloc (by omega) _
      have hk1 := Keeps.below hB1
      refine (concat_any _ _ ys ys2 (w.heap.size + 1) (0, 0) _ (by rw [← hszx]; exact heap_alloc_new wx _) (hr.keeps hk1) (hr2.keeps hk1) (by omega) (by omega) (Vals.one ⟨hl, hv⟩) (Vals.one ⟨hl2, hv2⟩)).mono ?_
      rintro e w2 ⟨v3, rfl, hr3, hB2⟩
      have hBw : Below w.heap.size w w2 := hB1.trans (hB2.mono (by simp; omega))
      have hvals : Vals w2 3 (l ++ l2) (ys ++ ys2) := Vals.append (Vals.up (Vals.keeps ⟨hl, hv⟩ (Keeps.below hBw))) (Vals.up (Vals.keeps ⟨hl2, hv2⟩ (Keeps.below hBw)))
      have hcall := listOf_any (l ++ l2) v3 (ys ++ ys2) w2 hr3 hvals (by simp; omega)
      obtain ⟨o3, c3, rfl⟩ := hr3.len
      rw [List.length_append, HRES.out] at hcall
      have HC := hide hcall
      clear hcall hvals hr3 hB2 hk1 hB1 hv hv2 hx hy hr hr2
      go_wp2_with fail
      refine HC.out.mono ?_
      rintro e w3 ⟨hB3, hok, herr⟩
      have hB' : Below w.heap.size w w3 := hBw.trans (hB3.mono hBw.size)
      cases res with
      | error c => 
        obtain rfl := herr c rfl
        exact ⟨rfl, PV.err hB'⟩
      | ok v =>
        obtain ⟨o4, n4, c4, rfl, hval⟩ := hok v rfl
        have HV := hide hval
        clear hval hok herr HC
        go_wp2_with fail
        go_ret
        exact PV.ok hB' HV.out
end Go.Proofs.YtpekpdimdelncaaGreatDoor
namespace Go.Proofs.YtpekpdimdelncaaGreatDoor
set_option maxRecDepth 100000
set_option maxHeartbeats 800000
open Go.RowKit
attribute [local go_sem] ta_nn ta_wn ta_ln ta_nw ta_ww ta_lw ta_nl ta_wl ta_ll
theorem drop_cons {α : Type} {l : List α} {k : Nat} {u : α} (h : l[k]? = some u) : l.drop k = u :: l.drop (k + 1) := by
  obtain ⟨hk, rfl⟩ := List.getElem?_eq_some_iff.1 h
  exact List.drop_eq_getElem_cons hk
def EqSays (n : Nat) : Prop :=
  ∀ (v u : Lard.V) (x y : Value) (m : Nat) (w : World), IsVal w n v x → IsVal w m u y →
    Calls Tryz.prog 200 #[x, y] w fun e w' => e = .returned (.bool (Lard.same n v u)) ∧ w' = w
def sameAll (n : Nat) (l m : List Lard.V) : Bool := (l.zip m).all fun p => Lard.same n p.1 p.2
theorem equalFunc_any (n : Nat) (ih : EqSays n) (l1 l2 : List Lard.V) (s1 s2 : Value) (ys1 ys2 : List Value) (m : Nat) (w : World) (h1 : IsRow w s1 ys1) (h2 : IsRow w s2 ys2) (hv1 : Vals w n l1 ys1) (hv2 : Vals w m l2 ys2) (hn2 : l2.length ≤ 12) :
    Calls Tryz.prog 243 #[s1, s2, .func (.func 200) #[] #[]] w fun e w' => e = .returned (.bool (l1.length == l2.length && sameAll n l1 l2)) ∧ w' = w := by
  obtain ⟨o1, c1, rfl⟩ := h1.len
  obtain ⟨o2, c2, rfl⟩ := h2.len
  have hl1 := hv1.1
  have hl2 := hv2.1
  have IH := hide ih
  clear ih
  by_cases hle : l1.length = l2.length
  · have hb : (l1.length == l2.length) = true := by simp [hle]
    rw [hb, Bool.true_and]
    generalize hfin : sameAll n l1 l2 = fin
    have HF := hide hfin
    clear hfin hb
    have hle2 : (ys1.length : Int) = (ys2.length : Int) := by omega
    go_enter Tryz.func243, Tryz.ntmps243
    go_wp2_with fail
    go_loop [17] (fun i => ∃ k : Nat, k ≤ l1.length ∧ i = .int .i64 k ∧ Hid (sameAll n (l1.drop k) (l2.drop k) = fin)) (fun i => ys2.length - (intOf i).toNat)
    case atStart => exact ⟨0, Nat.zero_le _, rfl, HF⟩
    case round =>
      obtain ⟨k, hk, rfl, HR⟩ := hrel
      by_cases hlt : k < l1.length
      · obtain ⟨u1, hu1⟩ : ∃ u, l1[k]? = some u := ⟨_, List.getElem?_eq_getElem hlt⟩
        obtain ⟨u2, hu2⟩ : ∃ u, l2[k]? = some u := ⟨_, List.getElem?_eq_getElem (by omega)⟩
        obtain ⟨y1, hy1⟩ : ∃ u, ys1[k]? = some u := ⟨_, List.getElem?_eq_getElem (by omega)⟩
        obtain ⟨y2, hy2⟩ : ∃ u, ys2[k]? = some u := ⟨_, List.getElem?_eq_getElem (by omega)⟩
        obtain ⟨b1, rfl, e1⟩ := h1.cell hy1
        obtain ⟨b2, rfl, e2⟩ := h2.cell hy2
        have hc := IH.out u1 u2 y1 y2 m w (hv1.2 k _ _ hu1 hy1) (hv2.2 k _ _ hu2 hy2)
        have hR := HR.out
        have hstep : sameAll n (l1.drop k) (l2.drop k) = (Lard.same n u1 u2 && sameAll n (l1.drop (k + 1)) (l2.drop (k + 1))) := by
          rw [drop_cons hu1, drop_cons hu2]; rfl
        rw [hstep] at hR
        obtain ⟨t1, a1, rfl⟩ := (hv1.2 k _ _ hu1 hy1).one
        obtain ⟨t2, a2, rfl⟩ := (hv2.2 k _ _ hu2 hy2).one
        have hlt1 : (k : Int) < (ys1.length : Int) := by omega
        have hlt2 : (k : Int) < (ys2.length : Int) := by omega
        generalize Lard.same n u1 u2 = q at hc hR
        have HC := hide hc
        clear hc hstep HR HF hv1 hv2 h1 h2 hu1 hu2 hy1 hy2
        cases q with
        | true =>
          have HR' : Hid (sameAll n (l1.drop (k + 1)) (l2.drop (k + 1)) = fin) := hR
          clear hR
          go_wp2_with (go_at_call 200; refine HC.out.mono ?_; rintro e w2 ⟨rfl, rfl⟩)
          exact ⟨⟨k + 1, by omega, by go_num, HR'⟩, by simp [intOf]; omega⟩
        | false =>
          have hR' : fin = false := hR.symm
          subst hR'
          clear hR
          go_wp2_with (go_at_call 200; refine HC.out.mono ?_; rintro e w2 ⟨rfl, rfl⟩)
          go_ret
          exact ⟨rfl, rfl⟩
      · have hR := HR.out
        rw [List.drop_eq_nil_of_le (by omega)] at hR
        have hR' : fin = true := hR.symm
        subst hR'
        clear hR HR HF
        go_wp2_with fail
        go_ret
        exact ⟨rfl, rfl⟩
  · have hb : (l1.length == l2.length) = false := by simp [hle]
    rw [hb, Bool.false_and]
    have hle2 : ¬ (ys1.length : Int) = (ys2.length : Int) := by omega
    go_enter Tryz.func243, Tryz.ntmps243
    go_wp2_with fail
    go_ret
    exact ⟨rfl, rfl⟩
theorem equal_step (n : Nat) (ih : ∀ m, n = m + 1 → EqSays m) : EqSays n := by
  intro v u x y m w hx hy
  rcases hx.forms with ⟨i, rfl, rfl, hi⟩ | ⟨b, rfl, rfl, hb⟩ | ⟨k, l, s, ys, rfl, rfl, rfl, hr, hl, h12, hv⟩
  · rcases hy.forms with ⟨j, rfl, rfl, hj⟩ | ⟨c, rfl, rfl, hc⟩ | ⟨m2, l2, s2, ys2, rfl, rfl, rfl, hr2, hl2, h122, hv2⟩
    · have hres : Lard.same n (Lard.vn i) (Lard.vn j) = (i == j) := by cases n <;> rfl
      rw [hres]
      clear hx hy ih hres
      go_enter Tryz.func200, Tryz.ntmps200
      go_wp2_with fail
      go_ret
      exact ⟨rfl, rfl⟩
    · have hres : Lard.same n (Lard.vn i) (Lard.vw c.data.toList) = false := by cases n <;> rfl
      rw [hres]
      clear hx hy ih hres
      go_enter Tryz.func200, Tryz.ntmps200
      go_wp2_with fail
      go_ret
      exact ⟨rfl, rfl⟩
    · have hres : Lard.same n (Lard.vn i) (Lard.vl l2) = false := by cases n <;> rfl
      rw [hres]
      clear hx hy ih hres
      go_enter Tryz.func200, Tryz.ntmps200
      go_wp2_with fail
      go_ret
      exact ⟨rfl, rfl⟩
  · rcases hy.forms with ⟨j, rfl, rfl, hj⟩ | ⟨c, rfl, rfl, hc⟩ | ⟨m2, l2, s2, ys2, rfl, rfl, rfl, hr2, hl2, h122, hv2⟩
    · have hres : Lard.same n (Lard.vw b.data.toList) (Lard.vn j) = false := by cases n <;> rfl
      rw [hres]
      clear hx hy ih hres
      go_enter Tryz.func200, Tryz.ntmps200
      go_wp2_with fail
      go_ret
      exact ⟨rfl, rfl⟩
    · have hres : Lard.same n (Lard.vw b.data.toList) (Lard.vw c.data.toList) = (b.toList == c.toList) := by
        rw [Lib.toList_data, Lib.toList_data]; cases n <;> rfl
      rw [hres]
      clear hx hy ih hres
      go_enter Tryz.func200, Tryz.ntmps200
      go_wp2_with fail
      go_ret
      exact ⟨rfl, rfl⟩
    · have hres : Lard.same n (Lard.vw b.data.toList) (Lard.vl l2) = false := by cases n <;> rfl
      rw [hres]
      clear hx hy ih hres
      go_enter Tryz.func200, Tryz.ntmps200
      go_wp2_with fail
      go_ret
      exact ⟨rfl, rfl⟩
  · obtain ⟨o, c, rfl⟩ := hr.len
    rcases hy.forms with ⟨j, rfl, rfl, hj⟩ | ⟨c2, rfl, rfl, hc⟩ | ⟨m2, l2, s2, ys2, rfl, rfl, rfl, hr2, hl2, h122, hv2⟩
    · have hres : Lard.same (k + 1) (Lard.vl l) (Lard.vn j) = false := rfl
      rw [hres]
      clear hx hy ih hres
      go_enter Tryz.func200, Tryz.ntmps200
      go_wp2_with fail
      go_ret
      exact ⟨rfl, rfl⟩
    · have hres : Lard.same (k + 1) (Lard.vl l) (Lard.vw c2.data.toList) = false := rfl
      rw [hres]
      clear hx hy ih hres
      go_enter Tryz.func200, Tryz.ntmps200
      go_wp2_with fail
      go_ret
      exact ⟨rfl, rfl⟩
    · have hres : Lard.same (k + 1) (Lard.vl l) (Lard.vl l2) = (l.length == l2.length && sameAll k l l2) := rfl
      rw [hres]
      have hc := equalFunc_any k (ih k rfl) l l2 _ s2 ys ys2 m2 w hr hr2 ⟨hl, hv⟩ ⟨hl2, hv2⟩ h122
      obtain ⟨o2, c2, rfl⟩ := hr2.len
      generalize (l.length == l2.length && sameAll k l l2) = q at hc ⊢
      have HC := hide hc
      clear hx hy ih hres hc hv hv2
      go_enter Tryz.func200, Tryz.ntmps200
      go_wp2_with (go_at_call 243; refine HC.out.mono ?_; rintro e w2 ⟨rfl, rfl⟩)
      go_ret
      exact ⟨rfl, rfl⟩
theorem equal_any : ∀ n, EqSays n
  | 0 => equal_step 0 (fun m hm => (by omega))
  | n + 1 => equal_step (n + 1) (fun m hm => by obtain rfl : n = m := by omega
                                                exact equal_any n)
theorem same_any {v u : Lard.V} {x y : Value} (w : World) (hx : IsVal w 3 v x) (hy : IsVal w 3 u y) :
    Calls Tryz.prog 308 #[.agg #[x, y]] w (PV w (.ok (Lard.bit (Lard.same 3 v u)))) := by
  have hB0 : ∀ o, Below w.heap.size w (w.alloc o) := fun o => (Below.refl _ _).alloc (Nat.le_refl _) _
  have hc := fun o => equal_any 3 v u x y 3 (w.alloc o) (hx.keeps (Keeps.below (hB0 o))) (hy.keeps (Keeps.below (hB0 o)))
  obtain ⟨t1, a1, rfl⟩ := hx.one
  obtain ⟨t2, a2, rfl⟩ := hy.one
  have HC := hide hc
  clear hc hx hy
  generalize Lard.same 3 v u = q at HC ⊢
  cases q
  all_goals
    go_enter Tryz.func308, Tryz.ntmps308
    go_wp2_with fail
    refine (HC.out _).mono ?_
    rintro e w2 ⟨rfl, rfl⟩
    go_wp2_with (go_at_call 317; refine (truth_any _ _).mono ?_; rintro e w2 ⟨rfl, rfl⟩)
    go_ret
    exact PV.num (hB0 _) rfl (by decide) (by decide)
end Go.Proofs.YtpekpdimdelncaaGreatDoor
