/- Out of: L6, L7, L8. -/
import Derived.Test.YtpekpdimdelncaaGreatDoorP17
import Derived.Test.YtpekpdimdelncaaGreatDoorShelf2
import Derived.Shelf.Strings.Builder1
import Derived.Test.YtpekpdimdelncaaGreatDoorShelf3
namespace Go.Proofs.YtpekpdimdelncaaGreatDoor
set_option maxRecDepth 100000
set_option maxHeartbeats 1000000
open Go.RowKit Go.Shelf
set_option linter.unusedVariables false
set_option linter.unusedSimpArgs false
theorem line_len (t : List UInt8) : (Lard.line t).length = t.length + 10 := by
  simp [Lard.line, Lard.hex8]
theorem Deb.below {B : Nat} {w w' : World} (h : Deb w) (hB : Below B w w') (h8 : 8 ≤ B) : Deb w' := by
  unfold Deb at h ⊢
  rw [← h]
  exact World.cell?_of_block (hB.block _ (by show 7 < _; omega))
theorem frm_deb {w w' : World} {lb : Nat} {s : Lard.LS} {L : Nat → Prop} (h : LAt w lb s L) (hf : Frm L w w') (g : G w) (hd : Deb w) : Deb w' := by
  obtain ⟨hb, db, vb, vr, vn, vj, h⟩ := h
  have hB : Below 8 w w' := ⟨hf.os, hf.tape, hf.output, hf.size, fun k hk => hf.block k (Nat.lt_of_lt_of_le hk g.size) (fun hl => by have := (h.typed k hl).1; omega)⟩
  exact hd.below hB (Nat.le_refl _)
theorem write_any (w : World) (lb : Nat) (s : Lard.LS) (L : Nat → Prop) (t : ByteArray) (h : LAt w lb s L) (g : G w) (hd : Deb w) (ht : t.size ≤ 140737488355328) (hj : (jbytes (s.jr ++ [t.data.toList])).length ≤ 140737488355328) :
    Calls Tryz.prog 59 #[ptr lb, .string t] w fun e w' => e = .returned (.tuple #[]) ∧ LPost w lb L (s.write t.data.toList) w' := by
  obtain ⟨hb, db, vb, vr, vn, vj, h⟩ := h
  have c5 : w.cell? ⟨lb, 5, none⟩ = some vj := by simp [World.cell?, h.blk]
  have hlt : lb < w.heap.size := lt_of_some h.blk
  have hof := fun (w0 : World) (hB : Below w.heap.size w w0) => of_line t w0 ht (hd.below hB g.size) (Nat.le_trans g.size hB.size)
  have hfin : ∀ (w1 : World), Below w.heap.size w w1 → ∃ g' cap w2, (Builtin.append_ #[106, 9] 106 #[vj, str (Lard.line t.data.toList)]).run Tryz.prog w1 = .ok (.slice (some ⟨g', 0, none⟩) (jbytes (s.jr ++ [t.data.toList])).length cap) w2 ∧ (∃ v, w2.cell? ⟨lb, 5, none⟩ = some v) ∧ w2.frozen? ⟨lb, 5, none⟩ = false ∧ LPost w lb L (s.write t.data.toList) (w2.setCell ⟨lb, 5, none⟩ (.slice (some ⟨g', 0, none⟩) (jbytes (s.jr ++ [t.data.toList])).length cap)) := by
    intro w1 hB
    have h1 : LP w1 lb s L hb db vb vr vn vj := h.st (fun k hk => hB.block k (h.lt hk)) (Stay.below hB)
    have hsz : (⟨(Lard.line t.data.toList).toArray⟩ : ByteArray).size = (Lard.line t.data.toList).length := by show (Lard.line t.data.toList).toArray.size = _; simp
    have hlen : (jbytes (s.jr ++ [t.data.toList])).length = (jbytes s.jr).length + (⟨(Lard.line t.data.toList).toArray⟩ : ByteArray).size := by rw [jbytes_snoc, List.length_append, hsz]
    have hl10 := line_len t.data.toList
    obtain ⟨g', cap, w2, hr, ho, hg, hl, hold⟩ := append_lies w1 106 vj _ _ h1.jr ⟨(Lard.line t.data.toList).toArray⟩ (by omega) (by omega) (Nat.le_trans g.size hB.size)
    rw [strCells_append, ← jbytes_snoc, ← hlen] at ho
    rw [← hlen] at hr
    have hblk2 := (Tn.mk (e0 := 5) hg (fun b hb => row_typed h1.jr hb)).cells h1.blk (by decide)
    refine ⟨g', cap, w2, hr, ⟨vj, by simp [World.cell?, hblk2]⟩, by simp [World.frozen?, hblk2], ?_⟩
    obtain ⟨L', k1, k2, k3, k4⟩ := h1.write (g.below hB g.size) t.data.toList hg rfl ho hl hold
    refine ⟨L', k1, fun k hk => ?_, k3, (Frw.below hB).trans k4 (fun k hk => .inl hk) (fun k hk => hk)⟩
    rcases k2 k hk with h | h
    · exact .inl h
    · have := hB.size
      exact .inr (by omega)
  have HOF := hide hof
  have HFIN := hide hfin
  clear hof hfin h
  unfold ptr
  go_enter Tryz.func59, Tryz.ntmps59
  go_wp2_with fail
  refine wp_region_held_drew (S := fun _ => True) (by kernel_rfl) trivial (fun hHeld => ?_)
  refine wpAnyH_take (i := 0) (v := ?_) rfl (by kernel_rfl) (by kernel_rfl) (by kernel_rfl) (fun _ _ _ h => h) (Or.inl ⟨by rfl, ?_⟩) trivial ?_
  rotate_left
  · intro w' s0
    go_simp
    try with_reducible rfl
  simp only [Act.put, List.setIfInBounds_toArray, List.set_cons_zero, List.set_cons_succ]
  refine wpAnyH_take (i := 1) (v := ?_) rfl (by kernel_rfl) (by kernel_rfl) (by kernel_rfl) (fun _ _ _ h => h) (Or.inl ⟨by rfl, ?_⟩) trivial ?_
  rotate_left
  · intro w' s0
    go_simp
    try with_reducible rfl
  simp only [Act.put, List.setIfInBounds_toArray, List.set_cons_zero, List.set_cons_succ]
  refine wpAnyH_take (i := 2) (v := ?_) rfl (by kernel_rfl) (by kernel_rfl) (by kernel_rfl) (fun _ _ _ h => h) (Or.inl ⟨by rfl, ?_⟩) trivial ?_
  rotate_left
  · intro w' s0
    go_simp
    try with_reducible rfl
  simp only [Act.put, List.setIfInBounds_toArray, List.set_cons_zero, List.set_cons_succ]
  refine wpAnyH_take (i := 3) (v := ?_) rfl (by kernel_rfl) (by kernel_rfl) (by kernel_rfl) (fun _ _ _ h => h) (Or.inl ⟨by rfl, ?_⟩) trivial ?_
  rotate_left
  · intro w' s0
    go_simp
    try with_reducible rfl
  simp only [Act.put, List.setIfInBounds_toArray, List.set_cons_zero, List.set_cons_succ]
  refine wpAnyH_take (i := 5) (v := ?_) rfl (by kernel_rfl) (by kernel_rfl) (by kernel_rfl) (fun _ _ _ h => h) (Or.inl ⟨by rfl, ?_⟩) trivial ?_
  rotate_left
  · intro w' s0
    go_simp
    try with_reducible rfl
  simp only [Act.put, List.setIfInBounds_toArray, List.set_cons_zero, List.set_cons_succ]
  have hBd : Below w.heap.size w w.drew := (Below.refl _ w).drew
  have d5 : w.drew.cell? ⟨lb, 5, none⟩ = some vj := c5
  refine wpAnyH_ready (rs := [4, 6]) (by kernel_rfl) (by simp) ?_
  refine AllReadyH.cons rfl (fun K hK => ?_) (AllReadyH.cons rfl (fun K hK => ?_) AllReadyH.nil)
  · go_simp
    refine hK.out _ _ trivial (fun _ => ?_)
    clear hK
    refine wpAnyH_ready (rs := [6]) (by kernel_rfl) (by simp) ?_
    refine AllReadyH.cons rfl (fun K hK => ?_) AllReadyH.nil
    go_simp
    refine (HOF.out _ hBd).mono ?_
    rintro e w1 ⟨rfl, hB1⟩
    have hB : Below w.heap.size w w1 := hBd.trans (hB1.mono (by simp))
    refine hK.out _ _ trivial (fun _ => ?_)
    clear hK
    try clear e5
    clear d5
    obtain ⟨g', cap, w2, hr, ⟨v, hv⟩, hz, hP⟩ := HFIN.out w1 hB
    have HP := hide hP
    clear hP HFIN HOF hHeld hB1 hB hBd c5
    refine wpAnyH_ready (rs := [7]) (by kernel_rfl) (by simp) ?_
    refine AllReadyH.cons rfl (fun K hK => ?_) AllReadyH.nil
    refine step_run_append rfl (.tmp 8) (.tmp 10) 106 9 rfl _ _ _ _ rfl rfl hr ?_
    simp only [Act.put, List.setIfInBounds_toArray, List.set_cons_zero, List.set_cons_succ]
    refine hK.out _ _ trivial (fun _ => ?_)
    clear hK hr
    refine wpAnyH_ready (rs := [8]) (by kernel_rfl) (by simp) ?_
    refine AllReadyH.cons rfl (fun K hK => ?_) AllReadyH.nil
    go_simp
    refine hK.out _ _ trivial (fun _ => ?_)
    clear hK
    refine wpAnyH_ready (rs := [9]) (by kernel_rfl) (by simp) ?_
    refine AllReadyH.cons rfl (fun K hK => ?_) AllReadyH.nil
    go_simp
    refine hK.out _ _ trivial (fun _ => ?_)
    clear hK
    refine wpAnyH_ready (rs := [10]) (by kernel_rfl) (by simp) ?_
    refine AllReadyH.cons rfl (fun K hK => ?_) AllReadyH.nil
    go_simp
    refine hK.out _ _ trivial (fun _ => ?_)
    clear hK
    refine wpAnyH_done (by kernel_rfl) ?_ _
    go_wp2_with fail
    go_end0
    exact ⟨rfl, HP.out⟩
  · go_simp
    refine (HOF.out _ hBd).mono ?_
    rintro e w1 ⟨rfl, hB1⟩
    have hB : Below w.heap.size w w1 := hBd.trans (hB1.mono (by simp))
    have e5 : w1.cell? ⟨lb, 5, none⟩ = some vj := (hB.cell (p := ⟨lb, 5, none⟩) hlt).trans c5
    refine hK.out _ _ trivial (fun _ => ?_)
    clear hK
    refine wpAnyH_ready (rs := [4]) (by kernel_rfl) (by simp) ?_
    refine AllReadyH.cons rfl (fun K hK => ?_) AllReadyH.nil
    go_simp
    refine hK.out _ _ trivial (fun _ => ?_)
    clear hK
    try clear e5
    clear d5
    obtain ⟨g', cap, w2, hr, ⟨v, hv⟩, hz, hP⟩ := HFIN.out w1 hB
    have HP := hide hP
    clear hP HFIN HOF hHeld hB1 hB hBd c5
    refine wpAnyH_ready (rs := [7]) (by kernel_rfl) (by simp) ?_
    refine AllReadyH.cons rfl (fun K hK => ?_) AllReadyH.nil
    refine step_run_append rfl (.tmp 8) (.tmp 10) 106 9 rfl _ _ _ _ rfl rfl hr ?_
    simp only [Act.put, List.setIfInBounds_toArray, List.set_cons_zero, List.set_cons_succ]
    refine hK.out _ _ trivial (fun _ => ?_)
    clear hK hr
    refine wpAnyH_ready (rs := [8]) (by kernel_rfl) (by simp) ?_
    refine AllReadyH.cons rfl (fun K hK => ?_) AllReadyH.nil
    go_simp
    refine hK.out _ _ trivial (fun _ => ?_)
    clear hK
    refine wpAnyH_ready (rs := [9]) (by kernel_rfl) (by simp) ?_
    refine AllReadyH.cons rfl (fun K hK => ?_) AllReadyH.nil
    go_simp
    refine hK.out _ _ trivial (fun _ => ?_)
    clear hK
    refine wpAnyH_ready (rs := [10]) (by kernel_rfl) (by simp) ?_
    refine AllReadyH.cons rfl (fun K hK => ?_) AllReadyH.nil
    go_simp
    refine hK.out _ _ trivial (fun _ => ?_)
    clear hK
    refine wpAnyH_done (by kernel_rfl) ?_ _
    go_wp2_with fail
    go_end0
    exact ⟨rfl, HP.out⟩
end Go.Proofs.YtpekpdimdelncaaGreatDoor
namespace Go.Proofs.YtpekpdimdelncaaGreatDoor
set_option maxRecDepth 100000
set_option maxHeartbeats 1000000
open Go.RowKit Go.Shelf
set_option linter.unusedVariables false
theorem bSize : (Tryz.prog.info? 188).map (·.size) = some 2 := by kernel_rfl
theorem bLies : liesAt Tryz.prog Tryz.prog.depth 188 (2 / Tryz.prog.cellsOf 188) 0 188 1 = true := by kernel_rfl
theorem copyCheck_used (w : World) (b : Nat) (h0 : w.cell? ⟨b, 0, none⟩ = some (.pointer (some ⟨b, 0, none⟩))) :
    Calls Tryz.prog 139 #[.pointer (some ⟨b, 0, none⟩)] w fun e w' => e = .returned (.tuple #[]) ∧ w' = w := by
  obtain ⟨j, hj, _⟩ := Option.map_eq_some_iff.1 bSize
  go_enter Tryz.func139, Tryz.ntmps139
  go_wp2
  rw [Lib.run_neq_ptr_same w _ Tryz.underlying186 hj]
  go_wp2
  go_end0
  exact ⟨rfl, rfl⟩
theorem copyCheck_new (w : World) (b : Nat) (h0 : w.cell? ⟨b, 0, none⟩ = some (.pointer none)) (hsh : w.shape? b = some (188, 2)) (hfz : w.frozen? ⟨b, 0, none⟩ = false) :
    Calls Tryz.prog 139 #[.pointer (some ⟨b, 0, none⟩)] w fun e w' => e = .returned (.tuple #[]) ∧ w' = w.setCell ⟨b, 0, none⟩ (.pointer (some ⟨b, 0, none⟩)) := by
  obtain ⟨j, hj, hjs⟩ := Option.map_eq_some_iff.1 bSize
  go_enter Tryz.func139, Tryz.ntmps139
  go_wp2
  rw [Lib.run_to_unsafe w ⟨b, 0, none⟩ Tryz.underlying186 Tryz.underlying274 hj (by rw [hjs]; decide) hsh (Nat.zero_lt_succ 1)]
  simp only [Result.andThen]
  rw [Oper.upon_value]
  go_wp2
  rw [run_callFunc_extern Tryz.func188 (by kernel_rfl) (by kernel_rfl) (by kernel_rfl) (e := Extern.AbiNoEscape.same) (by kernel_rfl)]
  rw [Lib.run_noEscape]
  simp only [Result.andThen]
  rw [Oper.upon_value]
  go_wp2
  rw [Lib.run_from_unsafe w ⟨b, 0, none⟩ Tryz.underlying274 Tryz.underlying186 hj hsh bLies]
  simp only [Result.andThen]
  rw [Oper.upon_value]
  go_wp2
  go_end0
  exact ⟨rfl, rfl⟩
def Bld (B b : Nat) (l : List UInt8) (w : World) : Prop := Lib.IsBuilder 188 5 B b (Lib.byteCells l) w
theorem copyCheck_any (B b : Nat) (l : List UInt8) (w : World) (h : Bld B b l w) :
    Calls Tryz.prog 139 #[.pointer (some ⟨b, 0, none⟩)] w fun e w' => e = .returned (.tuple #[]) ∧ (Lib.BuilderAt 188 5 B b (.pointer (some ⟨b, 0, none⟩)) (Lib.byteCells l) w' ∧ Below B w w' ∧ ∀ k, k ≠ b → w'.heap[k]? = w.heap[k]?) := by
  rcases h with h | h
  · refine (copyCheck_new w b h.cell0 h.shape h.frozen0).mono ?_
    rintro e w' ⟨rfl, rfl⟩
    exact ⟨rfl, h.used _, (Below.refl B w).setCell (p := ⟨b, 0, none⟩) h.1 _, fun k hk => Below.heap_setCell w ⟨b, 0, none⟩ _ k hk⟩
  · refine (copyCheck_used w b h.cell0).mono ?_
    rintro e w' ⟨rfl, rfl⟩
    exact ⟨rfl, h, Below.refl B _, fun _ _ => rfl⟩
theorem writeString_any (B b : Nat) (l : List UInt8) (s : ByteArray) (w : World) (h : Bld B b l w) (h0 : 0 < s.size) (hlen : l.length + s.size ≤ 140737488355328) (h8 : 8 ≤ B) (hBw : B ≤ w.heap.size) :
    Calls Tryz.prog 95 #[.pointer (some ⟨b, 0, none⟩), .string s] w fun e w' => e = .returned (.tuple #[.int .i64 s.size, .nilIface]) ∧ Bld B b (l ++ s.data.toList) w' ∧ Below B w w' ∧ ∀ (k : Nat) (cs : Array Value) (t : TypeId) (fz : Nat × Nat), w.heap[k]? = some (.cells cs t fz) → t ≠ 5 → k ≠ b → w'.heap[k]? = some (.cells cs t fz) := by
  have hsz : s.size ≤ 140737488355328 := by omega
  have hcell : ∀ l : List UInt8, (Lib.byteCells l).length = l.length := fun l => by simp [Lib.byteCells]
  have hfin : ∀ w1, Lib.BuilderAt 188 5 B b (.pointer (some ⟨b, 0, none⟩)) (Lib.byteCells l) w1 → Below B w w1 → (∀ k, k ≠ b → w1.heap[k]? = w.heap[k]?) → ∃ v v' w2, w1.cell? ⟨b, 1, none⟩ = some v ∧ (Builtin.append_ #[106, 9] 106 #[v, .string s]).run Tryz.prog w1 = .ok v' w2 ∧ (∃ g n c, v' = .slice (some g) n c) ∧ (∃ u, w2.cell? ⟨b, 1, none⟩ = some u) ∧ w2.frozen? ⟨b, 1, none⟩ = false ∧ Bld B b (l ++ s.data.toList) (w2.setCell ⟨b, 1, none⟩ v') ∧ Below B w (w2.setCell ⟨b, 1, none⟩ v') ∧ ∀ (k : Nat) (cs : Array Value) (t : TypeId) (fz : Nat × Nat), w.heap[k]? = some (.cells cs t fz) → t ≠ 5 → k ≠ b → (w2.setCell ⟨b, 1, none⟩ v').heap[k]? = some (.cells cs t fz) := by
    rintro w1 ⟨hB, v, hbk, hown, hne⟩ hBl hoth
    obtain ⟨i0, hi0, hz0, hz1, hz2⟩ := info_parts u8Info
    obtain ⟨v', w2, hr, ho, hg, _⟩ := Lib.run_append_own_string (P := Tryz.prog) w1 B 106 9 106 5 i0 Tryz.underlying106 Tryz.underlying9 hi0 hz0 hz1 hz2 v _ _ hown s (by rw [hcell]; unfold maxLen; omega) (by rw [hcell]; omega) (Nat.le_trans hBw hBl.size)
    have hb2 : w2.heap[b]? = some (.cells #[.pointer (some ⟨b, 0, none⟩), v] 188 (0, 0)) := (hg.block b (lt_of_some hbk) (fun e => hne e.symm)).trans hbk
    have hcells : Lib.byteCells l ++ Lib.strCells s = Lib.byteCells (l ++ s.data.toList) := by simp [Lib.byteCells, Lib.strCells]
    have hlen' : (Lib.byteCells l).length + s.size = (Lib.byteCells (l ++ s.data.toList)).length := by rw [hcell, hcell, List.length_append]; rfl
    rw [hcells, hlen'] at ho
    refine ⟨v, v', w2, by simp [World.cell?, hbk], hr, ?_, ⟨v, by simp [World.cell?, hb2]⟩, by simp [World.frozen?, hb2], ?_, ?_, ?_⟩
    · obtain ⟨g, cap, h1, _⟩ := ho.form (by rw [hcell, List.length_append]; have : s.data.toList.length = s.size := by simp
                                            omega)
      exact ⟨_, _, _, h1⟩
    · exact .inr (Lib.BuilderAt.put hB hb2 ho (by decide))
    · refine (hBl.trans ((Below.refl B w1).grown hg (Nat.le_trans hBw hBl.size) (fun k hk => ?_))).setCell (p := ⟨b, 1, none⟩) hB _
      rcases hown.2 with ⟨rfl, _⟩ | ⟨g, cap, cur, rfl, hbg, _⟩
      · cases hk
      · cases hk; exact hbg
    · intro k cs t fz hk ht hkb
      refine (Below.heap_setCell w2 ⟨b, 1, none⟩ v' k hkb).trans ?_
      have hk1 := (hoth k hkb).trans hk
      refine (hg.block k (lt_of_some hk1) (fun e => ?_)).trans hk1
      rcases hown.2 with ⟨rfl, _⟩ | ⟨g, cap, cur, rfl, hbg, hgb, _⟩
      · cases e
      · cases e
        rw [hk1] at hgb
        cases hgb
        exact ht rfl
  have HCC := hide (copyCheck_any B b l w h)
  have HFIN := hide hfin
  clear hfin h
  go_enter Tryz.func95, Tryz.ntmps95
  go_wp2_with fail
  refine HCC.out.mono ?_
  rintro e w1 ⟨rfl, h1, hB1, ho1⟩
  clear HCC
  obtain ⟨v, v', w2, c1, hr, ⟨g, n, c, rfl⟩, ⟨u, hu⟩, hz, hP⟩ := HFIN.out w1 h1 hB1 ho1
  have HP := hide hP
  clear hP HFIN h1 hB1 ho1
  go_wp2_with (at_builtin; refine wpList_run_append _ rfl _ _ _ _ rfl _ _ _ _ rfl rfl hr ?_)
  go_ret2
  exact ⟨rfl, HP.out⟩
end Go.Proofs.YtpekpdimdelncaaGreatDoor
namespace Go.Proofs.YtpekpdimdelncaaGreatDoor
set_option maxRecDepth 100000
set_option maxHeartbeats 1000000
open Go.RowKit Go.Shelf
set_option linter.unusedVariables false
set_option linter.unusedSimpArgs false
attribute [local go_sem] mt_wrN mt_wrW mt_wrL
theorem str_eq {l : List UInt8} {x : ByteArray} (h : x.data.toList = l) : str l = .string x := by
  subst h
  exact str_bytes x
theorem data_app (a b : ByteArray) : (a ++ b).data.toList = a.data.toList ++ b.data.toList := by simp
theorem data_mk (l : List UInt8) : (⟨l.toArray⟩ : ByteArray).data.toList = l := by simp
theorem size_mk (l : List UInt8) : (⟨l.toArray⟩ : ByteArray).size = l.length := by show l.toArray.size = _; simp
theorem ret_str {l : List UInt8} {x : ByteArray} (h : x.data.toList = l) : Ending.returned (.string x) = .returned (str l) := by rw [str_eq h]
theorem thingText_any (w : World) (L : Nat → Prop) (th : Lard.Thing) (q : Nat) (key : ByteArray) (h : ThingAt w L th q) (g : G w) (hk : key.size ≤ 200) :
    Calls Tryz.prog 60 #[ptr q, .string key] w fun e w' => e = .returned (str (Lard.thingText key.data.toList th)) ∧ Below w.heap.size w w' := by
  obtain ⟨v, r, k, hb, _, h200, h4, _⟩ := h
  have c0 : w.cell? ⟨q, 0, none⟩ = some v := by simp [World.cell?, hb]
  have c1 : w.cell? ⟨q, 1, none⟩ = some r := by simp [World.cell?, hb]
  have c2 : w.cell? ⟨q, 2, none⟩ = some (.string ⟨th.came.toArray⟩) := by simp [World.cell?, hb, str]
  unfold ptr
  clear hb
  rcases h4 with ⟨h1, rfl, h3, _⟩ | ⟨t, a, h1, rfl, rfl, _⟩
  · have hfin : Lard.thingText key.data.toList th = [112, 117, 116, 32] ++ key.data.toList ++ 32 :: Lard.wr 3 th.value := by unfold Lard.thingText; rw [h1]
    rw [hfin]
    clear hfin
    have hl3 := wrLen3 h3
    rcases h3.forms with ⟨j, hj0, rfl, hj⟩ | ⟨d, hj0, rfl, hb⟩ | ⟨m2, l2, s2, ys2, hm2, hj0, rfl, hr2, hl2, h2, hv2⟩
    · rw [hj0, wr_num] at hl3 ⊢
      have hz := size_mk (Lib.itoa j)
      obtain ⟨x, hx⟩ : ∃ x : ByteArray, (⟨(Lib.itoa j).toArray⟩ : ByteArray) = x := ⟨_, rfl⟩
      have hxd : x.data.toList = Lib.itoa j := by rw [← hx]
      rw [hx] at hz
      have HX := hide hx
      have HC := hide (written_any j w g hj.1 hj.2)
      clear hx h3 hj0 h1
      go_enter Tryz.func60, Tryz.ntmps60
      go_wp2_with fail
      refine HC.out.mono ?_
      rw [HX.out]
      rintro e w2 ⟨rfl, hB2⟩
      go_wp2_with fail
      go_ret
      exact ⟨ret_str (by simp [data_app, hxd]), hB2⟩
    · rw [hj0, wr_word] at hl3 ⊢
      have hz := size_mk (39 :: (d.data.toList ++ [39]))
      obtain ⟨x, hx⟩ : ∃ x : ByteArray, (⟨(39 :: (d.data.toList ++ [39])).toArray⟩ : ByteArray) = x := ⟨_, rfl⟩
      have hxd : x.data.toList = 39 :: (d.data.toList ++ [39]) := by rw [← hx]
      rw [hx] at hz
      have HX := hide hx
      have HC := hide (writtenW_below d w (by omega))
      clear hx h3 hj0 h1
      go_enter Tryz.func60, Tryz.ntmps60
      go_wp2_with fail
      refine HC.out.mono ?_
      rw [HX.out]
      rintro e w2 ⟨rfl, hB2⟩
      go_wp2_with fail
      go_ret
      exact ⟨ret_str (by simp [data_app, hxd]), hB2⟩
    · obtain rfl : m2 = 2 := by omega
      rw [hj0] at hl3 ⊢
      have hcall := writtenL_any 2 (by omega) l2 s2 ys2 w g hr2 ⟨hl2, hv2⟩ h2
      have hz := size_mk (Lard.wr 3 (Lard.vl l2))
      obtain ⟨x, hx⟩ : ∃ x : ByteArray, (⟨(Lard.wr 3 (Lard.vl l2)).toArray⟩ : ByteArray) = x := ⟨_, rfl⟩
      have hxd : x.data.toList = Lard.wr 3 (Lard.vl l2) := by rw [← hx]
      rw [hx] at hz
      rw [show (⟨(Lard.wr (2 + 1) (Lard.vl l2)).toArray⟩ : ByteArray) = x from hx] at hcall
      obtain ⟨o2, c2', rfl⟩ := hr2.len
      have HC := hide hcall
      clear hcall h3 hv2 hr2 hx hj0 h1
      go_enter Tryz.func60, Tryz.ntmps60
      go_wp2_with fail
      refine HC.out.mono ?_
      rintro e w2 ⟨rfl, hB2⟩
      go_wp2_with fail
      go_ret
      exact ⟨ret_str (by simp [data_app, hxd]), hB2⟩
  · have hfin : Lard.thingText key.data.toList th = [115, 101, 116, 32] ++ key.data.toList ++ 32 :: th.came := by unfold Lard.thingText; rw [h1]
    rw [hfin]
    clear hfin
    have hz := size_mk th.came
    obtain ⟨x, hx⟩ : ∃ x : ByteArray, (⟨th.came.toArray⟩ : ByteArray) = x := ⟨_, rfl⟩
    have hxd : x.data.toList = th.came := by rw [← hx]
    rw [hx] at hz c2
    clear hx h1
    go_enter Tryz.func60, Tryz.ntmps60
    go_wp2_with fail
    go_ret
    exact ⟨ret_str (by simp [data_app, hxd]), Below.refl _ _⟩
end Go.Proofs.YtpekpdimdelncaaGreatDoor
