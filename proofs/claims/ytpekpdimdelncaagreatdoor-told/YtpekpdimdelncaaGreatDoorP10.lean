/- Out of: U2, W6, W7, W8, W9, W10, W11, W12, W13, W14. -/
import Derived.Test.YtpekpdimdelncaaGreatDoorP09
import Derived.Test.YtpekpdimdelncaaGreatDoorP06
import Derived.Lib.BufferOwn
import Derived.Deep.RegionWith
import Derived.Test.YtpekpdimdelncaaGreatDoorP01
import Derived.Deep.AppendLies
namespace Go.Proofs.YtpekpdimdelncaaGreatDoor
set_option maxRecDepth 100000
set_option maxHeartbeats 1000000
open Go.RowKit Go.Shelf
def ImmW (t : TypeId) : Prop := Imm t ∨ t = 113 ∨ t = 242
structure Fm (base : Nat) (w w' : World) : Prop where
  bel : Below base w w'
  imm : ∀ (k : Nat) (cs : Array Value) (t : TypeId) (fz : Nat × Nat), w.heap[k]? = some (.cells cs t fz) → ImmW t → w'.heap[k]? = some (.cells cs t fz)
theorem Fm.refl (base : Nat) (w : World) : Fm base w w := ⟨Below.refl _ _, fun _ _ _ _ h _ => h⟩
theorem Fm.trans {base : Nat} {a b c : World} (h : Fm base a b) (h' : Fm base b c) : Fm base a c := ⟨h.bel.trans h'.bel, fun k cs t fz hk ht => h'.imm k cs t fz (h.imm k cs t fz hk ht) ht⟩
theorem Fm.below {base : Nat} {w w' : World} (h : Below w.heap.size w w') (hb : base ≤ w.heap.size) : Fm base w w' :=
  ⟨h.mono hb, fun k _ _ _ hk _ => (h.block k (lt_of_some hk)).trans hk⟩
theorem Fm.keeps {base : Nat} {w w' : World} (h : Fm base w w') : Keeps w w' := fun k cs t fz hk ht => h.imm k cs t fz hk (.inl ht)
theorem Fm.size {base : Nat} {w w' : World} (h : Fm base w w') : w.heap.size ≤ w'.heap.size := h.bel.size
theorem Fm.g {base : Nat} {w w' : World} (h : Fm base w w') (g : G w) (hb : 8 ≤ base) : G w' := g.below h.bel hb
theorem Fm.grown {base b : Nat} {w w' : World} (h : w.grownBy w' (some b)) (hb : base ≤ b) (hsz : base ≤ w.heap.size) (ht : ∀ cs t fz, w.heap[b]? = some (.cells cs t fz) → ¬ ImmW t) : Fm base w w' :=
  ⟨(Below.refl base w).grown h hsz (fun k hk => by cases hk; exact hb), fun k cs t fz hk hi => (h.block k (lt_of_some hk) (fun e => by cases e; exact ht cs t fz hk hi)).trans hk⟩
structure Stay (w w' : World) : Prop where
  val : ∀ n v x, IsVal w n v x → IsVal w' n v x
  node : ∀ (k : Nat) (cs : Array Value) (t : TypeId) (fz : Nat × Nat), w.heap[k]? = some (.cells cs t fz) → t = 263 ∨ t = 121 → w'.heap[k]? = some (.cells cs t fz)
theorem Keeps.stay {w w' : World} (h : Keeps w w') : Stay w w' := ⟨fun _ _ _ hx => hx.keeps h, fun k cs t fz hk ht => h k cs t fz hk (.inr ht)⟩
structure Env where
  σ : Type
  N : List UInt8 → σ → Except Nat Lard.V × σ
  cnt : σ → Nat
  J : (Nat → Prop) → σ → World → Prop
  rb : Nat
  l : Nat
  base : Nat
  tree : Value
  wc : Value
  wi : Value
def Env.Y (E : Env) : Value := .func (.yield E.l) #[] #[]
structure EnvOK (E : Env) : Prop where
  stab : ∀ F s w w', E.J F s w → w.heap.size ≤ w'.heap.size → (∀ k, F k → w'.heap[k]? = w.heap[k]?) → Stay w w' → E.J F s w'
  dom : ∀ F s w k, E.J F s w → F k → k < w.heap.size ∧ k ≠ E.rb
  cntN : ∀ key s, E.cnt (E.N key s).2 ≤ E.cnt s + 1
  base8 : 8 ≤ E.base
  baser : E.base ≤ E.rb
  yields : ∀ (key : ByteArray) F s w f tc ti, E.J F s w → RunAt w E.rb E.tree E.Y tc ti f E.wc E.wi → G w → key.size ≤ 200 → E.cnt s + f < 400 →
    YieldAt Fence.wide 0 Tryz.prog E.l #[.string key] w fun e w' => e = .returned (.bool true) ∧ ∃ c i F', IsW w' (E.N key.data.toList s).1 (.agg #[c, i]) ∧ RunAt w' E.rb E.tree E.Y c i f E.wc E.wi ∧ E.J F' (E.N key.data.toList s).2 w' ∧ (∀ k, F' k → F k ∨ w.heap.size ≤ k) ∧ Fm E.base w w'
structure St (E : Env) (F : Nat → Prop) (st : Nat × E.σ) (w : World) : Prop where
  run : ∃ tc ti, RunAt w E.rb E.tree E.Y tc ti st.1 E.wc E.wi
  inv : E.J F st.2 w
  g : G w
  le : E.cnt st.2 + st.1 ≤ 400
theorem St.lt {E : Env} {F : Nat → Prop} {st : Nat × E.σ} {w : World} (h : St E F st w) : E.rb < w.heap.size := by
  obtain ⟨tc, ti, h⟩ := h.run
  exact lt_of_some h
theorem St.below {E : Env} (ok : EnvOK E) {F : Nat → Prop} {st : Nat × E.σ} {w w' : World} (h : St E F st w) (hB : Below w.heap.size w w') : St E F st w' := by
  obtain ⟨tc, ti, hr⟩ := h.run
  exact ⟨⟨tc, ti, (hB.block _ h.lt).trans hr⟩, ok.stab _ _ _ _ h.inv hB.size (fun k hk => hB.block k (ok.dom _ _ _ _ h.inv hk).1) (Keeps.below hB).stay, h.g.below hB h.g.size, h.le⟩
theorem St.grown {E : Env} (ok : EnvOK E) {F : Nat → Prop} {st : Nat × E.σ} {w w' : World} (h : St E F st w) {b : Nat} (hg : w.grownBy w' (some b)) (hb : E.rb ≠ b) (hF : ¬ F b) (h8 : 8 ≤ b) (hst : Stay w w') : St E F st w' := by
  obtain ⟨tc, ti, hr⟩ := h.run
  refine ⟨⟨tc, ti, (hg.block _ h.lt (fun e => hb (by cases e; rfl))).trans hr⟩, ok.stab _ _ _ _ h.inv hg.size (fun k hk => hg.block k (ok.dom _ _ _ _ h.inv hk).1 (fun e => by cases e; exact hF hk)) hst, ?_, h.le⟩
  exact h.g.below (B := 8) ((Below.refl 8 w).grown hg h.g.size (fun k hk => by cases hk; exact h8)) (Nat.le_refl _)
def Ψ (E : Env) (F : Nat → Prop) (w : World) (q : Except Nat Lard.V × (Nat × E.σ)) (r : Except Nat Lard.V) (w' : World) : Prop :=
  r = q.1 ∧ ∃ F', St E F' q.2 w' ∧ (∀ k, F' k → F k ∨ w.heap.size ≤ k) ∧ Fm E.base w w'
theorem spend_none (E : Env) (F : Nat → Prop) (s : E.σ) (w : World) (h : St E F (0, s) w) :
    Calls Tryz.prog 245 #[.pointer (some ⟨E.rb, 0, none⟩)] w fun e w' => e = broken 11 ∧ w' = w := by
  obtain ⟨tc, ti, hr⟩ := h.run
  have c4 : w.cell? ⟨E.rb, 4, none⟩ = some (.int .i64 0) := by rw [RunAt] at hr; simp [World.cell?, hr]
  generalize E.rb = rb at c4
  clear hr h
  go_enter Tryz.func245, Tryz.ntmps245
  go_wp2
  exact ⟨rfl, rfl, rfl⟩
theorem spend_some (E : Env) (ok : EnvOK E) (F : Nat → Prop) (f : Nat) (s : E.σ) (w : World) (h : St E F (f, s) w) (h0 : 0 < f) :
    Calls Tryz.prog 245 #[.pointer (some ⟨E.rb, 0, none⟩)] w fun e w' => e = .returned (.tuple #[]) ∧ St E F (f - 1, s) w' ∧ Fm E.base w w' ∧ w'.heap.size = w.heap.size := by
  have h4' : E.cnt s + f ≤ 400 := h.le
  have h4 : f ≤ 400 := by omega
  obtain ⟨tc, ti, hr⟩ := h.run
  have c4 : w.cell? ⟨E.rb, 4, none⟩ = some (.int .i64 (f : Int)) := by rw [RunAt] at hr; simp [World.cell?, hr]
  have z4 : w.frozen? ⟨E.rb, 4, none⟩ = false := by rw [RunAt] at hr; simp [World.frozen?, hr]
  have fin : ∀ w', w' = w.setCell ⟨E.rb, 4, none⟩ (.int .i64 ((f : Int) - 1)) → St E F (f - 1, s) w' ∧ Fm E.base w w' ∧ w'.heap.size = w.heap.size := by
    rintro w' rfl
    have hg := grown_set (World.grownBy.refl w (some E.rb)) 4 (.int .i64 ((f : Int) - 1))
    have hfm : Fm E.base w _ := Fm.grown hg ok.baser (Nat.le_of_lt (Nat.lt_of_le_of_lt ok.baser h.lt)) (fun cs t fz h => by
        rw [RunAt] at hr; rw [hr] at h; cases h
        rintro ((h | h | h) | h | h) <;> cases h)
    refine ⟨⟨⟨tc, ti, ?_⟩, ?_, ?_, by show E.cnt s + (f - 1) ≤ 400; omega⟩, ?_, by simp [World.setCell]⟩
    · rw [RunAt] at hr ⊢
      simp [World.setCell, Array.getElem?_modify, hr]
      omega
    · exact ok.stab _ _ _ _ h.inv hg.size (fun k hk => hg.block k (ok.dom _ _ _ _ h.inv hk).1 (fun e => (ok.dom _ _ _ _ h.inv hk).2 (by cases e; rfl))) hfm.keeps.stay
    · exact h.g.below (B := 8) ((Below.refl 8 w).grown hg h.g.size (fun k hk => by cases hk; exact Nat.le_trans ok.base8 ok.baser)) (Nat.le_refl _)
    · exact hfm
  have FIN := hide fin
  clear fin hr h h4'
  generalize E.rb = rb at c4 z4 FIN
  go_enter Tryz.func245, Tryz.ntmps245
  go_wp2
  go_end0
  exact ⟨rfl, FIN.out _ rfl⟩
end Go.Proofs.YtpekpdimdelncaaGreatDoor
namespace Go.Proofs.YtpekpdimdelncaaGreatDoor
set_option maxRecDepth 100000
set_option maxHeartbeats 1000000
open Go.RowKit
attribute [local go_sem] run_store_isV
def pCells (s : ByteArray) (i deep its : Nat) : Array Value :=
  #[.string s, .int .i64 ((Lard.tok (s.data.toList.drop i)).1 : Int), .string (s.extract i (i + (Lard.tok (s.data.toList.drop i)).2)), .int .i64 (i : Int), isV (s.data.toList.drop i), .int .i64 (deep : Int), .int .i64 (its : Int)]
def PAt (w : World) (s : ByteArray) (pb i deep its : Nat) : Prop := w.heap[pb]? = some (.cells (pCells s i deep its) 183 (0, 0))
theorem PAt.lt {w : World} {s : ByteArray} {pb i deep its : Nat} (h : PAt w s pb i deep its) : pb < w.heap.size := by
  by_cases hp : pb < w.heap.size
  · exact hp
  · unfold PAt at h; rw [Array.getElem?_eq_none (by omega)] at h; cases h
theorem PAt.cells {w : World} {s : ByteArray} {pb i deep its : Nat} (h : PAt w s pb i deep its) :
    w.cell? ⟨pb, 0, none⟩ = some (.string s) ∧ w.cell? ⟨pb, 1, none⟩ = some (.int .i64 ((Lard.tok (s.data.toList.drop i)).1 : Int)) ∧ w.cell? ⟨pb, 2, none⟩ = some (.string (s.extract i (i + (Lard.tok (s.data.toList.drop i)).2))) ∧ w.cell? ⟨pb, 3, none⟩ = some (.int .i64 (i : Int)) ∧ w.cell? ⟨pb, 4, none⟩ = some (isV (s.data.toList.drop i)) ∧ w.cell? ⟨pb, 5, none⟩ = some (.int .i64 (deep : Int)) ∧ w.cell? ⟨pb, 6, none⟩ = some (.int .i64 (its : Int)) ∧ (∀ o, w.frozen? ⟨pb, o, none⟩ = false) := by
  unfold PAt at h
  refine ⟨?_, ?_, ?_, ?_, ?_, ?_, ?_, ?_⟩
  all_goals simp [World.cell?, World.frozen?, h, pCells]
def refusal (c i : Nat) : Ending := .panicked [{ v := .iface 179 (.agg #[.int .i64 (c : Int), .int .i64 (i : Int)]), recovered := false }]
theorem refuse_any (s : ByteArray) (pb i deep its : Nat) (c : Nat) (w : World) (h : PAt w s pb i deep its) :
    Calls Tryz.prog 90 #[.pointer (some ⟨pb, 0, none⟩), .int .i64 (c : Int)] w fun e w' => e = refusal c i ∧ w = w' := by
  obtain ⟨c0, c1, c2, c3, c4, c5, c6, cf⟩ := h.cells
  go_enter Tryz.func90, Tryz.ntmps90
  go_wp2_with fail
  exact ⟨rfl, rfl, rfl⟩
theorem tx_extract (s : ByteArray) (i : Nat) : (s.extract i (i + (Lard.tok (s.data.toList.drop i)).2)).toList = Lard.tx s.data.toList i := by
  rw [Lib.extract_toList, Nat.add_sub_cancel_left]; rfl
theorem tx_extract_data (s : ByteArray) (i : Nat) : (s.extract i (i + (Lard.tok (s.data.toList.drop i)).2)).data.toList = Lard.tx s.data.toList i := by
  rw [Lib.extract_data, Nat.add_sub_cancel_left]; rfl
theorem ret_bool {a b : Bool} (h : a = b) : Ending.returned (.bool a) = .returned (.bool b) := by rw [h]
theorem sees_any (s : ByteArray) (pb i deep its : Nat) (t : ByteArray) (w : World) (h : PAt w s pb i deep its) :
    Calls Tryz.prog 313 #[.pointer (some ⟨pb, 0, none⟩), .string t] w fun e w' => e = .returned (.bool (Lard.tx s.data.toList i == t.data.toList)) ∧ w = w' := by
  obtain ⟨c0, c1, c2, c3, c4, c5, c6, cf⟩ := h.cells
  go_enter Tryz.func313, Tryz.ntmps313
  go_wp2_with fail
  go_ret
  exact ⟨ret_bool (by rw [tx_extract, Lib.toList_data]), rfl⟩
theorem seesOne_any (s : ByteArray) (pb i deep its : Nat) (t : ByteArray) (w : World) (h : PAt w s pb i deep its) :
    Calls Tryz.prog 132 #[.pointer (some ⟨pb, 0, none⟩), .string t] w fun e w' => e = .returned (.bool (Lard.oneB s.data.toList i t.data.toList)) ∧ w = w' := by
  obtain ⟨c0, c1, c2, c3, c4, c5, c6, cf⟩ := h.cells
  by_cases hk : (Lard.tok (s.data.toList.drop i)).1 = 6
  · obtain ⟨c, r, hl, ht⟩ := Lard.tok_sign _ hk
    have hx : Lard.tx s.data.toList i = [c] := by rw [Lard.tx, ht, hl]; rfl
    have he : s.extract i (i + (Lard.tok (s.data.toList.drop i)).2) = ⟨#[c]⟩ := by
      rw [Lib.extract_eq, Nat.add_sub_cancel_left, ht, hl]; rfl
    have hv : Lard.oneB s.data.toList i t.data.toList = decide (0 ≤ Lib.indexByte t.data.toList c) := by
      rw [Lard.oneB, hx]; simp [hk]
    rw [he] at c2
    rw [ht] at c1
    have HV := hide hv
    clear hv he hx hl ht hk h
    go_enter Tryz.func132, Tryz.ntmps132
    go_wp2_with (go_at_call 174; refine (Tryz.strings_Contains_one _ _ _).mono ?_; rintro e w' ⟨rfl, rfl⟩)
    go_ret
    exact ⟨ret_bool HV.out.symm, rfl⟩
  · have hv : Lard.oneB s.data.toList i t.data.toList = false := by
      unfold Lard.oneB
      split
      · simp [hk]
      · rfl
    have HV := hide hv
    have hk' : (((Lard.tok (s.data.toList.drop i)).1 : Int) == 6) = false := by
      rw [beq_eq_false_iff_ne]; omega
    clear hv hk h
    go_enter Tryz.func132, Tryz.ntmps132
    go_wp2_with fail
    go_ret
    exact ⟨ret_bool HV.out.symm, rfl⟩
theorem signKind_any (t : ByteArray) (w : World) :
    Calls Tryz.prog 293 #[.string t] w fun e w' => e = .returned (.int .i64 (Lard.signK t.data.toList : Int)) ∧ w = w' := by
  go_enter Tryz.func293, Tryz.ntmps293
  go_wp2_with fail
  all_goals first
    | (exfalso; simp_all; done)
    | (go_ret; refine ⟨?_, rfl⟩; rw [← Lib.toList_data]; simp_all [Lard.signK])
theorem termKind_raw (x : ByteArray) (pb its : Nat) (w : World) (c2 : w.cell? ⟨pb, 2, none⟩ = some (.string x)) (c6 : w.cell? ⟨pb, 6, none⟩ = some (.int .i64 (its : Int))) :
    Calls Tryz.prog 292 #[.pointer (some ⟨pb, 0, none⟩)] w fun e w' => e = .returned (.int .i64 (Lard.termK x.toList its : Int)) ∧ w = w' := by
  go_enter Tryz.func292, Tryz.ntmps292
  go_wp2_with fail
  all_goals clear c2 c6
  all_goals first
    | (exfalso; simp_all; done)
    | (go_ret; refine ⟨?_, rfl⟩; simp_all [Lard.termK]; done)
    | (go_ret; refine ⟨?_, rfl⟩; simp_all [Lard.termK]; omega)
theorem kindHere_any (s : ByteArray) (pb i deep its : Nat) (w : World) (h : PAt w s pb i deep its) :
    Calls Tryz.prog 261 #[.pointer (some ⟨pb, 0, none⟩)] w fun e w' => e = .returned (.int .i64 (Lard.kind s.data.toList i its : Int)) ∧ w = w' := by
  obtain ⟨c0, c1, c2, c3, c4, c5, c6, cf⟩ := h.cells
  have ht := termKind_raw _ _ _ _ c2 c6
  have hsg := signKind_any (s.extract i (i + (Lard.tok (s.data.toList.drop i)).2)) w
  rw [tx_extract_data] at hsg
  rw [tx_extract] at ht
  have hv : Lard.kind s.data.toList i its = Lard.kindOf (Lard.tok (s.data.toList.drop i)).1 (Lard.tx s.data.toList i) its := rfl
  rw [hv]
  have HT := hide ht
  have HS := hide hsg
  clear ht hsg hv c0 c3 c4 c5 h
  generalize (Lard.tok (s.data.toList.drop i)).1 = k at *
  by_cases h2 : k = 2
  · subst h2
    go_enter Tryz.func261, Tryz.ntmps261
    go_wp2_with fail
    go_ret
    exact ⟨by simp [Lard.kindOf], rfl⟩
  by_cases h3 : k = 3
  · subst h3
    go_enter Tryz.func261, Tryz.ntmps261
    go_wp2_with fail
    go_ret
    exact ⟨by simp [Lard.kindOf], rfl⟩
  by_cases h4 : k = 4
  · subst h4
    go_enter Tryz.func261, Tryz.ntmps261
    go_wp2_with fail
    go_ret
    exact ⟨by simp [Lard.kindOf], rfl⟩
  by_cases h5 : k = 5
  · subst h5
    go_enter Tryz.func261, Tryz.ntmps261
    go_wp2_with fail
    refine HT.out.mono ?_
    rintro e w' ⟨rfl, rfl⟩
    go_wp2_with fail
    go_ret
    exact ⟨by simp [Lard.kindOf], rfl⟩
  by_cases h6 : k = 6
  · subst h6
    go_enter Tryz.func261, Tryz.ntmps261
    go_wp2_with fail
    refine HS.out.mono ?_
    rintro e w' ⟨rfl, rfl⟩
    go_wp2_with fail
    go_ret
    exact ⟨by simp [Lard.kindOf], rfl⟩
  · have e2 : ((k : Int) == 2) = false := by rw [beq_eq_false_iff_ne]; omega
    have e3 : ((k : Int) == 3) = false := by rw [beq_eq_false_iff_ne]; omega
    have e4 : ((k : Int) == 4) = false := by rw [beq_eq_false_iff_ne]; omega
    have e5 : ((k : Int) == 5) = false := by rw [beq_eq_false_iff_ne]; omega
    have e6 : ((k : Int) == 6) = false := by rw [beq_eq_false_iff_ne]; omega
    have HV := hide (show Lard.kindOf k (Lard.tx s.data.toList i) its = 0 by simp [Lard.kindOf, h2, h3, h4, h5, h6])
    clear h2 h3 h4 h5 h6
    go_enter Tryz.func261, Tryz.ntmps261
    go_wp2_with fail
    go_ret
    exact ⟨by rw [HV.out]; rfl, rfl⟩
end Go.Proofs.YtpekpdimdelncaaGreatDoor
namespace Go.Proofs.YtpekpdimdelncaaGreatDoor
set_option maxRecDepth 100000
set_option maxHeartbeats 1000000
open Go.RowKit
attribute [local go_sem] run_store_isV
theorem tokenAt_int (s : ByteArray) (x : Int) (a : Nat) (w : World) (hx : x = (a : Int)) (g : G w) (hs : s.size ≤ 281474976710656) (ha : a ≤ s.size) :
    Calls Tryz.prog 88 #[.string s, .int .i64 x] w fun e w' => e = .returned (tokV s (Lard.skip s.data.toList a)) ∧ Below w.heap.size w w' := by
  subst hx; exact tokenAt_any s a w g hs ha
theorem wrap_sum (a b : Nat) (h : a + b ≤ 281474976710656) : IntKind.i64.wrap ((a : Int) + (b : Int)) = ((a + b : Nat) : Int) := by
  rw [IntKind.wrap_i64]; omega
theorem after {w X w1 : World} {pb : Nat} (h0 : Below w.heap.size w X) (h1 : Below X.heap.size X w1) (hlt : pb < w.heap.size) (cf : ∀ o, w.frozen? ⟨pb, o, none⟩ = false) :
    Below w.heap.size w w1 ∧ (∀ o, w1.cell? ⟨pb, o, none⟩ = w.cell? ⟨pb, o, none⟩) ∧ (∀ o, w1.frozen? ⟨pb, o, none⟩ = false) := by
  have hB := h0.trans (h1.mono h0.size)
  exact ⟨hB, fun o => hB.cell (p := ⟨pb, o, none⟩) hlt, fun o => (hB.frozen (p := ⟨pb, o, none⟩) hlt).trans (cf o)⟩
theorem blk_set {w : World} {b : Nat} {cs : Array Value} {t : TypeId} {m : Nat × Nat} (h : w.heap[b]? = some (.cells cs t m)) (o : Nat) (v : Value) : (w.setCell ⟨b, o, none⟩ v).heap[b]? = some (.cells (cs.setIfInBounds o v) t m) := by
  simp [World.setCell, Array.getElem?_modify, h]
theorem PAt.other {w : World} {s : ByteArray} {pb i deep its : Nat} (h : PAt w s pb i deep its) {b : Nat} (hb : b ≠ pb) (o : Nat) (v : Value) : PAt (w.setCell ⟨b, o, none⟩ v) s pb i deep its :=
  (Below.heap_setCell w ⟨b, o, none⟩ v pb (fun e => hb e.symm)).trans h
theorem PAt.alloc {w : World} {s : ByteArray} {pb i deep its : Nat} (h : PAt w s pb i deep its) (o : Obj) : PAt (w.alloc o) s pb i deep its :=
  (Below.heap_alloc w o pb h.lt).trans h
theorem PAt.below {w w' : World} {s : ByteArray} {pb i deep its B : Nat} (h : PAt w s pb i deep its) (hB : Below B w w') (hb : pb < B) : PAt w' s pb i deep its :=
  (hB.block pb hb).trans h
theorem PAt.step {w : World} {s : ByteArray} {pb i deep its : Nat} (h : PAt w s pb i deep its) (j : Nat) :
    PAt ((((w.setCell ⟨pb, 1, none⟩ (.int .i64 ((Lard.tok (s.data.toList.drop j)).1 : Int))).setCell ⟨pb, 2, none⟩ (.string (s.extract j (j + (Lard.tok (s.data.toList.drop j)).2)))).setCell ⟨pb, 3, none⟩ (.int .i64 (j : Int))).setCell ⟨pb, 4, none⟩ (isV (s.data.toList.drop j))) s pb j deep its := by
  have h1 := blk_set (blk_set (blk_set (blk_set h 1 (.int .i64 ((Lard.tok (s.data.toList.drop j)).1 : Int))) 2 (.string (s.extract j (j + (Lard.tok (s.data.toList.drop j)).2)))) 3 (.int .i64 (j : Int))) 4 (isV (s.data.toList.drop j))
  exact h1
theorem PAt.deep {w : World} {s : ByteArray} {pb i deep its : Nat} (h : PAt w s pb i deep its) (d : Nat) : PAt (w.setCell ⟨pb, 5, none⟩ (.int .i64 (d : Int))) s pb i d its := blk_set h 5 _
theorem PAt.its {w : World} {s : ByteArray} {pb i deep its : Nat} (h : PAt w s pb i deep its) (d : Nat) : PAt (w.setCell ⟨pb, 6, none⟩ (.int .i64 (d : Int))) s pb i deep d := blk_set h 6 _
theorem Fr.trans {a w w' : World} {row : Option Nat} (h : a.grownBy w row) (k : w.grownBy w' row) : a.grownBy w' row := Lib.grownBy_trans h k
theorem Fr.set {a w : World} {pb : Nat} (h : a.grownBy w (some pb)) (i : Nat) (v : Value) : a.grownBy (w.setCell ⟨pb, i, none⟩ v) (some pb) := Lib.grownBy_setB h i v
theorem Fr.new {a w : World} {row : Option Nat} (h : a.grownBy w row) {b : Nat} (hb : a.heap.size ≤ b) (i : Nat) (v : Value) : a.grownBy (w.setCell ⟨b, i, none⟩ v) row :=
  ⟨h.os, h.tape, h.output, by simpa [World.setCell] using h.size, fun k hk hr => (Below.heap_setCell w ⟨b, i, none⟩ v k (by show k ≠ b; omega)).trans (h.block k hk hr)⟩
theorem Fr.below {a w w' : World} {row : Option Nat} (h : a.grownBy w row) {B : Nat} (hb : Below B w w') (hB : a.heap.size ≤ B) : a.grownBy w' row :=
  ⟨hb.os.trans h.os, hb.tape.trans h.tape, hb.output.trans h.output, Nat.le_trans h.size hb.size, fun k hk hr => (hb.block k (by omega)).trans (h.block k hk hr)⟩
theorem take_any (s : ByteArray) (pb i deep its : Nat) (w : World) (g : G w) (h : PAt w s pb i deep its) (hs : s.size ≤ 281474976710656) (hi : i ≤ s.size) :
    Calls Tryz.prog 175 #[.pointer (some ⟨pb, 0, none⟩)] w fun e w' => e = .returned (tokV s i) ∧ PAt w' s pb (Lard.nxt s.data.toList i) deep its ∧ w.grownBy w' (some pb) := by
  obtain ⟨c0, c1, c2, c3, c4, c5, c6, cf⟩ := h.cells
  have hlt := h.lt
  have hin : i + (Lard.tok (s.data.toList.drop i)).2 ≤ s.size := by
    have := Lard.tok_in s.data.toList i (by simpa using hi); simpa using this
  have hsz : (s.extract i (i + (Lard.tok (s.data.toList.drop i)).2)).size = (Lard.tok (s.data.toList.drop i)).2 := by
    rw [ByteArray.size_extract]; omega
  go_enter Tryz.func175, Tryz.ntmps175
  go_wp2_with fail
  have hB0 : Below w.heap.size w (((w.alloc (Obj.cells #[Value.int IntKind.i64 0, Value.string { data := #[] }, Value.int IntKind.i64 0, Value.nilIface] 172)).alloc (Obj.cells #[Value.int IntKind.i64 ↑(Lard.tok (List.drop i s.data.toList)).fst, Value.string (s.extract i (i + (Lard.tok (List.drop i s.data.toList)).snd)), Value.int IntKind.i64 ↑i, isV (List.drop i s.data.toList)] 172)).drew) :=
    (((Below.refl _ _).alloc (Nat.le_refl _) _).alloc (by simp) _).drew
  have g0 := g.below hB0 g.size
  go_region_with (go_at_call 88; refine (tokenAt_int s _ (i + (Lard.tok (s.data.toList.drop i)).2) _ ?_ g0 hs hin).mono ?_; (· rw [wrap_sum _ _ (by omega)]); rintro e w1 ⟨rfl, hb1⟩; (obtain ⟨hB1, e1, f1⟩ := after hB0 hb1 hlt cf); unfold tokV)
  all_goals (obtain ⟨hc, hf⟩ := bcell hb1)
  all_goals (have hz1 : w.heap.size + 1 < w1.heap.size := by have := hb1.size; simp at this; omega)
  all_goals clear g0 g hi
  all_goals (have hne1 : ¬ w.heap.size = pb := by omega)
  all_goals (have hne2 : ¬ pb = w.heap.size := by omega)
  all_goals (have n0 : w1.cell? ⟨w.heap.size, 0, none⟩ = some (.int .i64 0) := by rw [hc _ _ (by simp; omega)]; simp [go_sem])
  all_goals (have n1 : w1.cell? ⟨w.heap.size, 1, none⟩ = some (.string ⟨#[]⟩) := by rw [hc _ _ (by simp; omega)]; simp [go_sem])
  all_goals (have n2 : w1.cell? ⟨w.heap.size, 2, none⟩ = some (.int .i64 0) := by rw [hc _ _ (by simp; omega)]; simp [go_sem])
  all_goals (have n3 : w1.cell? ⟨w.heap.size, 3, none⟩ = some .nilIface := by rw [hc _ _ (by simp; omega)]; simp [go_sem])
  all_goals go_wp2_with fail
  all_goals refine bodyPost_ret (v := tokV s i) (by simp [results, Tryz.results175, go_sem, tokV, n0, n1, n2, n3]) rfl ⟨rfl, ((((PAt.step (h.below hB1 hlt) _).other hne1 _ _).other hne1 _ _).other hne1 _ _).other hne1 _ _, Fr.new (Fr.new (Fr.new (Fr.new (Fr.set (Fr.set (Fr.set (Fr.set (Fr.below (World.grownBy.refl _ _) hB1 (Nat.le_refl _)) _ _) _ _) _ _) _ _) (Nat.le_refl _) _ _) (Nat.le_refl _) _ _) (Nat.le_refl _) _ _) (Nat.le_refl _) _ _⟩
end Go.Proofs.YtpekpdimdelncaaGreatDoor
namespace Go.Proofs.YtpekpdimdelncaaGreatDoor
set_option maxRecDepth 100000
set_option maxHeartbeats 400000
open Go.RowKit
theorem G.fr {w w' : World} {pb : Nat} (g : G w) (h : w.grownBy w' (some pb)) (hp : 8 ≤ pb) : G w' :=
  g.below (B := 8) ⟨h.os, h.tape, h.output, h.size, fun k hk => h.block k (by have := g.size; omega) (fun e => by injection e; omega)⟩ (Nat.le_refl _)
theorem Fr.alloc {a w : World} {row : Option Nat} (h : a.grownBy w row) (o : Obj) : a.grownBy (w.alloc o) row := Lib.grownBy_allocR h o
def Post (s : ByteArray) (pb deep its : Nat) (w : World) (r : Except (Nat × Nat) Nat) (e : Ending) (w' : World) : Prop :=
  w.grownBy w' (some pb) ∧ (∀ j, r = .ok j → (∃ q, e = .returned (.pointer q)) ∧ PAt w' s pb j deep its) ∧ (∀ x, r = .error x → e = refusal x.1 x.2)
theorem Post.ok {s : ByteArray} {pb deep its j : Nat} {w w' : World} {e : Ending} (h : Post s pb deep its w (.ok j) e w') : w.grownBy w' (some pb) ∧ (∃ q, e = .returned (.pointer q)) ∧ PAt w' s pb j deep its :=
  ⟨h.1, h.2.1 j rfl⟩
theorem Post.err {s : ByteArray} {pb deep its : Nat} {w w' : World} {e : Ending} {x : Nat × Nat} (h : Post s pb deep its w (.error x) e w') : w.grownBy w' (some pb) ∧ e = refusal x.1 x.2 :=
  ⟨h.1, h.2.2 x rfl⟩
theorem Post.mkOk {s : ByteArray} {pb deep its j : Nat} {w w' : World} {q : Option Addr} (h : w.grownBy w' (some pb)) (hp : PAt w' s pb j deep its) : Post s pb deep its w (.ok j) (.returned (.pointer q)) w' :=
  ⟨h, fun k hk => (by cases hk; exact ⟨⟨q, rfl⟩, hp⟩), fun x hx => (by cases hx)⟩
theorem Post.mkErr {s : ByteArray} {pb deep its : Nat} {w w' : World} {x : Nat × Nat} (h : w.grownBy w' (some pb)) : Post s pb deep its w (.error x) (refusal x.1 x.2) w' :=
  ⟨h, fun k hk => (by cases hk), fun y hy => (by cases hy; rfl)⟩
def Con (s : ByteArray) (f pb deep its i : Nat) (r : Except (Nat × Nat) Nat) : Prop :=
  ∀ w : World, G w → PAt w s pb i deep its → Calls Tryz.prog f #[.pointer (some ⟨pb, 0, none⟩)] w (Post s pb deep its w r)
theorem expect_ok (s : ByteArray) (pb i deep its : Nat) (t : ByteArray) (w : World) (g : G w) (h : PAt w s pb i deep its) (hs : s.size ≤ 281474976710656) (hi : i ≤ s.size) (ht : Lard.tx s.data.toList i = t.data.toList) :
    Calls Tryz.prog 296 #[.pointer (some ⟨pb, 0, none⟩), .string t] w fun e w' => e = .returned (.tuple #[]) ∧ PAt w' s pb (Lard.nxt s.data.toList i) deep its ∧ w.grownBy w' (some pb) := by
  have hb : (Lard.tx s.data.toList i == t.data.toList) = true := by rw [ht]; simp
  have HT := hide ht
  clear ht
  go_enter Tryz.func296, Tryz.ntmps296
  go_wp2_with (go_at_call 313; refine (sees_any s pb i deep its t _ h).mono ?_; rintro e w' ⟨rfl, rfl⟩)
  refine (take_any s pb i deep its _ g h hs hi).mono ?_
  rintro e w1 ⟨rfl, h1, f1⟩
  go_wp2_with fail
  go_end0
  exact ⟨rfl, h1, f1⟩
theorem expect_no (s : ByteArray) (pb i deep its : Nat) (t : ByteArray) (w : World) (h : PAt w s pb i deep its) (ht : ¬ Lard.tx s.data.toList i = t.data.toList) :
    Calls Tryz.prog 296 #[.pointer (some ⟨pb, 0, none⟩), .string t] w fun e w' => e = refusal 3 i ∧ w = w' := by
  have hb : (Lard.tx s.data.toList i == t.data.toList) = false := by rw [beq_eq_false_iff_ne]; exact ht
  have HT := hide ht
  clear ht
  go_enter Tryz.func296, Tryz.ntmps296
  go_wp2_with (go_at_call 313; refine (sees_any s pb i deep its t _ h).mono ?_; rintro e w' ⟨rfl, rfl⟩)
  refine (refuse_any s pb i deep its 3 _ h).mono ?_
  rintro e w' ⟨rfl, rfl⟩
  exact ⟨rfl, rfl, rfl⟩
theorem expect_any (s : ByteArray) (pb i deep its : Nat) (t : ByteArray) (w : World) (g : G w) (h : PAt w s pb i deep its) (hs : s.size ≤ 281474976710656) (hi : i ≤ s.size) :
    Calls Tryz.prog 296 #[.pointer (some ⟨pb, 0, none⟩), .string t] w fun e w' => w.grownBy w' (some pb) ∧ (∀ j, Lard.expect s.data.toList t.data.toList i = .ok j → e = .returned (.tuple #[]) ∧ PAt w' s pb j deep its) ∧ (∀ x, Lard.expect s.data.toList t.data.toList i = .error x → e = refusal x.1 x.2) := by
  by_cases ht : Lard.tx s.data.toList i = t.data.toList
  · refine (expect_ok s pb i deep its t w g h hs hi ht).mono ?_
    rintro e w' ⟨rfl, h1, f1⟩
    refine ⟨f1, fun j hj => ?_, fun x hx => ?_⟩
    · rw [Lard.expect, if_pos ht] at hj; cases hj; exact ⟨rfl, h1⟩
    · rw [Lard.expect, if_pos ht] at hx; cases hx
  · refine (expect_no s pb i deep its t w h ht).mono ?_
    rintro e w' ⟨rfl, rfl⟩
    refine ⟨World.grownBy.refl _ _, fun j hj => ?_, fun x hx => ?_⟩
    · rw [Lard.expect, if_neg ht] at hj; cases hj
    · rw [Lard.expect, if_neg ht] at hx; cases hx; rfl
end Go.Proofs.YtpekpdimdelncaaGreatDoor
namespace Go.Proofs.YtpekpdimdelncaaGreatDoor
open Go.RowKit
def CT (s : ByteArray) (pb n tag f : Nat) : Prop :=
  ∀ deep its i : Nat, i ≤ s.size → deep ≤ 20 → its ≤ deep → 8 * (s.size - i) + Lard.nd tag ≤ n → Con s f pb deep its i (Lard.P s.data.toList n tag deep its i)
def atOf (w : World) (pb : Nat) : Nat :=
  match w.cell? ⟨pb, 3, none⟩ with
  | some (.int _ k) => k.toNat
  | _ => 0
theorem atOf_eq {w : World} {s : ByteArray} {pb i deep its : Nat} (h : PAt w s pb i deep its) : atOf w pb = i := by
  rw [atOf, h.cells.2.2.2.1]; rfl
end Go.Proofs.YtpekpdimdelncaaGreatDoor
namespace Go.Proofs.YtpekpdimdelncaaGreatDoor
open Go.RowKit
end Go.Proofs.YtpekpdimdelncaaGreatDoor
namespace Go.Proofs.YtpekpdimdelncaaGreatDoor
open Go.RowKit
def PostS (s : ByteArray) (pb deep its : Nat) (w : World) (r : Except (Nat × Nat) Nat) (e : Ending) (w' : World) : Prop :=
  w.grownBy w' (some pb) ∧ (∀ j, r = .ok j → (∃ a n c, e = .returned (.slice a n c)) ∧ PAt w' s pb j deep its) ∧ (∀ x, r = .error x → e = refusal x.1 x.2)
theorem PostS.ok {s : ByteArray} {pb deep its j : Nat} {w w' : World} {e : Ending} (h : PostS s pb deep its w (.ok j) e w') : w.grownBy w' (some pb) ∧ (∃ a n c, e = .returned (.slice a n c)) ∧ PAt w' s pb j deep its :=
  ⟨h.1, h.2.1 j rfl⟩
theorem PostS.err {s : ByteArray} {pb deep its : Nat} {w w' : World} {e : Ending} {x : Nat × Nat} (h : PostS s pb deep its w (.error x) e w') : w.grownBy w' (some pb) ∧ e = refusal x.1 x.2 :=
  ⟨h.1, h.2.2 x rfl⟩
theorem PostS.mkOk {s : ByteArray} {pb deep its j : Nat} {w w' : World} {a : Option Addr} {n c : Nat} (h : w.grownBy w' (some pb)) (hp : PAt w' s pb j deep its) : PostS s pb deep its w (.ok j) (.returned (.slice a n c)) w' :=
  ⟨h, fun k hk => (by cases hk; exact ⟨⟨a, n, c, rfl⟩, hp⟩), fun x hx => (by cases hx)⟩
theorem PostS.mkErr {s : ByteArray} {pb deep its : Nat} {w w' : World} {x : Nat × Nat} (h : w.grownBy w' (some pb)) : PostS s pb deep its w (.error x) (refusal x.1 x.2) w' :=
  ⟨h, fun k hk => (by cases hk), fun y hy => (by cases hy; rfl)⟩
theorem PAt.grown {w w' : World} {s : ByteArray} {pb i deep its : Nat} {row : Option Nat} (h : PAt w s pb i deep its) (hg : w.grownBy w' row) (hne : some pb ≠ row) : PAt w' s pb i deep its :=
  (hg.block pb h.lt hne).trans h
theorem Fr.grown {a w w' : World} {r row : Option Nat} (h : a.grownBy w r) (hg : w.grownBy w' row) (hr : ∀ k, row = some k → a.heap.size ≤ k) : a.grownBy w' r :=
  ⟨hg.os.trans h.os, hg.tape.trans h.tape, hg.output.trans h.output, Nat.le_trans h.size hg.size, fun k hk hn => (hg.block k (Nat.lt_of_lt_of_le hk h.size) (fun e => by have := hr k e.symm; omega)).trans (h.block k hk hn)⟩
theorem nodeInfo : (Tryz.prog.info? 121).map (fun i => (i.zero, i.size, i.bytes)) = some (some (.pointer none), 1, 8) := by kernel_rfl
end Go.Proofs.YtpekpdimdelncaaGreatDoor
namespace Go.Proofs.YtpekpdimdelncaaGreatDoor
open Go.RowKit
def partsAt (l : List UInt8) (n deep its k i : Nat) : Except (Nat × Nat) Nat :=
  Lard.parts l k i (fun j => Lard.P l n 0 deep its j) (fun j => Lard.P l n 3 deep its j) (fun j => Lard.P l n 6 deep its j) (fun j => Lard.P l n 0 deep (its + 1) j)
theorem P_in {l : List UInt8} {n tag deep its i j : Nat} {s : ByteArray} (hl : l = s.data.toList) (h : Lard.P l n tag deep its i = .ok j) (hi : i ≤ s.size) : i ≤ j ∧ j ≤ s.size := by
  subst hl
  have := Lard.P_prog s.data.toList n tag deep its i j h (by simpa using hi)
  simp at this
  omega
end Go.Proofs.YtpekpdimdelncaaGreatDoor
namespace Go.Proofs.YtpekpdimdelncaaGreatDoor
open Go.RowKit
end Go.Proofs.YtpekpdimdelncaaGreatDoor
namespace Go.Proofs.YtpekpdimdelncaaGreatDoor
open Go.RowKit
attribute [local go_sem] run_store_isV
def KR (x : Nat) : Prop := x = 0 ∨ (2 ≤ x ∧ x ≤ 16)
theorem KR.ite {c : Prop} [Decidable c] {a b : Nat} (ha : KR a) (hb : KR b) : KR (if c then a else b) := by split <;> assumption
theorem kind_range (l : List UInt8) (i its : Nat) : KR (Lard.kind l i its) := by
  unfold Lard.kind Lard.kindOf Lard.termK Lard.signK
  repeat' refine KR.ite ?_ ?_
  all_goals first
    | exact Or.inl rfl
    | exact Or.inr ⟨by decide, by decide⟩
theorem isV_form (l : List UInt8) : isV l = .nilIface ∨ ∃ t x, isV l = .iface t x := by
  unfold isV
  split
  · exact Or.inr ⟨_, _, rfl⟩
  · exact Or.inr ⟨_, _, rfl⟩
  · exact Or.inl rfl
theorem node_cell {w2 w3 : World} {pb : Nat} {A : Obj} {a0 a1 a2 a3 a4 : Value} {T : TypeId} (f3 : ((w2.alloc A).alloc (.cells #[a0, a1, a2, a3, a4] T)).grownBy w3 (some pb)) (hlt : pb < w2.heap.size) :
    w3.cell? ⟨w2.heap.size + 1, 4, none⟩ = some a4 ∧ (∀ o, w3.frozen? ⟨w2.heap.size + 1, o, none⟩ = false) := by
  have hb := f3.block (w2.heap.size + 1) (by simp) (fun e => by injection e; omega)
  have hn : ((w2.alloc A).alloc (.cells #[a0, a1, a2, a3, a4] T)).heap[w2.heap.size + 1]? = some (.cells #[a0, a1, a2, a3, a4] T) := by
    have := heap_alloc_new (w2.alloc A) (.cells #[a0, a1, a2, a3, a4] T)
    simpa using this
  rw [hn] at hb
  constructor
  · simp [World.cell?, hb]
  · intro o; simp [World.frozen?, hb]
end Go.Proofs.YtpekpdimdelncaaGreatDoor
