/- Out of: U3, U4, U5. -/
import Derived.Test.YtpekpdimdelncaaGreatDoorP10
namespace Go.Proofs.YtpekpdimdelncaaGreatDoor
set_option maxRecDepth 100000
set_option maxHeartbeats 1000000
open Go.RowKit Go.Shelf
attribute [local go_sem] ta_nn ta_wn ta_ln ta_nw ta_ww ta_lw ta_nl ta_wl ta_ll
def IsPtrs (w : World) (s : Value) (qs : List Value) : Prop :=
  (s = .slice none 0 0 ∧ qs = []) ∨
  ∃ (b cap : Nat) (cs : Array Value) (fz : Nat × Nat), s = .slice (some ⟨b, 0, none⟩) qs.length cap ∧ qs.length ≤ cap ∧ w.heap[b]? = some (.cells cs 121 fz) ∧ cap ≤ cs.size ∧ ∀ i, i < qs.length → cs[i]? = qs[i]?
def IsOpt (w : World) (o : Option Lard.V) (x : Value) : Prop :=
  (o = none ∧ x = .nilIface) ∨ ∃ v, o = some v ∧ IsVal w 3 v x
def IsTree (w : World) : Nat → Lard.T → Value → Prop
  | 0, _, _ => False
  | n + 1, t, x => ∃ (b : Nat) (i s : Value) (qs : List Value) (fz : Nat × Nat), x = .pointer (some ⟨b, 0, none⟩) ∧
      w.heap[b]? = some (.cells #[.int .i64 (t.kind : Int), .int .u8 (t.op : Int), .string ⟨t.name.toArray⟩, i, s] 263 fz) ∧ (IsOpt w t.is i ∧ t.name.length ≤ 200) ∧ IsPtrs w s qs ∧ t.parts.length = qs.length ∧
      ∀ (j : Nat) u q, t.parts[j]? = some u → qs[j]? = some q → IsTree w n u q
theorem IsPtrs.keeps {w w' : World} {s : Value} {ys : List Value} (h : IsPtrs w s ys) (hk : Keeps w w') : IsPtrs w' s ys := by
  rcases h with h | ⟨b, cap, cs, fz, h1, h2, h3, h4, h5⟩
  · exact .inl h
  · exact .inr ⟨b, cap, cs, fz, h1, h2, hk _ _ _ _ h3 (.inr (.inr rfl)), h4, h5⟩
theorem IsOpt.keeps {w w' : World} {o : Option Lard.V} {x : Value} (h : IsOpt w o x) (hk : Keeps w w') : IsOpt w' o x := by
  rcases h with h | ⟨v, h1, h2⟩
  · exact .inl h
  · exact .inr ⟨v, h1, h2.keeps hk⟩
theorem IsTree.keeps {w w' : World} (hk : Keeps w w') : ∀ {n : Nat} {t : Lard.T} {x : Value}, IsTree w n t x → IsTree w' n t x
  | 0, _, _, h => h
  | _ + 1, _, _, ⟨b, i, s, qs, fz, h1, h2, h3, h4, h5, h6⟩ =>
    ⟨b, i, s, qs, fz, h1, hk _ _ _ _ h2 (.inr (.inl rfl)), ⟨h3.1.keeps hk, h3.2⟩, h4.keeps hk, h5, fun j u q hu hq => IsTree.keeps hk (h6 j u q hu hq)⟩
theorem IsPtrs.len {w : World} {s : Value} {ys : List Value} (h : IsPtrs w s ys) : ∃ o c, s = .slice o ys.length c := by
  rcases h with ⟨rfl, rfl⟩ | ⟨b, cap, cs, fz, rfl, _⟩
  · exact ⟨_, _, rfl⟩
  · exact ⟨_, _, rfl⟩
theorem IsPtrs.cell {w : World} {o : Option Addr} {n c : Nat} {ys : List Value} (h : IsPtrs w (.slice o n c) ys) {i : Nat} {y : Value} (hi : ys[i]? = some y) : ∃ b, o = some ⟨b, 0, none⟩ ∧ w.cell? ⟨b, i, none⟩ = some y := by
  have hlt : i < ys.length := (List.getElem?_eq_some_iff.1 hi).1
  rcases h with ⟨h1, rfl⟩ | ⟨b, cap, cs, fz, h1, h2, h3, h4, h5⟩
  · simp at hi
  · cases h1
    refine ⟨b, rfl, ?_⟩
    simp [World.cell?, h3, h5 i hlt, hi]
theorem name_text (s : ByteArray) : ((s.extract 0 (Lard.tok s.data.toList).2).toList == s.toList) = ((Lard.tok s.data.toList).2 == s.data.toList.length) := by
  have hin := Lard.tok_in s.data.toList 0 (Nat.zero_le _)
  rw [List.drop_zero, Nat.zero_add] at hin
  rw [Lib.toList_data, Lib.toList_data, Lib.extract_data, List.drop_zero, Nat.sub_zero]
  by_cases h : (Lard.tok s.data.toList).2 = s.data.toList.length
  · rw [h, List.take_length]; simp
  · rw [beq_eq_false_iff_ne.2 h, beq_eq_false_iff_ne]
    intro he
    have := congrArg List.length he
    rw [List.length_take] at this
    omega
theorem isName_any (s : ByteArray) (w : World) (g : G w) (hs : s.size ≤ 281474976710656) :
    Calls Tryz.prog 48 #[.string s] w fun e w' => e = .returned (.bool (Lard.isName s.data.toList)) ∧ Below w.heap.size w w' := by
  have ht := name_text s
  have hform := isV_form s.data.toList
  have hcall := firstToken_any s w g hs
  unfold Lard.isName
  unfold firstV at hcall
  generalize ((Lard.tok s.data.toList).2 == s.data.toList.length) = q at ht ⊢
  generalize isV s.data.toList = iv at hform hcall
  generalize s.extract 0 (Lard.tok s.data.toList).2 = x at ht hcall
  generalize (Lard.tok s.data.toList).1 = k at hcall ⊢
  have hk : ((k == 4) : Bool) = ((k : Int) == 4) := by
    by_cases h : k = 4
    · subst h; rfl
    · rw [beq_eq_false_iff_ne.2 h]; symm; rw [beq_eq_false_iff_ne]; omega
  rw [hk]
  have HC := hide hcall
  clear hcall hk
  rcases hform with rfl | ⟨t, a, rfl⟩
  all_goals
    by_cases h4 : ((k : Int) == 4) = true
    · rw [h4, Bool.true_and]
      go_enter Tryz.func48, Tryz.ntmps48
      go_wp2_with fail
      refine HC.out.mono ?_
      rintro e w1 ⟨rfl, hB⟩
      clear HC
      go_wp2_with fail
      go_ret
      exact ⟨rfl, hB.alloc hB.size _⟩
    · have h4' : ((k : Int) == 4) = false := by simpa using h4
      rw [h4', Bool.false_and]
      clear h4
      go_enter Tryz.func48, Tryz.ntmps48
      go_wp2_with fail
      refine HC.out.mono ?_
      rintro e w1 ⟨rfl, hB⟩
      clear HC
      go_wp2_with fail
      go_ret
      exact ⟨rfl, hB.alloc hB.size _⟩
end Go.Proofs.YtpekpdimdelncaaGreatDoor
namespace Go.Proofs.YtpekpdimdelncaaGreatDoor
set_option maxRecDepth 100000
set_option maxHeartbeats 1000000
open Go.RowKit Go.Shelf
attribute [local go_sem] ta_nn ta_wn ta_ln ta_nw ta_ww ta_lw ta_nl ta_wl ta_ll
theorem keyOf_len {w : World} {n : Nat} {v : Lard.V} {y : Value} {k : List UInt8} (h : IsVal w n v y) (hk : Lard.keyOf v = .ok k) : k.length ≤ 200 := by
  rcases h.forms with ⟨i, rfl, _, h0, h1⟩ | ⟨b, rfl, _, hb⟩ | ⟨_, l, _, _, _, rfl, _⟩
  · have e : k = 107 :: Lib.itoa i := by
      have h2 : Lard.keyOf (Lard.vn i) = .ok (107 :: Lib.itoa i) := rfl
      rw [h2] at hk; cases hk; rfl
    have := Lib.itoa_length_le i h0 h1
    rw [e]; simp only [List.length_cons]; omega
  · have h2 : Lard.keyOf (Lard.vw b.data.toList) = if Lard.isName b.data.toList = true then .ok b.data.toList else .error 9 := rfl
    rw [h2] at hk
    split at hk
    · cases hk
      have : b.data.toList.length = b.size := by simp
      omega
    · cases hk
  · have h2 : Lard.keyOf (Lard.vl l) = .error 9 := rfl
    rw [h2] at hk; cases hk
theorem keyOf_any {v : Lard.V} {x : Value} (w : World) (g : G w) (hx : IsVal w 3 v x) :
    Calls Tryz.prog 282 #[x] w fun e w' => Below w.heap.size w w' ∧ (∀ k, Lard.keyOf v = .ok k → e = .returned (.string ⟨k.toArray⟩)) ∧ (∀ c, Lard.keyOf v = .error c → e = broken c ∧ c = 9) := by
  rcases hx.forms with ⟨i, rfl, rfl, hi⟩ | ⟨b, rfl, rfl, hb⟩ | ⟨m, l, s, ys, hm, rfl, rfl, hr, hl, h12, hv⟩
  · have hlen := Lib.itoa_length_le i hi.1 hi.2
    have hres : Lard.keyOf (Lard.vn i) = .ok (107 :: Lib.itoa i) := rfl
    rw [hres]
    clear hx
    go_enter Tryz.func282, Tryz.ntmps282
    go_wp2_with fail
    refine (written_any i _ g hi.1 hi.2).mono ?_
    rintro e w1 ⟨rfl, hB⟩
    go_wp2_with fail
    go_ret
    refine ⟨hB, fun k hk => ?_, fun c hc => by cases hc⟩
    cases hk
    exact congrArg (fun s => Ending.returned (.string s)) (bytes_eq (by simp))
  · have hn := isName_any b w g (by omega)
    have hres : Lard.keyOf (Lard.vw b.data.toList) = if Lard.isName b.data.toList = true then .ok b.data.toList else .error 9 := rfl
    rw [hres]
    generalize Lard.isName b.data.toList = q at hn ⊢
    have HN := hide hn
    clear hx hn hres
    cases q with
    | true =>
      rw [if_pos rfl]
      go_enter Tryz.func282, Tryz.ntmps282
      go_wp2_with (go_at_call 48; refine HN.out.mono ?_; rintro e w1 ⟨rfl, hB⟩)
      go_ret
      refine ⟨hB, fun k hk => ?_, fun c hc => by cases hc⟩
      cases hk
      exact congrArg (fun s => Ending.returned (.string s)) (bytes_eq (by simp))
    | false =>
      rw [if_neg (by simp)]
      go_enter Tryz.func282, Tryz.ntmps282
      go_wp2_with (go_at_call 48; refine HN.out.mono ?_; rintro e w1 ⟨rfl, hB⟩)
      exact ⟨rfl, hB, fun k hk => (by cases hk), fun c hc => by cases hc; exact ⟨rfl, rfl⟩⟩
  · obtain ⟨o, c, rfl⟩ := hr.len
    have hres : Lard.keyOf (Lard.vl l) = .error 9 := rfl
    rw [hres]
    clear hx
    go_enter Tryz.func282, Tryz.ntmps282
    go_wp2_with fail
    exact ⟨rfl, Below.refl _ _, fun k hk => (by cases hk), fun c hc => by cases hc; exact ⟨rfl, rfl⟩⟩
theorem needS_any (E : Env) (ok : EnvOK E) (F : Nat → Prop) (st : Nat × E.σ) (key : ByteArray) (w : World) (h : St E F st w) (hkey : key.size ≤ 200) (hb : E.cnt st.2 + st.1 < 400) :
    Calls Tryz.prog 246 #[.pointer (some ⟨E.rb, 0, none⟩), .string key] w (PW (Ψ E F w (Lard.needE E.N key.data.toList st))) := by
  obtain ⟨tc, ti, hr⟩ := h.run
  have hy := ok.yields key F st.2 w st.1 tc ti h.inv hr h.g hkey hb
  refine (need_any E.rb E.l st.1 E.tree tc ti E.wc E.wi key w (Ψ E F w (Lard.needE E.N key.data.toList st)) hr (hy.mono ?_)).mono ?_
  · rintro e w' ⟨rfl, c, i, F', hW, hR, hJ, hF, hfm⟩
    exact ⟨rfl, _, c, i, hW, hR, rfl, F', ⟨⟨c, i, hR⟩, hJ, hfm.g h.g ok.base8, (by show E.cnt (E.N key.data.toList st.2).2 + st.1 ≤ 400; have := ok.cntN key.data.toList st.2; omega)⟩, hF, hfm⟩
  · rintro e w' ⟨r, ⟨w2, ⟨hr, F', hst, hF, hfm⟩, hB⟩, hcase⟩
    exact ⟨r, ⟨hr, F', hst.below ok hB, hF, hfm.trans (Fm.below hB (Nat.le_trans (Nat.le_trans ok.baser (Nat.le_of_lt hst.lt)) (Nat.le_refl _)))⟩, hcase⟩
end Go.Proofs.YtpekpdimdelncaaGreatDoor
namespace Go.Proofs.YtpekpdimdelncaaGreatDoor
set_option maxRecDepth 100000
set_option maxHeartbeats 4000000
open Go.RowKit Go.Shelf
def WorkSays (E : Env) (n : Nat) : Prop :=
  ∀ (t : Lard.T) (it : Option Lard.V) (x xi : Value) (F : Nat → Prop) (st : Nat × E.σ) (w : World), Lard.okT n it.isSome t = true → IsTree w n t x → IsOpt w it xi → St E F st w →
    Calls Tryz.prog 203 #[.pointer (some ⟨E.rb, 0, none⟩), x, xi] w (PW (Ψ E F w (Lard.ev E.N n t it st)))
structure Node (w : World) (n : Nat) (t : Lard.T) (b : Nat) (i : Value) (o : Option Addr) (m c : Nat) : Prop where
  cells : ∀ w', Keeps w w' → w'.cell? ⟨b, 0, none⟩ = some (.int .i64 (t.kind : Int)) ∧ w'.cell? ⟨b, 1, none⟩ = some (.int .u8 (t.op : Int)) ∧ w'.cell? ⟨b, 2, none⟩ = some (.string ⟨t.name.toArray⟩) ∧ w'.cell? ⟨b, 3, none⟩ = some i ∧ w'.cell? ⟨b, 4, none⟩ = some (.slice o m c)
  is : IsOpt w t.is i
  name : t.name.length ≤ 200
  len : t.parts.length = m
  part : ∀ j, j < t.parts.length → ∃ b0 q, o = some ⟨b0, 0, none⟩ ∧ (∀ w', Keeps w w' → w'.cell? ⟨b0, j, none⟩ = some (.pointer (some q))) ∧ IsTree w n (t.part j) (.pointer (some q))
theorem IsTree.node {w : World} {n : Nat} {t : Lard.T} {x : Value} (h : IsTree w (n + 1) t x) : ∃ b i o m c, x = .pointer (some ⟨b, 0, none⟩) ∧ Node w n t b i o m c := by
  obtain ⟨b, i, s, qs, fz, rfl, h2, h3, h4, h5, h6⟩ := h
  obtain ⟨o, c, rfl⟩ := h4.len
  refine ⟨b, i, o, _, c, rfl, ⟨fun w' hk => ?_, h3.1, h3.2, h5, fun j hj => ?_⟩⟩
  · have h2' := hk _ _ _ _ h2 (.inr (.inl rfl))
    exact ⟨by simp [World.cell?, h2'], by simp [World.cell?, h2'], by simp [World.cell?, h2'], by simp [World.cell?, h2'], by simp [World.cell?, h2']⟩
  · obtain ⟨q, hq⟩ : ∃ q, qs[j]? = some q := ⟨_, List.getElem?_eq_getElem (by omega)⟩
    have hu : t.parts[j]? = some (t.part j) := by
      rw [Lard.T.part, List.getElem?_eq_getElem hj]; rfl
    have ht := h6 j _ _ hu hq
    have : ∃ a, q = .pointer (some a) := by
      cases n with
      | zero => exact ht.elim
      | succ n => obtain ⟨b, _, _, _, _, rfl, _⟩ := ht; exact ⟨_, rfl⟩
    obtain ⟨a, rfl⟩ := this
    obtain ⟨b0, rfl, _⟩ := h4.cell hq
    refine ⟨b0, a, rfl, fun w' hk => ?_, ht⟩
    obtain ⟨b1, e, hc⟩ := (h4.keeps hk).cell hq
    cases e; exact hc
theorem IsOpt.form {w : World} {it : Option Lard.V} {xi : Value} (h : IsOpt w it xi) : xi = .nilIface ∨ ∃ t a, xi = .iface t a := by
  rcases h with ⟨_, rfl⟩ | ⟨v, _, hv⟩
  · exact .inl rfl
  · exact .inr hv.one
/-! By what the operations break. -/
theorem listOf_err {l : List Lard.V} {c : Nat} (h : Lard.listOf l = .error c) : 0 < c ∧ c ≤ 12 := by
  unfold Lard.listOf at h; split at h
  · cases h; omega
  · cases h
theorem nums_err {x y : Lard.V} {f : Int → Int → Except Nat Lard.V} {c : Nat} (hf : ∀ i j, f i j = .error c → 0 < c ∧ c ≤ 12) (h : Lard.nums x y f = .error c) : 0 < c ∧ c ≤ 12 := by
  unfold Lard.nums at h; split at h
  · exact hf _ _ h
  · cases h; omega
theorem plus_err {x y : Lard.V} {c : Nat} (h : Lard.plus x y = .error c) : 0 < c ∧ c ≤ 12 := by
  unfold Lard.plus at h; split at h
  · cases h
  · split at h
    · cases h; omega
    · cases h
  · exact listOf_err h
  · cases h; omega
theorem less_err {x y : Lard.V} {c : Nat} (h : Lard.less x y = .error c) : 0 < c ∧ c ≤ 12 := by
  unfold Lard.less at h; split at h
  · cases h
  · cases h
  · cases h; omega
theorem at_err {x y : Lard.V} {c : Nat} (h : Lard.atPlace x y = .error c) : 0 < c ∧ c ≤ 12 := by
  unfold Lard.atPlace at h; split at h
  · split at h
    · split at h
      · cases h
      · rename_i hp; cases h; have := (place_err hp).2; omega
    · split at h
      · cases h
      · rename_i hp; cases h; have := (place_err hp).2; omega
    · cases h; omega
  · cases h; omega
theorem make_err {op : Nat} {x y : Lard.V} {c : Nat} (h : Lard.make op x y = .error c) : 0 < c ∧ c ≤ 12 := by
  unfold Lard.make at h
  split at h
  · exact plus_err h
  split at h
  · exact nums_err (fun i j h => by cases h) h
  split at h
  · exact nums_err (fun i j h => by cases h) h
  split at h
  · refine nums_err (fun i j h => ?_) h
    split at h
    · cases h; omega
    · cases h
  split at h
  · exact less_err h
  split at h
  · cases h
  split at h
  · exact nums_err (fun i j h => by cases h) h
  split at h
  · exact nums_err (fun i j h => by cases h) h
  · exact at_err h
theorem size_err {x : Lard.V} {c : Nat} (h : Lard.size x = .error c) : 0 < c ∧ c ≤ 12 := by
  unfold Lard.size at h; split at h
  · cases h; omega
  · cases h
  · cases h
theorem sumFrom_err : ∀ {l : List Lard.V} {a : Int} {c : Nat}, Lard.sumFrom a l = .error c → 0 < c ∧ c ≤ 12
  | [], _, _, h => by cases h
  | v :: r, a, c, h => by
    unfold Lard.sumFrom at h; split at h
    · exact sumFrom_err h
    · cases h; omega
theorem sumUp_err {x : Lard.V} {c : Nat} (h : Lard.sumUp x = .error c) : 0 < c ∧ c ≤ 12 := by
  unfold Lard.sumUp at h; split at h
  · exact sumFrom_err h
  · cases h; omega
theorem asWord_err {x : Lard.V} {c : Nat} (h : Lard.asWord x = .error c) : 0 < c ∧ c ≤ 12 := by
  unfold Lard.asWord at h; split at h
  · cases h
  · cases h
  · cases h; omega
theorem PW.of_pv {E : Env} (ok : EnvOK E) {F F1 : Nat → Prop} {st1 : Nat × E.σ} {w w1 w2 : World} {res : Except Nat Lard.V} {e : Ending} (hst : St E F1 st1 w1) (hF : ∀ k, F1 k → F k ∨ w.heap.size ≤ k) (hfm : Fm E.base w w1) (hpv : PV w1 res e w2) (hc : ∀ c, res = .error c → 0 < c ∧ c ≤ 12) : PW (Ψ E F w (res, st1)) e w2 := by
  obtain ⟨hB, hok, herr⟩ := hpv
  refine ⟨res, ⟨rfl, F1, hst.below ok hB, hF, hfm.trans (Fm.below hB (Nat.le_trans ok.baser (Nat.le_of_lt hst.lt)))⟩, ?_⟩
  cases res with
  | ok v => obtain ⟨y, rfl, hv⟩ := hok v rfl; exact .inl ⟨v, y, rfl, rfl, hv⟩
  | error c => exact .inr ⟨c, rfl, herr c rfl, (hc c rfl).1, (hc c rfl).2⟩
theorem PW.after {E : Env} {F F1 : Nat → Prop} {w w1 w2 : World} {q : Except Nat Lard.V × (Nat × E.σ)} {e : Ending} (hF : ∀ k, F1 k → F k ∨ w.heap.size ≤ k) (hfm : Fm E.base w w1) (h : PW (Ψ E F1 w1 q) e w2) : PW (Ψ E F w q) e w2 := by
  obtain ⟨r, ⟨hr, F2, hst, hF2, hfm2⟩, hc⟩ := h
  refine ⟨r, ⟨hr, F2, hst, fun k hk => ?_, hfm.trans hfm2⟩, hc⟩
  rcases hF2 k hk with h | h
  · exact hF k h
  · exact .inr (Nat.le_trans hfm.size h)
theorem workFirst_minus (E : Env) (ok : EnvOK E) (n : Nat) (ih : WorkSays E n) (t : Lard.T) (it : Option Lard.V) (x xi : Value) (F : Nat → Prop) (st : Nat × E.σ) (w : World) (hk : t.kind = 5) (hlen : t.parts.length = 1) (h0 : ∀ j, j < t.parts.length → Lard.okT n it.isSome (t.part j) = true) (hx : IsTree w (n + 1) t x) (hi : IsOpt w it xi) (h : St E F st w) :
    Calls Tryz.prog 251 #[.pointer (some ⟨E.rb, 0, none⟩), x, xi] w (PW (Ψ E F w (Lard.firstE E.N (fun u s => Lard.ev E.N n u it s) t st))) := by
  obtain ⟨b, i, o, m, c, rfl, nd⟩ := hx.node
  obtain ⟨b0, q0, rfl, d0, ht0⟩ := nd.part 0 (by omega)
  have hcall := ih (t.part 0) it _ xi F st w (h0 0 (by omega)) ht0 hi h
  have hm := nd.len
  have hfirst : Lard.firstE E.N (fun u s => Lard.ev E.N n u it s) t st = Lard.thenR (Lard.ev E.N n (t.part 0) it st) fun v s => (Lard.make 45 (Lard.vn 0) v, s) := by
    unfold Lard.firstE; rw [hk]; rfl
  rw [hfirst]
  obtain ⟨c0, _, _, _, c4⟩ := nd.cells w (Keeps.refl w)
  have e0 := d0 w (Keeps.refl w)
  have hq1 : (0 : Int) < (m : Int) := by omega
  have hform := hi.form
  rw [hk] at c0
  have ND := hide nd
  have HC := hide hcall
  have IH := hide ih
  have HI := hide hi
  clear hcall hfirst nd d0 ht0 hx ih hi
  generalize Lard.ev E.N n (t.part 0) it st = q at HC ⊢
  obtain ⟨r, st1⟩ := q
  generalize hrb : E.rb = rb at HC
  have HRB := hide hrb
  clear hrb
  cases r with
  | error e1 =>
    rcases hform with rfl | ⟨tx, ax, rfl⟩
    all_goals
      go_enter Tryz.func251, Tryz.ntmps251
      go_wp2_with fail
      refine HC.out.mono ?_
      rintro e w1 ⟨r, ⟨hr, hst⟩, ⟨v, y, hr2, rfl, hv⟩ | ⟨c1, hr2, rfl, hc⟩⟩
      · rw [hr] at hr2; cases hr2
      · rw [hr] at hr2; cases hr2
        exact ⟨rfl, .error e1, ⟨rfl, hst⟩, .inr ⟨e1, rfl, rfl, hc⟩⟩
  | ok v1 =>
    show Calls _ _ _ _ (PW (Ψ E F w ((Lard.make 45 (Lard.vn 0) v1, st1))))
    generalize hres : Lard.make 45 (Lard.vn 0) v1 = res
    have HRES := hide hres
    clear hres
    rcases hform with rfl | ⟨tx, ax, rfl⟩
    all_goals
      go_enter Tryz.func251, Tryz.ntmps251
      go_wp2_with fail
      refine HC.out.mono ?_
      rintro e w1 ⟨r, ⟨hr, F1, hst, hF, hfm⟩, ⟨v, y, hr2, rfl, hv⟩ | ⟨c1, hr2, rfl, hc⟩⟩
      · rw [hr] at hr2; cases hr2
        obtain ⟨k0, k1, _, _, k4⟩ := ND.out.cells w1 hfm.keeps
        rw [hk] at k0
        obtain ⟨t1, a1, rfl⟩ := hv.one
        have HV := hide hv
        clear HC hv hr
        have hcall2 := make_minus w1 (isNum 0 (by decide) (by decide)) HV.out
        rw [HRES.out] at hcall2
        have HC2 := hide hcall2
        clear hcall2
        go_wp2_with fail
        refine HC2.out.mono ?_
        rintro e w2 hpv
        have HFIN := hide (PW.of_pv ok hst hF hfm hpv (fun c hc => make_err (HRES.out.trans hc)))
        clear HC2
        cases res with
        | error c =>
          obtain rfl := hpv.2.2 c rfl
          exact ⟨rfl, HFIN.out⟩
        | ok v2 =>
          obtain ⟨y2, rfl, hv2⟩ := hpv.2.1 v2 rfl
          obtain ⟨t2, a2, rfl⟩ := hv2.one
          clear hpv hv2
          go_wp2_with fail
          go_ret
          exact HFIN.out
      · rw [hr] at hr2; cases hr2
theorem workFirst_size (E : Env) (ok : EnvOK E) (n : Nat) (ih : WorkSays E n) (t : Lard.T) (it : Option Lard.V) (x xi : Value) (F : Nat → Prop) (st : Nat × E.σ) (w : World) (hk : t.kind = 10) (hlen : t.parts.length = 1) (h0 : ∀ j, j < t.parts.length → Lard.okT n it.isSome (t.part j) = true) (hx : IsTree w (n + 1) t x) (hi : IsOpt w it xi) (h : St E F st w) :
    Calls Tryz.prog 251 #[.pointer (some ⟨E.rb, 0, none⟩), x, xi] w (PW (Ψ E F w (Lard.firstE E.N (fun u s => Lard.ev E.N n u it s) t st))) := by
  obtain ⟨b, i, o, m, c, rfl, nd⟩ := hx.node
  obtain ⟨b0, q0, rfl, d0, ht0⟩ := nd.part 0 (by omega)
  have hcall := ih (t.part 0) it _ xi F st w (h0 0 (by omega)) ht0 hi h
  have hm := nd.len
  have hfirst : Lard.firstE E.N (fun u s => Lard.ev E.N n u it s) t st = Lard.thenR (Lard.ev E.N n (t.part 0) it st) fun v s => (Lard.size v, s) := by
    unfold Lard.firstE; rw [hk]; rfl
  rw [hfirst]
  obtain ⟨c0, _, _, _, c4⟩ := nd.cells w (Keeps.refl w)
  have e0 := d0 w (Keeps.refl w)
  have hq1 : (0 : Int) < (m : Int) := by omega
  have hform := hi.form
  rw [hk] at c0
  have ND := hide nd
  have HC := hide hcall
  have IH := hide ih
  have HI := hide hi
  clear hcall hfirst nd d0 ht0 hx ih hi
  generalize Lard.ev E.N n (t.part 0) it st = q at HC ⊢
  obtain ⟨r, st1⟩ := q
  generalize hrb : E.rb = rb at HC
  have HRB := hide hrb
  clear hrb
  cases r with
  | error e1 =>
    rcases hform with rfl | ⟨tx, ax, rfl⟩
    all_goals
      go_enter Tryz.func251, Tryz.ntmps251
      go_wp2_with fail
      refine HC.out.mono ?_
      rintro e w1 ⟨r, ⟨hr, hst⟩, ⟨v, y, hr2, rfl, hv⟩ | ⟨c1, hr2, rfl, hc⟩⟩
      · rw [hr] at hr2; cases hr2
      · rw [hr] at hr2; cases hr2
        exact ⟨rfl, .error e1, ⟨rfl, hst⟩, .inr ⟨e1, rfl, rfl, hc⟩⟩
  | ok v1 =>
    show Calls _ _ _ _ (PW (Ψ E F w ((Lard.size v1, st1))))
    generalize hres : Lard.size v1 = res
    have HRES := hide hres
    clear hres
    rcases hform with rfl | ⟨tx, ax, rfl⟩
    all_goals
      go_enter Tryz.func251, Tryz.ntmps251
      go_wp2_with fail
      refine HC.out.mono ?_
      rintro e w1 ⟨r, ⟨hr, F1, hst, hF, hfm⟩, ⟨v, y, hr2, rfl, hv⟩ | ⟨c1, hr2, rfl, hc⟩⟩
      · rw [hr] at hr2; cases hr2
        obtain ⟨k0, k1, _, _, k4⟩ := ND.out.cells w1 hfm.keeps
        rw [hk] at k0
        obtain ⟨t1, a1, rfl⟩ := hv.one
        have HV := hide hv
        clear HC hv hr
        have hcall2 := size_any w1 HV.out
        rw [HRES.out] at hcall2
        have HC2 := hide hcall2
        clear hcall2
        go_wp2_with fail
        refine HC2.out.mono ?_
        rintro e w2 hpv
        have HFIN := hide (PW.of_pv ok hst hF hfm hpv (fun c hc => size_err (HRES.out.trans hc)))
        clear HC2
        cases res with
        | error c =>
          obtain rfl := hpv.2.2 c rfl
          exact ⟨rfl, HFIN.out⟩
        | ok v2 =>
          obtain ⟨y2, rfl, hv2⟩ := hpv.2.1 v2 rfl
          obtain ⟨t2, a2, rfl⟩ := hv2.one
          clear hpv hv2
          go_wp2_with fail
          go_ret
          exact HFIN.out
      · rw [hr] at hr2; cases hr2
theorem workFirst_sum (E : Env) (ok : EnvOK E) (n : Nat) (ih : WorkSays E n) (t : Lard.T) (it : Option Lard.V) (x xi : Value) (F : Nat → Prop) (st : Nat × E.σ) (w : World) (hk : t.kind = 11) (hlen : t.parts.length = 1) (h0 : ∀ j, j < t.parts.length → Lard.okT n it.isSome (t.part j) = true) (hx : IsTree w (n + 1) t x) (hi : IsOpt w it xi) (h : St E F st w) :
    Calls Tryz.prog 251 #[.pointer (some ⟨E.rb, 0, none⟩), x, xi] w (PW (Ψ E F w (Lard.firstE E.N (fun u s => Lard.ev E.N n u it s) t st))) := by
  obtain ⟨b, i, o, m, c, rfl, nd⟩ := hx.node
  obtain ⟨b0, q0, rfl, d0, ht0⟩ := nd.part 0 (by omega)
  have hcall := ih (t.part 0) it _ xi F st w (h0 0 (by omega)) ht0 hi h
  have hm := nd.len
  have hfirst : Lard.firstE E.N (fun u s => Lard.ev E.N n u it s) t st = Lard.thenR (Lard.ev E.N n (t.part 0) it st) fun v s => (Lard.sumUp v, s) := by
    unfold Lard.firstE; rw [hk]; rfl
  rw [hfirst]
  obtain ⟨c0, _, _, _, c4⟩ := nd.cells w (Keeps.refl w)
  have e0 := d0 w (Keeps.refl w)
  have hq1 : (0 : Int) < (m : Int) := by omega
  have hform := hi.form
  rw [hk] at c0
  have ND := hide nd
  have HC := hide hcall
  have IH := hide ih
  have HI := hide hi
  clear hcall hfirst nd d0 ht0 hx ih hi
  generalize Lard.ev E.N n (t.part 0) it st = q at HC ⊢
  obtain ⟨r, st1⟩ := q
  generalize hrb : E.rb = rb at HC
  have HRB := hide hrb
  clear hrb
  cases r with
  | error e1 =>
    rcases hform with rfl | ⟨tx, ax, rfl⟩
    all_goals
      go_enter Tryz.func251, Tryz.ntmps251
      go_wp2_with fail
      refine HC.out.mono ?_
      rintro e w1 ⟨r, ⟨hr, hst⟩, ⟨v, y, hr2, rfl, hv⟩ | ⟨c1, hr2, rfl, hc⟩⟩
      · rw [hr] at hr2; cases hr2
      · rw [hr] at hr2; cases hr2
        exact ⟨rfl, .error e1, ⟨rfl, hst⟩, .inr ⟨e1, rfl, rfl, hc⟩⟩
  | ok v1 =>
    show Calls _ _ _ _ (PW (Ψ E F w ((Lard.sumUp v1, st1))))
    generalize hres : Lard.sumUp v1 = res
    have HRES := hide hres
    clear hres
    rcases hform with rfl | ⟨tx, ax, rfl⟩
    all_goals
      go_enter Tryz.func251, Tryz.ntmps251
      go_wp2_with fail
      refine HC.out.mono ?_
      rintro e w1 ⟨r, ⟨hr, F1, hst, hF, hfm⟩, ⟨v, y, hr2, rfl, hv⟩ | ⟨c1, hr2, rfl, hc⟩⟩
      · rw [hr] at hr2; cases hr2
        obtain ⟨k0, k1, _, _, k4⟩ := ND.out.cells w1 hfm.keeps
        rw [hk] at k0
        obtain ⟨t1, a1, rfl⟩ := hv.one
        have HV := hide hv
        clear HC hv hr
        have hcall2 := sum_any w1 HV.out
        rw [HRES.out] at hcall2
        have HC2 := hide hcall2
        clear hcall2
        go_wp2_with fail
        refine HC2.out.mono ?_
        rintro e w2 hpv
        have HFIN := hide (PW.of_pv ok hst hF hfm hpv (fun c hc => sumUp_err (HRES.out.trans hc)))
        clear HC2
        cases res with
        | error c =>
          obtain rfl := hpv.2.2 c rfl
          exact ⟨rfl, HFIN.out⟩
        | ok v2 =>
          obtain ⟨y2, rfl, hv2⟩ := hpv.2.1 v2 rfl
          obtain ⟨t2, a2, rfl⟩ := hv2.one
          clear hpv hv2
          go_wp2_with fail
          go_ret
          exact HFIN.out
      · rw [hr] at hr2; cases hr2
theorem workFirst_word (E : Env) (ok : EnvOK E) (n : Nat) (ih : WorkSays E n) (t : Lard.T) (it : Option Lard.V) (x xi : Value) (F : Nat → Prop) (st : Nat × E.σ) (w : World) (hk : t.kind = 12) (hlen : t.parts.length = 1) (h0 : ∀ j, j < t.parts.length → Lard.okT n it.isSome (t.part j) = true) (hx : IsTree w (n + 1) t x) (hi : IsOpt w it xi) (h : St E F st w) :
    Calls Tryz.prog 251 #[.pointer (some ⟨E.rb, 0, none⟩), x, xi] w (PW (Ψ E F w (Lard.firstE E.N (fun u s => Lard.ev E.N n u it s) t st))) := by
  obtain ⟨b, i, o, m, c, rfl, nd⟩ := hx.node
  obtain ⟨b0, q0, rfl, d0, ht0⟩ := nd.part 0 (by omega)
  have hcall := ih (t.part 0) it _ xi F st w (h0 0 (by omega)) ht0 hi h
  have hm := nd.len
  have hfirst : Lard.firstE E.N (fun u s => Lard.ev E.N n u it s) t st = Lard.thenR (Lard.ev E.N n (t.part 0) it st) fun v s => (Lard.asWord v, s) := by
    unfold Lard.firstE; rw [hk]; rfl
  rw [hfirst]
  obtain ⟨c0, _, _, _, c4⟩ := nd.cells w (Keeps.refl w)
  have e0 := d0 w (Keeps.refl w)
  have hq1 : (0 : Int) < (m : Int) := by omega
  have hform := hi.form
  rw [hk] at c0
  have ND := hide nd
  have HC := hide hcall
  have IH := hide ih
  have HI := hide hi
  clear hcall hfirst nd d0 ht0 hx ih hi
  generalize Lard.ev E.N n (t.part 0) it st = q at HC ⊢
  obtain ⟨r, st1⟩ := q
  generalize hrb : E.rb = rb at HC
  have HRB := hide hrb
  clear hrb
  cases r with
  | error e1 =>
    rcases hform with rfl | ⟨tx, ax, rfl⟩
    all_goals
      go_enter Tryz.func251, Tryz.ntmps251
      go_wp2_with fail
      refine HC.out.mono ?_
      rintro e w1 ⟨r, ⟨hr, hst⟩, ⟨v, y, hr2, rfl, hv⟩ | ⟨c1, hr2, rfl, hc⟩⟩
      · rw [hr] at hr2; cases hr2
      · rw [hr] at hr2; cases hr2
        exact ⟨rfl, .error e1, ⟨rfl, hst⟩, .inr ⟨e1, rfl, rfl, hc⟩⟩
  | ok v1 =>
    show Calls _ _ _ _ (PW (Ψ E F w ((Lard.asWord v1, st1))))
    generalize hres : Lard.asWord v1 = res
    have HRES := hide hres
    clear hres
    rcases hform with rfl | ⟨tx, ax, rfl⟩
    all_goals
      go_enter Tryz.func251, Tryz.ntmps251
      go_wp2_with fail
      refine HC.out.mono ?_
      rintro e w1 ⟨r, ⟨hr, F1, hst, hF, hfm⟩, ⟨v, y, hr2, rfl, hv⟩ | ⟨c1, hr2, rfl, hc⟩⟩
      · rw [hr] at hr2; cases hr2
        obtain ⟨k0, k1, _, _, k4⟩ := ND.out.cells w1 hfm.keeps
        rw [hk] at k0
        obtain ⟨t1, a1, rfl⟩ := hv.one
        have HV := hide hv
        clear HC hv hr
        have hcall2 := asWord_any w1 hst.g HV.out
        rw [HRES.out] at hcall2
        have HC2 := hide hcall2
        clear hcall2
        go_wp2_with fail
        refine HC2.out.mono ?_
        rintro e w2 hpv
        have HFIN := hide (PW.of_pv ok hst hF hfm hpv (fun c hc => asWord_err (HRES.out.trans hc)))
        clear HC2
        cases res with
        | error c =>
          obtain rfl := hpv.2.2 c rfl
          exact ⟨rfl, HFIN.out⟩
        | ok v2 =>
          obtain ⟨y2, rfl, hv2⟩ := hpv.2.1 v2 rfl
          obtain ⟨t2, a2, rfl⟩ := hv2.one
          clear hpv hv2
          go_wp2_with fail
          go_ret
          exact HFIN.out
      · rw [hr] at hr2; cases hr2
theorem workFirst_group (E : Env) (_ok : EnvOK E) (n : Nat) (ih : WorkSays E n) (t : Lard.T) (it : Option Lard.V) (x xi : Value) (F : Nat → Prop) (st : Nat × E.σ) (w : World) (hk : t.kind = 6) (hlen : t.parts.length = 1) (h0 : ∀ j, j < t.parts.length → Lard.okT n it.isSome (t.part j) = true) (hx : IsTree w (n + 1) t x) (hi : IsOpt w it xi) (h : St E F st w) :
    Calls Tryz.prog 251 #[.pointer (some ⟨E.rb, 0, none⟩), x, xi] w (PW (Ψ E F w (Lard.firstE E.N (fun u s => Lard.ev E.N n u it s) t st))) := by
  obtain ⟨b, i, o, m, c, rfl, nd⟩ := hx.node
  obtain ⟨b0, q0, rfl, d0, ht0⟩ := nd.part 0 (by omega)
  have hcall := ih (t.part 0) it _ xi F st w (h0 0 (by omega)) ht0 hi h
  have hm := nd.len
  have hfirst : Lard.firstE E.N (fun u s => Lard.ev E.N n u it s) t st = Lard.thenR (Lard.ev E.N n (t.part 0) it st) fun v s => (.ok v, s) := by
    unfold Lard.firstE; rw [hk]; rfl
  rw [hfirst]
  obtain ⟨c0, _, _, _, c4⟩ := nd.cells w (Keeps.refl w)
  have e0 := d0 w (Keeps.refl w)
  have hq1 : (0 : Int) < (m : Int) := by omega
  have hform := hi.form
  rw [hk] at c0
  have ND := hide nd
  have HC := hide hcall
  have IH := hide ih
  have HI := hide hi
  clear hcall hfirst nd d0 ht0 hx ih hi
  generalize Lard.ev E.N n (t.part 0) it st = q at HC ⊢
  obtain ⟨r, st1⟩ := q
  generalize hrb : E.rb = rb at HC
  have HRB := hide hrb
  clear hrb
  cases r with
  | error e1 =>
    rcases hform with rfl | ⟨tx, ax, rfl⟩
    all_goals
      go_enter Tryz.func251, Tryz.ntmps251
      go_wp2_with fail
      refine HC.out.mono ?_
      rintro e w1 ⟨r, ⟨hr, hst⟩, ⟨v, y, hr2, rfl, hv⟩ | ⟨c1, hr2, rfl, hc⟩⟩
      · rw [hr] at hr2; cases hr2
      · rw [hr] at hr2; cases hr2
        exact ⟨rfl, .error e1, ⟨rfl, hst⟩, .inr ⟨e1, rfl, rfl, hc⟩⟩
  | ok v1 =>
    show Calls _ _ _ _ (PW (Ψ E F w ((.ok v1, st1))))
    rcases hform with rfl | ⟨tx, ax, rfl⟩
    all_goals
      go_enter Tryz.func251, Tryz.ntmps251
      go_wp2_with fail
      refine HC.out.mono ?_
      rintro e w1 ⟨r, ⟨hr, F1, hst, hF, hfm⟩, ⟨v, y, hr2, rfl, hv⟩ | ⟨c1, hr2, rfl, hc⟩⟩
      · rw [hr] at hr2; cases hr2
        obtain ⟨k0, k1, _, _, k4⟩ := ND.out.cells w1 hfm.keeps
        rw [hk] at k0
        obtain ⟨t1, a1, rfl⟩ := hv.one
        have HV := hide hv
        clear HC hv hr
        go_wp2_with fail
        go_ret
        exact ⟨.ok v1, ⟨rfl, F1, hst, hF, hfm⟩, .inl ⟨v1, _, rfl, rfl, HV.out⟩⟩
      · rw [hr] at hr2; cases hr2
end Go.Proofs.YtpekpdimdelncaaGreatDoor
