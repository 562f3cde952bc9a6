/- Out of: K2, K3, K4, K5. -/
import Derived.Test.YtpekpdimdelncaaGreatDoorP40
import Derived.Test.YtpekpdimdelncaaGreatDoorP32
import Derived.Laws.BytesArg
import Derived.Deep.Cut
namespace Go.Proofs.YtpekpdimdelncaaGreatDoor
open Go.RowKit Go.Shelf
set_option linter.unusedVariables false
set_option linter.unusedSimpArgs false
/-- A key is given something. -/
def Lard.LS.gv (s : Lard.LS) (key : List UInt8) (th : Lard.Thing) : Lard.LS := { s with has := Lard.put s.has key th }.write (Lard.thingText key th)
theorem give_room {s : Lard.LS} {key : List UInt8} {th : Lard.Thing} (h : s.has.length < 40) : s.give key th = (0, s.gv key th) := by
  unfold Lard.LS.give
  rw [if_neg (fun e => by omega)]
  rfl
theorem gv_jr (s : Lard.LS) (key : List UInt8) (th : Lard.Thing) : (jbytes (s.gv key th).jr).length = (jbytes s.jr).length + (Lard.thingText key th).length + 10 := by
  show (jbytes (s.jr ++ [_])).length = _
  rw [jbytes_snoc, List.length_append, line_len]
  omega
theorem ld_put {B : Nat} {w0 w : World} {lb : Nat} {s : Lard.LS} {N : Nat} (h : Ld B w0 w lb s N) (key text : ByteArray) (v : Lard.V) (hn : Lard.isName key.data.toList = true) (hv : Lard.rdV text.data.toList = some v) (hroom : s.has.length < 40) (hts : text.size ≤ 1000) (hN : N ≤ 10000000000000) :
    Calls Tryz.prog 23 #[ptr lb, .string key, .string text] w fun e w' => e = .returned (.int .i64 0) ∧ Ld B w0 w' lb (s.gv key.data.toList ⟨v, none, [], none⟩) (N + 2000) := by
  obtain ⟨L, hA, hL⟩ := h.lat
  have hk8 := name_len hn
  have hk8' : key.size ≤ 8 := by rw [size_data]; exact hk8
  obtain ⟨hok, hwr⟩ := Lard.rdV_some hv
  have hput : s.putC key.data.toList text.data.toList = (0, s.gv key.data.toList ⟨v, none, [], none⟩) := by
    unfold Lard.LS.putC
    rw [if_neg (by rw [hn]; exact fun e => by cases e), hv]
    exact give_room hroom
  have := put_any w lb key text s L hA h.g h.deb (by omega) (by omega) (by omega) (by have := h.jr; omega)
  rw [hput] at this
  refine this.mono ?_
  rintro e w' ⟨rfl, hP⟩
  refine ⟨rfl, h.post hA hL hP (h.sound.put (key := key.data.toList) (th := ⟨v, none, [], none⟩) ⟨rfl, .inl ⟨rfl, Lard.okV_lev 3 v hok⟩⟩ (.inr hroom) _) ?_⟩
  rw [gv_jr]
  have hl : (Lard.thingText key.data.toList ⟨v, none, [], none⟩).length = 5 + key.data.toList.length + text.data.toList.length := by
    unfold Lard.thingText
    simp [← hwr]
    omega
  have h1 := h.jr
  have h2 : text.data.toList.length ≤ 1000 := by rw [← size_data]; exact hts
  omega
theorem ld_set {B : Nat} {w0 w : World} {lb : Nat} {s : Lard.LS} {N : Nat} (h : Ld B w0 w lb s N) (key text : ByteArray) (t : Lard.T) (hn : Lard.isName key.data.toList = true) (ht : Lard.ruleT text.data.toList = some t) (hroom : s.has.length < 40) (hN : N ≤ 10000000000000) :
    Calls Tryz.prog 25 #[ptr lb, .string key, .string text] w fun e w' => e = .returned (.tuple #[.int .i64 0, .int .i64 0]) ∧ Ld B w0 w' lb (s.gv key.data.toList ⟨Lard.vn 0, some t, text.data.toList, none⟩) (N + 2000) := by
  obtain ⟨L, hA, hL⟩ := h.lat
  have hk8 := name_len hn
  obtain ⟨h200, htt, _⟩ := ruleT_ok ht
  have := set_ok w lb key text s L t hA h.g h.deb hn ht (by omega) (by have := h.jr; omega)
  rw [give_room hroom] at this
  refine this.mono ?_
  rintro e w' ⟨rfl, hP⟩
  refine ⟨rfl, h.post hA hL hP (h.sound.put (key := key.data.toList) (th := ⟨Lard.vn 0, some t, text.data.toList, none⟩) ⟨rfl, .inr ⟨t, rfl, by rw [htt]; exact Lard.clo_treeOf _⟩⟩ (.inr hroom) _) ?_⟩
  rw [gv_jr]
  have hl : (Lard.thingText key.data.toList ⟨Lard.vn 0, some t, text.data.toList, none⟩).length = 5 + key.data.toList.length + text.data.toList.length := by
    unfold Lard.thingText
    simp
    omega
  have h1 := h.jr
  omega
theorem Ld.fit {B : Nat} {w0 w : World} {lb : Nat} {s : Lard.LS} {N : Nat} (h : Ld B w0 w lb s N) : Fit s N := ⟨h.sound.kb, h.sound.begun, h.sound.len, h.jr⟩
theorem ld_ask {B : Nat} {w0 w : World} {lb : Nat} {s : Lard.LS} {N : Nat} (h : Ld B w0 w lb s N) (key : ByteArray) (hn : Lard.isName key.data.toList = true) (hN : N ≤ 10000000000000) :
    Calls Tryz.prog 22 #[ptr lb, .string key] w fun e w' => ∃ (o : Option Addr) (m c : Nat) (tc : Int) (ts : ByteArray), e = .returned (.tuple #[.string ts, .int .i64 tc, .slice o m c]) ∧ toldV (s.ask key.data.toList).1 = .agg #[.int .i64 tc, .string ts] ∧ Ld B w0 w' lb (s.ask key.data.toList).2 (N + 2000000000) ∧
      m = (if tc = 12 then (s.ask key.data.toList).2.ring else []).length ∧ ∀ (j : Nat) (x : List UInt8), (if tc = 12 then (s.ask key.data.toList).2.ring else [])[j]? = some x → ∃ a, o = some a ∧ w'.cell? (a.add j) = some (str x) := by
  obtain ⟨L, hA, hL⟩ := h.lat
  have hk8 := name_len hn
  have hk8' : key.size ≤ 8 := by rw [size_data]; exact hk8
  refine (ask_any w lb key s L N hA h.g h.deb (by omega) hn h.fit (by omega)).mono ?_
  rintro e w' ⟨v, tc, ts, L', rfl, htv, q1, q2, q3, q4, hphi, hr⟩
  have hP : LPost0 w lb L (s.ask key.data.toList).2 w' := ⟨L', q1, q2, q3, q4.toFrm⟩
  have hld := h.post hA hL hP (h.sound.ask _) (h.fit.ask _ hphi).jr
  rcases hr with ⟨rfl, hr⟩ | ⟨g, c, rfl, _, _, ho⟩
  · refine ⟨_, _, _, tc, ts, rfl, htv, hld, by rw [hr]; rfl, fun j x hx => ?_⟩
    rw [hr] at hx
    cases hx
  · refine ⟨_, _, _, tc, ts, rfl, htv, hld, rfl, fun j x hx => ⟨_, rfl, ?_⟩⟩
    exact World.ownsRow.cells ho (g := g) rfl j (str x) (by rw [List.getElem?_map, hx]; rfl)
/-! pick, decimal. -/
/-- Which of n things a raw number speaks of. -/
def pickN (c : Int) (n : Nat) : Nat := (if c < 0 then -(c + 1) else c).toNat % n
set_option maxRecDepth 100000 in
set_option maxHeartbeats 1000000 in
theorem pick_any (c : Int) (n : Nat) (w : World) (h0 : -9223372036854775808 ≤ c) (h1 : c ≤ 9223372036854775807) (hn : 0 < n) (hn2 : n ≤ 1000000000) :
    Calls Tryz.prog 20 #[.int .i64 c, .int .i64 n] w fun e w' => e = .returned (.int .i64 (pickN c n : Nat)) ∧ w' = w := by
  have hn0 : ((n : Int) == 0) = false := beq_eq_false_iff_ne.2 (by omega)
  unfold pickN
  by_cases hc : c < 0
  · rw [if_pos hc]
    obtain ⟨m, hm⟩ : ∃ m : Nat, c + 1 = -(m : Int) := ⟨(-(c + 1)).toNat, by omega⟩
    have e1 : -((c + 1).tmod (n : Int)) = (((-(c + 1)).toNat % n : Nat) : Int) := by
      rw [hm, Int.neg_tmod, Int.neg_neg, Int.neg_neg]
      rfl
    have hw1 : IntKind.i64.wrap (c + 1) = c + 1 := by rw [IntKind.wrap_i64]; omega
    have hw2 : IntKind.i64.wrap (-(c + 1)) = -(c + 1) := by rw [IntKind.wrap_i64]; omega
    clear hm
    have HE := hide e1
    clear e1
    generalize (((-(c + 1)).toNat % n : Nat) : Int) = r at HE ⊢
    go_enter Tryz.func20, Tryz.ntmps20
    go_wp2_with fail
    go_ret
    refine ⟨?_, rfl⟩
    show Ending.returned (Value.int .i64 (-((c + 1).tmod (n : Int)))) = _
    rw [HE.out]
  · rw [if_neg hc]
    obtain ⟨m, rfl⟩ : ∃ m : Nat, c = (m : Int) := ⟨c.toNat, by omega⟩
    have HE : Hid (((m : Int).tmod (n : Int)) = ((((m : Int)).toNat % n : Nat) : Int)) := hide rfl
    generalize ((((m : Int)).toNat % n : Nat) : Int) = r at HE ⊢
    go_enter Tryz.func20, Tryz.ntmps20
    go_wp2_with fail
    go_ret
    refine ⟨?_, rfl⟩
    show Ending.returned (Value.int .i64 ((m : Int).tmod (n : Int))) = _
    rw [HE.out]
/-! decimal -/
theorem conv_byte (W : World) (b : Nat) (n : Int) (h : W.cell? ⟨b, 0, none⟩ = some (.int .u8 n)) : (convert 106 9 (.slice (some ⟨b, 0, none⟩) 1 1)).run Tryz.prog W = .ok (.string ⟨#[UInt8.ofNat n.toNat]⟩) W :=
  run_convert_bytes_arg W 106 5 Tryz.underlying106 Tryz.underlying5 b 0 1 1 [n] rfl (fun i hi => by
    obtain rfl : i = 0 := by omega
    exact h) 9 Tryz.underlying9
set_option maxRecDepth 100000 in
set_option maxHeartbeats 1000000 in
theorem dec_small (u : Nat) (w : World) (hu : u < 10) : Calls Tryz.prog 24 #[.int .i64 u] w fun e w' => e = .returned (.string ⟨(Lib.decDigits u).toArray⟩) ∧ Below w.heap.size w w' := by
  have h1 : ¬ ((u : Int) < 0) := by omega
  have h2 : ((u : Int) < 10) := by omega
  have e : Lib.decDigits u = [UInt8.ofNat (48 + u)] := by rw [Lib.decDigits, dif_pos hu]
  have hcv := conv_byte (w.alloc (.cells #[.int .u8 (48 + (u : Int))] 5)) w.heap.size (48 + u) (by simp [go_sem])
  have hn : (48 + (u : Int)).toNat = 48 + u := by omega
  rw [hn] at hcv
  rw [e]
  clear hn
  go_enter Tryz.func24, Tryz.ntmps24
  go_wp2_with fail
  go_ret
  exact ⟨rfl, (Below.refl _ w).alloc (Nat.le_refl _) _⟩
set_option maxRecDepth 100000 in
set_option maxHeartbeats 2000000 in
theorem dec_big (u : Nat) (w : World) (hu : 10 ≤ u) (hu2 : u ≤ 1000000000000000000) (ih : ∀ w, Calls Tryz.prog 24 #[.int .i64 (u / 10 : Nat)] w fun e w' => e = .returned (.string ⟨(Lib.decDigits (u / 10)).toArray⟩) ∧ Below w.heap.size w w') : Calls Tryz.prog 24 #[.int .i64 u] w fun e w' => e = .returned (.string ⟨(Lib.decDigits u).toArray⟩) ∧ Below w.heap.size w w' := by
  have h1 : ¬ ((u : Int) < 0) := by omega
  have h2 : ¬ ((u : Int) < 10) := by omega
  have e : Lib.decDigits u = Lib.decDigits (u / 10) ++ [UInt8.ofNat (48 + u % 10)] := by rw [Lib.decDigits, dif_neg (by omega)]
  have hcast : (((u / 10 : Nat) : Int)) = (u : Int) / 10 := by omega
  rw [hcast] at ih
  have hcv : ∀ (W : World) (b : Nat), W.cell? ⟨b, 0, none⟩ = some (.int .u8 (48 + (u : Int) % 10)) → (convert 106 9 (.slice (some ⟨b, 0, none⟩) 1 1)).run Tryz.prog W = .ok (.string ⟨#[UInt8.ofNat (48 + u % 10)]⟩) W := fun W b h => by
    have := conv_byte W b _ h
    have hn : (48 + (u : Int) % 10).toNat = 48 + u % 10 := by omega
    rw [hn] at this
    exact this
  have hq : (u : Int).tdiv 10 = (u : Int) / 10 := rfl
  have hr : (u : Int).tmod 10 = (u : Int) % 10 := rfl
  have hw1 : IntKind.i64.wrap ((u : Int) / 10) = (u : Int) / 10 := by rw [IntKind.wrap_i64]; omega
  have hw2 : IntKind.i64.wrap (48 + (u : Int) % 10) = 48 + (u : Int) % 10 := by rw [IntKind.wrap_i64]; omega
  have hw3 : IntKind.u8.wrap (48 + (u : Int) % 10) = 48 + (u : Int) % 10 := by
    have : IntKind.u8.wrap (48 + (u : Int) % 10) = (48 + (u : Int) % 10) % 256 := rfl
    rw [this]
    omega
  clear hcast
  have HCV := hide hcv
  clear hcv
  have IH := hide ih
  clear ih
  generalize hRR : (fun (e : Ending) (w' : World) => e = .returned (.string ⟨(Lib.decDigits u).toArray⟩) ∧ Below w.heap.size w w') = RR
  have HFIN : Hid (∀ w', Below w.heap.size w w' → RR (.returned (.string (⟨(Lib.decDigits (u / 10)).toArray⟩ ++ ⟨#[UInt8.ofNat (48 + u % 10)]⟩))) w') := hide (fun w' hB => by
    rw [← hRR, e]
    refine ⟨?_, hB⟩
    congr 2)
  clear hRR e
  have hds : (⟨(Lib.decDigits (u / 10)).toArray⟩ : ByteArray).size ≤ 19 := by
    have := Lard.dec_len 18 (u / 10) (by show _ < 10000000000000000000; omega)
    rw [size_mk]
    exact this
  generalize (⟨(Lib.decDigits (u / 10)).toArray⟩ : ByteArray) = ds at IH HFIN hds
  have hd1 : (⟨#[UInt8.ofNat (48 + u % 10)]⟩ : ByteArray).size ≤ 1 := Nat.le_refl _
  generalize (⟨#[UInt8.ofNat (48 + u % 10)]⟩ : ByteArray) = d1 at HCV HFIN hd1
  have hcat : ¬ 9223372036854775807 < ds.size + d1.size := by omega
  go_enter Tryz.func24, Tryz.ntmps24
  go_wp2_with fail
  rename_i K5 HK5
  refine wp_onlyN K5 (fun a w h => h) ?_
  refine wp_region_held_drew (S := fun _ => True) (by kernel_rfl) trivial (fun hHeld => ?_)
  refine wpAnyH_take (i := 0) (v := ?_) rfl (by kernel_rfl) (by kernel_rfl) (by kernel_rfl) (fun _ _ _ h => h) (Or.inl ⟨by rfl, ?_⟩) trivial ?_
  rotate_left
  · intro w' s0
    go_simp
    try with_reducible rfl
  simp only [Act.put, List.setIfInBounds_toArray, List.set_cons_zero, List.set_cons_succ]
  refine wpAnyH_take (i := 1) (v := ?_) rfl (by kernel_rfl) (by kernel_rfl) (by kernel_rfl) (fun _ _ _ h => h) (Or.inl ⟨by rfl, ?_⟩) trivial ?_
  rotate_left
  · intro w' s0
    go_simp
    try with_reducible rfl
  simp only [Act.put, List.setIfInBounds_toArray, List.set_cons_zero, List.set_cons_succ]
  refine wpAnyH_take (i := 3) (v := ?_) rfl (by kernel_rfl) (by kernel_rfl) (by kernel_rfl) (fun _ _ _ h => h) (Or.inl ⟨by rfl, ?_⟩) trivial ?_
  rotate_left
  · intro w' s0
    go_simp
    try with_reducible rfl
  simp only [Act.put, List.setIfInBounds_toArray, List.set_cons_zero, List.set_cons_succ]
  refine wpAnyH_take (i := 4) (v := ?_) rfl (by kernel_rfl) (by kernel_rfl) (by kernel_rfl) (fun _ _ _ h => h) (Or.inl ⟨by rfl, ?_⟩) trivial ?_
  rotate_left
  · intro w' s0
    go_simp
    try with_reducible rfl
  simp only [Act.put, List.setIfInBounds_toArray, List.set_cons_zero, List.set_cons_succ]
  refine wpAnyH_take (i := 5) (v := ?_) rfl (by kernel_rfl) (by kernel_rfl) (by kernel_rfl) (fun _ _ _ h => h) (Or.inl ⟨by rfl, ?_⟩) trivial ?_
  rotate_left
  · intro w' s0
    go_simp
    try with_reducible rfl
  simp only [Act.put, List.setIfInBounds_toArray, List.set_cons_zero, List.set_cons_succ]
  refine wpAnyH_take (i := 6) (v := ?_) rfl (by kernel_rfl) (by kernel_rfl) (by kernel_rfl) (fun _ _ _ h => h) (Or.inl ⟨by rfl, ?_⟩) trivial ?_
  rotate_left
  · intro w' s0
    go_simp
    try with_reducible rfl
  simp only [Act.put, List.setIfInBounds_toArray, List.set_cons_zero, List.set_cons_succ]
  refine wpAnyH_ready (rs := [2, 7]) (by kernel_rfl) (by simp) ?_
  refine AllReadyH.cons rfl (fun K hK => ?_) (AllReadyH.cons rfl (fun K hK => ?_) AllReadyH.nil)
  · go_simp
    refine (IH.out _).mono ?_
    rintro e w1 ⟨rfl, hB1⟩
    refine hK.out _ _ trivial (fun _ => ?_)
    clear hK
    have hB1' : Below w.heap.size w w1 := ((Below.refl _ w).drew).trans hB1
    have hc8 := HCV.out (w1.alloc (.cells #[.int .u8 (48 + (u : Int) % 10)] 5)) w1.heap.size (by simp [go_sem])
    refine wpAnyH_ready (rs := [7]) (by kernel_rfl) (by simp) ?_
    refine AllReadyH.cons rfl (fun K hK => ?_) AllReadyH.nil
    go_simp
    refine hK.out _ _ trivial (fun _ => ?_)
    clear hK
    refine wpAnyH_ready (rs := [8]) (by kernel_rfl) (by simp) ?_
    refine AllReadyH.cons rfl (fun K hK => ?_) AllReadyH.nil
    go_simp
    refine hK.out _ _ trivial (fun _ => ?_)
    clear hK
    refine wpAnyH_ready (rs := [9]) (by kernel_rfl) (by simp) ?_
    refine AllReadyH.cons rfl (fun K hK => ?_) AllReadyH.nil
    go_simp
    refine hK.out _ _ trivial (fun _ => ?_)
    clear hK
    refine wpAnyH_ready (rs := [10]) (by kernel_rfl) (by simp) ?_
    refine AllReadyH.cons rfl (fun K hK => ?_) AllReadyH.nil
    go_simp
    refine hK.out _ _ trivial (fun _ => ?_)
    clear hK
    refine wpAnyH_done (by kernel_rfl) ?_ _
    show K5 _ _
    have HF := hide (HFIN.out _ (hB1'.alloc hB1'.size (.cells #[.int .u8 (48 + (u : Int) % 10)] 5)))
    clear HFIN
    go_wp2_with fail
    exact HF.out
  · go_simp
    have hB7 : Below w.heap.size w (w.alloc (.cells #[.int .u8 (48 + (u : Int) % 10)] 5)).drew := ((Below.refl _ w).alloc (Nat.le_refl _) _).drew
    have c7 : (w.alloc (.cells #[.int .u8 (48 + (u : Int) % 10)] 5)).drew.cell? ⟨w.heap.size, 0, none⟩ = some (.int .u8 (48 + (u : Int) % 10)) := by simp [go_sem]
    refine hK.out _ _ trivial (fun _ => ?_)
    clear hK
    refine wpAnyH_ready (rs := [2, 8]) (by kernel_rfl) (by simp) ?_
    refine AllReadyH.cons rfl (fun K hK => ?_) (AllReadyH.cons rfl (fun K hK => ?_) AllReadyH.nil)
    · go_simp
      refine (IH.out _).mono ?_
      rintro e w1 ⟨rfl, hB1⟩
      refine hK.out _ _ trivial (fun _ => ?_)
      clear hK
      have hB1' : Below w.heap.size w w1 := hB7.trans (hB1.mono hB7.size)
      have hc8 := HCV.out w1 w.heap.size ((hB1.cell (p := ⟨w.heap.size, 0, none⟩) (by show w.heap.size < _; simp)).trans c7)
      refine wpAnyH_ready (rs := [8]) (by kernel_rfl) (by simp) ?_
      refine AllReadyH.cons rfl (fun K hK => ?_) AllReadyH.nil
      go_simp
      refine hK.out _ _ trivial (fun _ => ?_)
      clear hK
      refine wpAnyH_ready (rs := [9]) (by kernel_rfl) (by simp) ?_
      refine AllReadyH.cons rfl (fun K hK => ?_) AllReadyH.nil
      go_simp
      refine hK.out _ _ trivial (fun _ => ?_)
      clear hK
      refine wpAnyH_ready (rs := [10]) (by kernel_rfl) (by simp) ?_
      refine AllReadyH.cons rfl (fun K hK => ?_) AllReadyH.nil
      go_simp
      refine hK.out _ _ trivial (fun _ => ?_)
      clear hK
      refine wpAnyH_done (by kernel_rfl) ?_ _
      show K5 _ _
      have HF := hide (HFIN.out _ hB1')
      clear HFIN
      go_wp2_with fail
      exact HF.out
    · have hc8 := HCV.out _ _ c7
      go_simp
      refine hK.out _ _ trivial (fun _ => ?_)
      clear hK
      refine wpAnyH_ready (rs := [2]) (by kernel_rfl) (by simp) ?_
      refine AllReadyH.cons rfl (fun K hK => ?_) AllReadyH.nil
      go_simp
      refine (IH.out _).mono ?_
      rintro e w1 ⟨rfl, hB1⟩
      refine hK.out _ _ trivial (fun _ => ?_)
      clear hK
      have hB1' : Below w.heap.size w w1 := hB7.trans (hB1.mono hB7.size)
      refine wpAnyH_ready (rs := [9]) (by kernel_rfl) (by simp) ?_
      refine AllReadyH.cons rfl (fun K hK => ?_) AllReadyH.nil
      go_simp
      refine hK.out _ _ trivial (fun _ => ?_)
      clear hK
      refine wpAnyH_ready (rs := [10]) (by kernel_rfl) (by simp) ?_
      refine AllReadyH.cons rfl (fun K hK => ?_) AllReadyH.nil
      go_simp
      refine hK.out _ _ trivial (fun _ => ?_)
      clear hK
      refine wpAnyH_done (by kernel_rfl) ?_ _
      show K5 _ _
      have HF := hide (HFIN.out _ hB1')
      clear HFIN
      go_wp2_with fail
      exact HF.out
/-- decimal, of numbers that are not less than 0. -/
theorem dec_nat : ∀ (u : Nat) (w : World), u ≤ 1000000000000000000 → Calls Tryz.prog 24 #[.int .i64 u] w fun e w' => e = .returned (.string ⟨(Lib.decDigits u).toArray⟩) ∧ Below w.heap.size w w' := by
  intro u
  induction u using Nat.strongRecOn with
  | ind u ih =>
    intro w hu
    by_cases h : u < 10
    · exact dec_small u w h
    · exact dec_big u w (by omega) hu (fun w => ih (u / 10) (by omega) w (by omega))
set_option maxRecDepth 100000 in
set_option maxHeartbeats 1000000 in
theorem dec_any (x : Int) (w : World) (h0 : -1000000000000000000 ≤ x) (h1 : x ≤ 1000000000000000000) : Calls Tryz.prog 24 #[.int .i64 x] w fun e w' => e = .returned (.string ⟨(Lib.itoa x).toArray⟩) ∧ Below w.heap.size w w' := by
  by_cases hx : x < 0
  · obtain ⟨u, rfl⟩ : ∃ u : Nat, x = -(u : Int) := ⟨x.natAbs, by omega⟩
    have e : Lib.itoa (-(u : Int)) = 45 :: Lib.decDigits u := by
      unfold Lib.itoa
      rw [if_pos hx]
      congr 2
      omega
    have hw : IntKind.i64.wrap (u : Int) = (u : Int) := by rw [IntKind.wrap_i64]; omega
    have HD := hide (dec_nat u w (by omega))
    rw [e]
    generalize hRR : (fun (e : Ending) (w' : World) => e = .returned (.string ⟨(45 :: Lib.decDigits u).toArray⟩) ∧ Below w.heap.size w w') = RR
    have HF : Hid (∀ w', Below w.heap.size w w' → RR (.returned (.string (⟨#[45]⟩ ++ ⟨(Lib.decDigits u).toArray⟩))) w') := hide (fun w' hB => by
      rw [← hRR]
      refine ⟨?_, hB⟩
      congr 2)
    clear hRR e
    have hds : (⟨(Lib.decDigits u).toArray⟩ : ByteArray).size ≤ 19 := by
      have := Lard.dec_len 18 u (by show _ < 10000000000000000000; omega)
      rw [size_mk]
      exact this
    generalize (⟨(Lib.decDigits u).toArray⟩ : ByteArray) = ds at HD HF hds
    go_enter Tryz.func24, Tryz.ntmps24
    go_wp2_with fail
    refine HD.out.mono ?_
    rintro e w1 ⟨rfl, hB1⟩
    have HFF := hide (HF.out w1 hB1)
    clear HF
    go_wp2_with fail
    exact HFF.out
  · obtain ⟨u, rfl⟩ : ∃ u : Nat, x = (u : Int) := ⟨x.toNat, by omega⟩
    have e : Lib.itoa (u : Int) = Lib.decDigits u := by
      unfold Lib.itoa
      rw [if_neg hx]
      rfl
    rw [e]
    exact dec_nat u w (by omega)
end Go.Proofs.YtpekpdimdelncaaGreatDoor
namespace Go.Proofs.YtpekpdimdelncaaGreatDoor
open Go.RowKit Go.Shelf
set_option linter.unusedVariables false
set_option linter.unusedSimpArgs false
theorem src_gv (s : Lard.LS) (key : List UInt8) (th : Lard.Thing) (k : List UInt8) : Lard.srcOf (s.gv key th).has k = if key = k then some (match th.tree with | .none => .inl th.value | .some t => .inr t) else Lard.srcOf s.has k := Lard.src_put s.has key th k
theorem gv_len (s : Lard.LS) (key : List UInt8) (th : Lard.Thing) : (s.gv key th).has.length ≤ s.has.length + 1 := Lard.put_len s.has key th
def sE : Lard.LS := (Lard.LS.new.gv [97] ⟨Lard.vn 2, none, [], none⟩).gv [98] ⟨Lard.vn 0, some Lard.treeE, Lard.textE, none⟩
theorem rule_E : Lard.ruleT Lard.textE = some Lard.treeE := by kernel_rfl
theorem wr_5 : Lard.wr 3 (Lard.vn 5) = [53] := by kernel_rfl
theorem ask_E (h : Lard.Sound sE) : (sE.ask [98]).1 = .ok (Lard.vn 5) := by
  refine Lard.ask_is h (Lard.w_E ?_ ?_)
  · unfold sE
    rw [src_gv, if_neg (by decide), src_gv, if_pos rfl]
  · unfold sE
    rw [src_gv, if_pos rfl]
set_option maxRecDepth 100000 in
set_option maxHeartbeats 1000000 in
theorem awake_any (w : World) (g : G w) (hd : Deb w) : Calls Tryz.prog 15 #[] w fun e w' => e = .returned (.bool true) ∧ Below w.heap.size w w' := by
  have HN := hide (ld_new w.heap.size w w (Below.refl _ _) (Nat.le_refl _) g hd g.size)
  clear g hd
  go_enter Tryz.func15, Tryz.ntmps15
  go_wp2_with fail
  refine HN.out.mono ?_
  rintro e w1 ⟨lb, rfl, hl1, -⟩
  have HP := hide (ld_put hl1 ⟨#[97]⟩ ⟨#[50]⟩ (Lard.vn 2) (by kernel_rfl) (by kernel_rfl) (by show 0 < 40; omega) (by show 1 ≤ 1000; omega) (by omega))
  unfold ptr at HP ⊢
  clear HN hl1
  go_wp2_with fail
  refine HP.out.mono ?_
  rintro e w2 ⟨rfl, hl2⟩
  have HS := hide (ld_set hl2 ⟨#[98]⟩ ⟨#[97, 42, 97, 43, 49]⟩ Lard.treeE (by kernel_rfl) rule_E (by have := gv_len Lard.LS.new [97] ⟨Lard.vn 2, none, [], none⟩; have h0 : Lard.LS.new.has.length = 0 := rfl; exact Nat.lt_of_le_of_lt this (by rw [h0]; omega)) (by omega))
  unfold ptr at HS
  clear HP hl2
  go_wp2_with fail
  refine HS.out.mono ?_
  rintro e w3 ⟨rfl, hl3⟩
  have HA := hide (ld_ask (s := sE) hl3 ⟨#[98]⟩ (by kernel_rfl) (by omega))
  have hE := ask_E hl3.sound
  unfold ptr at HA
  clear HS hl3
  go_wp2_with fail
  refine HA.out.mono ?_
  rintro e w4 ⟨o, m, c, tc, ts, rfl, htv, hl4, -, -⟩
  have hE' : (sE.ask (⟨#[98]⟩ : ByteArray).data.toList).1 = .ok (Lard.vn 5) := hE
  rw [hE'] at htv
  have h5 : toldV (.ok (Lard.vn 5)) = .agg #[.int .i64 0, .string ⟨#[53]⟩] := by
    show Value.agg #[.int .i64 0, .string ⟨(Lard.wr 3 (Lard.vn 5)).toArray⟩] = _
    rw [wr_5]
  rw [h5] at htv
  cases htv
  have HB := hide hl4.bel
  clear hl4 HA hE hE' h5
  go_wp2_with fail
  go_ret
  exact ⟨rfl, HB.out⟩
end Go.Proofs.YtpekpdimdelncaaGreatDoor
namespace Go.Proofs.YtpekpdimdelncaaGreatDoor
open Go.RowKit Go.Shelf
set_option linter.unusedVariables false
set_option linter.unusedSimpArgs false
/-- decimal says so. -/
def DS (n : Int) (d : ByteArray) : Prop := ∀ w, Calls Tryz.prog 24 #[.int .i64 n] w fun e w' => e = .returned (.string d) ∧ Below w.heap.size w w'
def dstr (n : Int) : ByteArray := ⟨(Lib.itoa n).toArray⟩
theorem dstr_list (n : Int) : (dstr n).data.toList = Lib.itoa n := by simp [dstr]
theorem ds_any (n : Int) (h0 : -1000000000000000000 ≤ n) (h1 : n ≤ 1000000000000000000) : DS n (dstr n) := fun w => dec_any n w h0 h1
theorem itoa_len20 {x : Int} (h : -999999999999999999 ≤ x ∧ x ≤ 999999999999999999) : (Lib.itoa x).length ≤ 19 := by
  unfold Lib.itoa
  split
  · have := Lard.dec_len 17 x.natAbs (by show _ < 1000000000000000000; omega)
    simp
    omega
  · have := Lard.dec_len 17 x.toNat (by show _ < 1000000000000000000; omega)
    omega
theorem dstr_size (n : Int) (h0 : -999999999999999999 ≤ n) (h1 : n ≤ 999999999999999999) : (dstr n).size ≤ 20 := by
  have := itoa_len20 ⟨h0, h1⟩
  rw [size_data, dstr_list]
  omega
/-- What is put. -/
theorem rd_num (n : Int) (h0 : -9223372036854775808 ≤ n) (h1 : n ≤ 9223372036854775807) : Lard.rdV (Lib.itoa n) = some (Lard.vn n) := by
  have := Lard.rdV_wr (v := Lard.vn n) (by unfold Lard.vn Lard.okV; exact ⟨h0, h1⟩)
  exact this
theorem num_word : ∀ c, Lard.numC c = true → Lard.wordC c = true ∧ c ≠ 39 := by
  intro c hc
  have h0 : ((List.range 256).all fun n => !(Lard.numC (UInt8.ofNat n)) || (Lard.wordC (UInt8.ofNat n) && !(UInt8.ofNat n == 39))) = true := by kernel_rfl
  have h := List.all_eq_true.1 h0 c.toNat (List.mem_range.2 c.toNat_lt)
  rw [UInt8.ofNat_toNat, hc] at h
  simpa using h
theorem rd_w (x : Int) (hl : (Lib.itoa x).length ≤ 8) : Lard.rdV (39 :: 119 :: (Lib.itoa x ++ [39])) = some (Lard.vw (119 :: Lib.itoa x)) := by
  have := Lard.rdV_wr (v := Lard.vw (119 :: Lib.itoa x)) (by
    unfold Lard.vw Lard.okV
    refine ⟨by simp; omega, fun c hc => ?_⟩
    rcases List.mem_cons.1 hc with rfl | hc
    · decide
    · exact num_word c (Lard.itoa_numC x c hc))
  exact this
theorem rd_l (x y : Int) (hx : -1000000 ≤ x ∧ x ≤ 1000000) (hy : -1000000 ≤ y ∧ y ≤ 1000000) : Lard.rdV (123 :: (Lib.itoa x ++ 44 :: 39 :: 113 :: 39 :: 44 :: (Lib.itoa y ++ [125]))) = some (Lard.vl [Lard.vn x, Lard.vw [113], Lard.vn y]) := by
  have := Lard.rdV_wr (v := Lard.vl [Lard.vn x, Lard.vw [113], Lard.vn y]) (by
    unfold Lard.vl Lard.okV
    refine ⟨by simp, fun u hu => ?_⟩
    simp at hu
    rcases hu with rfl | rfl | rfl
    · unfold Lard.vn Lard.okV; exact ⟨by omega, by omega⟩
    · unfold Lard.vw Lard.okV; exact ⟨by simp, fun c hc => by simp at hc; subst hc; decide⟩
    · unfold Lard.vn Lard.okV; exact ⟨by omega, by omega⟩)
  have e : Lard.wr 3 (Lard.vl [Lard.vn x, Lard.vw [113], Lard.vn y]) = 123 :: (Lib.itoa x ++ 44 :: 39 :: 113 :: 39 :: 44 :: (Lib.itoa y ++ [125])) := by
    simp [Lard.wr, Lard.vl, Lard.vn, Lard.vw, Lard.commas]
  rw [e] at this
  exact this
/-- The larder of Reckoned, by and by. -/
def r1 (x : Int) : Lard.LS := Lard.LS.new.gv [120] ⟨Lard.vn x, none, [], none⟩
def r2 (x y : Int) : Lard.LS := (r1 x).gv [121] ⟨Lard.vn y, none, [], none⟩
def r3 (x y : Int) : Lard.LS := (r2 x y).gv [119] ⟨Lard.vw (119 :: Lib.itoa x), none, [], none⟩
def r4 (x y : Int) : Lard.LS := (r3 x y).gv [108] ⟨Lard.vl [Lard.vn x, Lard.vw [113], Lard.vn y], none, [], none⟩
def r5 (x y : Int) : Lard.LS := (r4 x y).gv [97] ⟨Lard.vn 0, some Lard.treeA, Lard.textA, none⟩
def r6 (x y : Int) : Lard.LS := ((r5 x y).ask [97]).2
def r7 (x y : Int) (i : Nat) : Lard.LS := (r6 x y).gv [98] ⟨Lard.vn 0, some (Lard.treeB i), Lard.textB (UInt8.ofNat (48 + i)), none⟩
theorem r_len (x y : Int) : (r1 x).has.length ≤ 1 ∧ (r2 x y).has.length ≤ 2 ∧ (r3 x y).has.length ≤ 3 ∧ (r4 x y).has.length ≤ 4 ∧ (r5 x y).has.length ≤ 5 := by
  have h0 : Lard.LS.new.has.length = 0 := rfl
  have h1 : (r1 x).has.length ≤ Lard.LS.new.has.length + 1 := gv_len _ _ _
  have h2 : (r2 x y).has.length ≤ (r1 x).has.length + 1 := gv_len _ _ _
  have h3 : (r3 x y).has.length ≤ (r2 x y).has.length + 1 := gv_len _ _ _
  have h4 : (r4 x y).has.length ≤ (r3 x y).has.length + 1 := gv_len _ _ _
  have h5 : (r5 x y).has.length ≤ (r4 x y).has.length + 1 := gv_len _ _ _
  omega
theorem r6_len (x y : Int) (h : Lard.Sound (r5 x y)) : (r6 x y).has.length ≤ 5 := by
  have h1 := Lard.strip_len (h.nst [97]).strip
  have h2 := (r_len x y).2.2.2.2
  have e : (r6 x y).has.length = (r5 x y).fresh.has.length := h1
  rw [e]
  exact h2
theorem rke5 (x y : Int) : Lard.RkE (Lard.srcOf (r5 x y).has) x y where
  hx := by unfold r5 r4 r3 r2 r1; rw [src_gv, if_neg (by decide), src_gv, if_neg (by decide), src_gv, if_neg (by decide), src_gv, if_neg (by decide), src_gv, if_pos rfl]
  hy := by unfold r5 r4 r3 r2 r1; rw [src_gv, if_neg (by decide), src_gv, if_neg (by decide), src_gv, if_neg (by decide), src_gv, if_pos rfl]
  hw := by unfold r5 r4 r3 r2 r1; rw [src_gv, if_neg (by decide), src_gv, if_neg (by decide), src_gv, if_pos rfl]
  hl := by unfold r5 r4 r3 r2 r1; rw [src_gv, if_neg (by decide), src_gv, if_pos rfl]
theorem ask_A (x y : Int) (hx : -1000000 ≤ x ∧ x ≤ 1000000) (hy : -1000000 ≤ y ∧ y ≤ 1000000) (h : Lard.Sound (r5 x y)) : ((r5 x y).ask [97]).1 = .ok (Lard.valA x y) :=
  Lard.ask_is h (Lard.rk_a (rke5 x y) hx hy (by unfold r5; rw [src_gv, if_pos rfl]))
theorem rke7 (x y : Int) (i : Nat) (h : Lard.Sound (r5 x y)) : Lard.RkE (Lard.srcOf (r7 x y i).has) x y := by
  have hs : Lard.srcOf (r6 x y).has = Lard.srcOf (r5 x y).has := h.src [97]
  have h5 := rke5 x y
  exact {
    hx := by unfold r7; rw [src_gv, if_neg (by decide), hs]; exact h5.hx
    hy := by unfold r7; rw [src_gv, if_neg (by decide), hs]; exact h5.hy
    hw := by unfold r7; rw [src_gv, if_neg (by decide), hs]; exact h5.hw
    hl := by unfold r7; rw [src_gv, if_neg (by decide), hs]; exact h5.hl }
theorem ask_B (x y : Int) (i : Nat) (hi : i < 5) (hx : -1000000 ≤ x ∧ x ≤ 1000000) (hy : -1000000 ≤ y ∧ y ≤ 1000000) (h : Lard.Sound (r5 x y)) (h7 : Lard.Sound (r7 x y i)) : ((r7 x y i).ask [98]).1 = .ok (Lard.valB x y i) :=
  Lard.ask_is h7 (Lard.rk_b (rke7 x y i h) hx hy hi (by unfold r7; rw [src_gv, if_pos rfl]))
theorem rule_A : Lard.ruleT Lard.textA = some Lard.treeA := by kernel_rfl
theorem rule_B0 : Lard.ruleT (Lard.textB 48) = some (Lard.treeB (0 : Nat)) := by kernel_rfl
theorem rule_B1 : Lard.ruleT (Lard.textB 49) = some (Lard.treeB (1 : Nat)) := by kernel_rfl
theorem rule_B2 : Lard.ruleT (Lard.textB 50) = some (Lard.treeB (2 : Nat)) := by kernel_rfl
theorem rule_B3 : Lard.ruleT (Lard.textB 51) = some (Lard.treeB (3 : Nat)) := by kernel_rfl
theorem rule_B4 : Lard.ruleT (Lard.textB 52) = some (Lard.treeB (4 : Nat)) := by kernel_rfl
theorem rule_B (i : Nat) (h : i < 5) : Lard.ruleT (Lard.textB (UInt8.ofNat (48 + i))) = some (Lard.treeB i) := by
  match i, h with
  | 0, _ => exact rule_B0
  | 1, _ => exact rule_B1
  | 2, _ => exact rule_B2
  | 3, _ => exact rule_B3
  | 4, _ => exact rule_B4
end Go.Proofs.YtpekpdimdelncaaGreatDoor
namespace Go.Proofs.YtpekpdimdelncaaGreatDoor
open Go.RowKit Go.Shelf
set_option linter.unusedVariables false
set_option linter.unusedSimpArgs false
theorem ba_ext {a b : ByteArray} (h : a.data.toList = b.data.toList) : a = b := by
  apply ByteArray.ext
  exact Array.toList_inj.1 h
theorem want_A (x y : Int) {less same : Int} (hl : (if x < y then 1 else 0) = less) (hs : (if x = y then 1 else 0) = same) {dq : ByteArray} (hq : (if y = 0 then ⟨#[39, 110, 111, 39]⟩ else dstr (x.tdiv y)) = dq) :
    (⟨#[123]⟩ ++ dstr (x + y) ++ ⟨#[44]⟩ ++ dstr (x - y) ++ ⟨#[44]⟩ ++ dstr (x * y) ++ ⟨#[44]⟩ ++ dstr less ++ ⟨#[44]⟩ ++ dstr same ++ ⟨#[44]⟩ ++ dstr (min x y) ++ ⟨#[44]⟩ ++ dstr (max x y) ++ ⟨#[44]⟩ ++ dstr (-x) ++ ⟨#[44]⟩ ++ dstr (2 - less) ++ ⟨#[44]⟩ ++ dq ++ ⟨#[125]⟩ : ByteArray) = ⟨(Lard.wr 3 (Lard.valA x y)).toArray⟩ := by
  apply ba_ext
  have e1 : Lard.wr 2 (Lard.bit (decide (x < y))) = Lib.itoa less := by
    rw [← hl]
    show Lib.itoa (if decide (x < y) = true then 1 else 0) = _
    simp
  have e2 : Lard.wr 2 (Lard.bit (decide (x = y))) = Lib.itoa same := by
    rw [← hs]
    show Lib.itoa (if decide (x = y) = true then 1 else 0) = _
    simp
  have e3 : Lard.wr 2 (Lard.vn (if x < y then 1 else 2)) = Lib.itoa (2 - less) := by
    rw [← hl]
    show Lib.itoa (if x < y then 1 else 2) = _
    split <;> rfl
  have e4 : Lard.wr 2 (if y = 0 then Lard.vw [110, 111] else Lard.vn (x.tdiv y)) = dq.data.toList := by
    rw [← hq]
    split
    · rfl
    · exact (dstr_list _).symm
  have e5 : Lard.wr 3 (Lard.valA x y) = 123 :: (Lard.commas [Lard.wr 2 (Lard.vn (x + y)), Lard.wr 2 (Lard.vn (x - y)), Lard.wr 2 (Lard.vn (x * y)), Lard.wr 2 (Lard.bit (decide (x < y))), Lard.wr 2 (Lard.bit (decide (x = y))), Lard.wr 2 (Lard.vn (min x y)), Lard.wr 2 (Lard.vn (max x y)), Lard.wr 2 (Lard.vn (-x)), Lard.wr 2 (Lard.vn (if x < y then 1 else 2)), Lard.wr 2 (if y = 0 then Lard.vw [110, 111] else Lard.vn (x.tdiv y))] ++ [125]) := rfl
  have e6 : ∀ n : Int, Lard.wr 2 (Lard.vn n) = Lib.itoa n := fun n => rfl
  rw [e5, e1, e2, e3, e4, e6, e6, e6, e6, e6, e6]
  simp [Lard.commas, dstr]
theorem dstr_small (i : Nat) (h : i < 5) : dstr (i : Int) = ⟨#[UInt8.ofNat (48 + i)]⟩ := by
  unfold dstr
  have : Lib.itoa (i : Int) = [UInt8.ofNat (48 + i)] := by
    unfold Lib.itoa
    rw [if_neg (by omega)]
    show Lib.decDigits i = _
    rw [Lib.decDigits, dif_pos (by omega)]
  rw [this]
def preB : ByteArray := ⟨#[123, 119, 43, 119, 111, 114, 100, 40, 121, 41, 44, 115, 105, 122, 101, 40, 119, 41, 44, 115, 105, 122, 101, 40, 108, 41, 44, 116, 114, 121, 40, 97, 116, 40, 108, 44]⟩
def sufB : ByteArray := ⟨#[41, 44, 39, 110, 111, 110, 101, 39, 41, 44, 101, 97, 99, 104, 40, 115, 111, 109, 101, 40, 101, 97, 99, 104, 40, 108, 44, 116, 114, 121, 40, 105, 116, 43, 48, 44, 123, 125, 41, 41, 44, 49, 45, 40, 105, 116, 61, 123, 125, 41, 41, 44, 105, 116, 45, 120, 41, 44, 108, 61, 108, 43, 123, 125, 125]⟩
theorem text_B (i : Nat) (h : i < 5) : preB ++ dstr (i : Int) ++ sufB = ⟨(Lard.textB (UInt8.ofNat (48 + i))).toArray⟩ := by
  rw [dstr_small i h]
  apply ba_ext
  simp [preB, sufB, Lard.textB]
def thB (x y : Int) (i : Nat) : ByteArray := if i = 2 then dstr y else if i = 1 then ⟨#[39, 113, 39]⟩ else if i = 0 then dstr x else ⟨#[39, 110, 111, 110, 101, 39]⟩
theorem want_B (x y : Int) (i : Nat) : (⟨#[123, 39, 119]⟩ ++ dstr x ++ ⟨#[]⟩ ++ dstr y ++ ⟨#[39, 44]⟩ ++ dstr (1 + ((dstr x).size : Int)) ++ ⟨#[44, 51, 44]⟩ ++ thB x y i ++ ⟨#[44, 123, 48, 44]⟩ ++ dstr (y - x) ++ ⟨#[125, 44, 49, 125]⟩ : ByteArray) = ⟨(Lard.wr 3 (Lard.valB x y i)).toArray⟩ := by
  apply ba_ext
  have e1 : Lard.wr 2 (Lard.thirdB x y i) = (thB x y i).data.toList := by
    unfold Lard.thirdB thB
    by_cases h0 : i = 0
    · subst h0; exact (dstr_list x).symm
    · rw [if_neg h0]
      by_cases h1 : i = 1
      · subst h1; rfl
      · rw [if_neg h1]
        by_cases h2 : i = 2
        · subst h2; exact (dstr_list y).symm
        · rw [if_neg h2, if_neg h2, if_neg h1, if_neg h0]; rfl
  have e2 : Lard.wr 2 (Lard.vl [Lard.vn 0, Lard.vn (y - x)]) = 123 :: 48 :: 44 :: (Lib.itoa (y - x) ++ [125]) := by
    have : Lib.itoa 0 = [48] := by kernel_rfl
    show 123 :: (Lard.commas [Lib.itoa 0, Lib.itoa (y - x)] ++ [125]) = _
    rw [this]
    rfl
  have e3 : Lard.wr 3 (Lard.valB x y i) = 123 :: (Lard.commas [Lard.wr 2 (Lard.vw (119 :: (Lib.itoa x ++ Lib.itoa y))), Lard.wr 2 (Lard.vn (1 + (Lib.itoa x).length)), Lard.wr 2 (Lard.vn 3), Lard.wr 2 (Lard.thirdB x y i), Lard.wr 2 (Lard.vl [Lard.vn 0, Lard.vn (y - x)]), Lard.wr 2 (Lard.vn 1)] ++ [125]) := rfl
  have e4 : Lard.wr 2 (Lard.vn 3) = [51] := by kernel_rfl
  have e5 : Lard.wr 2 (Lard.vn 1) = [49] := by kernel_rfl
  have e6 : Lard.wr 2 (Lard.vw (119 :: (Lib.itoa x ++ Lib.itoa y))) = 39 :: 119 :: (Lib.itoa x ++ Lib.itoa y ++ [39]) := rfl
  have e7 : Lard.wr 2 (Lard.vn (1 + (Lib.itoa x).length)) = Lib.itoa (1 + ((dstr x).size : Int)) := by
    have : (dstr x).size = (Lib.itoa x).length := by rw [size_data, dstr_list]
    rw [this]
    rfl
  rw [e3, e1, e2, e4, e5, e6, e7]
  simp [Lard.commas, dstr]
end Go.Proofs.YtpekpdimdelncaaGreatDoor
