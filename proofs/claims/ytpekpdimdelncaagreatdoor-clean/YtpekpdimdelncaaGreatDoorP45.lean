/- Out of: E7, E8, E9, E10, E11, C5a. -/
import Derived.Test.YtpekpdimdelncaaGreatDoorP44
import Derived.Deep.SlicePairs
import Derived.OpenShut
import Derived.Test.YtpekpdimdelncaaGreatDoorCards
import Derived.WalkKit
import Derived.ProofKit
import Derived.MakeChecks
namespace Go.Proofs.YtpekpdimdelncaaGreatDoor
open Go.RowKit Go.Shelf
set_option linter.unusedVariables false
set_option linter.unusedSimpArgs false
set_option maxRecDepth 100000 in
set_option maxHeartbeats 1000000 in
theorem asks_any (w : World) (kd ky wi : Int) (hkd : -9223372036854775808 ≤ kd ∧ kd ≤ 9223372036854775807) : Calls Tryz.prog 18 #[.agg #[.int .i64 kd, .int .i64 ky, .int .i64 wi]] w fun e w' => e = .returned (.bool (decide (5 < pickN kd 9))) ∧ Below w.heap.size w w' := by
  have HPK := hide (fun w => pick_any kd 9 w hkd.1 hkd.2 (by omega) (by omega))
  have HB := hide ((Below.refl _ w).alloc (Nat.le_refl _) (.cells #[.int .i64 kd, .int .i64 ky, .int .i64 wi] 34))
  have d0 : (w.alloc (.cells #[.int .i64 kd, .int .i64 ky, .int .i64 wi] 34)).cell? ⟨w.heap.size, 0, none⟩ = some (.int .i64 kd) := by simp [go_sem]
  generalize pickN kd 9 = k at HPK ⊢
  go_enter Tryz.func18, Tryz.ntmps18
  go_wp2_with fail
  refine (HPK.out _).mono ?_
  rintro e w' ⟨rfl, hw'⟩
  obtain rfl := hw'.symm
  dsimp only
  clear HPK d0
  have hi : ((5 : Int) < (k : Int)) ↔ 5 < k := by omega
  by_cases h : 5 < k
  · have h' := hi.2 h
    clear hi
    go_wp2_with fail
    go_ret
    exact ⟨by simp [h], HB.out⟩
  · have h' : ¬ (5 : Int) < (k : Int) := fun e => h (hi.1 e)
    clear hi
    go_wp2_with fail
    go_ret
    exact ⟨by simp [h], HB.out⟩
structure FW (w0 w : World) (lb : Nat) (f : Lard.LS) (L : Nat → Prop) (N i : Nat) (H : Nat → Nat × List UInt8) : Prop where
  la : La w lb f L N
  off : ∀ k, L k → w0.heap.size ≤ k
  bel : Below w0.heap.size w0 w
  ok : Lard.HasOk f H i
section
variable {w0 w w' : World} {lb : Nat} {f f' : Lard.LS} {L : Nat → Prop} {N M i : Nat} {H : Nat → Nat × List UInt8}
theorem FW.below (h : FW w0 w lb f L N i H) (hB : Below w.heap.size w w') : FW w0 w' lb f L N i H := ⟨h.la.below hB, h.off, h.bel.trans (hB.mono h.bel.size), h.ok⟩
theorem FW.post (h : FW w0 w lb f L N i H) (hP : LaPost w lb L f' M w') {j : Nat} (hok : Lard.HasOk f' H j) : ∃ L', FW w0 w' lb f' L' M j H := by
  obtain ⟨L', h1, h2, h3, h4⟩ := hP
  have hb0 := h.bel.size
  refine ⟨L', h1, fun k hk => ?_, ?_, hok⟩
  · rcases h2 k hk with h5 | h5
    · exact h.off k h5
    · omega
  · exact h.bel.trans ⟨h4.os, h4.tape, h4.output, h4.size, fun k hk => h4.block k (by omega) (fun hl => by have := h.off k hl; omega)⟩
end
set_option maxRecDepth 100000 in
set_option maxHeartbeats 4000000 in
theorem clean_any (w : World) (hb : Nat) (H : Nat → Nat × List UInt8) (g : G w) (hd : Deb w) (hm : HM w hb H) (hok : ∀ i, i < 8 → Lard.OkI (H i)) :
    Calls Tryz.prog 21 #[.slice (some ⟨hb, 0, none⟩) 8 8] w fun e w' => ∃ lb f L, e = .returned (ptr lb) ∧ FW w w' lb f L 16000 8 H := by
  have HN := hide (la_new w g hd)
  generalize hRR : (fun (e : Ending) (w' : World) => ∃ lb f L, e = .returned (ptr lb) ∧ FW w w' lb f L 16000 8 H) = RR
  have HF : Hid (∀ w' lb f L, FW w w' lb f L (8 * 2000) 8 H → RR (.returned (ptr lb)) w') := hide (fun w' lb f L hl => by rw [← hRR]; exact ⟨lb, f, L, rfl, hl⟩)
  have HO := hide (And.intro hm hok)
  clear hRR g hd hm hok
  go_enter Tryz.func21, Tryz.ntmps21
  go_wp2_with fail
  refine HN.out.mono ?_
  rintro e w1 ⟨lb, rfl, hla, hB1⟩
  dsimp only
  have H1 : Hid (FW w w1 lb Lard.LS.new (fun k => w.heap.size ≤ k ∧ k ≤ w.heap.size + 2) (0 * 2000) 0 H) := hide ⟨by simpa using hla, fun k hk => hk.1, hB1, Lard.HasOk.new H⟩
  clear HN hla hB1
  unfold ptr at *
  go_wp2_with fail
  go_loopw [4] (fun iv wr => ∃ (i : Nat) (f : Lard.LS) (L : Nat → Prop), i ≤ 8 ∧ iv = .int .i64 i ∧ Hid (FW w wr lb f L (i * 2000) i H)) (fun iv _ => 8 - (intOf iv).toNat)
  case atStart => exact ⟨0, _, _, Nat.zero_le _, rfl, H1⟩
  case round =>
    obtain ⟨i, f, L, hi, rfl, HX⟩ := hrel
    clear H1
    by_cases hlt : i < 8
    · have hin : (i : Int) < 8 := by omega
      have hmr : HM wr hb H := HO.out.1.same (HX.out.bel.block _ HO.out.1.lt)
      have c1 := hmr.what hlt
      have c2 := hmr.text hlt
      have HYN := hide (fun w => key_any i w (by omega))
      have hname := keyB_name i (by omega)
      have hoi := HO.out.2 i hlt
      clear hmr
      obtain ⟨⟨a, t⟩, hp⟩ : ∃ p, H i = p := ⟨_, rfl⟩
      rw [hp] at c1 c2 hoi
      have HPI := hide hp
      clear hp
      have hstr : str t = .string (txB t) := rfl
      rcases hoi with e | ⟨e, hv, hl⟩ | ⟨e, hv, hk⟩
      · cases e
        go_wp2_with fail
        refine ⟨⟨i + 1, f, L, by omega, by go_num, hide ⟨HX.out.la.le (by omega), HX.out.off, HX.out.bel, HX.out.ok.skip hlt (by rw [HPI.out]; rfl)⟩⟩, ?_⟩
        simp [intOf]; omega
      · have e : a = 1 := e
        subst e
        rw [hstr] at c2
        obtain ⟨v, hv'⟩ := Option.isSome_iff_exists.1 hv
        have HPUT := hide (fun (w4 : World) (hB4 : Below wr.heap.size wr w4) => (la_put (HX.out.below hB4).la (keyB i) (txB t) v hname (by rw [txB_list]; exact hv') (by have := HX.out.ok.len; omega) (by rw [txB_size]; exact hl) (by omega)).mono (fun e w5 (hp : _ ∧ _) => (⟨hp.1, by
          have h2 := hp.2
          rw [keyB_list] at h2
          have hs : Lard.Sound (f.gv (Lard.keyText i) ⟨v, none, [], none⟩) := by
            obtain ⟨_, h1, _⟩ := h2
            exact h1.sound
          obtain ⟨L', h3⟩ := (HX.out.below hB4).post h2 (HX.out.ok.more hlt hs (by
            rw [HPI.out]
            unfold Lard.srcI
            rw [if_pos rfl, hv']
            rfl))
          rw [show i * 2000 + 2000 = (i + 1) * 2000 by omega] at h3
          exact ⟨L', h3⟩⟩ : e = .returned (.int .i64 0) ∧ ∃ L', FW w w5 lb (f.gv (Lard.keyText i) ⟨v, none, [], none⟩) L' ((i + 1) * 2000) (i + 1) H)))
        unfold ptr at HPUT
        clear HX hstr hv hv' hl
        generalize txB t = tx at c2 HPUT
        go_wp2_with fail
        refine wp_nrm ?_
        go_region_with (first | (go_at_call 19; refine (HYN.out _).mono ?_; rintro e w4 ⟨rfl, hB4⟩; have hB4' := ((Below.refl _ wr).drew).trans hB4; have c4 := cell_later hB4' c2) | (go_at_call 23; refine (HPUT.out _ (by assumption)).mono ?_; rintro e w5 ⟨rfl, L5, h5⟩))
        all_goals
          have H5 := hide h5
          refine onlyN_is ?_
          apply_assumption
          clear h5 HPUT HYN
          go_wp2_with fail
          refine ⟨⟨i + 1, _, L5, by omega, by go_num, H5⟩, ?_⟩
          simp [intOf]; omega
      · have e : a = 2 := e
        subst e
        rw [hstr] at c2
        have HSET := hide (fun (w4 : World) (hB4 : Below wr.heap.size wr w4) => (la_set (HX.out.below hB4).la (keyB i) (txB t) (Lard.treeOf t) hname (by rw [txB_list]; exact ruleT_of hv hk) (by have := HX.out.ok.len; omega) (by omega)).mono (fun e w5 (hp : _ ∧ _) => (⟨hp.1, by
          have h2 := hp.2
          rw [keyB_list, txB_list] at h2
          have hs : Lard.Sound (f.gv (Lard.keyText i) ⟨Lard.vn 0, some (Lard.treeOf t), t, none⟩) := by
            obtain ⟨_, h1, _⟩ := h2
            exact h1.sound
          obtain ⟨L', h3⟩ := (HX.out.below hB4).post h2 (HX.out.ok.more hlt hs (by
            rw [HPI.out]
            unfold Lard.srcI
            have hv2 : Lard.check t = (0, 0) := hv
            rw [if_neg (show ¬ (2 : Nat) = 1 by decide), if_pos rfl, if_pos hv2]))
          rw [show i * 2000 + 2000 = (i + 1) * 2000 by omega] at h3
          exact ⟨L', h3⟩⟩ : e = .returned (.tuple #[.int .i64 0, .int .i64 0]) ∧ ∃ L', FW w w5 lb (f.gv (Lard.keyText i) ⟨Lard.vn 0, some (Lard.treeOf t), t, none⟩) L' ((i + 1) * 2000) (i + 1) H)))
        unfold ptr at HSET
        clear HX hstr hv hk
        generalize txB t = tx at c2 HSET
        go_wp2_with fail
        refine wp_nrm ?_
        go_region_with (first | (go_at_call 19; refine (HYN.out _).mono ?_; rintro e w4 ⟨rfl, hB4⟩; have hB4' := ((Below.refl _ wr).drew).trans hB4; have c4 := cell_later hB4' c2) | (go_at_call 25; refine (HSET.out _ (by assumption)).mono ?_; rintro e w5 ⟨rfl, L5, h5⟩))
        all_goals
          have H5 := hide h5
          refine onlyN_is ?_
          apply_assumption
          clear h5 HSET HYN
          go_wp2_with fail
          refine ⟨⟨i + 1, _, L5, by omega, by go_num, H5⟩, ?_⟩
          simp [intOf]; omega
    · obtain rfl : i = 8 := by omega
      have HE := hide (HF.out wr lb f L HX.out)
      unfold ptr at HE
      clear HF HX
      go_wp2_with fail
      exact HE.out
end Go.Proofs.YtpekpdimdelncaaGreatDoor
namespace Go.Proofs.YtpekpdimdelncaaGreatDoor
open Go.RowKit Go.Shelf
set_option linter.unusedVariables false
set_option linter.unusedSimpArgs false
structure TW (w0 w : World) (lb hb lb2 : Nat) (s f : Lard.LS) (L L2 : Nat → Prop) (N M : Nat) (H : Nat → Nat × List UInt8) : Prop where
  hl : HL w0 w lb hb s L N H
  la2 : La w lb2 f L2 M
  ok2 : Lard.HasOk f H 8
  dis : ∀ k, L k → ¬ L2 k
  hb2 : ¬ L2 hb
  lo2 : ∀ k, L2 k → w0.heap.size ≤ k
theorem la_imm {w : World} {lb : Nat} {s : Lard.LS} {L : Nat → Prop} {N : Nat} (h : La w lb s L N) : ∀ k, L k → ∀ (cs : Array Value) (t : TypeId) (fz : Nat × Nat), w.heap[k]? = some (.cells cs t fz) → ¬ Imm t := by
  intro k hk cs t fz hc hi
  rcases (h.lat.typed k hk).2.2 with ⟨es, c, h1⟩ | ⟨cs', t', fz', h1, h2⟩
  · rw [h1] at hc
    cases hc
  · rw [h1] at hc
    cases hc
    exact h2.imm (.inl hi)
section
variable {w0 w w' : World} {lb hb lb2 : Nat} {s f s' f' : Lard.LS} {L L2 : Nat → Prop} {N M N' : Nat} {H : Nat → Nat × List UInt8}
theorem HL.two (h : HL w0 w lb hb s L N H) (hf : FW w w' lb2 f L2 M 8 H) : TW w0 w' lb hb lb2 s f L L2 N M H where
  hl := h.below hf.bel
  la2 := hf.la
  ok2 := hf.ok
  dis k hk hk2 := by
    have h1 := (h.la.lat.lt hk).2
    have h2 := hf.off k hk2
    omega
  hb2 hk := by
    have h1 := h.hm.lt
    have h2 := hf.off hb hk
    omega
  lo2 k hk := Nat.le_trans h.bel.size (hf.off k hk)
theorem TW.below (h : TW w0 w lb hb lb2 s f L L2 N M H) (hB : Below w.heap.size w w') : TW w0 w' lb hb lb2 s f L L2 N M H :=
  ⟨h.hl.below hB, h.la2.below hB, h.ok2, h.dis, h.hb2, h.lo2⟩
theorem TW.post1 (h : TW w0 w lb hb lb2 s f L L2 N M H) (hP : LaPost w lb L s' N' w') (hok : Lard.HasOk s' H 8) : ∃ L', TW w0 w' lb hb lb2 s' f L' L2 N' M H := by
  obtain ⟨L', h1, h2, h3, h4⟩ := hP
  have hsz := h.hl.bel.size
  have hlt := h.hl.hm.lt
  refine ⟨L', ⟨h1, h.hl.hm.same (h4.block _ hlt (fun hl => (h.hl.off _ hl).2 rfl)), fun k hk => ?_, h.hl.own, ?_, hok, h.hl.oki⟩, h.la2.other h4 (fun k hk => (h.hl.la.lat.lt hk).1) (la_imm h.hl.la) (fun k hk hk2 => h.dis k hk2 hk), h.ok2, fun k hk hk2 => ?_, h.hb2, h.lo2⟩
  · rcases h2 k hk with h5 | h5
    · exact h.hl.off k h5
    · exact ⟨by omega, by omega⟩
  · exact h.hl.bel.trans ⟨h4.os, h4.tape, h4.output, h4.size, fun k hk => h4.block k (by omega) (fun hl => by have := (h.hl.off k hl).1; omega)⟩
  · rcases h2 k hk with h5 | h5
    · exact h.dis k h5 hk2
    · have := (h.la2.lat.lt hk2).2
      omega
theorem TW.post2 (h : TW w0 w lb hb lb2 s f L L2 N M H) (hP : LaPost w lb2 L2 f' N' w') (hok : Lard.HasOk f' H 8) : ∃ L2', TW w0 w' lb hb lb2 s f' L L2' N N' H := by
  obtain ⟨L', h1, h2, h3, h4⟩ := hP
  have hsz := h.hl.bel.size
  have hlt := h.hl.hm.lt
  refine ⟨L', ⟨h.hl.la.other h4 (fun k hk => (h.la2.lat.lt hk).1) (la_imm h.la2) (fun k hk => h.dis k hk), h.hl.hm.same (h4.block _ hlt h.hb2), h.hl.off, h.hl.own, ?_, h.hl.ok, h.hl.oki⟩, h1, hok, fun k hk hk2 => ?_, fun hk => ?_, fun k hk => ?_⟩
  · exact h.hl.bel.trans ⟨h4.os, h4.tape, h4.output, h4.size, fun k hk => h4.block k (by omega) (fun hl => by have := h.lo2 k hl; omega)⟩
  · rcases h2 k hk2 with h5 | h5
    · exact h.dis k hk h5
    · have := (h.hl.la.lat.lt hk).2
      omega
  · rcases h2 hb hk with h5 | h5
    · exact h.hb2 h5
    · omega
  · rcases h2 k hk with h5 | h5
    · exact h.lo2 k h5
    · omega
theorem TW.le (h : TW w0 w lb hb lb2 s f L L2 N M H) {N1 M1 : Nat} (h1 : N ≤ N1) (h2 : M ≤ M1) : TW w0 w lb hb lb2 s f L L2 N1 M1 H :=
  ⟨h.hl.le h1, h.la2.le h2, h.ok2, h.dis, h.hb2, h.lo2⟩
end
theorem told_same2 {r : Lard.Wo} {tc tc' : Int} {ts ts' : ByteArray} (h : toldV r = .agg #[.int .i64 tc, .string ts]) (h' : toldV r = .agg #[.int .i64 tc', .string ts']) : tc = tc' ∧ ts = ts' := by
  rw [h] at h'
  cases h'
  exact ⟨rfl, rfl⟩
theorem ring_both {s f : Lard.LS} (hs : Lard.Sound s) (hf : Lard.Sound f) {k : List UInt8} (he : (s.ask k).1 = (f.ask k).1) {tc : Int} {ts : ByteArray} (h : toldV (s.ask k).1 = .agg #[.int .i64 tc, .string ts]) :
    decide ((0 : Int) < ((if tc = 12 then (s.ask k).2.ring else []).length : Int)) = decide ((0 : Int) < ((if tc = 12 then (f.ask k).2.ring else []).length : Int)) := by
  by_cases h12 : tc = 12
  · rw [if_pos h12, if_pos h12]
    have hr : (s.ask k).1 = .error 12 := by
      subst h12
      cases hw : (s.ask k).1 with
      | ok v =>
        rw [hw] at h
        have e : toldV (.ok v) = .agg #[.int .i64 0, .string ⟨(Lard.wr 3 v).toArray⟩] := rfl
        rw [e] at h
        cases h
      | error c =>
        rw [hw] at h
        have e : toldV (.error c) = .agg #[.int .i64 (c : Int), .string ⟨#[]⟩] := rfl
        rw [e] at h
        have h2 : (c : Int) = 12 := by
          have h3 := congrArg (fun v => match v with | Value.agg #[.int _ x, _] => x | _ => 0) h
          exact h3
        rw [show c = 12 by omega]
    have h1 := List.length_pos_iff.2 (Lard.ask_ring hs k hr).1
    have h2 := List.length_pos_iff.2 (Lard.ask_ring hf k (he ▸ hr)).1
    rw [decide_eq_true (by omega), decide_eq_true (by omega)]
  · rw [if_neg h12, if_neg h12]
end Go.Proofs.YtpekpdimdelncaaGreatDoor
namespace Go.Proofs.YtpekpdimdelncaaGreatDoor
open Go.RowKit Go.Shelf
set_option linter.unusedVariables false
set_option linter.unusedSimpArgs false
def StepsAt (w : World) (o : Option Addr) (len : Nat) (K Y Z : Nat → Int) : Prop :=
  ∀ i, i < len → ∃ ab ao, o = some ⟨ab, ao, none⟩ ∧ w.cell? ⟨ab, ao + i * 3, none⟩ = some (.int .i64 (K i)) ∧ w.cell? ⟨ab, ao + i * 3 + 1, none⟩ = some (.int .i64 (Y i)) ∧ w.cell? ⟨ab, ao + i * 3 + 2, none⟩ = some (.int .i64 (Z i)) ∧
    (-9223372036854775808 ≤ K i ∧ K i ≤ 9223372036854775807) ∧ (-9223372036854775808 ≤ Y i ∧ Y i ≤ 9223372036854775807) ∧ (-9223372036854775808 ≤ Z i ∧ Z i ≤ 9223372036854775807)
def hasZero : Array Value := #[.int .i64 0, .string ⟨#[]⟩, .int .i64 0, .string ⟨#[]⟩, .int .i64 0, .string ⟨#[]⟩, .int .i64 0, .string ⟨#[]⟩, .int .i64 0, .string ⟨#[]⟩, .int .i64 0, .string ⟨#[]⟩, .int .i64 0, .string ⟨#[]⟩, .int .i64 0, .string ⟨#[]⟩]
theorem make_has (w : World) : (Instr.makeSlice 31 (.int .i64 8) (.int .i64 8)).run Tryz.prog w = .ok (.slice (some ⟨w.heap.size, 0, none⟩) 8 8) (w.alloc (.cells hasZero 69)) := by kernel_rfl
theorem hm_zero (w : World) : HM (w.alloc (.cells hasZero 69)) w.heap.size (fun _ => (0, [])) := by
  refine ⟨hasZero, heap_alloc_new w _, rfl, fun i hi => ?_⟩
  have : ∀ i, i < 16 → hasZero[i]? = some (if i % 2 = 0 then Value.int .i64 ((0 : Nat) : Int) else str []) := by
    intro i hi
    match i, hi with
    | 0, _ => rfl
    | 1, _ => rfl
    | 2, _ => rfl
    | 3, _ => rfl
    | 4, _ => rfl
    | 5, _ => rfl
    | 6, _ => rfl
    | 7, _ => rfl
    | 8, _ => rfl
    | 9, _ => rfl
    | 10, _ => rfl
    | 11, _ => rfl
    | 12, _ => rfl
    | 13, _ => rfl
    | 14, _ => rfl
    | 15, _ => rfl
    | n + 16, h => omega
  exact this i hi
theorem hl_new {w0 w : World} {lb : Nat} {L : Nat → Prop} (hla : La w lb Lard.LS.new L 0) (hL : ∀ k, L k → w0.heap.size ≤ k) (hB : Below w0.heap.size w0 w) : HL w0 (w.alloc (.cells hasZero 69)) lb w.heap.size Lard.LS.new L 0 (fun _ => (0, [])) := by
  have hB1 : Below w.heap.size w (w.alloc (.cells hasZero 69)) := (Below.refl _ w).alloc (Nat.le_refl _) _
  refine ⟨hla.below hB1, hm_zero w, fun k hk => ⟨hL k hk, ?_⟩, ⟨hB.size, hla.g.size⟩, hB.trans (hB1.mono hB.size), Lard.HasOk.none8, fun i hi => .inl rfl⟩
  have := (hla.lat.lt hk).2
  omega
def tailS : Nat → Code → Code
  | 0, c => c
  | n + 1, .seq _ y => tailS n y
  | _, c => c
set_option maxRecDepth 100000 in
set_option maxHeartbeats 8000000 in
theorem cl_tail {E : Ending → World → Prop} (w0 wc : World) (lb hb : Nat) (s : Lard.LS) (L : Nat → Prop) (N : Nat) (H : Nat → Nat × List UInt8) (v0 v1 b2 v3 v6 v7 v8 v9 v10 v11 v12 v13 v14 v15 v16 : Value) (u25 u26 u27 u28 u29 u30 u31 u32 u33 u34 u35 u36 u37 u38 u39 u40 u41 u42 u43 u44 u45 u46 u47 u48 u49 u50 u51 u52 u53 u54 u55 u56 u57 u58 u59 u60 u61 u62 u63 u64 u65 u66 u67 u68 u69 u70 u71 u72 u73 u74 u75 u76 u77 u78 u79 u80 u81 u82 u83 u84 u85 u86 u87 u88 u89 u90 u91 u92 u93 u94 u95 u96 u97 u98 u99 u100 u101 u102 u103 u104 u105 u106 u107 u108 u109 u110 u111 u112 u113 u114 u115 u116 u117 u118 u119 u120 u121 u122 u123 u124 u125 : Value) (hN : N ≤ 400000000000) (hw : HL w0 wc lb hb s L N H)
    (hE : ∀ w', Below w0.heap.size w0 w' → E (.returned (.bool true)) w') :
    Code.wp Tryz.prog (tailS 6 (Tryz.f5.body.getD .skip)) (bodyPost Tryz.prog Tryz.f5 E) { tmps := #[v0, v1, b2, v3, .pointer (some ⟨lb, 0, none⟩), .slice (some ⟨hb, 0, none⟩) 8 8, v6, v7, v8, v9, v10, v11, v12, v13, v14, v15, v16, undef, undef, undef, undef, undef, undef, undef, undef, u25, u26, u27, u28, u29, u30, u31, u32, u33, u34, u35, u36, u37, u38, u39, u40, u41, u42, u43, u44, u45, u46, u47, u48, u49, u50, u51, u52, u53, u54, u55, u56, u57, u58, u59, u60, u61, u62, u63, u64, u65, u66, u67, u68, u69, u70, u71, u72, u73, u74, u75, u76, u77, u78, u79, u80, u81, u82, u83, u84, u85, u86, u87, u88, u89, u90, u91, u92, u93, u94, u95, u96, u97, u98, u99, u100, u101, u102, u103, u104, u105, u106, u107, u108, u109, u110, u111, u112, u113, u114, u115, u116, u117, u118, u119, u120, u121, u122, u123, u124, u125], defers := [] } wc := by
  have HC := hide (clean_any wc hb H hw.la.g hw.la.deb hw.hm hw.oki)
  have HW := hide hw
  have HE := hide hE
  clear hw hE
  obtain ⟨cd, hcd⟩ : ∃ cd, tailS 6 (Tryz.f5.body.getD .skip) = cd := ⟨_, rfl⟩
  rw [hcd]
  simp only [tailS, Tryz.f5, Option.getD] at hcd
  subst hcd
  go_wp2_with fail
  refine HC.out.mono ?_
  rintro e w1 ⟨lb2, f, L2, rfl, hf⟩
  dsimp only
  have HT : Hid (TW w0 w1 lb hb lb2 s f L L2 (N + 0 * 2000000000) (16000 + 0 * 2000000000) H) := hide (by simpa using HW.out.two hf)
  clear HC hf HW
  unfold ptr
  go_wp2_with fail
  go_loopw [18] (fun iv wr => ∃ (i : Nat) (s f : Lard.LS) (L L2 : Nat → Prop), i ≤ 8 ∧ iv = .int .i64 i ∧ Hid (TW w0 wr lb hb lb2 s f L L2 (N + i * 2000000000) (16000 + i * 2000000000) H)) (fun iv _ => 8 - (intOf iv).toNat)
  case atStart => exact ⟨0, s, f, L, L2, Nat.zero_le _, rfl, HT⟩
  case round =>
    obtain ⟨i, s, f, L, L2, hi, rfl, HX⟩ := hrel
    clear HT
    by_cases hlt : i < 8
    · have hin : (i : Int) < 8 := by omega
      have HY := hide (fun w => key_any i w (by omega))
      have hname := keyB_name i (by omega)
      go_wp2_with fail
      refine (HY.out _).mono ?_
      rintro e w2 ⟨rfl, hB2⟩
      dsimp only
      have HX2 := hide (HX.out.below hB2)
      clear HX hB2
      have HA := hide (la_ask HX2.out.hl.la (keyB i) hname (by omega))
      unfold ptr at HA
      go_wp2_with fail
      refine HA.out.mono ?_
      rintro e w3 ⟨v, tc, ts, rfl, htv, hP, o1, c1, rfl, -⟩
      dsimp only
      rw [keyB_list] at htv hP ⊢
      clear HA
      obtain ⟨L3, h3⟩ := HX2.out.post1 hP (HX2.out.hl.ok.ask _)
      have heq := HX2.out.hl.ok.ask_same HX2.out.ok2 (Lard.keyText i)
      have HX3 := hide h3
      clear h3 hP HX2
      generalize (if tc = 12 then (s.ask (Lard.keyText i)).2.ring else []).length = len1
      go_wp2_with fail
      refine (HY.out _).mono ?_
      rintro e w4 ⟨rfl, hB4⟩
      dsimp only
      have HX4 := hide (HX3.out.below hB4)
      clear HX3 hB4
      have HA := hide (la_ask HX4.out.la2 (keyB i) hname (by omega))
      unfold ptr at HA
      go_wp2_with fail
      refine HA.out.mono ?_
      rintro e w5 ⟨v2, tc2, ts2, rfl, htv2, hP, o2, c2, rfl, -⟩
      dsimp only
      rw [keyB_list] at htv2 hP ⊢
      clear HA HY
      rw [← heq] at htv2
      obtain ⟨rfl, rfl⟩ := told_same2 htv htv2
      obtain ⟨L5, h5⟩ := HX4.out.post2 hP (HX4.out.ok2.ask _)
      have H5 := hide (h5.le (N1 := N + (i + 1) * 2000000000) (M1 := 16000 + (i + 1) * 2000000000) (by omega) (by omega))
      clear h5 hP HX4 htv htv2 heq
      generalize (if tc = 12 then (f.ask (Lard.keyText i)).2.ring else []).length = len2
      go_wp2_with fail
      refine ⟨⟨i + 1, _, _, L3, L5, by omega, by go_num, H5⟩, ?_⟩
      simp [intOf]; omega
    · obtain rfl : i = 8 := by omega
      have HF := hide (HE.out _ HX.out.hl.bel)
      clear HE HX
      go_wp2_with fail
      exact HF.out
end Go.Proofs.YtpekpdimdelncaaGreatDoor
namespace Go.Proofs.YtpekpdimdelncaaGreatDoor
open Go.RowKit Go.Shelf
set_option linter.unusedVariables false
set_option linter.unusedSimpArgs false
set_option maxRecDepth 100000 in
set_option maxHeartbeats 8000000 in
theorem clean_all (w : World) (g : G w) (hd : Deb w) (o : Option Addr) (len cap : Nat) (K Y Z : Nat → Int) (hv : StepsAt w o len K Y Z) :
    Calls Tryz.prog 5 #[.slice o len cap] w fun e w' => e = .returned (.bool true) ∧ Below w.heap.size w w' := by
  have HAW := hide (awake_any w g hd)
  have HG := hide (And.intro g hd)
  have HV := hide hv
  generalize hRR : (fun (e : Ending) (w' : World) => e = .returned (.bool true) ∧ Below w.heap.size w w') = E
  have HE : Hid (∀ w', Below w.heap.size w w' → E (.returned (.bool true)) w') := hide (fun w' hB => by rw [← hRR]; exact ⟨rfl, hB⟩)
  clear g hd hv hRR
  obtain ⟨c6, h6⟩ : ∃ c, tailS 6 (Tryz.f5.body.getD .skip) = c := ⟨_, rfl⟩
  have H6 := hide h6
  simp only [tailS, Tryz.f5, Option.getD] at h6
  go_enter Tryz.func5, Tryz.ntmps5
  rw [h6]
  clear h6
  go_wp2_with fail
  refine HAW.out.mono ?_
  rintro e w1 ⟨rfl, hB1⟩
  dsimp only
  have HN := hide (la_new w1 (HG.out.1.below hB1 HG.out.1.size) (HG.out.2.below hB1 HG.out.1.size))
  clear HAW
  go_wp2_with fail
  refine HN.out.mono ?_
  rintro e w2 ⟨lb, rfl, hla, hB2⟩
  dsimp only
  unfold ptr
  have hmk := make_has w2
  have HH : Hid (HL w (w2.alloc (.cells hasZero 69)) lb w2.heap.size Lard.LS.new (fun k => w1.heap.size ≤ k ∧ k ≤ w1.heap.size + 2) (0 * 5000000000) (fun _ => (0, []))) := hide (by simpa using hl_new hla (fun k hk => Nat.le_trans hB1.size hk.1) (hB1.trans (hB2.mono hB1.size)))
  clear hla HN hB1 hB2
  go_wp2_with fail
  clear hmk
  generalize w2.alloc (.cells hasZero 69) = w3 at HH ⊢
  generalize w2.heap.size = hb at HH ⊢
  have HT : Hid (∀ (s : Lard.LS) (L : Nat → Prop) (H : Nat → Nat × List UInt8) (i : Nat) (wr : World) (v0 v1 b2 v3 v6 v7 v8 v9 v10 v11 v12 v13 v14 v15 v16 : Value) (u25 u26 u27 u28 u29 u30 u31 u32 u33 u34 u35 u36 u37 u38 u39 u40 u41 u42 u43 u44 u45 u46 u47 u48 u49 u50 u51 u52 u53 u54 u55 u56 u57 u58 u59 u60 u61 u62 u63 u64 u65 u66 u67 u68 u69 u70 u71 u72 u73 u74 u75 u76 u77 u78 u79 u80 u81 u82 u83 u84 u85 u86 u87 u88 u89 u90 u91 u92 u93 u94 u95 u96 u97 u98 u99 u100 u101 u102 u103 u104 u105 u106 u107 u108 u109 u110 u111 u112 u113 u114 u115 u116 u117 u118 u119 u120 u121 u122 u123 u124 u125 : Value), i ≤ 60 → HL w wr lb hb s L (i * 5000000000) H → Code.wp Tryz.prog c6 (bodyPost Tryz.prog Tryz.f5 E) { tmps := #[v0, v1, b2, v3, .pointer (some ⟨lb, 0, none⟩), .slice (some ⟨hb, 0, none⟩) 8 8, v6, v7, v8, v9, v10, v11, v12, v13, v14, v15, v16, undef, undef, undef, undef, undef, undef, undef, undef, u25, u26, u27, u28, u29, u30, u31, u32, u33, u34, u35, u36, u37, u38, u39, u40, u41, u42, u43, u44, u45, u46, u47, u48, u49, u50, u51, u52, u53, u54, u55, u56, u57, u58, u59, u60, u61, u62, u63, u64, u65, u66, u67, u68, u69, u70, u71, u72, u73, u74, u75, u76, u77, u78, u79, u80, u81, u82, u83, u84, u85, u86, u87, u88, u89, u90, u91, u92, u93, u94, u95, u96, u97, u98, u99, u100, u101, u102, u103, u104, u105, u106, u107, u108, u109, u110, u111, u112, u113, u114, u115, u116, u117, u118, u119, u120, u121, u122, u123, u124, u125], defers := [] } wr) := hide (fun s L H i wr v0 v1 b2 v3 v6 v7 v8 v9 v10 v11 v12 v13 v14 v15 v16 u25 u26 u27 u28 u29 u30 u31 u32 u33 u34 u35 u36 u37 u38 u39 u40 u41 u42 u43 u44 u45 u46 u47 u48 u49 u50 u51 u52 u53 u54 u55 u56 u57 u58 u59 u60 u61 u62 u63 u64 u65 u66 u67 u68 u69 u70 u71 u72 u73 u74 u75 u76 u77 u78 u79 u80 u81 u82 u83 u84 u85 u86 u87 u88 u89 u90 u91 u92 u93 u94 u95 u96 u97 u98 u99 u100 u101 u102 u103 u104 u105 u106 u107 u108 u109 u110 u111 u112 u113 u114 u115 u116 u117 u118 u119 u120 u121 u122 u123 u124 u125 hi h => by
    rw [← H6.out]
    exact cl_tail w wr lb hb s L _ H _ _ _ _ _ _ _ _ _ _ _ _ _ _ _ _ _ _ _ _ _ _ _ _ _ _ _ _ _ _ _ _ _ _ _ _ _ _ _ _ _ _ _ _ _ _ _ _ _ _ _ _ _ _ _ _ _ _ _ _ _ _ _ _ _ _ _ _ _ _ _ _ _ _ _ _ _ _ _ _ _ _ _ _ _ _ _ _ _ _ _ _ _ _ _ _ _ _ _ _ _ _ _ _ _ _ _ _ _ _ _ _ _ _ _ _ (by omega) h HE.out)
  clear HE H6
  go_loopw [6] (fun iv wr => ∃ (i : Nat) (s : Lard.LS) (L : Nat → Prop) (H : Nat → Nat × List UInt8), i ≤ len ∧ i ≤ 60 ∧ iv = .int .i64 i ∧ Hid (HL w wr lb hb s L (i * 5000000000) H)) (fun iv _ => 60 - (intOf iv).toNat)
  case atStart => exact ⟨0, _, _, _, Nat.zero_le _, Nat.zero_le _, rfl, HH⟩
  case round =>
    obtain ⟨i, s, L, H, hi, hi60, rfl, HX⟩ := hrel
    clear HH
    by_cases h1 : i < len
    · have h1i : (i : Int) < (len : Int) := by omega
      by_cases h2 : i < 60
      · have h2i : (i : Int) < 60 := by omega
        obtain ⟨ab, ao, rfl, e1, e2, e3, b1, b2, b3⟩ := HV.out i h1
        have HCL := hide (fun (w' : World) (hB : Below w.heap.size w w') => And.intro ((hB.cell (World.block_lt_of_cell? _ _ e1)).trans e1) (And.intro ((hB.cell (World.block_lt_of_cell? _ _ e2)).trans e2) ((hB.cell (World.block_lt_of_cell? _ _ e3)).trans e3)))
        have HBD := hide (And.intro b1 (And.intro b2 b3))
        obtain ⟨d1, d2, d3⟩ := HCL.out wr HX.out.bel
        have HDO := hide (does_any w wr lb hb s L (i * 5000000000) H (K i) (Y i) (Z i) b1 b2 b3 (by omega) HX.out)
        unfold ptr at HDO
        clear e1 e2 e3 b1 b2 b3 HX
        go_wp2_with fail
        refine HDO.out.mono ?_
        rintro e w4 ⟨rfl, L4, h4⟩
        dsimp only
        clear HDO d1 d2 d3
        obtain ⟨d1, d2, d3⟩ := HCL.out w4 h4.bel
        have H4 := hide h4
        clear h4
        generalize stepS s (K i) (Y i) (Z i) = s4 at H4
        generalize stepH H (K i) (Y i) (Z i) = Hh at H4
        have HAS := hide (asks_any w4 (K i) (Y i) (Z i) HBD.out.1)
        go_wp2_with fail
        refine HAS.out.mono ?_
        rintro e w5 ⟨rfl, hB5⟩
        dsimp only
        clear HAS d1 d2 d3
        have H5 := hide (H4.out.below hB5)
        clear H4 hB5
        by_cases ha : 5 < pickN (K i) 9
        · rw [decide_eq_true ha]
          obtain ⟨d1, d2, d3⟩ := HCL.out w5 H5.out.bel
          have HP := hide (pick_any (Y i) 8 w5 HBD.out.2.1.1 HBD.out.2.1.2 (by omega) (by omega))
          have hn : pickN (Y i) 8 < 8 := Nat.mod_lt _ (by omega)
          generalize pickN (Y i) 8 = n at HP hn
          have HY := hide (key_any n w5 (by omega))
          have hname := keyB_name n (by omega)
          go_wp2_with fail
          refine HP.out.mono ?_
          rintro e w' ⟨rfl, hw'⟩
          obtain rfl := hw'.symm
          dsimp only
          clear HP d1 d2 d3 HCL HBD
          go_wp2_with fail
          refine HY.out.mono ?_
          rintro e w6 ⟨rfl, hB6⟩
          dsimp only
          have H6 := hide (H5.out.below hB6)
          clear H5 hB6 HY
          have HC := hide (clean_any w6 hb Hh H6.out.la.g H6.out.la.deb H6.out.hm H6.out.oki)
          go_wp2_with fail
          refine HC.out.mono ?_
          rintro e w7 ⟨lb2, f, L2, rfl, hf⟩
          dsimp only
          have H7 := hide (H6.out.two hf)
          clear HC H6 hf
          have HA := hide (la_ask H7.out.hl.la (keyB n) hname (by omega))
          unfold ptr at HA ⊢
          go_wp2_with fail
          refine HA.out.mono ?_
          rintro e w8 ⟨v, tc, ts, rfl, htv, hP, o1, c1, rfl, -⟩
          dsimp only
          rw [keyB_list] at htv hP ⊢
          clear HA
          obtain ⟨L8, h8⟩ := H7.out.post1 hP (H7.out.hl.ok.ask _)
          have heq := H7.out.hl.ok.ask_same H7.out.ok2 (Lard.keyText n)
          have hrg := ring_both H7.out.hl.la.sound H7.out.la2.sound heq htv
          have H8 := hide h8
          clear h8 hP H7
          have HA := hide (la_ask H8.out.la2 (keyB n) hname (by omega))
          unfold ptr at HA
          generalize (if tc = 12 then (s4.ask (Lard.keyText n)).2.ring else []).length = len1 at hrg ⊢
          go_wp2_with fail
          refine HA.out.mono ?_
          rintro e w9 ⟨v2, tc2, ts2, rfl, htv2, hP, o2, c2, rfl, -⟩
          dsimp only
          rw [keyB_list] at htv2 hP ⊢
          clear HA
          rw [← heq] at htv2
          obtain ⟨rfl, rfl⟩ := told_same2 htv htv2
          obtain ⟨L9, h9⟩ := H8.out.post2 hP (H8.out.ok2.ask _)
          have H9 := hide (h9.hl.le (M := (i + 1) * 5000000000) (by omega))
          clear h9 hP H8 htv htv2 heq
          generalize (if tc = 12 then (f.ask (Lard.keyText n)).2.ring else []).length = len2 at hrg ⊢
          by_cases hp : (0 : Int) < (len1 : Int)
          · rw [decide_eq_true hp] at hrg
            have hp2 : (0 : Int) < (len2 : Int) := of_decide_eq_true hrg.symm
            have q1 : decide (0 < len1) = true := decide_eq_true (by omega)
            have q2 : decide (0 < len2) = true := decide_eq_true (by omega)
            clear hrg hp hp2
            go_wp2_with fail
            refine ⟨⟨i + 1, _, L8, Hh, by omega, by omega, by go_num, H9⟩, ?_⟩
            simp [intOf]; omega
          · rw [decide_eq_false hp] at hrg
            have hp2 : ¬ (0 : Int) < (len2 : Int) := of_decide_eq_false hrg.symm
            have q1 : decide (0 < len1) = false := decide_eq_false (by omega)
            have q2 : decide (0 < len2) = false := decide_eq_false (by omega)
            clear hrg hp hp2
            go_wp2_with fail
            refine ⟨⟨i + 1, _, L8, Hh, by omega, by omega, by go_num, H9⟩, ?_⟩
            simp [intOf]; omega
        · rw [decide_eq_false ha]
          go_wp2_with fail
          refine ⟨⟨i + 1, s4, L4, Hh, by omega, by omega, by go_num, hide (H5.out.le (by omega))⟩, ?_⟩
          simp [intOf]; omega
      · have h2i : ¬ (i : Int) < 60 := by omega
        have HZ := hide (fun v0 v1 b2 v3 v6 v7 v8 v9 v10 v11 v12 v13 v14 v15 v16 u25 u26 u27 u28 u29 u30 u31 u32 u33 u34 u35 u36 u37 u38 u39 u40 u41 u42 u43 u44 u45 u46 u47 u48 u49 u50 u51 u52 u53 u54 u55 u56 u57 u58 u59 u60 u61 u62 u63 u64 u65 u66 u67 u68 u69 u70 u71 u72 u73 u74 u75 u76 u77 u78 u79 u80 u81 u82 u83 u84 u85 u86 u87 u88 u89 u90 u91 u92 u93 u94 u95 u96 u97 u98 u99 u100 u101 u102 u103 u104 u105 u106 u107 u108 u109 u110 u111 u112 u113 u114 u115 u116 u117 u118 u119 u120 u121 u122 u123 u124 u125 => HT.out s L H i wr v0 v1 b2 v3 v6 v7 v8 v9 v10 v11 v12 v13 v14 v15 v16 u25 u26 u27 u28 u29 u30 u31 u32 u33 u34 u35 u36 u37 u38 u39 u40 u41 u42 u43 u44 u45 u46 u47 u48 u49 u50 u51 u52 u53 u54 u55 u56 u57 u58 u59 u60 u61 u62 u63 u64 u65 u66 u67 u68 u69 u70 u71 u72 u73 u74 u75 u76 u77 u78 u79 u80 u81 u82 u83 u84 u85 u86 u87 u88 u89 u90 u91 u92 u93 u94 u95 u96 u97 u98 u99 u100 u101 u102 u103 u104 u105 u106 u107 u108 u109 u110 u111 u112 u113 u114 u115 u116 u117 u118 u119 u120 u121 u122 u123 u124 u125 hi60 HX.out)
        go_wp2_with fail
        exact HZ.out _ _ _ _ _ _ _ _ _ _ _ _ _ _ _ _ _ _ _ _ _ _ _ _ _ _ _ _ _ _ _ _ _ _ _ _ _ _ _ _ _ _ _ _ _ _ _ _ _ _ _ _ _ _ _ _ _ _ _ _ _ _ _ _ _ _ _ _ _ _ _ _ _ _ _ _ _ _ _ _ _ _ _ _ _ _ _ _ _ _ _ _ _ _ _ _ _ _ _ _ _ _ _ _ _ _ _ _ _ _ _ _ _ _ _ _
    · have h1i : ¬ (i : Int) < (len : Int) := by omega
      have HZ := hide (fun v0 v1 b2 v3 v6 v7 v8 v9 v10 v11 v12 v13 v14 v15 v16 u25 u26 u27 u28 u29 u30 u31 u32 u33 u34 u35 u36 u37 u38 u39 u40 u41 u42 u43 u44 u45 u46 u47 u48 u49 u50 u51 u52 u53 u54 u55 u56 u57 u58 u59 u60 u61 u62 u63 u64 u65 u66 u67 u68 u69 u70 u71 u72 u73 u74 u75 u76 u77 u78 u79 u80 u81 u82 u83 u84 u85 u86 u87 u88 u89 u90 u91 u92 u93 u94 u95 u96 u97 u98 u99 u100 u101 u102 u103 u104 u105 u106 u107 u108 u109 u110 u111 u112 u113 u114 u115 u116 u117 u118 u119 u120 u121 u122 u123 u124 u125 => HT.out s L H i wr v0 v1 b2 v3 v6 v7 v8 v9 v10 v11 v12 v13 v14 v15 v16 u25 u26 u27 u28 u29 u30 u31 u32 u33 u34 u35 u36 u37 u38 u39 u40 u41 u42 u43 u44 u45 u46 u47 u48 u49 u50 u51 u52 u53 u54 u55 u56 u57 u58 u59 u60 u61 u62 u63 u64 u65 u66 u67 u68 u69 u70 u71 u72 u73 u74 u75 u76 u77 u78 u79 u80 u81 u82 u83 u84 u85 u86 u87 u88 u89 u90 u91 u92 u93 u94 u95 u96 u97 u98 u99 u100 u101 u102 u103 u104 u105 u106 u107 u108 u109 u110 u111 u112 u113 u114 u115 u116 u117 u118 u119 u120 u121 u122 u123 u124 u125 hi60 HX.out)
      go_wp2_with fail
      exact HZ.out _ _ _ _ _ _ _ _ _ _ _ _ _ _ _ _ _ _ _ _ _ _ _ _ _ _ _ _ _ _ _ _ _ _ _ _ _ _ _ _ _ _ _ _ _ _ _ _ _ _ _ _ _ _ _ _ _ _ _ _ _ _ _ _ _ _ _ _ _ _ _ _ _ _ _ _ _ _ _ _ _ _ _ _ _ _ _ _ _ _ _ _ _ _ _ _ _ _ _ _ _ _ _ _ _ _ _ _ _ _ _ _ _ _ _ _
end Go.Proofs.YtpekpdimdelncaaGreatDoor
namespace Go.Proofs.YtpekpdimdelncaaGreatDoor
open Go.ChangeShapes Go.WideShapes Go.RowKit Go.Deep
set_option linter.unusedVariables false
theorem cells34 : Tryz.prog.cellsOf 34 = 3 := by kernel_rfl
theorem cells3i : Tryz.prog.cellsOf 3 = 1 := by kernel_rfl
set_option maxRecDepth 100000 in
theorem steps_open {H : Type} {enc : TypeId × Value → H} {w : World} {base fuel : Nat} {spare : Nat → Bool} {held : Bool} {cs : List Value} {x : DataW H × List MemPlace} (h : DataW.trod enc Tryz.prog w base spare held fuel 27 cs = some x) :
    ∃ o len cap K Y Z, cs = [.slice o len cap] ∧ StepsAt w o len K Y Z := by
  rcases open_slice Tryz.underlying27 h with ⟨h0, _⟩ | ⟨a, len, cap, m, n, D, Pl, rfl, hb, hl, hm, hmm, rfl, hx⟩
  · exact ⟨none, 0, 0, fun _ => 0, fun _ => 0, fun _ => 0, h0, fun i hi => by omega⟩
  · have hlm : len ≤ m := by rw [hmm]; split <;> omega
    have each : ∀ i, i < len → ∃ q : Int × Int × Int, w.cell? (a.add (i * 3)) = some (.int .i64 q.1) ∧ w.cell? (a.add (i * 3 + 1)) = some (.int .i64 q.2.1) ∧ w.cell? (a.add (i * 3 + 2)) = some (.int .i64 q.2.2) ∧ (Lit.int .i64 q.1).wf = true ∧ (Lit.int .i64 q.2.1).wf = true ∧ (Lit.int .i64 q.2.2).wf = true := by
      intro i hi
      obtain ⟨cs', h1, h2⟩ := hx i (by omega)
      rw [cells34] at h1
      obtain ⟨_, hlen, hcell⟩ := World.cells?_some h1
      obtain ⟨xs, k, hk, hxy, _, hxl, hf⟩ := DataW.trod_struct Tryz.underlying34 h2
      match xs, hxl, cs', hlen with
      | [y0, y1, y2], _, [v0, v1, v2], _ =>
        have g0 := hf 0 _ rfl
        have g1 := hf 1 _ rfl
        have g2 := hf 2 _ rfl
        simp [cells3i] at g0 g1 g2
        have e0 := hcell 0 (by omega)
        have e1 := hcell 1 (by omega)
        have e2 := hcell 2 (by omega)
        rw [add_add] at e0 e1 e2
        obtain ⟨n0, k0, _, w0⟩ := DataW.trod_int Tryz.underlying3 g0
        obtain ⟨n1, k1, _, w1⟩ := DataW.trod_int Tryz.underlying3 g1
        obtain ⟨n2, k2, _, w2⟩ := DataW.trod_int Tryz.underlying3 g2
        simp at k0 k1 k2
        subst k0
        subst k1
        subst k2
        exact ⟨(n0, n1, n2), by simpa using e0, by simpa using e1, by simpa using e2, w0, w1, w2⟩
    obtain ⟨q, hq⟩ := choose_lt each
    refine ⟨some a, len, cap, fun i => (q i).1, fun i => (q i).2.1, fun i => (q i).2.2, rfl, fun i hi => ?_⟩
    obtain ⟨h1, h2, h3, b1, b2, b3⟩ := hq i hi
    obtain ⟨ab, ao, ap⟩ := a
    have hspot : ap = none := by
      obtain ⟨h1', _⟩ := hq 0 (by omega)
      simpa [Addr.add] using World.cell?_spot h1'
    subst hspot
    rw [add_plain] at h1 h2 h3
    exact ⟨ab, ao, rfl, h1, by rw [Nat.add_assoc]; exact h2, by rw [Nat.add_assoc]; exact h3, bounds_i64 b1, bounds_i64 b2, bounds_i64 b3⟩
end Go.Proofs.YtpekpdimdelncaaGreatDoor
namespace Go.Proofs.YtpekpdimdelncaaGreatDoor.clean
open Go.ChangeShapes Go.WideShapes Go.ChangeAt Go.RowKit Go.ChangeMaps
set_option maxRecDepth 100000 in
theorem closed : joinedFacts Tryz.pinned.checked.prog 5 Tryz.f5 (OpenSpec.ofChange Rows.cleanSpec).bare Rows.cleanRow = true := by kernel_rfl
end Go.Proofs.YtpekpdimdelncaaGreatDoor.clean
