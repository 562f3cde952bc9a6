/- Out of: Rn3, Ru, D7, D8. -/
import Derived.Test.YtpekpdimdelncaaGreatDoorP42
import Derived.Test.YtpekpdimdelncaaGreatDoorP31
import Derived.Test.YtpekpdimdelncaaGreatDoorP39
import Derived.Test.YtpekpdimdelncaaGreatDoorP43
namespace Go.Proofs.YtpekpdimdelncaaGreatDoor
namespace Lard
set_option linter.unusedVariables false
structure GrS (e : Src) (n : Nat) (nd : Nat → List Nat) : Prop where
  gr : Gr e n nd
  only : ∀ k, (∀ i, i < n → keyText i ≠ k) → e k = none
section
variable {s : LS} {n : Nat} {nd : Nat → List Nat}
def Rnd (nd : Nat → List Nat) (i : Nat) : Prop := ∃ k, (k = i ∨ ∃ m, Way nd m i k) ∧ ∃ m, Way nd m k k
theorem ask_round (hs : Sound s) (h : GrS (srcOf s.has) n nd) (hn : n ≤ 12) {i : Nat} (hi : i < n) (hr : Rnd nd i) : (s.ask (keyText i)).1 = .error 12 := by
  obtain ⟨_, _, h1, _⟩ := hs.bp (keyText i)
  rcases h1 with h1 | ⟨h1, _⟩
  · exfalso
    obtain ⟨k, hk | ⟨m, hm⟩, m', hm'⟩ := hr
    · subst hk
      exact h.gr.round hn hi hm' _ h1
    · exact h.gr.round' hn hi hm hm' _ h1
  · exact h1
theorem ask_fine (hs : Sound s) (h : GrS (srcOf s.has) n nd) (hn : n ≤ 12) {i : Nat} (hi : i < n) (hr : ¬ Rnd nd i) : ∃ z, (s.ask (keyText i)).1 = .ok (vn z) := by
  obtain ⟨_, _, h1, _⟩ := hs.bp (keyText i)
  rcases h1 with ⟨m, h1⟩ | ⟨_, h2⟩
  · exact (h.gr.down hn m i _ hi h1).1
  · exact absurd (h.gr.find hn hi h2) hr
theorem lnk_at {R : By → By → Prop} : ∀ (l : List By) (j : Nat) (x y : By), Lnk R l → l[j]? = some x → l[j + 1]? = some y → R x y
  | [], j, x, y, _, h, _ => by simp at h
  | [a], j, x, y, _, h, h' => by simp at h'
  | a :: b :: r, 0, x, y, hl, h, h' => by
    simp at h h'
    subst h
    subst h'
    exact hl.1
  | a :: b :: r, j + 1, x, y, hl, h, h' => lnk_at (b :: r) j x y hl.2 (by simpa using h) (by simpa using h')
theorem GrS.key (h : GrS (srcOf s.has) n nd) {k k' : By} (hk : Nxt (srcOf s.has) k k') : ∃ i, i < n ∧ k = keyText i := by
  refine Classical.byContradiction fun hc => ?_
  obtain ⟨t, h1, _⟩ := hk
  rw [h.only k (fun i hi e => hc ⟨i, hi, e.symm⟩)] at h1
  cases h1
theorem ring_is (hs : Sound s) (h : GrS (srcOf s.has) n nd) (hn : n ≤ 12) {key : By} (h12 : (s.ask key).1 = .error 12) (j : Nat) (hj : j < (s.ask key).2.ring.length) :
    ∃ a b, a < n ∧ b < n ∧ b ∈ nd a ∧ (s.ask key).2.ring[j]? = some (keyText a) ∧ (s.ask key).2.ring[(j + 1) % (s.ask key).2.ring.length]? = some (keyText b) := by
  obtain ⟨_, k, r, h1, h2⟩ := ask_ring hs key h12
  rw [h1] at hj ⊢
  have hlen : (k :: r).length = r.length + 1 := rfl
  have ex : ∃ x, (k :: r)[j]? = some x := ⟨_, List.getElem?_eq_getElem hj⟩
  obtain ⟨x, hx⟩ := ex
  have hx' : (k :: r ++ [k])[j]? = some x := by rw [List.getElem?_append_left hj]; exact hx
  have hy : ∃ y, (k :: r ++ [k])[j + 1]? = some y ∧ (k :: r)[(j + 1) % (k :: r).length]? = some y := by
    by_cases e : j + 1 < (k :: r).length
    · exact ⟨_, by rw [List.getElem?_append_left e]; exact List.getElem?_eq_getElem e, by rw [Nat.mod_eq_of_lt e]; exact List.getElem?_eq_getElem e⟩
    · have e2 : j + 1 = (k :: r).length := by omega
      refine ⟨k, ?_, ?_⟩
      · rw [e2, List.getElem?_append_right (Nat.le_refl _)]
        simp
      · rw [e2, Nat.mod_self]
        rfl
  obtain ⟨y, hy1, hy2⟩ := hy
  have hxy := lnk_at _ j x y h2 hx' hy1
  obtain ⟨a, ha, rfl⟩ := h.key hxy
  obtain ⟨b, hb, rfl⟩ := h.gr.nxt hn ha hxy
  exact ⟨a, b, ha, h.gr.lt a ha b hb, hb, hx, hy2⟩
theorem ring_few (hs : Sound s) (key : By) : (s.ask key).2.ring.length ≤ 42 := by
  refine bring_rk 42 key _ ?_ (Nat.zero_le _)
  show s.begun.length + 42 ≤ 42
  rw [hs.begun]
  exact Nat.le_refl _
theorem GrS.ask (hs : Sound s) (h : GrS (srcOf s.has) n nd) (key : By) : GrS (srcOf (s.ask key).2.has) n nd := by rw [hs.src]; exact h
structure GrI (e : Src) (i : Nat) (nd : Nat → List Nat) : Prop where
  rule : ∀ j, j < i → e (keyText j) = some (.inr (sumT (nd j)))
  only : ∀ k, (∀ j, j < i → keyText j ≠ k) → e k = none
theorem GrI.full {e : Src} (h : GrI e n nd) (h1 : ∀ i, i < n → (nd i).length ≤ 3) (h2 : ∀ i, i < n → ∀ a ∈ nd i, a < n) : GrS e n nd := ⟨⟨h.rule, h1, h2⟩, h.only⟩
theorem keyText_inj12 : ∀ i, i < 12 → ∀ j, j < 12 → keyText i = keyText j → i = j := by
  have : ∀ i, i < 12 → ∀ j, j < 12 → keyText i = keyText j → i = j := by decide +kernel
  exact this
theorem GrI.next {h : List (By × Thing)} {i : Nat} (hg : GrI (srcOf h) i nd) (hi : i < 12) {th : Thing} (ht : th.tree = some (sumT (nd i))) : GrI (srcOf (put h (keyText i) th)) (i + 1) nd where
  rule j hj := by
    rw [src_put]
    by_cases e : j = i
    · subst e
      rw [if_pos rfl, ht]
    · rw [if_neg (fun e2 => e (keyText_inj12 i hi j (by omega) e2).symm)]
      exact hg.rule j (by omega)
  only k hk := by
    rw [src_put, if_neg (hk i (by omega))]
    exact hg.only k (fun j hj => hk j (by omega))
theorem grI_new (nd : Nat → List Nat) : GrI (srcOf LS.new.has) 0 nd := ⟨fun j hj => by omega, fun k _ => rfl⟩
end
end Lard
end Go.Proofs.YtpekpdimdelncaaGreatDoor
namespace Go.Proofs.YtpekpdimdelncaaGreatDoor
open Go.RowKit
theorem ruleT_of {l : List UInt8} (h : Lard.check l = (0, 0)) (ht : (Lard.treeOf l).kind ≠ 0) : Lard.ruleT l = some (Lard.treeOf l) := by
  unfold Lard.check at h
  split at h
  · cases h
  · rename_i hl
    rw [← Lard.place_PT l _ _ _ _ _ []] at h
    unfold Lard.ruleT
    rw [if_neg hl]
    unfold Lard.treeOf at ht ⊢
    cases hp : Lard.PT l (8 * l.length + 5) 0 0 0 (Lard.skip l 0) [] with
    | error e =>
      rw [hp] at ht
      exact absurd rfl ht
    | ok q =>
      obtain ⟨j, ts⟩ := q
      rw [hp] at h ht
      simp only [Lard.placeOf, Lard.endOf] at h
      split at h
      · rename_i h0
        simp only [if_pos h0]
        cases ts with
        | nil => exact absurd rfl ht
        | cons t r => rfl
      · cases h
theorem sum_rule {l : List Nat} (h : ∀ a ∈ l, a < 12) (hl : l.length ≤ 3) : Lard.ruleT (Lard.sumText l) = some (Lard.sumT l) := by
  obtain ⟨h1, h2, h3⟩ := Lard.okT_sum h hl
  rw [← h2]
  refine ruleT_of h1 ?_
  rw [h2]
  intro e
  unfold Lard.okT at h3
  simp [e] at h3
end Go.Proofs.YtpekpdimdelncaaGreatDoor
namespace Go.Proofs.YtpekpdimdelncaaGreatDoor
open Go.RowKit Go.Shelf
set_option linter.unusedVariables false
set_option linter.unusedSimpArgs false
theorem rowInfo : (Tryz.prog.info? 50).map (fun i => (i.zero, i.size, i.bytes)) = some (some (.slice none 0 0), 1, 24) := by kernel_rfl
def NeedAt (w : World) (v0 : Value) (n : Nat) (Ln : Nat → Nat) (z : Nat → Nat → Int) : Prop :=
  0 < n → ∃ (a : Addr) (len cap : Nat) (A : Nat → Option Addr) (C : Nat → Nat), v0 = .slice (some a) len cap ∧ n ≤ len ∧
    ∀ r, r < n → w.cell? (a.add r) = some (.slice (A r) (Ln r) (C r)) ∧ ∀ c, c < Ln r → ∃ a', A r = some a' ∧ w.cell? (a'.add c) = some (.int .i64 (z r c)) ∧ -9223372036854775808 ≤ z r c ∧ z r c ≤ 9223372036854775807
def ndOf (n : Nat) (Ln : Nat → Nat) (z : Nat → Nat → Int) (i : Nat) : List Nat := (List.range (min (Ln i) 3)).map fun c => pickN (z i c) n
theorem ndOf_few (n : Nat) (Ln : Nat → Nat) (z : Nat → Nat → Int) (i : Nat) : (ndOf n Ln z i).length ≤ 3 := by
  unfold ndOf
  simp
  omega
theorem ndOf_lt {n : Nat} (hn : 0 < n) (Ln : Nat → Nat) (z : Nat → Nat → Int) (i : Nat) : ∀ a ∈ ndOf n Ln z i, a < n := by
  intro a ha
  unfold ndOf at ha
  obtain ⟨c, _, rfl⟩ := List.mem_map.1 ha
  exact Nat.mod_lt _ hn
structure SW (w0 w : World) (lb n tb i : Nat) (s : Lard.LS) (L : Nat → Prop) (N : Nat) (R C : Nat → Nat) (M : Nat → Nat → Bool) (nd : Nat → List Nat) : Prop where
  la : La w lb s L N
  t : Mat w tb n i R C M
  off : ∀ k, L k → w0.heap.size ≤ k ∧ k ≠ tb ∧ ∀ j, j < i → k ≠ R j
  own : w0.heap.size ≤ tb ∧ ∀ j, j < i → w0.heap.size ≤ R j
  bel : Below w0.heap.size w0 w
  gr : Lard.GrI (Lard.srcOf s.has) i nd
  m : ∀ a c, a < i → c < n → (M a c = true ↔ c ∈ nd a)
  len : s.has.length ≤ i
structure IW (w0 w : World) (lb n tb i k : Nat) (s : Lard.LS) (L : Nat → Prop) (N : Nat) (R C : Nat → Nat) (M : Nat → Nat → Bool) (nd : Nat → List Nat) (f : Nat → Nat) (tx : ByteArray) : Prop where
  la : La w lb s L N
  t : Mat w tb n (i + 1) R C M
  off : ∀ k, L k → w0.heap.size ≤ k ∧ k ≠ tb ∧ ∀ j, j < i + 1 → k ≠ R j
  own : w0.heap.size ≤ tb ∧ ∀ j, j < i + 1 → w0.heap.size ≤ R j
  bel : Below w0.heap.size w0 w
  gr : Lard.GrI (Lard.srcOf s.has) i nd
  m : ∀ a c, a < i → c < n → (M a c = true ↔ c ∈ nd a)
  mi : ∀ c, c < n → (M i c = true ↔ c ∈ (List.range k).map f)
  len : s.has.length ≤ i
  te : tx.data.toList = Lard.sumText ((List.range k).map f)
  tz : tx.size ≤ 1 + 30 * k
section
variable {w0 w w' : World} {lb n tb i k : Nat} {s : Lard.LS} {L : Nat → Prop} {N : Nat} {R C : Nat → Nat} {M : Nat → Nat → Bool} {nd : Nat → List Nat} {f : Nat → Nat} {tx : ByteArray}
theorem la_table {L : Nat → Prop} (h : La w lb s L N) (hos : w'.os = w.os) (htp : w'.tape = w.tape) (hout : w'.output = w.output) (hsz : w.heap.size ≤ w'.heap.size) (b : Nat) (h8 : 8 ≤ b) (hb : ∃ F cp t, w.rowIs b t cp F ∧ ¬ Imm t) (hn : ¬ L b) (hblk : ∀ k, k < w.heap.size → k ≠ b → w'.heap[k]? = w.heap[k]?) : La w' lb s L N := by
  refine h.other (L2 := fun k => k = b) ⟨hos, htp, hout, hsz, fun k hk hne => hblk k hk hne⟩ (fun k hk => by rw [hk]; exact h8) (fun k hk cs t fz hc => ?_) (fun k hk e => hn (e ▸ hk))
  subst hk
  obtain ⟨F, cp, t', ⟨c, h1, _⟩, h2⟩ := hb
  rw [h1] at hc
  cases hc
  exact h2
theorem imm_bool : ¬ Imm 4 := by unfold Imm; decide
theorem imm_row : ¬ Imm 50 := by unfold Imm; decide
theorem SW.row (h : SW w0 w lb n tb i s L N R C M nd) (hi : i < n) : IW w0 ((w.alloc (.cells (madeCells #[.bool false] n) 4)).setCell ⟨tb, i, none⟩ (.slice (some ⟨w.heap.size, 0, none⟩) n n)) lb n tb i 0 s L N (fun j => if j = i then w.heap.size else R j) (fun j => if j = i then n else C j) (fun j c => if j = i then false else M j c) nd f ⟨#[49]⟩ := by
  have hB1 : Below w.heap.size w (w.alloc (.cells (madeCells #[.bool false] n) 4)) := (Below.refl _ w).alloc (Nat.le_refl _) _
  have h8 := h.la.g.size
  have htl := h.t.top.lt
  have hb0 := h.bel.size
  have hm1 := h.t.below hB1
  have hp := hm1.push hi (brow_made w n) (Nat.le_refl _) h8 (by omega) (fun j hj e => by have := (h.t.row j hj).lt; omega)
  have hla1 := h.la.below hB1
  have hla2 : La ((w.alloc (.cells (madeCells #[.bool false] n) 4)).setCell ⟨tb, i, none⟩ (.slice (some ⟨w.heap.size, 0, none⟩) n n)) lb s L N := la_table hla1 rfl rfl rfl (by simp [World.setCell]) tb h.t.low.1 ⟨_, _, _, hm1.top, imm_row⟩ (fun hl => (h.off _ hl).2.1 rfl) (fun k hk hne => Deep.blk_setCell_other _ _ _ _ hne)
  refine ⟨hla2, hp, fun k hk => ⟨(h.off k hk).1, (h.off k hk).2.1, fun j hj => ?_⟩, ⟨h.own.1, fun j hj => ?_⟩, ?_, h.gr, fun a c ha hc => ?_, fun c hc => ?_, h.len, rfl, Nat.le_refl _⟩
  · have := (h.la.lat.lt hk).2
    by_cases e : j = i
    · simp only [if_pos e]; omega
    · simp only [if_neg e]; exact (h.off k hk).2.2 j (by omega)
  · by_cases e : j = i
    · simp only [if_pos e]; exact hb0
    · simp only [if_neg e]; exact h.own.2 j (by omega)
  · refine h.bel.trans ⟨rfl, rfl, rfl, by simp [World.setCell], fun k hk => ?_⟩
    rw [Deep.blk_setCell_other _ _ _ _ (show k ≠ tb by have := h.own.1; omega)]
    exact hB1.block k (by omega)
  · simp only [if_neg (show a ≠ i by omega)]
    exact h.m a c ha hc
  · simp
theorem IW.below (h : IW w0 w lb n tb i k s L N R C M nd f tx) (hB : Below w.heap.size w w') : IW w0 w' lb n tb i k s L N R C M nd f tx :=
  ⟨h.la.below hB, h.t.below hB, h.off, h.own, h.bel.trans (hB.mono h.bel.size), h.gr, h.m, h.mi, h.len, h.te, h.tz⟩
theorem IW.put (h : IW w0 w lb n tb i k s L N R C M nd f tx) (hi : i < n) (hm : f k < n) : La (w.setCell ⟨R i, f k, none⟩ (.bool true)) lb s L N ∧ Mat (w.setCell ⟨R i, f k, none⟩ (.bool true)) tb n (i + 1) R C (Lard.upd M i (f k) true) ∧ Below w0.heap.size w0 (w.setCell ⟨R i, f k, none⟩ (.bool true)) := by
  refine ⟨la_table h.la rfl rfl rfl (by simp [World.setCell]) (R i) (h.t.low.2 i (by omega)) ?_ (fun hl => (h.off _ hl).2.2 i (by omega) rfl) (fun k hk hne => Deep.blk_setCell_other _ _ _ _ hne), h.t.put (by omega) hm true, h.bel.trans ⟨rfl, rfl, rfl, by simp [World.setCell], fun k hk => ?_⟩⟩
  · obtain ⟨F, h1, _⟩ := h.t.row i (by omega)
    exact ⟨_, _, _, h1, imm_bool⟩
  · exact Deep.blk_setCell_other _ _ _ _ (by have := h.own.2 i (by omega); show k ≠ R i; omega)
theorem IW.next (h : IW w0 w lb n tb i k s L N R C M nd f tx) (hi : i < n) (hm : f k < n) (hm2 : f k ≤ 1000000) (hB : Below w.heap.size (w.setCell ⟨R i, f k, none⟩ (.bool true)) w') : IW w0 w' lb n tb i (k + 1) s L N R C (Lard.upd M i (f k) true) nd f (tx ++ ⟨#[43]⟩ ++ keyB (f k)) := by
  obtain ⟨h1, h2, h3⟩ := h.put hi hm
  have hsz : (w.setCell ⟨R i, f k, none⟩ (.bool true)).heap.size = w.heap.size := by simp [World.setCell]
  have hB' : Below (w.setCell ⟨R i, f k, none⟩ (.bool true)).heap.size (w.setCell ⟨R i, f k, none⟩ (.bool true)) w' := by rw [hsz]; exact hB
  refine ⟨h1.below hB', h2.below hB', h.off, h.own, h3.trans (hB.mono h.bel.size), h.gr, fun a c ha hc => ?_, fun c hc => ?_, h.len, ?_, ?_⟩
  · unfold Lard.upd
    rw [if_neg (by omega)]
    exact h.m a c ha hc
  · rw [List.range_succ, List.map_append, List.mem_append]
    unfold Lard.upd
    by_cases e : c = f k
    · subst e
      simp
    · rw [if_neg (fun e2 => e e2.2), h.mi c hc]
      simp [e]
  · rw [List.range_succ, List.map_append]
    simp only [Lard.sumText, List.map_cons, List.map_nil, List.foldl_append, List.foldl_cons, List.foldl_nil]
    have := h.te
    unfold Lard.sumText at this
    rw [data_app, data_app, this, keyB_list]
    simp
  · have hz : (keyB (f k)).size ≤ 20 := by
      rw [size_data, keyB_list]
      have := Lard.itoa_len8 (x := (f k : Int)) (by omega)
      unfold Lard.keyText
      simp only [List.length_cons]
      omega
    have := h.tz
    have e2 : (tx ++ ⟨#[43]⟩ ++ keyB (f k)).size = tx.size + 1 + (keyB (f k)).size := by simp [ByteArray.size_append]; rfl
    rw [e2]
    omega
theorem IW.done (h : IW w0 w lb n tb i k s L N R C M nd f tx) (hk : nd i = (List.range k).map f) (hi : i < 12) {t : Lard.T} (ht : t = Lard.sumT (nd i)) {N2 : Nat} {cm : List UInt8} (hP : LaPost w lb L (s.gv (Lard.keyText i) ⟨Lard.vn 0, some t, cm, none⟩) N2 w') : ∃ L', SW w0 w' lb n tb (i + 1) (s.gv (Lard.keyText i) ⟨Lard.vn 0, some t, cm, none⟩) L' N2 R C M nd := by
  obtain ⟨L', h1, h2, h3, h4⟩ := hP
  have hb0 := h.bel.size
  refine ⟨L', h1, h.t.frm h4 (fun hl => (h.off tb hl).2.1 rfl) (fun j hj hl => (h.off _ hl).2.2 j hj rfl), fun k hk => ?_, h.own, ?_, ?_, fun a c ha hc => ?_, ?_⟩
  · rcases h2 k hk with h5 | h5
    · exact h.off k h5
    · have a1 := h.t.top.lt
      refine ⟨by omega, by omega, fun j hj => ?_⟩
      have := (h.t.row j hj).lt
      omega
  · exact h.bel.trans ⟨h4.os, h4.tape, h4.output, h4.size, fun k hk => h4.block k (by omega) (fun hl => by have := (h.off k hl).1; omega)⟩
  · exact h.gr.next hi (th := ⟨Lard.vn 0, some t, cm, none⟩) (by rw [ht])
  · by_cases e : a = i
    · subst e
      rw [hk]
      exact h.mi c hc
    · exact h.m a c (by omega) hc
  · have := gv_len s (Lard.keyText i) ⟨Lard.vn 0, some t, cm, none⟩
    have := h.len
    omega
end
end Go.Proofs.YtpekpdimdelncaaGreatDoor
namespace Go.Proofs.YtpekpdimdelncaaGreatDoor
open Go.RowKit Go.Shelf
set_option linter.unusedVariables false
set_option linter.unusedSimpArgs false
set_option maxRecDepth 100000 in
set_option maxHeartbeats 8000000 in
theorem rnd_set {Q : Exit → Act → World → Prop} (w0 wc : World) (lb n tb : Nat) (s : Lard.LS) (L : Nat → Prop) (N : Nat) (R C : Nat → Nat) (M : Nat → Nat → Bool) (Ln : Nat → Nat) (z : Nat → Nat → Int) (v0 v1 v3 : Value) (u27 u28 u29 u30 u31 u32 u33 u34 u35 u36 u37 u38 u39 u40 u41 u42 u43 u44 u45 u46 u47 u48 u49 u50 u51 u52 u53 u54 u55 u56 u57 u58 u59 u60 u61 u62 u63 u64 u65 u66 u67 u68 u69 u70 u71 u72 u73 u74 u75 u76 u77 u78 u79 u80 u81 u82 u83 u84 u85 u86 u87 u88 u89 u90 u91 u92 u93 u94 u95 u96 u97 u98 u99 u100 u101 u102 u103 u104 u105 u106 u107 u108 u109 u110 u111 u112 u113 u114 u115 u116 u117 u118 u119 u120 u121 u122 u123 u124 u125 u126 u127 u128 u129 u130 u131 u132 u133 u134 u135 u136 u137 u138 u139 u140 u141 u142 u143 u144 u145 u146 u147 u148 u149 u150 u151 u152 u153 u154 u155 u156 u157 u158 u159 u160 u161 u162 u163 u164 u165 u166 u167 u168 u169 u170 u171 u172 u173 u174 u175 u176 u177 u178 u179 u180 u181 u182 u183 u184 u185 u186 u187 u188 u189 u190 u191 u192 u193 u194 u195 u196 u197 u198 u199 u200 u201 u202 u203 u204 u205 u206 u207 u208 u209 u210 u211 u212 u213 u214 u215 u216 u217 u218 u219 u220 u221 u222 u223 u224 u225 u226 u227 u228 u229 u230 u231 u232 u233 u234 u235 u236 u237 u238 u239 u240 u241 u242 u243 u244 u245 u246 u247 u248 u249 u250 u251 u252 u253 u254 u255 u256 u257 u258 : Value)
    (hn : n ≤ 12) (hN : N ≤ 1000000000) (hv : NeedAt w0 v0 n Ln z) (hw : SW w0 wc lb n tb 0 s L N R C M (ndOf n Ln z))
    (c8 : Code) (h8 : dropC 8 (Tryz.f7.body.getD .skip) = c8)
    (hK : ∀ (v7 v8 v9 v10 v11 v12 : Value) (u27 u28 u29 u30 u31 u32 u33 u34 u35 u36 u37 u38 u39 u40 u41 u42 u43 u44 u45 u46 u47 u48 u49 u50 u51 u52 u53 u54 u55 u56 u57 u58 u59 u60 u61 u62 u63 u64 u65 u66 u67 u68 u69 u70 u71 u72 u73 u74 u75 u76 u77 u78 u79 u80 u81 u82 u83 u84 u85 u86 u87 u88 u89 u90 u91 u92 u93 u94 u95 u96 u97 u98 u99 u100 u101 u102 u103 u104 u105 u106 u107 u108 u109 u110 u111 u112 u113 u114 u115 u116 u117 u118 u119 u120 u121 u122 u123 u124 u125 u126 u127 u128 u129 u130 u131 u132 u133 u134 u135 u136 u137 u138 u139 u140 u141 u142 u143 u144 u145 u146 u147 u148 u149 u150 u151 u152 u153 u154 u155 u156 u157 u158 u159 u160 u161 u162 u163 u164 u165 u166 u167 u168 u169 u170 u171 u172 u173 u174 u175 u176 u177 u178 u179 u180 u181 u182 u183 u184 u185 u186 u187 u188 u189 u190 u191 u192 u193 u194 u195 u196 u197 u198 u199 u200 u201 u202 u203 u204 u205 u206 u207 u208 u209 u210 u211 u212 u213 u214 u215 u216 u217 u218 u219 u220 u221 u222 u223 u224 u225 u226 u227 u228 u229 u230 u231 u232 u233 u234 u235 u236 u237 u238 u239 u240 u241 u242 u243 u244 u245 u246 u247 u248 u249 u250 u251 u252 u253 u254 u255 u256 u257 u258 : Value) (w' : World) (s : Lard.LS) (L : Nat → Prop) (R C : Nat → Nat) (M : Nat → Nat → Bool), SW w0 w' lb n tb n s L (N + n * 2000) R C M (ndOf n Ln z) → Code.wp Tryz.prog c8 Q { tmps := #[v0, v1, .bool false, v3, .pointer (some ⟨lb, 0, none⟩), .int .i64 (n : Int), .slice (some ⟨tb, 0, none⟩) n n, v7, v8, v9, v10, v11, v12, undef, undef, undef, undef, undef, undef, undef, undef, undef, undef, undef, undef, undef, undef, u27, u28, u29, u30, u31, u32, u33, u34, u35, u36, u37, u38, u39, u40, u41, u42, u43, u44, u45, u46, u47, u48, u49, u50, u51, u52, u53, u54, u55, u56, u57, u58, u59, u60, u61, u62, u63, u64, u65, u66, u67, u68, u69, u70, u71, u72, u73, u74, u75, u76, u77, u78, u79, u80, u81, u82, u83, u84, u85, u86, u87, u88, u89, u90, u91, u92, u93, u94, u95, u96, u97, u98, u99, u100, u101, u102, u103, u104, u105, u106, u107, u108, u109, u110, u111, u112, u113, u114, u115, u116, u117, u118, u119, u120, u121, u122, u123, u124, u125, u126, u127, u128, u129, u130, u131, u132, u133, u134, u135, u136, u137, u138, u139, u140, u141, u142, u143, u144, u145, u146, u147, u148, u149, u150, u151, u152, u153, u154, u155, u156, u157, u158, u159, u160, u161, u162, u163, u164, u165, u166, u167, u168, u169, u170, u171, u172, u173, u174, u175, u176, u177, u178, u179, u180, u181, u182, u183, u184, u185, u186, u187, u188, u189, u190, u191, u192, u193, u194, u195, u196, u197, u198, u199, u200, u201, u202, u203, u204, u205, u206, u207, u208, u209, u210, u211, u212, u213, u214, u215, u216, u217, u218, u219, u220, u221, u222, u223, u224, u225, u226, u227, u228, u229, u230, u231, u232, u233, u234, u235, u236, u237, u238, u239, u240, u241, u242, u243, u244, u245, u246, u247, u248, u249, u250, u251, u252, u253, u254, u255, u256, u257, u258], defers := [] } w') :
    Code.wp Tryz.prog (dropC 7 (Tryz.f7.body.getD .skip)) Q { tmps := #[v0, v1, .bool false, v3, .pointer (some ⟨lb, 0, none⟩), .int .i64 (n : Int), .slice (some ⟨tb, 0, none⟩) n n, undef, undef, undef, undef, undef, undef, undef, undef, undef, undef, undef, undef, undef, undef, undef, undef, undef, undef, undef, undef, u27, u28, u29, u30, u31, u32, u33, u34, u35, u36, u37, u38, u39, u40, u41, u42, u43, u44, u45, u46, u47, u48, u49, u50, u51, u52, u53, u54, u55, u56, u57, u58, u59, u60, u61, u62, u63, u64, u65, u66, u67, u68, u69, u70, u71, u72, u73, u74, u75, u76, u77, u78, u79, u80, u81, u82, u83, u84, u85, u86, u87, u88, u89, u90, u91, u92, u93, u94, u95, u96, u97, u98, u99, u100, u101, u102, u103, u104, u105, u106, u107, u108, u109, u110, u111, u112, u113, u114, u115, u116, u117, u118, u119, u120, u121, u122, u123, u124, u125, u126, u127, u128, u129, u130, u131, u132, u133, u134, u135, u136, u137, u138, u139, u140, u141, u142, u143, u144, u145, u146, u147, u148, u149, u150, u151, u152, u153, u154, u155, u156, u157, u158, u159, u160, u161, u162, u163, u164, u165, u166, u167, u168, u169, u170, u171, u172, u173, u174, u175, u176, u177, u178, u179, u180, u181, u182, u183, u184, u185, u186, u187, u188, u189, u190, u191, u192, u193, u194, u195, u196, u197, u198, u199, u200, u201, u202, u203, u204, u205, u206, u207, u208, u209, u210, u211, u212, u213, u214, u215, u216, u217, u218, u219, u220, u221, u222, u223, u224, u225, u226, u227, u228, u229, u230, u231, u232, u233, u234, u235, u236, u237, u238, u239, u240, u241, u242, u243, u244, u245, u246, u247, u248, u249, u250, u251, u252, u253, u254, u255, u256, u257, u258], defers := [] } wc := by
  have HK := hide hK
  have HV := hide hv
  have HW : Hid (SW w0 wc lb n tb 0 s L (N + 0 * 2000) R C M (ndOf n Ln z)) := hide (by simpa using hw)
  clear hK hv hw
  obtain ⟨cd, hcd⟩ : ∃ cd, dropC 7 (Tryz.f7.body.getD .skip) = cd := ⟨_, rfl⟩
  rw [hcd]
  simp only [dropC, Tryz.f7, Option.getD] at hcd h8
  rw [h8] at hcd
  clear h8
  subst hcd
  refine wp_seq_k (fun K hKK => ?_)
  have HKK := hide hKK
  clear hKK
  go_wp2_with fail
  go_loopw [2, 7] (fun bv iv wr => ∃ (i : Nat) (s' : Lard.LS) (L' : Nat → Prop) (R' C' : Nat → Nat) (M' : Nat → Nat → Bool), i ≤ n ∧ bv = .bool false ∧ iv = .int .i64 i ∧ Hid (SW w0 wr lb n tb i s' L' (N + i * 2000) R' C' M' (ndOf n Ln z))) (fun _ iv _ => n - (intOf iv).toNat)
  case atStart => exact ⟨0, s, L, R, C, M, Nat.zero_le _, rfl, rfl, HW⟩
  case round =>
    obtain ⟨i, s', L', R', C', M', hi, rfl, rfl, HX⟩ := hrel
    clear HW
    by_cases hlt : i < n
    · have hin : (i : Int) < (n : Int) := by omega
      obtain ⟨⟨ab, ao, ap⟩, len, cap, A, Cp, rfl, hlen, hrows⟩ := HV.out (by omega)
      have hil : (i : Int) < (len : Int) := by omega
      obtain ⟨hr1, hr2⟩ := hrows i hlt
      have HROW := hide hr2
      have HR1 := hide hr1
      clear hrows hr1 hr2
      have c1 : (wr.alloc (.cells (madeCells #[.bool false] n) 4)).cell? ⟨tb, i, none⟩ = some (.slice none 0 0) := by
        have h1 := (HX.out.t.below ((Below.refl _ wr).alloc (Nat.le_refl _) (.cells (madeCells #[.bool false] n) 4))).top.cell (i := i) hlt
        rw [if_neg (Nat.lt_irrefl i)] at h1
        exact h1
      have fz : (wr.alloc (.cells (madeCells #[.bool false] n) 4)).frozen? ⟨tb, i, none⟩ = false := (HX.out.t.below ((Below.refl _ wr).alloc (Nat.le_refl _) (.cells (madeCells #[.bool false] n) 4))).top.frozen i
      have hmk := fun w => run_make_row' (P := Tryz.prog) 50 4 (.bool false) 1 Tryz.underlying50 boolInfo rfl .i64 .i64 n (by omega) (by omega) w
      have HI : Hid (IW w0 ((wr.alloc (.cells (madeCells #[.bool false] n) 4)).setCell ⟨tb, i, none⟩ (.slice (some ⟨wr.heap.size, 0, none⟩) n n)) lb n tb i 0 s' L' (N + i * 2000) (fun j => if j = i then wr.heap.size else R' j) (fun j => if j = i then n else C' j) (fun j c => if j = i then false else M' j c) (ndOf n Ln z) (fun c => pickN (z i c) n) ⟨#[49]⟩) := hide (HX.out.row hlt)
      clear HX
      go_wp2_with fail
      clear hmk c1 fz
      obtain ⟨w1, hw1⟩ : ∃ w1, (wr.alloc (.cells (madeCells #[.bool false] n) 4)).setCell ⟨tb, i, none⟩ (.slice (some ⟨wr.heap.size, 0, none⟩) n n) = w1 := ⟨_, rfl⟩
      rw [hw1] at HI ⊢
      clear hw1
      generalize (fun j => if j = i then wr.heap.size else R' j) = R1 at HI
      generalize (fun j => if j = i then n else C' j) = C1 at HI
      generalize (fun j c => if j = i then false else M' j c) = M1 at HI
      go_loopw [8, 9] (fun tv kv wr2 => ∃ (k : Nat) (tx : ByteArray) (M2 : Nat → Nat → Bool), k ≤ Ln i ∧ k ≤ 3 ∧ kv = .int .i64 k ∧ tv = .string tx ∧ Hid (IW w0 wr2 lb n tb i k s' L' (N + i * 2000) R1 C1 M2 (ndOf n Ln z) (fun c => pickN (z i c) n) tx)) (fun _ kv _ => 3 - (intOf kv).toNat)
      case atStart => exact ⟨0, _, M1, Nat.zero_le _, Nat.zero_le _, rfl, rfl, HI⟩
      case round =>
        obtain ⟨k, tx, M2, hk, hk3, rfl, rfl, HJ⟩ := hrel
        clear HI
        have e1 : wr.cell? (Addr.add ⟨ab, ao, ap⟩ i) = some (.slice (A i) (Ln i) (Cp i)) := by
          have h0 := World.block_lt_of_cell? _ _ HR1.out
          exact (HJ.out.bel.cell h0).trans HR1.out
        by_cases h1 : k < Ln i ∧ k < 3
        · obtain ⟨hk1, hk2⟩ := h1
          have hk1i : (k : Int) < (Ln i : Int) := by omega
          have hk2i : (k : Int) < 3 := by omega
          obtain ⟨⟨ab2, ao2, ap2⟩, ha2, hz1, hz2, hz3⟩ := HROW.out k hk1
          rw [ha2] at e1
          have e2 : wr.cell? (Addr.add ⟨ab2, ao2, ap2⟩ k) = some (.int .i64 (z i k)) := by
            have h0 := World.block_lt_of_cell? _ _ hz1
            exact (HJ.out.bel.cell h0).trans hz1
          have hm : pickN (z i k) n < n := Nat.mod_lt _ (by omega)
          have HP := hide (pick_any (z i k) n wr hz2 hz3 (by omega) (by omega))
          obtain ⟨m, hmm⟩ : ∃ m, pickN (z i k) n = m := ⟨_, rfl⟩
          have HN := hide (fun w' (hB : Below wr.heap.size (wr.setCell ⟨R1 i, m, none⟩ (.bool true)) w') => (by
            subst hmm
            exact HJ.out.next (w' := w') hlt hm (by show pickN (z i k) n ≤ 1000000; omega) hB : IW w0 w' lb n tb i (k + 1) s' L' (N + i * 2000) R1 C1 (Lard.upd M2 i m true) (ndOf n Ln z) (fun c => pickN (z i c) n) (tx ++ ⟨#[43]⟩ ++ keyB m)))
          rw [hmm] at hm HP
          have c3 := HJ.out.t.rowAt (Nat.lt_succ_self i) (by omega)
          have c4 := HJ.out.t.at (Nat.lt_succ_self i) hm
          have fz4 := HJ.out.t.froz (Nat.lt_succ_self i) m
          have HY := hide (key_any m (wr.setCell ⟨R1 i, m, none⟩ (.bool true)) (by omega))
          have hkz : (keyB m).size ≤ 20 := by
            rw [size_data, keyB_list]
            have := Lard.itoa_len8 (x := (m : Int)) (by omega)
            unfold Lard.keyText
            simp only [List.length_cons]
            omega
          have htz := HJ.out.tz
          clear hz1 hz2 hz3 ha2 hmm
          have hmi : (m : Int) < (n : Int) := by omega
          go_wp2_with fail
          refine HP.out.mono ?_
          rintro e w' ⟨rfl, hw'⟩
          obtain rfl := hw'.symm
          clear HP
          dsimp only
          go_wp2_with fail
          refine HY.out.mono ?_
          rintro e w5 ⟨rfl, hB5⟩
          dsimp only
          have HN5 := hide (HN.out w5 (hB5.mono (by simp [World.setCell])))
          clear HN HY hB5
          go_wp2_with fail
          refine ⟨⟨k + 1, _, _, by omega, by omega, by go_num, rfl, HN5⟩, ?_⟩
          simp [intOf]; omega
        · have hkd : ndOf n Ln z i = (List.range k).map (fun c => pickN (z i c) n) := by
            unfold ndOf
            rw [show min (Ln i) 3 = k by omega]
          have htt : Lard.ruleT tx.data.toList = some (Lard.sumT (ndOf n Ln z i)) := by
            rw [HJ.out.te, ← hkd]
            exact sum_rule (fun a ha => by have := ndOf_lt (by omega) Ln z i a ha; omega) (ndOf_few n Ln z i)
          have HTT := hide (And.intro hkd htt)
          clear hkd htt
          have HY := hide (key_any i wr (by omega))
          by_cases hk1 : k < Ln i
          · have hk1i : (k : Int) < (Ln i : Int) := by omega
            have hk2i : ¬ (k : Int) < 3 := by omega
            go_wp2_with fail
            refine HY.out.mono ?_
            rintro e w5 ⟨rfl, hB5⟩
            have HJ5 := hide (HJ.out.below hB5)
            clear HY HJ hB5
            have HS := hide (la_set HJ5.out.la (keyB i) tx (Lard.sumT (ndOf n Ln z i)) (keyB_name i (by omega)) HTT.out.2 (by have := HJ5.out.len; omega) (by omega))
            unfold ptr at HS
            dsimp only
            go_wp2_with fail
            refine HS.out.mono ?_
            rintro e w6 ⟨rfl, hP⟩
            clear HS
            rw [keyB_list] at hP
            obtain ⟨L6, h6⟩ := HJ5.out.done HTT.out.1 (by omega) rfl hP
            rw [show N + i * 2000 + 2000 = N + (i + 1) * 2000 by omega] at h6
            have H6 := hide h6
            clear h6 hP HJ5 HTT
            dsimp only
            go_wp2_with fail
            refine ⟨⟨i + 1, _, L6, _, _, _, by omega, rfl, by go_num, H6⟩, ?_⟩
            simp [intOf]; omega
          · have hk1i : ¬ (k : Int) < (Ln i : Int) := by omega
            go_wp2_with fail
            refine HY.out.mono ?_
            rintro e w5 ⟨rfl, hB5⟩
            have HJ5 := hide (HJ.out.below hB5)
            clear HY HJ hB5
            have HS := hide (la_set HJ5.out.la (keyB i) tx (Lard.sumT (ndOf n Ln z i)) (keyB_name i (by omega)) HTT.out.2 (by have := HJ5.out.len; omega) (by omega))
            unfold ptr at HS
            dsimp only
            go_wp2_with fail
            refine HS.out.mono ?_
            rintro e w6 ⟨rfl, hP⟩
            clear HS
            rw [keyB_list] at hP
            obtain ⟨L6, h6⟩ := HJ5.out.done HTT.out.1 (by omega) rfl hP
            rw [show N + i * 2000 + 2000 = N + (i + 1) * 2000 by omega] at h6
            have H6 := hide h6
            clear h6 hP HJ5 HTT
            dsimp only
            go_wp2_with fail
            refine ⟨⟨i + 1, _, L6, _, _, _, by omega, rfl, by go_num, H6⟩, ?_⟩
            simp [intOf]; omega
    · obtain rfl : n = i := by omega
      go_wp2_with fail
      exact HKK.out _ _ (HK.out _ _ _ _ _ _ _ _ _ _ _ _ _ _ _ _ _ _ _ _ _ _ _ _ _ _ _ _ _ _ _ _ _ _ _ _ _ _ _ _ _ _ _ _ _ _ _ _ _ _ _ _ _ _ _ _ _ _ _ _ _ _ _ _ _ _ _ _ _ _ _ _ _ _ _ _ _ _ _ _ _ _ _ _ _ _ _ _ _ _ _ _ _ _ _ _ _ _ _ _ _ _ _ _ _ _ _ _ _ _ _ _ _ _ _ _ _ _ _ _ _ _ _ _ _ _ _ _ _ _ _ _ _ _ _ _ _ _ _ _ _ _ _ _ _ _ _ _ _ _ _ _ _ _ _ _ _ _ _ _ _ _ _ _ _ _ _ _ _ _ _ _ _ _ _ _ _ _ _ _ _ _ _ _ _ _ _ _ _ _ _ _ _ _ _ _ _ _ _ _ _ _ _ _ _ _ _ _ _ _ _ _ _ _ _ _ _ _ _ _ _ _ _ _ _ _ _ _ _ _ _ _ _ _ _ _ _ _ _ _ _ _ _ _ HX.out)
end Go.Proofs.YtpekpdimdelncaaGreatDoor
