/- Out of: L21, L22. -/
import Derived.Test.YtpekpdimdelncaaGreatDoorP25
namespace Go.Proofs.YtpekpdimdelncaaGreatDoor
open Go.RowKit Go.Shelf
set_option linter.unusedVariables false
set_option linter.unusedSimpArgs false
theorem LP.begunTo {w w1 : World} {lb : Nat} {s : Lard.LS} {L : Nat → Prop} {hb db : Nat} {vb vr vn vj : Value} (h : LP w lb s L hb db vb vr vn vj) (gg : G w) {g cap n : Nat} (key : List UInt8) (hg : w.grownBy w1 vb.ownBlock)
    (hn : n = (s.begun ++ [key]).length) (ho : w1.ownsRow 8 9 1 (.slice (some ⟨g, 0, none⟩) n cap) n ((s.begun ++ [key]).map str)) (hl : vb.ownBlock = some g ∨ g = w.heap.size) (hold : ∀ b, vb.ownBlock = some b → ∃ cs fz, w1.heap[b]? = some (.cells cs 9 fz)) :
    LPost w lb L { s with begun := s.begun ++ [key] } (w1.setCell ⟨lb, 2, none⟩ (.slice (some ⟨g, 0, none⟩) n cap)) := by
  subst hn
  have ht1 : Tn 9 w w1 vb.ownBlock := ⟨hg, fun b hb => row_typed h.begun hb⟩
  have hring : strsAt w1 vr s.ring := row_same h.ring (fun k hk cs fz hc => (hg.block k (lt_of_some hc) (fun e => h.apart k e.symm hk)).trans hc)
  refine h.turned 9 vb.ownBlock ht1 (.inr (.inl rfl)) (by decide) (by decide) (by decide) (by decide) (fun b hb => ⟨h.mine b (.inl hb), hold b hb⟩) (fun k => k = g ∧ g = w.heap.size) (fun k hk => ?_) gg 2 _ rfl rfl rfl ho hring (row_tn h.ran ht1 (by decide)) (row_tn h.jr ht1 (by decide)) (fun k hk => ?_) (fun k hk e => ?_) h.rnil
  · obtain ⟨rfl, h1⟩ := hk
    exact ⟨by omega, row_typed ho rfl⟩
  · rcases hk with hk | hk | hk | hk
    · cases hk
      rcases hl with hl | hl
      · exact .inl (h.mine _ (.inl hl))
      · exact .inr ⟨rfl, hl⟩
    · exact .inl (h.mine k (.inr (.inl hk)))
    · exact .inl (h.mine k (.inr (.inr (.inl hk))))
    · exact .inl (h.mine k (.inr (.inr (.inr hk))))
  · cases hk
    rcases hl with hl | hl
    · exact h.apart _ hl e
    · have : g < w.heap.size := h.lt (h.mine _ (.inr (.inl e)))
      omega
theorem LP.popTo {w : World} {lb : Nat} {s : Lard.LS} {L : Nat → Prop} {hb db : Nat} {vr vn vj : Value} {g cap : Nat} (h : LP w lb s L hb db (.slice (some ⟨g, 0, none⟩) s.begun.length cap) vr vn vj) (gg : G w) :
    LPost w lb L { s with begun := s.begun.dropLast } (w.setCell ⟨lb, 2, none⟩ (.slice (some ⟨g, 0, none⟩) (s.begun.length - 1) cap)) := by
  have ht : Tn 9 w w none := tn_below (Below.refl _ _)
  have hrow : strsAt w (.slice (some ⟨g, 0, none⟩) (s.begun.length - 1) cap) s.begun.dropLast := by
    have hd : s.begun.dropLast.length = s.begun.length - 1 := List.length_dropLast
    unfold strsAt
    rw [hd]
    rcases h.begun.2 with ⟨h1, _⟩ | ⟨g', cap', cur, h1, h2, h3, h4, h5, h6, h7⟩
    · cases h1
    · cases h1
      refine ⟨by simp, .inr ⟨g, cap, cur, rfl, h2, h3, by omega, h5, h6, ?_⟩⟩
      have : s.begun.dropLast.map str = (s.begun.map str).take (s.begun.length - 1) := by
        rw [List.dropLast_eq_take, List.map_take]
      rw [this, ← h7, List.take_take]
      congr 1
      omega
  refine h.turned 9 none ht (.inr (.inl rfl)) (by decide) (by decide) (by decide) (by decide) (fun b hb => by cases hb) (fun k => False) (fun k hk => hk.elim) gg 2 _ rfl rfl rfl hrow h.ring h.ran h.jr (fun k hk => .inl (h.mine k ?_)) (fun k hk => h.apart k (by cases hk; rfl)) h.rnil
  rcases hk with hk | hk
  · cases hk; exact .inl rfl
  · exact .inr hk
theorem LP.ranTo {w w1 : World} {lb : Nat} {s : Lard.LS} {L : Nat → Prop} {hb db : Nat} {vb vr vn vj : Value} (h : LP w lb s L hb db vb vr vn vj) (gg : G w) {g cap n : Nat} (y : Lard.Why) (hg : w.grownBy w1 vn.ownBlock)
    (hn : n = (s.ran ++ [y]).length) (ho : w1.ownsRow 8 61 6 (.slice (some ⟨g, 0, none⟩) n cap) n ((s.ran ++ [y]).flatMap whyCells)) (hl : vn.ownBlock = some g ∨ g = w.heap.size) (hold : ∀ b, vn.ownBlock = some b → ∃ cs fz, w1.heap[b]? = some (.cells cs 61 fz)) :
    LPost w lb L { s with ran := s.ran ++ [y] } (w1.setCell ⟨lb, 4, none⟩ (.slice (some ⟨g, 0, none⟩) n cap)) := by
  subst hn
  have ht1 : Tn 61 w w1 vn.ownBlock := ⟨hg, fun b hb => row_typed h.ran hb⟩
  refine h.turned 61 vn.ownBlock ht1 (.inr (.inr (.inl rfl))) (by decide) (by decide) (by decide) (by decide) (fun b hb => ⟨h.mine b (.inr (.inr (.inl hb))), hold b hb⟩) (fun k => k = g ∧ g = w.heap.size) (fun k hk => ?_) gg 4 _ rfl rfl rfl (row_tn h.begun ht1 (by decide)) (row_tn h.ring ht1 (by decide)) ho (row_tn h.jr ht1 (by decide)) (fun k hk => ?_) h.apart h.rnil
  · obtain ⟨rfl, h1⟩ := hk
    exact ⟨by omega, row_typed ho rfl⟩
  · rcases hk with hk | hk | hk | hk
    · exact .inl (h.mine k (.inl hk))
    · exact .inl (h.mine k (.inr (.inl hk)))
    · cases hk
      rcases hl with hl | hl
      · exact .inl (h.mine _ (.inr (.inr (.inl hl))))
      · exact .inr ⟨rfl, hl⟩
    · exact .inl (h.mine k (.inr (.inr (.inr hk))))
end Go.Proofs.YtpekpdimdelncaaGreatDoor
namespace Go.Proofs.YtpekpdimdelncaaGreatDoor
open Go.RowKit Go.Shelf
set_option linter.unusedVariables false
set_option linter.unusedSimpArgs false
def zCause : Array Value := #[.string ⟨#[]⟩, .string ⟨#[]⟩, .int .i64 0, .string ⟨#[]⟩, .int .i64 0, .string ⟨#[]⟩]
set_option maxRecDepth 100000 in
set_option maxHeartbeats 1000000 in
theorem due_none (w : World) (lb : Nat) (key : ByteArray) :
    Calls Tryz.prog 124 #[ptr lb, .string key, .pointer none] w fun e w' => e = .returned (.tuple #[.agg (whyCells ⟨key.data.toList, [], .error 0, .error 0⟩).toArray, .bool true]) ∧ Below w.heap.size w w' := by
  unfold ptr
  go_enter Tryz.func124, Tryz.ntmps124
  go_wp2_with fail
  have hk : (whyCells ⟨key.data.toList, [], .error 0, .error 0⟩).toArray = #[.string key, .string ⟨#[]⟩, .int .i64 0, .string ⟨#[]⟩, .int .i64 0, .string ⟨#[]⟩] := by
    simp [whyCells, woCells, str]
  rw [hk]
  exact bodyPost_ret (v := .tuple #[.agg #[.string key, .string ⟨#[]⟩, .int .i64 0, .string ⟨#[]⟩, .int .i64 0, .string ⟨#[]⟩], .bool true]) (by simp [results, Tryz.results124, go_sem]) rfl ⟨rfl, (Below.refl _ w).alloc (Nat.le_refl _) _⟩
theorem sameW_O (a b : Lard.Wo) : sameW a b = Lard.sameO a b := by
  cases a <;> cases b <;> rfl
theorem due_round {w wr : World} {lb : Nat} {s s' : Lard.LS} {L : Nat → Prop} {Br : List UInt8 → Lard.LS → Lard.Wo × Lard.LS} {P : Lard.LS → Prop} (HB : BSays lb Br P) (h : LAt w lb s L) (g : G w) (hd : Deb w) {ns : List (List UInt8 × Lard.Wo)} {sl : Value} (hN : NeedsAt w ns sl) (hown : ∀ gk, sl.ownBlock = some gk → L gk)
    (hP : LPost (w.alloc (.cells zCause 61)) lb L s' wr) (hPs : P s') {k : Nat} {nd : List UInt8 × Lard.Wo} (hnd : ns[k]? = some nd) :
    ∃ (g0 cp : Nat) (nk : ByteArray) (cn : Int) (yn : Value), sl = .slice (some ⟨g0, 0, none⟩) ns.length cp ∧ nk.data.toList = nd.1 ∧ (yn = .nilIface ∨ ∃ t a, yn = .iface t a) ∧ g0 < wr.heap.size ∧
      wr.cell? ⟨g0, k * 3, none⟩ = some (.string nk) ∧ wr.cell? ⟨g0, k * 3 + 1, none⟩ = some (.int .i64 cn) ∧ wr.cell? ⟨g0, k * 3 + 2, none⟩ = some yn ∧
      Calls Tryz.prog 49 #[.pointer (some ⟨lb, 0, none⟩), .string nk] (wr.alloc (.cells #[.string nk, .int .i64 cn, yn] 133)) fun e w2 => ∃ (c2 : Int) (y2 : Value), e = .returned (.agg #[.int .i64 c2, y2]) ∧ (y2 = .nilIface ∨ ∃ t a, y2 = .iface t a) ∧
        IsW w2 (Br nd.1 s').1 (.agg #[.int .i64 c2, y2]) ∧ IsW w2 nd.2 (.agg #[.int .i64 cn, yn]) ∧ w2.heap[wr.heap.size]? = some (.cells #[.string nk, .int .i64 cn, yn] 133 (0, 0)) ∧ G w2 ∧ wr.heap.size < w2.heap.size ∧
        LPost (w.alloc (.cells zCause 61)) lb L (Br nd.1 s').2 w2 ∧ Phi (Br nd.1 s').2 ≤ Phi s' ∧ Lard.Nst s' (Br nd.1 s').2 1 := by
  have hBz : Below w.heap.size w (w.alloc (.cells zCause 61)) := (Below.refl _ _).alloc (Nat.le_refl _) _
  have hA0 : LAt (w.alloc (.cells zCause 61)) lb s L := h.st (fun k hk => hBz.block k (h.typed k hk).2.1) (Stay.below hBz)
  have g0 := g.below hBz g.size
  have d0 := hd.below hBz g.size
  have gr := hP.g hA0 g0
  have dr := hP.deb hA0 g0 d0
  have hkr := hP.keeps hA0
  obtain ⟨L', hA', h2', h3', hf⟩ := hP
  have hNr : NeedsAt wr ns sl := hN.st (fun gk hgk cs fz hc => hf.k2 gk (hown gk hgk) cs _ fz ((hBz.block gk (lt_of_some hc)).trans hc) (.inr rfl)) ((Stay.below hBz).trans hkr.stay)
  obtain ⟨o, cp, hsl, hcell⟩ := hNr.cell
  obtain ⟨gg, x0, y0, ho, hglt, hn200, e0, e1, e2, hWn⟩ := hcell k nd hnd
  subst ho
  obtain ⟨cn, yn, hen, hyn⟩ := hWn.form
  cases hen
  have hnk : (⟨nd.1.toArray⟩ : ByteArray).data.toList = nd.1 := rfl
  refine ⟨gg, cp, ⟨nd.1.toArray⟩, cn, y0, hsl, hnk, hyn, hglt, e0, e1, e2, ?_⟩
  have hB1 : Below wr.heap.size wr (wr.alloc (.cells #[.string ⟨nd.1.toArray⟩, .int .i64 cn, y0] 133)) := (Below.refl _ _).alloc (Nat.le_refl _) _
  have hA1 : LAt (wr.alloc (.cells #[.string ⟨nd.1.toArray⟩, .int .i64 cn, y0] 133)) lb s' L' := hA'.st (fun k hk => hB1.block k (hA'.typed k hk).2.1) (Stay.below hB1)
  refine (HB _ s' L' ⟨nd.1.toArray⟩ hA1 (gr.below hB1 gr.size) (dr.below hB1 gr.size) hPs (by rw [size_mk]; exact hn200)).mono ?_
  rintro e w2 ⟨x2, rfl, hW2, hP2, hPhi2, hN2⟩
  obtain ⟨c2, y2, rfl, hy2⟩ := hW2.form
  have hk2 := hP2.keeps hA1
  have g2 := hP2.g hA1 (gr.below hB1 gr.size)
  refine ⟨c2, y2, rfl, hy2, hW2, (hWn.keeps (Keeps.below hB1)).keeps hk2, ?_, g2, ?_, ?_, hPhi2, hN2⟩
  · obtain ⟨L2, p1, p2, p3, p4⟩ := hP2
    exact (p4.block wr.heap.size (by simp) (fun hl => by have := (hA'.typed _ hl).2.1; omega)).trans (heap_alloc_new wr _)
  · have := hP2.size
    rw [World.size_alloc] at this
    omega
  · have hw1 : LPost (w.alloc (.cells zCause 61)) lb L s' (wr.alloc (.cells #[.string ⟨nd.1.toArray⟩, .int .i64 cn, y0] 133)) := by
      refine ⟨L', hA1, h2', h3', hf.trans (Frw.below (L := L') hB1) h2' h3'⟩
    obtain ⟨L2, p1, p2, p3, p4⟩ := hP2
    refine ⟨L2, p1, fun k hk => ?_, fun k hk => p3 k (h3' k hk), (hf.trans (Frw.below (L := L') hB1) h2' h3').trans p4 h2' h3'⟩
    rcases p2 k hk with h | h
    · exact h2' k h
    · have := hf.size
      rw [World.size_alloc] at h
      exact .inr (by omega)
theorem due_fin {w wr : World} {lb : Nat} {s s' : Lard.LS} {L : Nat → Prop} (h : LAt w lb s L) (hP : LPost (w.alloc (.cells zCause 61)) lb L s' wr) :
    wr.heap[w.heap.size]? = some (.cells zCause 61 (0, 0)) ∧ ∀ wf, wr.grownBy wf (some w.heap.size) → LPost w lb L s' wf := by
  obtain ⟨L', h1, h2, h3, h4⟩ := hP
  have hBz : Below w.heap.size w (w.alloc (.cells zCause 61)) := (Below.refl _ _).alloc (Nat.le_refl _) _
  have hLlt : ∀ k, L k → k < w.heap.size := fun k hk => (h.typed k hk).2.1
  have hnL : ¬ L w.heap.size := fun hk => by have := hLlt _ hk; omega
  have hn : wr.heap[w.heap.size]? = some (.cells zCause 61 (0, 0)) := (h4.block _ (by simp) hnL).trans (heap_alloc_new w _)
  refine ⟨hn, fun wf hg => ?_⟩
  have hnL' : ¬ L' w.heap.size := fun hk => by
    rcases h2 _ hk with h | h
    · exact hnL h
    · rw [World.size_alloc] at h; omega
  have hst : Stay wr wf := stay_grown hg (fun cs t fz hb => by rw [hn] at hb; cases hb; rintro (h | h | h) <;> cases h)
  have hsm : ∀ k, k < wr.heap.size → k ≠ w.heap.size → wf.heap[k]? = wr.heap[k]? := fun k hk hne => hg.block k hk (fun e => hne (Option.some.inj e))
  have hsz0 : w.heap.size ≤ wr.heap.size := Nat.le_trans (by simp) h4.size
  refine ⟨L', h1.st (fun k hk => hsm k (h1.typed k hk).2.1 (fun e => hnL' (e ▸ hk))) hst, fun k hk => ?_, h3, ⟨⟨(hg.os.trans h4.os).trans hBz.os, (hg.tape.trans h4.tape).trans hBz.tape, (hg.output.trans h4.output).trans hBz.output, Nat.le_trans hsz0 hg.size, fun k hk hnl => ?_⟩, fun k hk cs t fz hc hkt => ?_, fun hb hlt hc => ?_⟩⟩
  · rcases h2 k hk with h | h
    · exact .inl h
    · simp at h
      exact .inr (by omega)
  · exact (hsm k (by omega) (by omega)).trans ((h4.block k (by simp; omega) hnl).trans (hBz.block k hk))
  · have hlk := lt_of_some hc
    exact (hsm k (by omega) (by omega)).trans (h4.k2 k hk cs t fz ((hBz.block k hlk).trans hc) hkt)
  · have hlb : lb < w.heap.size := hLlt _ h.here
    obtain ⟨h5, h6⟩ := h4.hasm hb (by simp; omega) ((World.cell?_of_block (hBz.block lb hlb)).trans hc)
    exact ⟨(World.cell?_of_block (hsm lb (by omega) (by show lb ≠ _; omega))).trans h5, (hsm hb (by omega) (by omega)).trans (h6.trans (hBz.block hb hlt))⟩
end Go.Proofs.YtpekpdimdelncaaGreatDoor
