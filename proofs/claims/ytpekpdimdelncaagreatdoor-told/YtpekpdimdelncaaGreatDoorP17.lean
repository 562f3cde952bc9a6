/- Out of: L4, L5. -/
import Derived.Test.YtpekpdimdelncaaGreatDoorP08
import Derived.Test.YtpekpdimdelncaaGreatDoorP16
import Derived.Deep.AppendLies
import Derived.Lib.AppendStr
namespace Go.Proofs.YtpekpdimdelncaaGreatDoor
open Go.RowKit Go.Shelf
set_option linter.unusedVariables false
def LT (t : TypeId) : Prop := t = 108 ∨ t = 9 ∨ t = 61 ∨ t = 5 ∨ t = 124 ∨ t = 131 ∨ t = 133
theorem LT.imm {t : TypeId} (h : LT t) : ¬ ImmW t := by
  rcases h with rfl | rfl | rfl | rfl | rfl | rfl | rfl <;> (rintro ((h | h | h) | h | h) <;> cases h)
theorem IsVal.st {w w' : World} (h : Stay w w') {n : Nat} {v : Lard.V} {x : Value} (hx : IsVal w n v x) : IsVal w' n v x := h.val n v x hx
theorem IsW.st {w w' : World} (h : Stay w w') {r : Except Nat Lard.V} {x : Value} (hx : IsW w r x) : IsW w' r x := by
  rcases hx with ⟨v, y, h1, h2, h3⟩ | hx
  · exact .inl ⟨v, y, h1, h2, h3.st h⟩
  · exact .inr hx
theorem IsOpt.st {w w' : World} (h : Stay w w') {o : Option Lard.V} {x : Value} (hx : IsOpt w o x) : IsOpt w' o x := by
  rcases hx with hx | ⟨v, h1, h2⟩
  · exact .inl hx
  · exact .inr ⟨v, h1, h2.st h⟩
theorem IsPtrs.st {w w' : World} (h : Stay w w') {s : Value} {ys : List Value} (hx : IsPtrs w s ys) : IsPtrs w' s ys := by
  rcases hx with hx | ⟨b, cap, cs, fz, h1, h2, h3, h4, h5⟩
  · exact .inl hx
  · exact .inr ⟨b, cap, cs, fz, h1, h2, h.node _ _ _ _ h3 (.inr rfl), h4, h5⟩
theorem IsTree.st {w w' : World} (h : Stay w w') : ∀ {n : Nat} {t : Lard.T} {x : Value}, IsTree w n t x → IsTree w' n t x
  | 0, _, _, hx => hx
  | _ + 1, _, _, ⟨b, i, s, qs, fz, h1, h2, h3, h4, h5, h6⟩ =>
    ⟨b, i, s, qs, fz, h1, h.node _ _ _ _ h2 (.inl rfl), ⟨h3.1.st h, h3.2⟩, h4.st h, h5, fun j u q hu hq => IsTree.st h (h6 j u q hu hq)⟩
theorem Stay.refl (w : World) : Stay w w := ⟨fun _ _ _ h => h, fun _ _ _ _ h _ => h⟩
theorem Stay.trans {a b c : World} (h : Stay a b) (h' : Stay b c) : Stay a c := ⟨fun n v x hx => h'.val n v x (h.val n v x hx), fun k cs t fz hk ht => h'.node k cs t fz (h.node k cs t fz hk ht) ht⟩
theorem Stay.below {w w' : World} (h : Below w.heap.size w w') : Stay w w' := (Keeps.below h).stay
def K2 (L : Nat → Prop) (w w' : World) : Prop := ∀ k, L k → ∀ (cs : Array Value) (t : TypeId) (fz : Nat × Nat), w.heap[k]? = some (.cells cs t fz) → t = 131 ∨ t = 133 → w'.heap[k]? = some (.cells cs t fz)
theorem row_same {w w' : World} {base n size : Nat} {e : TypeId} {v : Value} {xs : List Value} (h : w.ownsRow base e size v n xs) (hs : ∀ g, v.ownBlock = some g → ∀ (cs : Array Value) (fz : Nat × Nat), w.heap[g]? = some (.cells cs e fz) → w'.heap[g]? = some (.cells cs e fz)) : w'.ownsRow base e size v n xs := by
  refine ⟨h.1, ?_⟩
  rcases h.2 with h2 | ⟨g, cap, cur, h1, h2, h3, h4⟩
  · exact .inl h2
  · exact .inr ⟨g, cap, cur, h1, h2, hs g (by rw [h1]; rfl) _ _ h3, h4⟩
def cells3 (q : Value × Value × Value) : List Value := [q.1, q.2.1, q.2.2]
def NeedsAt (w : World) (ns : List (List UInt8 × Lard.Wo)) (sl : Value) : Prop :=
  ∃ qs : List (Value × Value × Value), w.ownsRow 8 133 3 sl ns.length (qs.flatMap cells3) ∧ qs.length = ns.length ∧
    ∀ (i : Nat) n q, ns[i]? = some n → qs[i]? = some q → q.1 = str n.1 ∧ n.1.length ≤ 200 ∧ IsW w n.2 (.agg #[q.2.1, q.2.2])
def KeepAt (w : World) (L : Nat → Prop) (kp : Lard.Keep) (q : Nat) : Prop :=
  ∃ c i sl, w.heap[q]? = some (.cells #[c, i, sl] 131 (0, 0)) ∧ L q ∧ IsW w kp.worth (.agg #[c, i]) ∧ NeedsAt w kp.needs sl ∧ (∀ g, sl.ownBlock = some g → L g) ∧ kp.needs.length ≤ 401
def ThingAt (w : World) (L : Nat → Prop) (th : Lard.Thing) (q : Nat) : Prop :=
  ∃ v r k, w.heap[q]? = some (.cells #[v, r, str th.came, k] 124 (0, 0)) ∧ L q ∧ th.came.length ≤ 200 ∧
    ((th.tree = none ∧ r = .pointer none ∧ IsVal w 3 th.value v ∧ th.kept = none) ∨ ∃ t a, th.tree = some t ∧ r = .pointer (some a) ∧ v = .nilIface ∧ Lard.okT (Lard.hM t) false t = true ∧ IsTree w (Lard.hM t) t (.pointer (some a))) ∧
    ((th.kept = none ∧ k = .pointer none) ∨ ∃ kp kb, th.kept = some kp ∧ k = .pointer (some ⟨kb, 0, none⟩) ∧ KeepAt w L kp kb)
def ptr (p : Nat) : Value := .pointer (some ⟨p, 0, none⟩)
def HasAt (w : World) (L : Nat → Prop) (hb : Nat) (has : List (List UInt8 × Lard.Thing)) : Prop :=
  ∃ hp : List (List UInt8 × (Lard.Thing × Nat)), has = hp.map (fun x => (x.1, x.2.1)) ∧ MapAt w hb (hp.map fun x => (x.1, ptr x.2.2)) ∧ (hp.map (·.2.2)).Nodup ∧ (∀ x ∈ hp, ThingAt w L x.2.1 x.2.2) ∧ (∀ x ∈ hp, x.1.length ≤ 8) ∧ L hb
def DoneAt (w : World) (L : Nat → Prop) (db : Nat) (done : List (List UInt8 × Lard.Wo)) : Prop :=
  ∃ dp : List (List UInt8 × (Lard.Wo × Value)), done = dp.map (fun x => (x.1, x.2.1)) ∧ MapAt w db (dp.map fun x => (x.1, x.2.2)) ∧ (∀ x ∈ dp, IsW w x.2.1 x.2.2) ∧ L db
def woCells : Lard.Wo → List Value
  | .ok v => [.int .i64 0, str (Lard.wr 3 v)]
  | .error c => [.int .i64 (c : Int), str []]
def whyCells (y : Lard.Why) : List Value := str y.key :: str y.need :: (woCells y.was ++ woCells y.now)
def strsAt (w : World) (v : Value) (l : List (List UInt8)) : Prop := w.ownsRow 8 9 1 v l.length (l.map str)
def jbytes (jr : List (List UInt8)) : List UInt8 := jr.flatMap Lard.line
structure LP (w : World) (lb : Nat) (s : Lard.LS) (L : Nat → Prop) (hb db : Nat) (vb vr vn vj : Value) : Prop where
  blk : w.heap[lb]? = some (.cells #[.map (some hb), .map (some db), vb, vr, vn, vj] 108 (0, 0))
  here : L lb
  ne : hb ≠ db
  has : HasAt w L hb s.has
  done : DoneAt w L db s.done
  begun : strsAt w vb s.begun
  ring : strsAt w vr s.ring
  ran : w.ownsRow 8 61 6 vn s.ran.length (s.ran.flatMap whyCells)
  jr : w.ownsRow 8 5 1 vj (jbytes s.jr).length (Lib.strCells ⟨(jbytes s.jr).toArray⟩)
  mine : ∀ g, vb.ownBlock = some g ∨ vr.ownBlock = some g ∨ vn.ownBlock = some g ∨ vj.ownBlock = some g → L g
  apart : ∀ g, vb.ownBlock = some g → vr.ownBlock ≠ some g
  rnil : s.ring = [] → vr = .slice none 0 0
  typed : ∀ k, L k → 8 ≤ k ∧ ((∃ es c, w.heap[k]? = some (.map es c)) ∨ ∃ cs t fz, w.heap[k]? = some (.cells cs t fz) ∧ LT t)
def LAt (w : World) (lb : Nat) (s : Lard.LS) (L : Nat → Prop) : Prop := ∃ hb db vb vr vn vj, LP w lb s L hb db vb vr vn vj
/-! What stays. -/
theorem NeedsAt.st {w w' : World} {ns : List (List UInt8 × Lard.Wo)} {sl : Value} (h : NeedsAt w ns sl) (hs : ∀ g, sl.ownBlock = some g → ∀ (cs : Array Value) (fz : Nat × Nat), w.heap[g]? = some (.cells cs 133 fz) → w'.heap[g]? = some (.cells cs 133 fz)) (hst : Stay w w') : NeedsAt w' ns sl := by
  obtain ⟨qs, h1, h2, h3⟩ := h
  exact ⟨qs, row_same h1 hs, h2, fun i n q hn hq => ⟨(h3 i n q hn hq).1, (h3 i n q hn hq).2.1, (h3 i n q hn hq).2.2.st hst⟩⟩
theorem KeepAt.st {w w' : World} {L : Nat → Prop} {kp : Lard.Keep} {q : Nat} (h : KeepAt w L kp q) (hk : K2 L w w') (hst : Stay w w') : KeepAt w' L kp q := by
  obtain ⟨c, i, sl, h1, h2, h3, h4, h5, h6⟩ := h
  exact ⟨c, i, sl, hk q h2 _ _ _ h1 (.inl rfl), h2, h3.st hst, h4.st (fun g hg cs fz hb => hk g (h5 g hg) _ _ _ hb (.inr rfl)) hst, h5, h6⟩
theorem KeepAt.mono {w : World} {L L' : Nat → Prop} {kp : Lard.Keep} {q : Nat} (h : KeepAt w L kp q) (hL : ∀ k, L k → L' k) : KeepAt w L' kp q := by
  obtain ⟨c, i, sl, h1, h2, h3, h4, h5, h6⟩ := h
  exact ⟨c, i, sl, h1, hL _ h2, h3, h4, fun g hg => hL g (h5 g hg), h6⟩
theorem ThingAt.st {w w' : World} {L : Nat → Prop} {th : Lard.Thing} {q : Nat} (h : ThingAt w L th q) (hb : w'.heap[q]? = w.heap[q]?) (hk : K2 L w w') (hst : Stay w w') : ThingAt w' L th q := by
  obtain ⟨v, r, k, h1, h2, h3, h4, h5⟩ := h
  refine ⟨v, r, k, hb.trans h1, h2, h3, ?_, ?_⟩
  · rcases h4 with ⟨a, b, c, d⟩ | ⟨t, a, b, c, d, e, f⟩
    · exact .inl ⟨a, b, c.st hst, d⟩
    · exact .inr ⟨t, a, b, c, d, e, f.st hst⟩
  · rcases h5 with h5 | ⟨kp, kb, a, b, c⟩
    · exact .inl h5
    · exact .inr ⟨kp, kb, a, b, c.st hk hst⟩
theorem ThingAt.mono {w : World} {L L' : Nat → Prop} {th : Lard.Thing} {q : Nat} (h : ThingAt w L th q) (hL : ∀ k, L k → L' k) : ThingAt w L' th q := by
  obtain ⟨v, r, k, h1, h2, h3, h4, h5⟩ := h
  refine ⟨v, r, k, h1, hL _ h2, h3, h4, ?_⟩
  rcases h5 with h5 | ⟨kp, kb, a, b, c⟩
  · exact .inl h5
  · exact .inr ⟨kp, kb, a, b, c.mono hL⟩
theorem ThingAt.block {w : World} {L : Nat → Prop} {th : Lard.Thing} {q : Nat} (h : ThingAt w L th q) : L q ∧ ∃ cs, w.heap[q]? = some (.cells cs 124 (0, 0)) := by
  obtain ⟨v, r, k, h1, h2, _⟩ := h
  exact ⟨h2, _, h1⟩
theorem HasAt.st {w w' : World} {L : Nat → Prop} {hb : Nat} {has : List (List UInt8 × Lard.Thing)} (h : HasAt w L hb has) (hm : w'.heap[hb]? = w.heap[hb]?) (ht : ∀ k, L k → ∀ (cs : Array Value) (fz : Nat × Nat), w.heap[k]? = some (.cells cs 124 fz) → w'.heap[k]? = some (.cells cs 124 fz)) (hk : K2 L w w') (hst : Stay w w') : HasAt w' L hb has := by
  obtain ⟨hp, h1, h2, h3, h4, h5, h6⟩ := h
  refine ⟨hp, h1, h2.same hm, h3, fun x hx => ?_, h5, h6⟩
  obtain ⟨hl, cs, hc⟩ := (h4 x hx).block
  exact (h4 x hx).st ((ht _ hl _ _ hc).trans hc.symm) hk hst
theorem HasAt.mono {w : World} {L L' : Nat → Prop} {hb : Nat} {has : List (List UInt8 × Lard.Thing)} (h : HasAt w L hb has) (hL : ∀ k, L k → L' k) : HasAt w L' hb has := by
  obtain ⟨hp, h1, h2, h3, h4, h5, h6⟩ := h
  exact ⟨hp, h1, h2, h3, fun x hx => (h4 x hx).mono hL, h5, hL _ h6⟩
theorem DoneAt.st {w w' : World} {L : Nat → Prop} {db : Nat} {done : List (List UInt8 × Lard.Wo)} (h : DoneAt w L db done) (hm : w'.heap[db]? = w.heap[db]?) (hst : Stay w w') : DoneAt w' L db done := by
  obtain ⟨dp, h1, h2, h3, h4⟩ := h
  exact ⟨dp, h1, h2.same hm, fun x hx => (h3 x hx).st hst, h4⟩
theorem DoneAt.mono {w : World} {L L' : Nat → Prop} {db : Nat} {done : List (List UInt8 × Lard.Wo)} (h : DoneAt w L db done) (hL : ∀ k, L k → L' k) : DoneAt w L' db done := by
  obtain ⟨dp, h1, h2, h3, h4⟩ := h
  exact ⟨dp, h1, h2, h3, hL _ h4⟩
theorem LP.st {w w' : World} {lb : Nat} {s : Lard.LS} {L : Nat → Prop} {hb db : Nat} {vb vr vn vj : Value} (h : LP w lb s L hb db vb vr vn vj) (hs : ∀ k, L k → w'.heap[k]? = w.heap[k]?) (hst : Stay w w') : LP w' lb s L hb db vb vr vn vj where
  blk := (hs lb h.here).trans h.blk
  here := h.here
  ne := h.ne
  has := by
    have hl : L hb := by obtain ⟨_, _, _, _, _, _, h6⟩ := h.has; exact h6
    exact h.has.st (hs hb hl) (fun k hk cs fz hc => (hs k hk).trans hc) (fun k hk cs t fz hc _ => (hs k hk).trans hc) hst
  done := by
    have hl : L db := by obtain ⟨_, _, _, _, h4⟩ := h.done; exact h4
    exact h.done.st (hs db hl) hst
  begun := row_same h.begun (fun g hg cs fz hc => (hs g (h.mine g (.inl hg))).trans hc)
  ring := row_same h.ring (fun g hg cs fz hc => (hs g (h.mine g (.inr (.inl hg)))).trans hc)
  ran := row_same h.ran (fun g hg cs fz hc => (hs g (h.mine g (.inr (.inr (.inl hg))))).trans hc)
  jr := row_same h.jr (fun g hg cs fz hc => (hs g (h.mine g (.inr (.inr (.inr hg))))).trans hc)
  mine := h.mine
  apart := h.apart
  rnil := h.rnil
  typed k hk := by rw [hs k hk]; exact h.typed k hk
theorem LAt.st {w w' : World} {lb : Nat} {s : Lard.LS} {L : Nat → Prop} (h : LAt w lb s L) (hs : ∀ k, L k → w'.heap[k]? = w.heap[k]?) (hst : Stay w w') : LAt w' lb s L := by
  obtain ⟨hb, db, vb, vr, vn, vj, h⟩ := h
  exact ⟨hb, db, vb, vr, vn, vj, h.st hs hst⟩
theorem LP.lt {w : World} {lb : Nat} {s : Lard.LS} {L : Nat → Prop} {hb db : Nat} {vb vr vn vj : Value} (h : LP w lb s L hb db vb vr vn vj) {k : Nat} (hk : L k) : k < w.heap.size := by
  rcases (h.typed k hk).2 with ⟨es, c, h⟩ | ⟨cs, t, fz, h, _⟩
  · exact (Array.getElem?_eq_some_iff.1 h).1
  · exact lt_of_some h
structure Frm (L : Nat → Prop) (w w' : World) : Prop where
  os : w'.os = w.os
  tape : w'.tape = w.tape
  output : w'.output = w.output
  size : w.heap.size ≤ w'.heap.size
  block : ∀ k, k < w.heap.size → ¬ L k → w'.heap[k]? = w.heap[k]?
theorem Frm.refl (L : Nat → Prop) (w : World) : Frm L w w := ⟨rfl, rfl, rfl, Nat.le_refl _, fun _ _ _ => rfl⟩
theorem Frm.below {L : Nat → Prop} {w w' : World} (h : Below w.heap.size w w') : Frm L w w' := ⟨h.os, h.tape, h.output, h.size, fun k hk _ => h.block k hk⟩
theorem Frm.grown {L : Nat → Prop} {w w' : World} {b : Nat} (h : w.grownBy w' (some b)) (hb : L b) : Frm L w w' := ⟨h.os, h.tape, h.output, h.size, fun k hk hn => h.block k hk (fun e => by cases e; exact hn hb)⟩
theorem Frm.trans {L L' : Nat → Prop} {a b c : World} (h : Frm L a b) (h' : Frm L' b c) (hL : ∀ k, L' k → L k ∨ a.heap.size ≤ k) : Frm L a c :=
  ⟨h'.os.trans h.os, h'.tape.trans h.tape, h'.output.trans h.output, Nat.le_trans h.size h'.size, fun k hk hn => (h'.block k (Nat.lt_of_lt_of_le hk h.size) (fun e => by rcases hL k e with h | h; exact hn h; omega)).trans (h.block k hk hn)⟩
structure Frw (lb : Nat) (L : Nat → Prop) (w w' : World) : Prop extends Frm L w w' where
  k2 : K2 L w w'
  hasm : ∀ hb, hb < w.heap.size → w.cell? ⟨lb, 0, none⟩ = some (.map (some hb)) → w'.cell? ⟨lb, 0, none⟩ = some (.map (some hb)) ∧ w'.heap[hb]? = w.heap[hb]?
theorem Frw.refl (lb : Nat) (L : Nat → Prop) (w : World) : Frw lb L w w := ⟨Frm.refl _ _, fun _ _ _ _ _ h _ => h, fun _ _ h => ⟨h, rfl⟩⟩
theorem Frw.below {lb : Nat} {L : Nat → Prop} {w w' : World} (h : Below w.heap.size w w') : Frw lb L w w' :=
  ⟨Frm.below h, fun k _ cs t fz hk _ => (h.block k (lt_of_some hk)).trans hk, fun hb hlt hc => ⟨by
    have hl : lb < w.heap.size := by
      refine Decidable.byContradiction fun hn => ?_
      have : w.heap[lb]? = none := Array.getElem?_eq_none_iff.2 (by omega)
      simp [World.cell?, this] at hc
    rw [← hc]; exact World.cell?_of_block (h.block lb hl), h.block hb hlt⟩⟩
theorem Frw.trans {lb : Nat} {L L' : Nat → Prop} {a b c : World} (h : Frw lb L a b) (h' : Frw lb L' b c) (hL : ∀ k, L' k → L k ∨ a.heap.size ≤ k) (hL' : ∀ k, L k → L' k) : Frw lb L a c :=
  ⟨h.toFrm.trans h'.toFrm hL, fun k hk cs t fz hc ht => h'.k2 k (hL' k hk) cs t fz (h.k2 k hk cs t fz hc ht) ht, fun hb hlt hc => by
    obtain ⟨h1, h2⟩ := h.hasm hb hlt hc
    obtain ⟨h3, h4⟩ := h'.hasm hb (Nat.lt_of_lt_of_le hlt h.size) h1
    exact ⟨h3, h4.trans h2⟩⟩
def LPost0 (w : World) (lb : Nat) (L : Nat → Prop) (s : Lard.LS) (w' : World) : Prop :=
  ∃ L', LAt w' lb s L' ∧ (∀ k, L' k → L k ∨ w.heap.size ≤ k) ∧ (∀ k, L k → L' k) ∧ Frm L w w'
def LPost (w : World) (lb : Nat) (L : Nat → Prop) (s : Lard.LS) (w' : World) : Prop :=
  ∃ L', LAt w' lb s L' ∧ (∀ k, L' k → L k ∨ w.heap.size ≤ k) ∧ (∀ k, L k → L' k) ∧ Frw lb L w w'
theorem LPost.weak {w w' : World} {lb : Nat} {L : Nat → Prop} {s : Lard.LS} (h : LPost w lb L s w') : LPost0 w lb L s w' := by
  obtain ⟨L', h1, h2, h3, h4⟩ := h
  exact ⟨L', h1, h2, h3, h4.toFrm⟩
theorem LP.frw {w w' : World} {lb : Nat} {s s' : Lard.LS} {L L' : Nat → Prop} {hb db db' : Nat} {vb vr vn vj vb' vr' vn' vj' : Value} (h : LP w lb s L hb db vb vr vn vj) (h' : LP w' lb s' L' hb db' vb' vr' vn' vj') (hf : Frm L w w') (hk : K2 L w w') (hm : w'.heap[hb]? = w.heap[hb]?) : Frw lb L w w' :=
  ⟨hf, hk, fun hb2 _ hc => by
    have h1 : w.cell? ⟨lb, 0, none⟩ = some (.map (some hb)) := by simp [World.cell?, h.blk]
    have h2 : w'.cell? ⟨lb, 0, none⟩ = some (.map (some hb)) := by simp [World.cell?, h'.blk]
    rw [h1] at hc
    cases hc
    exact ⟨h2, hm⟩⟩
theorem frm_keeps {w w' : World} {lb : Nat} {s : Lard.LS} {L : Nat → Prop} (h : LAt w lb s L) (hf : Frm L w w') : Keeps w w' := by
  obtain ⟨hb, db, vb, vr, vn, vj, h⟩ := h
  intro k cs t fz hk ht
  by_cases hl : L k
  · rcases (h.typed k hl).2 with ⟨es, c, h1⟩ | ⟨cs', t', fz', h1, h2⟩
    · rw [hk] at h1; cases h1
    · rw [hk] at h1; cases h1
      exact (h2.imm (.inl ht)).elim
  · exact (hf.block k (lt_of_some hk) hl).trans hk
theorem frm_g {w w' : World} {lb : Nat} {s : Lard.LS} {L : Nat → Prop} (h : LAt w lb s L) (hf : Frm L w w') (g : G w) : G w' := by
  obtain ⟨hb, db, vb, vr, vn, vj, h⟩ := h
  have hB : Below 8 w w' := ⟨hf.os, hf.tape, hf.output, hf.size, fun k hk => hf.block k (Nat.lt_of_lt_of_le hk g.size) (fun hl => by have := (h.typed k hl).1; omega)⟩
  exact g.below hB (Nat.le_refl _)
theorem LPost.refl {w : World} {lb : Nat} {s : Lard.LS} {L : Nat → Prop} (h : LAt w lb s L) : LPost w lb L s w := ⟨L, h, fun _ h => .inl h, fun _ h => h, Frw.refl _ _ _⟩
theorem LPost.trans {a b c : World} {lb : Nat} {s s' : Lard.LS} {L : Nat → Prop} (h : LPost a lb L s b) (h' : ∀ L', LAt b lb s L' → LPost b lb L' s' c) : LPost a lb L s' c := by
  obtain ⟨L1, h1, h2, h3, h4⟩ := h
  obtain ⟨L2, g1, g2, g3, g4⟩ := h' L1 h1
  refine ⟨L2, g1, fun k hk => ?_, fun k hk => g3 k (h3 k hk), h4.trans g4 h2 h3⟩
  rcases g2 k hk with h | h
  · exact h2 k h
  · have := h4.size
    exact .inr (by omega)
theorem LPost.below {w w' : World} {lb : Nat} {s : Lard.LS} {L : Nat → Prop} (h : LAt w lb s L) (hB : Below w.heap.size w w') : LPost w lb L s w' := by
  refine ⟨L, h.st (fun k hk => ?_) (Stay.below hB), fun _ h => .inl h, fun _ h => h, Frw.below hB⟩
  obtain ⟨hb, db, vb, vr, vn, vj, h⟩ := h
  exact hB.block k (h.lt hk)
end Go.Proofs.YtpekpdimdelncaaGreatDoor
namespace Go.Proofs.YtpekpdimdelncaaGreatDoor
open Go.RowKit Go.Shelf
set_option linter.unusedVariables false
theorem step_run_append {P : Program} {ops : Array Oper} {o : Oper} {a : Act} {w : World} {K : Act → World → Prop} {Q : Exit → Act → World → Prop} {E : Prop}
    (hg : o.guard = none) (s x : Operand) (t u : TypeId) (hop : o.op = Op.call { callee := Callee.builtin Builtin.append, args := #[s, x], argTypes := #[t, u] })
    (vs vx v' : Value) (w' : World) (hs : a.eval s = vs) (hx : a.eval x = vx) (hrun : (Builtin.append_ #[t, u] o.type #[vs, vx]).run P w = .ok v' w') (hK : K (a.put o.dst v') w') :
    if Region.wanted o (yielded ops a.tmps) = true then Oper.wp P o a w K Q else E := by
  have hw : Region.wanted o (yielded ops a.tmps) = true := by simp [Region.wanted, hg]
  rw [if_pos hw]
  unfold Oper.wp
  simp [execOp, hop, resolve, invoke, builtin, hs, hx, hrun, Result.andThen]
  exact hK
theorem step_run_put {P : Program} {ops : Array Oper} {o : Oper} {a : Act} {w : World} {K : Act → World → Prop} {Q : Exit → Act → World → Prop} {E : Prop}
    (hg : o.guard = none) (m x y : Operand) (t : TypeId) (hop : o.op = Op.mapUpdate t m x y)
    (vm vx vy : Value) (w' : World) (hm : a.eval m = vm) (hx : a.eval x = vx) (hy : a.eval y = vy) (hrun : (Instr.mapUpdate t vm vx vy).run P w = .ok () w') (hK : K (a.put o.dst undef) w') :
    if Region.wanted o (yielded ops a.tmps) = true then Oper.wp P o a w K Q else E := by
  have hw : Region.wanted o (yielded ops a.tmps) = true := by simp [Region.wanted, hg]
  rw [if_pos hw]
  unfold Oper.wp
  simp [execOp, hop, hm, hx, hy, hrun, Result.andThen]
  exact hK
theorem wpList_run_append {P : Program} (w : World) {ops : Array Oper} {rest : List Oper} {o : Oper} {a : Act} {Q : Exit → Act → World → Prop}
    (hg : o.guard = none) (s x : Operand) (t u : TypeId) (hop : o.op = Op.call { callee := Callee.builtin Builtin.append, args := #[s, x], argTypes := #[t, u] })
    (vs vx v' : Value) (w' : World) (hs : a.eval s = vs) (hx : a.eval x = vx) (hrun : (Builtin.append_ #[t, u] o.type #[vs, vx]).run P w = .ok v' w') (hK : wpList P ops Q rest (a.put o.dst v') w') : wpList P ops Q (o :: rest) a w := by
  refine wpList_plain hg fun K' hK' => ?_
  unfold Oper.wp
  simp [execOp, hop, resolve, invoke, builtin, hs, hx, hrun, Result.andThen]
  exact hK' _ _ hK
structure Tn (e0 : TypeId) (w w' : World) (row : Option Nat) : Prop where
  g : w.grownBy w' row
  ty : ∀ b, row = some b → ∃ cs fz, w.heap[b]? = some (.cells cs e0 fz)
theorem Tn.kept {e0 : TypeId} {w w' : World} {row : Option Nat} (h : Tn e0 w w' row) {k : Nat} {o : Obj} (hk : w.heap[k]? = some o) (ho : ∀ cs fz, o ≠ .cells cs e0 fz) : w'.heap[k]? = some o := by
  refine (h.g.block k (Array.getElem?_eq_some_iff.1 hk).1 (fun e => ?_)).trans hk
  obtain ⟨cs, fz, h1⟩ := h.ty k e.symm
  rw [hk] at h1
  cases h1
  exact ho _ _ rfl
theorem Tn.cells {e0 : TypeId} {w w' : World} {row : Option Nat} (h : Tn e0 w w' row) {k : Nat} {cs : Array Value} {t : TypeId} {fz : Nat × Nat} (hk : w.heap[k]? = some (.cells cs t fz)) (ht : t ≠ e0) : w'.heap[k]? = some (.cells cs t fz) :=
  h.kept hk (fun _ _ e => by cases e; exact ht rfl)
theorem Tn.stay {e0 : TypeId} {w w' : World} {row : Option Nat} (h : Tn e0 w w' row) (he : LT e0) : Stay w w' :=
  Keeps.stay (fun k cs t fz hk ht => h.cells hk (fun e => he.imm (.inl (e ▸ ht))))
theorem Tn.map {e0 : TypeId} {w w' : World} {row : Option Nat} (h : Tn e0 w w' row) {b : Nat} {l : List (List UInt8 × Value)} (hm : MapAt w b l) : w'.heap[b]? = w.heap[b]? := by
  obtain ⟨es, c, hb⟩ := hm.isMap
  rw [h.kept hb (fun _ _ e => by cases e), hb]
theorem HasAt.tn {e0 : TypeId} {w w' : World} {row : Option Nat} {L : Nat → Prop} {hb : Nat} {has : List (List UInt8 × Lard.Thing)} (h : HasAt w L hb has) (ht : Tn e0 w w' row) (he : LT e0) (h1 : e0 ≠ 124) (h2 : e0 ≠ 131) (h3 : e0 ≠ 133) : HasAt w' L hb has := by
  have hm : w'.heap[hb]? = w.heap[hb]? := by obtain ⟨_, _, hm, _⟩ := h; exact ht.map hm
  exact h.st hm (fun k _ cs fz hc => ht.cells hc h1.symm) (fun k _ cs t fz hc hk => ht.cells hc (fun e => by rcases hk with hk | hk; exact h2 (e ▸ hk); exact h3 (e ▸ hk))) (ht.stay he)
theorem DoneAt.tn {e0 : TypeId} {w w' : World} {row : Option Nat} {L : Nat → Prop} {db : Nat} {done : List (List UInt8 × Lard.Wo)} (h : DoneAt w L db done) (ht : Tn e0 w w' row) (he : LT e0) : DoneAt w' L db done := by
  have hm : w'.heap[db]? = w.heap[db]? := by obtain ⟨_, _, hm, _⟩ := h; exact ht.map hm
  exact h.st hm (ht.stay he)
theorem row_tn {e0 : TypeId} {w w' : World} {row : Option Nat} {n size : Nat} {e : TypeId} {v : Value} {xs : List Value} (h : w.ownsRow 8 e size v n xs) (ht : Tn e0 w w' row) (hne : e ≠ e0) : w'.ownsRow 8 e size v n xs :=
  row_same h (fun g _ cs fz hc => ht.cells hc hne)
theorem row_typed {w : World} {n size : Nat} {e : TypeId} {v : Value} {xs : List Value} (h : w.ownsRow 8 e size v n xs) {g : Nat} (hg : v.ownBlock = some g) : ∃ cs fz, w.heap[g]? = some (.cells cs e fz) := by
  rcases h.2 with ⟨rfl, _⟩ | ⟨g', cap, cur, rfl, _, h3, _⟩
  · cases hg
  · cases hg; exact ⟨_, _, h3⟩
theorem typed_tn {e0 : TypeId} {w w' : World} {row : Option Nat} {L : Nat → Prop} (h : ∀ k, L k → 8 ≤ k ∧ ((∃ es c, w.heap[k]? = some (.map es c)) ∨ ∃ cs t fz, w.heap[k]? = some (.cells cs t fz) ∧ LT t)) (ht : Tn e0 w w' row) (he : LT e0) (hr : ∀ b, row = some b → ∃ cs fz, w'.heap[b]? = some (.cells cs e0 fz)) :
    ∀ k, L k → 8 ≤ k ∧ ((∃ es c, w'.heap[k]? = some (.map es c)) ∨ ∃ cs t fz, w'.heap[k]? = some (.cells cs t fz) ∧ LT t) := by
  intro k hk
  obtain ⟨h8, h1⟩ := h k hk
  refine ⟨h8, ?_⟩
  rcases h1 with ⟨es, c, h1⟩ | ⟨cs, t, fz, h1, h2⟩
  · exact .inl ⟨es, c, ht.kept h1 (fun _ _ e => by cases e)⟩
  · by_cases hr' : row = some k
    · obtain ⟨cs', fz', h3⟩ := hr k hr'
      exact .inr ⟨cs', e0, fz', h3, he⟩
    · exact .inr ⟨cs, t, fz, (ht.g.block k (lt_of_some h1) (fun e => hr' e.symm)).trans h1, h2⟩
theorem blk_cell {w : World} {b : Nat} {cs : Array Value} {t : TypeId} {fz : Nat × Nat} (h : w.heap[b]? = some (.cells cs t fz)) (i : Nat) (v : Value) : (w.setCell ⟨b, i, none⟩ v).heap[b]? = some (.cells (cs.setIfInBounds i v) t fz) := by
  simp [World.setCell, Array.getElem?_modify, h]
theorem tn_set {w : World} {b : Nat} {cs : Array Value} {t : TypeId} {fz : Nat × Nat} (h : w.heap[b]? = some (.cells cs t fz)) (i : Nat) (v : Value) : Tn t w (w.setCell ⟨b, i, none⟩ v) (some b) :=
  ⟨grown_set (World.grownBy.refl w (some b)) i v, fun b' hb => by cases hb; exact ⟨_, _, h⟩⟩
theorem u8Info : (Tryz.prog.info? 5).map (fun i => (i.zero, i.size, i.bytes)) = some (some (.int .u8 0), 1, 1) := by kernel_rfl
theorem append_lies (w : World) (ty : TypeId) (v : Value) (n : Nat) (xs : List Value) (hown : w.ownsRow 8 5 1 v n xs) (s : ByteArray) (h0 : 0 < s.size) (hbytes : n + s.size ≤ 140737488355328) (h8 : 8 ≤ w.heap.size) :
    ∃ g cap w', (Builtin.append_ #[106, 9] ty #[v, .string s]).run Tryz.prog w = .ok (.slice (some ⟨g, 0, none⟩) (n + s.size) cap) w' ∧ w'.ownsRow 8 5 1 (.slice (some ⟨g, 0, none⟩) (n + s.size) cap) (n + s.size) (xs ++ Lib.strCells s) ∧ w.grownBy w' v.ownBlock ∧ (v.ownBlock = some g ∨ g = w.heap.size) ∧ (∀ b, v.ownBlock = some b → ∃ cs fz, w'.heap[b]? = some (.cells cs 5 fz)) := by
  obtain ⟨i0, hi0, hz0, hz1, hz2⟩ := info_parts u8Info
  obtain ⟨v', w', hr, ho, hg, _⟩ := Lib.run_append_own_string (P := Tryz.prog) w 8 106 9 ty 5 i0 Tryz.underlying106 Tryz.underlying9 hi0 hz0 hz1 hz2 v n xs hown s (by unfold maxLen; omega) hbytes h8
  obtain ⟨g, cap, rfl, _, hlt⟩ := ho.form (by omega)
  refine ⟨g, cap, w', hr, ho, hg, ?_⟩
  rcases hown.2 with ⟨rfl, rfl⟩ | ⟨g0, cap0, cur, rfl, hbg, hg0, hnc, hcm, hcs, htake⟩
  · have hr' := run_append_nil_string (P := Tryz.prog) w 106 9 ty 5 i0 (.int .u8 0) Tryz.underlying106 Tryz.underlying9 hi0 hz0 s h0 (by omega) (by rw [hz2]; omega)
    rw [hr] at hr'
    injection hr' with e1 e2
    injection e1 with e1 _ _
    injection e1 with e1
    injection e1 with e1
    exact ⟨.inr e1, fun b hb => by cases hb⟩
  · by_cases hroom : n + s.size ≤ cap0
    · have hr' := Lib.run_append_room_string (P := Tryz.prog) w 106 9 ty 5 i0 Tryz.underlying106 Tryz.underlying9 hi0 hz1 g0 n cap0 cur hg0 s hroom (by omega)
      rw [hr] at hr'
      injection hr' with e1 e2
      injection e1 with e1 _ _
      injection e1 with e1
      injection e1 with e1
      subst e1
      exact ⟨.inl rfl, fun b hb => by cases hb; exact row_typed ho rfl⟩
    · have holds : ∀ j u, xs[j]? = some u → w.cell? ((⟨g0, 0, none⟩ : Addr).add j) = some u := hown.cells (g := g0) rfl
      have hr' := Lib.run_append_grow_string (P := Tryz.prog) w 106 9 ty 5 i0 (.int .u8 0) Tryz.underlying106 Tryz.underlying9 hi0 hz0 ⟨g0, 0, none⟩ n cap0 xs (by rw [hz1]; exact hown.1) holds s (by omega) (by omega) (by rw [hz2]; exact growslice_fits (by omega) (by omega))
      rw [hr] at hr'
      injection hr' with e1 e2
      injection e1 with e1 _ _
      injection e1 with e1
      injection e1 with e1
      refine ⟨.inr e1, fun b hb => ?_⟩
      cases hb
      rw [e2]
      exact ⟨_, _, (heap_alloc_old w.drew _ (lt_of_some hg0)).trans hg0⟩
theorem append_row {w : World} (t ty e : TypeId) (z : Value) (size bytes : Nat) (ht : Tryz.prog.underlying t = some (.slice e)) (hinf : (Tryz.prog.info? e).map (fun i => (i.zero, i.size, i.bytes)) = some (some z, size, bytes)) (hzs : z.cells.size = size) (hsz : 0 < size)
    (v : Value) (n : Nat) (xs : List Value) (hown : w.ownsRow 8 e size v n xs) (ad : Addr) (c : Nat) (news : List Value) (hl : news.length = size) (hnews : ∀ j u, news[j]? = some u → w.cell? (ad.add j) = some u) (h1 : ∀ u ∈ news, u.oneCell' = true)
    (hbytes : (n + 1) * bytes ≤ 140737488355328) (hn : n + 1 ≤ maxLen) (h8 : 8 ≤ w.heap.size) :
    ∃ g cap w', (Builtin.append_ #[t, t] ty #[v, .slice (some ad) 1 c]).run Tryz.prog w = .ok (.slice (some ⟨g, 0, none⟩) (n + 1) cap) w' ∧ w'.ownsRow 8 e size (.slice (some ⟨g, 0, none⟩) (n + 1) cap) (n + 1) (xs ++ news) ∧ w.grownBy w' v.ownBlock ∧ (v.ownBlock = some g ∨ g = w.heap.size) ∧ (∀ b, v.ownBlock = some b → ∃ cs fz, w'.heap[b]? = some (.cells cs e fz)) := by
  obtain ⟨i0, hi0, hz0, hz1, hz2⟩ := info_parts hinf
  obtain ⟨g, cap, w', hr, ho, hg, hloc, hlt⟩ := run_append_lies (P := Tryz.prog) w t ty 8 e i0 z size bytes ht hi0 hz0 hz1 hz2 hzs hsz v n xs hown ad 1 c news (by omega) hnews h1 (by omega) hn hbytes h8 _ rfl
  refine ⟨g, cap, w', hr, ho, hg, hloc, ?_⟩
  rcases hown.2 with ⟨rfl, rfl⟩ | ⟨g0, cap0, cur, rfl, hbg, hg0, hnc, hcm, hcs, htake⟩
  · exact fun b hb => by cases hb
  · intro b hb
    cases hb
    by_cases hroom : n + 1 ≤ cap0
    · have hr' := run_append_room (P := Tryz.prog) w t ty e i0 ht hi0 g0 n cap0 cur hg0 ad 1 c news (by rw [hz1]; omega) hnews h1 hroom (by
        rw [hz1, hl, hcs]
        have := Nat.mul_le_mul_right size hroom
        rw [Nat.add_mul, Nat.one_mul] at this
        exact this)
      rw [hr] at hr'
      injection hr' with e1 e2
      injection e1 with e1 _ _
      injection e1 with e1
      injection e1 with e1
      subst e1
      exact row_typed ho rfl
    · have holds : ∀ j u, xs[j]? = some u → w.cell? ((⟨g0, 0, none⟩ : Addr).add j) = some u := hown.cells (g := g0) rfl
      have hr' := run_append_grow (P := Tryz.prog) w t ty e i0 z ht hi0 hz0 ⟨g0, 0, none⟩ n cap0 xs (by rw [hz1]; exact hown.1) holds ad 1 c news (by rw [hz1]; omega) hnews (by omega) (by simp only [maxLen] at hn; omega) (by rw [hz2]; exact growslice_fits (by omega) (by omega))
      rw [hr] at hr'
      injection hr' with e1 e2
      rw [e2]
      exact ⟨_, _, (heap_alloc_old w.drew _ (lt_of_some hg0)).trans hg0⟩
theorem jbytes_snoc (jr : List (List UInt8)) (t : List UInt8) : jbytes (jr ++ [t]) = jbytes jr ++ Lard.line t := by
  simp [jbytes]
theorem strCells_append (a b : List UInt8) : Lib.strCells ⟨a.toArray⟩ ++ Lib.strCells ⟨b.toArray⟩ = Lib.strCells ⟨(a ++ b).toArray⟩ := by
  simp [Lib.strCells]
theorem LP.turned {w w1 : World} {lb : Nat} {s s' : Lard.LS} {L : Nat → Prop} {hb db : Nat} {vb vr vn vj vb' vr' vn' vj' : Value} (h : LP w lb s L hb db vb vr vn vj) (e0 : TypeId) (row : Option Nat) (ht : Tn e0 w w1 row) (he : LT e0) (h1 : e0 ≠ 108) (h2 : e0 ≠ 124) (h3 : e0 ≠ 131) (h4 : e0 ≠ 133)
    (hrow : ∀ b, row = some b → L b ∧ ∃ cs fz, w1.heap[b]? = some (.cells cs e0 fz)) (Nw : Nat → Prop) (hNw : ∀ k, Nw k → w.heap.size ≤ k ∧ ∃ cs fz, w1.heap[k]? = some (.cells cs e0 fz)) (g : G w)
    (i : Nat) (v : Value) (hset : (#[.map (some hb), .map (some db), vb, vr, vn, vj] : Array Value).setIfInBounds i v = #[.map (some hb), .map (some db), vb', vr', vn', vj'])
    (hhas : s'.has = s.has) (hdone : s'.done = s.done) (r1 : strsAt w1 vb' s'.begun) (r2 : strsAt w1 vr' s'.ring) (r3 : w1.ownsRow 8 61 6 vn' s'.ran.length (s'.ran.flatMap whyCells)) (r4 : w1.ownsRow 8 5 1 vj' (jbytes s'.jr).length (Lib.strCells ⟨(jbytes s'.jr).toArray⟩))
    (hmine : ∀ k, vb'.ownBlock = some k ∨ vr'.ownBlock = some k ∨ vn'.ownBlock = some k ∨ vj'.ownBlock = some k → L k ∨ Nw k) (hapart : ∀ k, vb'.ownBlock = some k → vr'.ownBlock ≠ some k) (hrnil : s'.ring = [] → vr' = .slice none 0 0) :
    LPost w lb L s' (w1.setCell ⟨lb, i, none⟩ v) := by
  have hLL : LT 108 := .inl rfl
  have hblk1 := ht.cells h.blk h1.symm
  have ht2 := tn_set hblk1 i v
  have hblk2 := blk_cell hblk1 i v
  rw [hset] at hblk2
  have hm : ∀ k, L k → L k ∨ Nw k := fun k hk => .inl hk
  have hlp : LP (w1.setCell ⟨lb, i, none⟩ v) lb s' (fun k => L k ∨ Nw k) hb db vb' vr' vn' vj' := {
      blk := hblk2
      here := .inl h.here
      ne := h.ne
      has := by rw [hhas]; exact ((h.has.tn ht he h2 h3 h4).tn ht2 hLL (by decide) (by decide) (by decide)).mono hm
      done := by rw [hdone]; exact ((h.done.tn ht he).tn ht2 hLL).mono hm
      begun := row_tn r1 ht2 (by decide)
      ring := row_tn r2 ht2 (by decide)
      ran := row_tn r3 ht2 (by decide)
      jr := row_tn r4 ht2 (by decide)
      mine := hmine
      apart := hapart
      rnil := hrnil
      typed := typed_tn (fun k hk => by
        rcases hk with hk | hk
        · exact typed_tn h.typed ht he (fun b hb => (hrow b hb).2) k hk
        · obtain ⟨h5, cs, fz, h6⟩ := hNw k hk
          exact ⟨Nat.le_trans g.size h5, .inr ⟨cs, e0, fz, h6, he⟩⟩) ht2 hLL (fun b hb => by cases hb; exact ⟨_, _, hblk2⟩) }
  have f1 : Frm L w w1 := by
    refine ⟨ht.g.os, ht.g.tape, ht.g.output, ht.g.size, fun k hk hn => ht.g.block k hk (fun e => hn (hrow k e.symm).1)⟩
  refine ⟨fun k => L k ∨ Nw k, ⟨hb, db, vb', vr', vn', vj', hlp⟩, fun k hk => by rcases hk with hk | hk; exact .inl hk; exact .inr (hNw k hk).1, hm, h.frw hlp (f1.trans (Frm.grown ht2.g h.here) (fun k hk => .inl hk)) (fun k hk cs t fz hc hkt => ht2.cells (ht.cells hc ?_) ?_) ?_⟩
  · rcases hkt with rfl | rfl
    · exact h3.symm
    · exact h4.symm
  · rcases hkt with rfl | rfl <;> decide
  · obtain ⟨hp, q1, q2, _⟩ := h.has
    have e1 := ht.map q2
    obtain ⟨es, cc, q3⟩ := q2.isMap
    rw [q3] at e1
    rw [ht2.kept e1 (fun _ _ e => by cases e), q3]
theorem LP.write {w w1 : World} {lb : Nat} {s : Lard.LS} {L : Nat → Prop} {hb db : Nat} {vb vr vn vj : Value} (h : LP w lb s L hb db vb vr vn vj) (gg : G w) {g cap n : Nat} (t : List UInt8) (hg : w.grownBy w1 vj.ownBlock)
    (hn : n = (jbytes (s.jr ++ [t])).length) (ho : w1.ownsRow 8 5 1 (.slice (some ⟨g, 0, none⟩) n cap) n (Lib.strCells ⟨(jbytes (s.jr ++ [t])).toArray⟩)) (hl : vj.ownBlock = some g ∨ g = w.heap.size) (hold : ∀ b, vj.ownBlock = some b → ∃ cs fz, w1.heap[b]? = some (.cells cs 5 fz)) :
    LPost w lb L (s.write t) (w1.setCell ⟨lb, 5, none⟩ (.slice (some ⟨g, 0, none⟩) n cap)) := by
  subst hn
  have ht1 : Tn 5 w w1 vj.ownBlock := ⟨hg, fun b hb => row_typed h.jr hb⟩
  refine h.turned 5 vj.ownBlock ht1 (.inr (.inr (.inr (.inl rfl)))) (by decide) (by decide) (by decide) (by decide) (fun b hb => ⟨h.mine b (.inr (.inr (.inr hb))), hold b hb⟩) (fun k => k = g ∧ g = w.heap.size) (fun k hk => ?_) gg 5 _ rfl rfl rfl (row_tn h.begun ht1 (by decide)) (row_tn h.ring ht1 (by decide)) (row_tn h.ran ht1 (by decide)) ho (fun k hk => ?_) h.apart h.rnil
  · obtain ⟨rfl, h1⟩ := hk
    exact ⟨by omega, row_typed ho rfl⟩
  · rcases hk with hk | hk | hk | hk
    · exact .inl (h.mine k (.inl hk))
    · exact .inl (h.mine k (.inr (.inl hk)))
    · exact .inl (h.mine k (.inr (.inr (.inl hk))))
    · cases hk
      rcases hl with hl | hl
      · exact .inl (h.mine _ (.inr (.inr (.inr hl))))
      · exact .inr ⟨rfl, hl⟩
end Go.Proofs.YtpekpdimdelncaaGreatDoor
