/- Out of: L12, L13, Bg. -/
import Derived.Test.YtpekpdimdelncaaGreatDoorP20
import Derived.Test.YtpekpdimdelncaaGreatDoorP19
import Derived.Test.YtpekpdimdelncaaGreatDoorP07
import Derived.Test.YtpekpdimdelncaaGreatDoorP09
namespace Go.Proofs.YtpekpdimdelncaaGreatDoor
open Go.RowKit Go.Shelf
set_option linter.unusedVariables false
set_option linter.unusedSimpArgs false
structure Tm (w w' : World) (b : Nat) : Prop where
  g : w.grownBy w' (some b)
  was : ∃ es c, w.heap[b]? = some (.map es c)
theorem Tm.cells {w w' : World} {b : Nat} (h : Tm w w' b) {k : Nat} {cs : Array Value} {t : TypeId} {fz : Nat × Nat} (hk : w.heap[k]? = some (.cells cs t fz)) : w'.heap[k]? = some (.cells cs t fz) := by
  obtain ⟨es, c, hb⟩ := h.was
  refine (h.g.block k (lt_of_some hk) (fun e => ?_)).trans hk
  cases e
  rw [hk] at hb
  cases hb
theorem Tm.stay {w w' : World} {b : Nat} (h : Tm w w' b) : Stay w w' := Keeps.stay (fun k cs t fz hk _ => h.cells hk)
theorem Tm.map {w w' : World} {b k : Nat} {l : List (List UInt8 × Value)} (h : Tm w w' b) (hm : MapAt w k l) (hne : k ≠ b) : w'.heap[k]? = w.heap[k]? :=
  h.g.block k hm.lt (fun e => hne (by cases e; rfl))
theorem row_tm {w w' : World} {b : Nat} {n size : Nat} {e : TypeId} {v : Value} {xs : List Value} (h : w.ownsRow 8 e size v n xs) (ht : Tm w w' b) : w'.ownsRow 8 e size v n xs :=
  row_same h (fun g _ cs fz hc => ht.cells hc)
theorem typed_tm {w w' : World} {b : Nat} {L : Nat → Prop} (h : ∀ k, L k → 8 ≤ k ∧ ((∃ es c, w.heap[k]? = some (.map es c)) ∨ ∃ cs t fz, w.heap[k]? = some (.cells cs t fz) ∧ LT t)) (ht : Tm w w' b) (hb : ∃ es c, w'.heap[b]? = some (.map es c)) :
    ∀ k, L k → 8 ≤ k ∧ ((∃ es c, w'.heap[k]? = some (.map es c)) ∨ ∃ cs t fz, w'.heap[k]? = some (.cells cs t fz) ∧ LT t) := by
  intro k hk
  obtain ⟨h8, h1⟩ := h k hk
  refine ⟨h8, ?_⟩
  by_cases e : k = b
  · subst e; exact .inl hb
  · rcases h1 with ⟨es, c, h1⟩ | ⟨cs, t, fz, h1, h2⟩
    · exact .inl ⟨es, c, (ht.g.block k (Array.getElem?_eq_some_iff.1 h1).1 (fun e' => e (by cases e'; rfl))).trans h1⟩
    · exact .inr ⟨cs, t, fz, ht.cells h1, h2⟩
theorem nodup_map_inj {α β : Type} (f : α → β) : ∀ {l : List α}, l.Nodup → (∀ x ∈ l, ∀ y ∈ l, f x = f y → x = y) → (l.map f).Nodup
  | [], _, _ => by simp
  | a :: l, hn, hf => by
    simp only [List.map_cons, List.nodup_cons] at hn ⊢
    refine ⟨fun ha => ?_, nodup_map_inj f hn.2 (fun x hx y hy => hf x (List.mem_cons_of_mem _ hx) y (List.mem_cons_of_mem _ hy))⟩
    obtain ⟨b, hb, e⟩ := List.mem_map.1 ha
    exact hn.1 (hf b (List.mem_cons_of_mem _ hb) a List.mem_cons_self e ▸ hb)
theorem put_map {α β : Type} (F : α → β) (l : List (List UInt8 × α)) (k : List UInt8) (a : α) : (Lard.put l k a).map (fun x => (x.1, F x.2)) = Lard.put (l.map fun x => (x.1, F x.2)) k (F a) := by
  have hl : Lard.look (l.map fun x => (x.1, F x.2)) k = (Lard.look l k).map F := Lard.look_map (fun x : List UInt8 × α => (x.1, F x.2)) (fun _ x => F x) (fun _ => rfl) l k
  unfold Lard.put
  rw [hl]
  cases hx : Lard.look l k with
  | none => simp
  | some b =>
    simp only [Option.map_some, Option.isSome_some, if_true, List.map_map]
    refine List.map_congr_left (fun x _ => ?_)
    simp only [Function.comp_def]
    split <;> rfl
theorem del_map {α β : Type} (F : α → β) (l : List (List UInt8 × α)) (k : List UInt8) : (Lard.del l k).map (fun x => (x.1, F x.2)) = Lard.del (l.map fun x => (x.1, F x.2)) k := by
  unfold Lard.del
  rw [List.filter_map]
  rfl
theorem nodup_put {α β : Type} (f : List UInt8 × α → β) {l : List (List UInt8 × α)} {k : List UInt8} {a : α} (hk : (l.map (·.1)).Nodup) (hf : (l.map f).Nodup) (hn : ∀ x ∈ l, f x ≠ f (k, a)) : ((Lard.put l k a).map f).Nodup := by
  have hl : l.Nodup := nodup_of_map _ hk
  unfold Lard.put
  split
  · rw [List.map_map]
    refine nodup_map_inj _ hl (fun x hx y hy e => ?_)
    simp only [Function.comp_def] at e
    by_cases h1 : x.1 = k
    · by_cases h2 : y.1 = k
      · exact nodup_inj (fun z : List UInt8 × α => z.1) hk hx hy (h1.trans h2.symm)
      · rw [if_pos (by simp [h1]), if_neg (by simp [h2])] at e
        exact (hn y hy e.symm).elim
    · by_cases h2 : y.1 = k
      · rw [if_neg (by simp [h1]), if_pos (by simp [h2])] at e
        exact (hn x hx e).elim
      · rw [if_neg (by simp [h1]), if_neg (by simp [h2])] at e
        exact nodup_inj f hf hx hy e
  · rw [List.map_append, List.nodup_append]
    refine ⟨hf, by simp, ?_⟩
    intro x hx y hy e
    obtain ⟨z, hz, rfl⟩ := List.mem_map.1 hx
    simp at hy
    exact hn z hz (e.trans hy)
theorem LP.tm {w w1 : World} {lb : Nat} {s s' : Lard.LS} {L : Nat → Prop} {hb db : Nat} {vb vr vn vj : Value} (h : LP w lb s L hb db vb vr vn vj) {b : Nat} (ht : Tm w w1 b) (hb1 : ∃ es c, w1.heap[b]? = some (.map es c)) (hL : L b) (hhas : HasAt w1 L hb s'.has) (hdone : DoneAt w1 L db s'.done)
    (e1 : s'.begun = s.begun) (e2 : s'.ring = s.ring) (e3 : s'.ran = s.ran) (e4 : s'.jr = s.jr) : LP w1 lb s' L hb db vb vr vn vj :=
  {
    blk := ht.cells h.blk
    here := h.here
    ne := h.ne
    has := hhas
    done := hdone
    begun := by rw [e1]; exact row_tm h.begun ht
    ring := by rw [e2]; exact row_tm h.ring ht
    ran := by rw [e3]; exact row_tm h.ran ht
    jr := by rw [e4]; exact row_tm h.jr ht
    mine := h.mine
    apart := h.apart
    rnil := by rw [e2]; exact h.rnil
    typed := typed_tm h.typed ht hb1 }
theorem LP.tm0 {w w1 : World} {lb : Nat} {s s' : Lard.LS} {L : Nat → Prop} {hb db : Nat} {vb vr vn vj : Value} (h : LP w lb s L hb db vb vr vn vj) {b : Nat} (ht : Tm w w1 b) (hL : L b) (h' : LP w1 lb s' L hb db vb vr vn vj) : LPost0 w lb L s' w1 :=
  ⟨L, ⟨hb, db, vb, vr, vn, vj, h'⟩, fun k hk => .inl hk, fun k hk => hk, Frm.grown ht.g hL⟩
theorem LP.tm1 {w w1 : World} {lb : Nat} {s s' : Lard.LS} {L : Nat → Prop} {hb db : Nat} {vb vr vn vj : Value} (h : LP w lb s L hb db vb vr vn vj) {b : Nat} (ht : Tm w w1 b) (hL : L b) (hne : hb ≠ b) (h' : LP w1 lb s' L hb db vb vr vn vj) : LPost w lb L s' w1 := by
  refine ⟨L, ⟨hb, db, vb, vr, vn, vj, h'⟩, fun k hk => .inl hk, fun k hk => hk, h.frw h' (Frm.grown ht.g hL) (fun k hk cs t fz hc hkt => ht.cells hc) ?_⟩
  obtain ⟨hp, q1, q2, _⟩ := h.has
  exact ht.map q2 hne
theorem HasAt.tm {w w' : World} {L : Nat → Prop} {hb b : Nat} {has : List (List UInt8 × Lard.Thing)} (h : HasAt w L hb has) (ht : Tm w w' b) (hne : hb ≠ b) : HasAt w' L hb has := by
  have hm : w'.heap[hb]? = w.heap[hb]? := by obtain ⟨_, _, hm, _⟩ := h; exact ht.map hm hne
  exact h.st hm (fun k _ cs fz hc => ht.cells hc) (fun k _ cs t fz hc hk => ht.cells hc) ht.stay
theorem DoneAt.tm {w w' : World} {L : Nat → Prop} {db b : Nat} {done : List (List UInt8 × Lard.Wo)} (h : DoneAt w L db done) (ht : Tm w w' b) (hne : db ≠ b) : DoneAt w' L db done := by
  have hm : w'.heap[db]? = w.heap[db]? := by obtain ⟨_, _, hm, _⟩ := h; exact ht.map hm hne
  exact h.st hm ht.stay
theorem HasAt.here {w : World} {L : Nat → Prop} {hb : Nat} {has : List (List UInt8 × Lard.Thing)} (h : HasAt w L hb has) : L hb ∧ ∃ es c, w.heap[hb]? = some (.map es c) := by
  obtain ⟨_, _, hm, _, _, _, hl⟩ := h
  exact ⟨hl, hm.isMap⟩
theorem DoneAt.here {w : World} {L : Nat → Prop} {db : Nat} {done : List (List UInt8 × Lard.Wo)} (h : DoneAt w L db done) : L db ∧ ∃ es c, w.heap[db]? = some (.map es c) := by
  obtain ⟨_, _, hm, _, hl⟩ := h
  exact ⟨hl, hm.isMap⟩
theorem LP.giveTo {w : World} {lb : Nat} {s : Lard.LS} {L : Nat → Prop} {hb db : Nat} {vb vr vn vj : Value} (h : LP w lb s L hb db vb vr vn vj) {key : List UInt8} {th : Lard.Thing} {p : Nat} (hth : ThingAt w L th p) (hnew : ∀ x q, ThingAt w L x q → (∃ k, Lard.look s.has k = some x ∧ (Instr.lookup 104 (.map (some hb)) (str k) false).run Tryz.prog w = .ok (ptr q) w) → q ≠ p) (hk : key.length ≤ 8) (hlen : s.has.length ≤ 100) :
    ∃ w1, (Instr.mapUpdate 104 (.map (some hb)) (str key) (ptr p)).run Tryz.prog w = .ok () w1 ∧ LPost0 w lb L { s with has := Lard.put s.has key th } w1 ∧ Keeps w w1 ∧ (∀ (k : Nat) (cs : Array Value) (t : TypeId) (fz : Nat × Nat), w.heap[k]? = some (.cells cs t fz) → w1.heap[k]? = some (.cells cs t fz)) := by
  obtain ⟨hp, h1, h2, h3, h4, h5, h6⟩ := h.has
  have hkn : (hp.map (·.1)).Nodup := by have := h2.nodup; rw [List.map_map] at this; exact this
  have hlp : hp.length ≤ 100 := by have := congrArg List.length h1; rw [List.length_map] at this; omega
  obtain ⟨w1, hr, hm, hg, hsz⟩ := h2.put Tryz.underlying104 (k := key) (by unfold maxLen; omega) (by rw [List.length_map]; unfold maxLen; omega) (ptr p)
  have ht : Tm w w1 hb := ⟨hg, h2.isMap⟩
  have hfresh : ∀ x ∈ hp, x.2.2 ≠ p := fun x hx => by
    refine hnew x.2.1 x.2.2 (h4 x hx) ⟨x.1, ?_, ?_⟩
    · rw [h1, lk_thing, mem_look hkn (a := x.2) (by exact hx)]; rfl
    · have := h2.look1 Tryz.underlying104 (k := x.1) (by have := h5 x hx; unfold maxLen; omega) (z := .pointer none) (by kernel_rfl)
      rw [this, lk_ptr, mem_look hkn (a := x.2) (by exact hx)]
      rfl
  refine ⟨w1, hr, h.tm0 ht h6 (h.tm ht hm.isMap h6 ⟨Lard.put hp key (th, p), ?_, ?_, ?_, ?_, ?_, h6⟩ (h.done.tm ht (fun e => h.ne e.symm)) rfl rfl rfl rfl), fun k cs t fz hc _ => ht.cells hc, fun k cs t fz hc => ht.cells hc⟩
  · show Lard.put s.has key th = _
    rw [h1]
    exact (put_map (fun x : Lard.Thing × Nat => x.1) hp key (th, p)).symm
  · have := put_map (fun x : Lard.Thing × Nat => ptr x.2) hp key (th, p)
    rw [this]
    exact hm
  · exact nodup_put (fun x : List UInt8 × (Lard.Thing × Nat) => x.2.2) hkn h3 hfresh
  · intro x hx
    have hst : ∀ th q, ThingAt w L th q → ThingAt w1 L th q := fun th q hq => by
      obtain ⟨_, cs, hc⟩ := hq.block
      exact hq.st ((ht.cells hc).trans hc.symm) (fun k _ cs t fz hc _ => ht.cells hc) ht.stay
    rcases put_keys hx with hx | rfl
    · exact hst _ _ (h4 x hx)
    · exact hst _ _ hth
  · intro x hx
    rcases put_keys hx with hx | rfl
    · exact h5 x hx
    · exact hk
theorem LP.dropTo {w : World} {lb : Nat} {s : Lard.LS} {L : Nat → Prop} {hb db : Nat} {vb vr vn vj : Value} (h : LP w lb s L hb db vb vr vn vj) {key : List UInt8} (ty : TypeId) (hk : key.length ≤ maxLen) :
    ∃ w1, (Builtin.delete_ #[104, 9] ty #[.map (some hb), str key]).run Tryz.prog w = .ok (.tuple #[]) w1 ∧ LPost0 w lb L { s with has := Lard.del s.has key } w1 := by
  obtain ⟨hp, h1, h2, h3, h4, h5, h6⟩ := h.has
  obtain ⟨w1, hr, hm, hg, hsz⟩ := h2.del Tryz.underlying104 (k := key) (ty := ty) hk
  have ht : Tm w w1 hb := ⟨hg, h2.isMap⟩
  have hsub : ∀ x, x ∈ Lard.del hp key → x ∈ hp := fun x hx => (List.mem_filter.1 hx).1
  refine ⟨w1, hr, h.tm0 ht h6 (h.tm ht hm.isMap h6 ⟨Lard.del hp key, ?_, ?_, ?_, ?_, fun x hx => h5 x (hsub x hx), h6⟩ (h.done.tm ht (fun e => h.ne e.symm)) rfl rfl rfl rfl)⟩
  · show Lard.del s.has key = _
    rw [h1]
    exact (del_map (fun x : Lard.Thing × Nat => x.1) hp key).symm
  · have := del_map (fun x : Lard.Thing × Nat => ptr x.2) hp key
    rw [this]
    exact hm
  · exact ((List.filter_sublist).map _).nodup h3
  · intro x hx
    obtain ⟨_, cs, hc⟩ := (h4 x (hsub x hx)).block
    exact (h4 x (hsub x hx)).st ((ht.cells hc).trans hc.symm) (fun k _ cs t fz hc _ => ht.cells hc) ht.stay
theorem LP.doneTo {w : World} {lb : Nat} {s : Lard.LS} {L : Nat → Prop} {hb db : Nat} {vb vr vn vj : Value} (h : LP w lb s L hb db vb vr vn vj) {key : List UInt8} {r : Lard.Wo} {v : Value} (hv : IsW w r v) (hk : key.length ≤ maxLen) (hlen : s.done.length < maxLen) :
    ∃ w1, (Instr.mapUpdate 105 (.map (some db)) (str key) v).run Tryz.prog w = .ok () w1 ∧ LPost w lb L { s with done := Lard.put s.done key r } w1 ∧ (∀ (k : Nat) (cs : Array Value) (t : TypeId) (fz : Nat × Nat), w.heap[k]? = some (.cells cs t fz) → w1.heap[k]? = some (.cells cs t fz)) := by
  obtain ⟨dp, h1, h2, h3, h4⟩ := h.done
  have hlp : dp.length = s.done.length := by have := congrArg List.length h1; rw [List.length_map] at this; omega
  obtain ⟨w1, hr, hm, hg, hsz⟩ := h2.put Tryz.underlying105 (k := key) hk (by rw [List.length_map]; omega) v
  have ht : Tm w w1 db := ⟨hg, h2.isMap⟩
  refine ⟨w1, hr, h.tm1 ht h4 h.ne (h.tm ht hm.isMap h4 (h.has.tm ht h.ne) ⟨Lard.put dp key (r, v), ?_, ?_, ?_, h4⟩ rfl rfl rfl rfl), fun k cs t fz hc => ht.cells hc⟩
  · show Lard.put s.done key r = _
    rw [h1]
    exact (put_map (fun x : Lard.Wo × Value => x.1) dp key (r, v)).symm
  · have := put_map (fun x : Lard.Wo × Value => x.2) dp key (r, v)
    rw [this]
    exact hm
  · intro x hx
    rcases put_keys hx with hx | rfl
    · exact (h3 x hx).st ht.stay
    · exact hv.st ht.stay
theorem LP.clearTo {w : World} {lb : Nat} {s : Lard.LS} {L : Nat → Prop} {hb db : Nat} {vb vr vn vj : Value} (h : LP w lb s L hb db vb vr vn vj) (ty : TypeId) :
    ∃ w1, (Builtin.clear_ #[105] ty #[.map (some db)]).run Tryz.prog w = .ok (.tuple #[]) w1 ∧ LPost w lb L { s with done := [] } w1 ∧ (∀ (k : Nat) (cs : Array Value) (t : TypeId) (fz : Nat × Nat), w.heap[k]? = some (.cells cs t fz) → w1.heap[k]? = some (.cells cs t fz)) := by
  obtain ⟨dp, h1, h2, h3, h4⟩ := h.done
  obtain ⟨w1, hr, hm, hg, hsz⟩ := h2.clear Tryz.underlying105 (ty := ty)
  have ht : Tm w w1 db := ⟨hg, h2.isMap⟩
  exact ⟨w1, hr, h.tm1 ht h4 h.ne (h.tm ht hm.isMap h4 (h.has.tm ht h.ne) ⟨[], rfl, hm, fun x hx => by simp at hx, h4⟩ rfl rfl rfl rfl), fun k cs t fz hc => ht.cells hc⟩
theorem DoneAt.look {w : World} {L : Nat → Prop} {db : Nat} {done : List (List UInt8 × Lard.Wo)} (h : DoneAt w L db done) {key : List UInt8} (hk : key.length ≤ maxLen) :
    (Lard.look done key = none ∧ (Instr.lookup 105 (.map (some db)) (str key) true).run Tryz.prog w = .ok (.tuple #[.agg #[.int .i64 0, .nilIface], .bool false]) w) ∨
    ∃ r v, Lard.look done key = some r ∧ IsW w r v ∧ (Instr.lookup 105 (.map (some db)) (str key) true).run Tryz.prog w = .ok (.tuple #[v, .bool true]) w := by
  obtain ⟨dp, h1, h2, h3, h4⟩ := h
  have hl1 : Lard.look done key = (Lard.look dp key).map (fun x => x.1) := by
    rw [h1]; exact Lard.look_map (fun x : List UInt8 × (Lard.Wo × Value) => (x.1, x.2.1)) (fun _ x => x.1) (fun _ => rfl) dp key
  have hl2 : Lard.look (dp.map fun x => (x.1, x.2.2)) key = (Lard.look dp key).map (fun x => x.2) := Lard.look_map (fun x : List UInt8 × (Lard.Wo × Value) => (x.1, x.2.2)) (fun _ x => x.2) (fun _ => rfl) dp key
  have hr := h2.look Tryz.underlying105 (k := key) hk (z := .agg #[.int .i64 0, .nilIface]) (by kernel_rfl)
  rw [hl2] at hr
  cases hx : Lard.look dp key with
  | none =>
    rw [hx] at hl1 hr
    exact .inl ⟨hl1, hr⟩
  | some x =>
    rw [hx] at hl1 hr
    exact .inr ⟨x.1, x.2, hl1, h3 _ (Lard.look_mem hx), hr⟩
end Go.Proofs.YtpekpdimdelncaaGreatDoor
namespace Go.Proofs.YtpekpdimdelncaaGreatDoor
set_option maxRecDepth 100000
set_option maxHeartbeats 1000000
open Go.RowKit Go.Shelf
set_option linter.unusedVariables false
set_option linter.unusedSimpArgs false
theorem with1_any (w : World) (k key : ByteArray) (c : Int) (y : Value) (hy : y = .nilIface ∨ ∃ t a, y = .iface t a) (kb : Nat) (hkb : w.cell? ⟨kb, 0, none⟩ = some (.string key)) :
    Calls Tryz.prog 205 #[.agg #[.string k, .int .i64 c, y], .pointer (some ⟨kb, 0, none⟩)] w fun e w' => e = .returned (.bool (k.toList == key.toList)) ∧ Below w.heap.size w w' := by
  have hlt : kb < w.heap.size := by
    rcases Nat.lt_or_ge kb w.heap.size with h | h
    · exact h
    · simp [World.cell?, Array.getElem?_eq_none h] at hkb
  have hc : ∀ o, (w.alloc o).cell? ⟨kb, 0, none⟩ = some (.string key) := fun o => (World.cell?_of_block (Below.heap_alloc w o kb hlt)).trans hkb
  rcases hy with rfl | ⟨t, a, rfl⟩
  all_goals
    go_enter Tryz.func205, Tryz.ntmps205
    go_wp2_with fail
    go_ret
    exact ⟨rfl, (Below.refl _ _).alloc (Nat.le_refl _) _⟩
theorem toList_eq (a b : ByteArray) : (a.toList == b.toList) = (a.data.toList == b.data.toList) := by rw [Lib.toList_data, Lib.toList_data]
theorem look_drop_hit {α : Type} : ∀ {l : List (List UInt8 × α)} {k : Nat} {n : List UInt8 × α}, l[k]? = some n → (Lard.look l n.1).isSome = true
  | [], _, _, h => by simp at h
  | p :: l, 0, n, h => by
    simp at h
    subst h
    rw [Lard.look_cons, if_pos rfl]
    rfl
  | p :: l, k + 1, n, h => by
    simp at h
    rw [Lard.look_cons]
    split
    · rfl
    · exact look_drop_hit h
theorem indexFunc_any (w : World) (ns : List (List UInt8 × Lard.Wo)) (sl : Value) (key : ByteArray) (kb : Nat) (h : NeedsAt w ns sl) (hn : ns.length ≤ 1000) (hkb : w.cell? ⟨kb, 0, none⟩ = some (.string key)) :
    Calls Tryz.prog 252 #[sl, .func (.func 205) #[] #[.pointer (some ⟨kb, 0, none⟩)]] w fun e w' => (∃ j : Int, e = .returned (.int .i64 j) ∧ decide (0 ≤ j) = (Lard.look ns key.data.toList).isSome) ∧ Below w.heap.size w w' := by
  obtain ⟨o, cp, rfl, hcell⟩ := h.cell
  have hlt : kb < w.heap.size := by
    rcases Nat.lt_or_ge kb w.heap.size with h | h
    · exact h
    · simp [World.cell?, Array.getElem?_eq_none h] at hkb
  have HCELL := hide hcell
  clear hcell h
  go_enter Tryz.func252, Tryz.ntmps252
  go_wp2_with fail
  go_loopw [8] (fun i wr => ∃ k : Nat, k ≤ ns.length ∧ i = .int .i64 k ∧ (∀ j, j < k → ∀ n, ns[j]? = some n → n.1 ≠ key.data.toList) ∧ Below w.heap.size w wr) (fun i _ => ns.length - (intOf i).toNat)
  case atStart => exact ⟨0, Nat.zero_le _, rfl, fun j hj => by omega, Below.refl _ _⟩
  case round =>
    obtain ⟨k, hk, rfl, hno, hB⟩ := hrel
    by_cases hlt' : k < ns.length
    · obtain ⟨nd, hnd⟩ : ∃ nd, ns[k]? = some nd := ⟨_, List.getElem?_eq_getElem hlt'⟩
      obtain ⟨g0, x0, y0, rfl, hg0, hn200, e0, e1, e2, hWn⟩ := HCELL.out k nd hnd
      have f0 : wr.cell? ⟨g0, k * 3, none⟩ = some (str nd.1) := (hB.cell (p := ⟨g0, k * 3, none⟩) hg0).trans e0
      have f1 : wr.cell? ⟨g0, k * 3 + 1, none⟩ = some x0 := (hB.cell (p := ⟨g0, k * 3 + 1, none⟩) hg0).trans e1
      have f2 : wr.cell? ⟨g0, k * 3 + 2, none⟩ = some y0 := (hB.cell (p := ⟨g0, k * 3 + 2, none⟩) hg0).trans e2
      have fk : wr.cell? ⟨kb, 0, none⟩ = some (.string key) := (hB.cell (p := ⟨kb, 0, none⟩) hlt).trans hkb
      obtain ⟨cn, yn, hen, hyn⟩ := hWn.form
      cases hen
      unfold str at f0
      have HW1 := hide (with1_any wr ⟨nd.1.toArray⟩ key cn y0 hyn kb fk)
      have htl := toList_eq ⟨nd.1.toArray⟩ key
      rw [data_mk] at htl
      have HND := hide hnd
      have HNO := hide hno
      clear e0 e1 e2 hWn hnd hno fk hkb
      rcases hyn with rfl | ⟨tn, an, rfl⟩
      all_goals
        by_cases hhit : nd.1 = key.data.toList
        · have hb : ((⟨nd.1.toArray⟩ : ByteArray).toList == key.toList) = true := by rw [htl]; simp [hhit]
          rw [hb] at HW1
          have HH := hide hhit
          clear htl hb hhit
          go_wp2_with fail
          refine HW1.out.mono ?_
          rintro e w3 ⟨rfl, hB3⟩
          clear HW1
          go_wp2_with fail
          go_ret
          refine ⟨⟨(k : Int), rfl, ?_⟩, hB.trans (hB3.mono hB.size)⟩
          rw [← HH.out, look_drop_hit HND.out]
          simp
        · have hb : ((⟨nd.1.toArray⟩ : ByteArray).toList == key.toList) = false := by rw [htl]; simpa using hhit
          rw [hb] at HW1
          have HH := hide hhit
          clear htl hb hhit
          go_wp2_with fail
          refine HW1.out.mono ?_
          rintro e w3 ⟨rfl, hB3⟩
          clear HW1
          go_wp2_with fail
          refine ⟨⟨_, _, _, _, _, _, _, _, _, _, _, _, _, ?_, rfl⟩, ?_⟩
          · refine ⟨k + 1, by omega, by go_num, fun j hj n hjn => ?_, hB.trans (hB3.mono hB.size)⟩
            rcases (by omega : j < k ∨ j = k) with hj | rfl
            · exact HNO.out j hj n hjn
            · rw [HND.out] at hjn; cases hjn; exact HH.out
          · simp [intOf]; omega
    · have hnone : Lard.look ns key.data.toList = none := Lard.look_none.2 (fun p hp e => by
        obtain ⟨j, hj⟩ := List.getElem?_of_mem hp
        have := (List.getElem?_eq_some_iff.1 hj).1
        exact hno j (by omega) p hj e)
      have HN := hide hnone
      clear hno hnone HCELL
      go_wp2_with fail
      go_ret
      refine ⟨⟨-1, rfl, ?_⟩, hB⟩
      rw [HN.out]
      rfl
theorem containsFunc_any (w : World) (ns : List (List UInt8 × Lard.Wo)) (sl : Value) (key : ByteArray) (kb : Nat) (h : NeedsAt w ns sl) (hn : ns.length ≤ 1000) (hkb : w.cell? ⟨kb, 0, none⟩ = some (.string key)) :
    Calls Tryz.prog 204 #[sl, .func (.func 205) #[] #[.pointer (some ⟨kb, 0, none⟩)]] w fun e w' => e = .returned (.bool (Lard.look ns key.data.toList).isSome) ∧ Below w.heap.size w w' := by
  obtain ⟨o, cp, rfl, _⟩ := h.cell
  have HC := hide (indexFunc_any w ns _ key kb h hn hkb)
  clear h hkb
  generalize (Lard.look ns key.data.toList).isSome = b at HC
  go_enter Tryz.func204, Tryz.ntmps204
  go_wp2_with fail
  refine HC.out.mono ?_
  rintro e w1 ⟨⟨j, rfl, hj⟩, hB⟩
  clear HC
  subst hj
  go_wp2_with fail
  go_ret
  exact ⟨rfl, hB⟩
end Go.Proofs.YtpekpdimdelncaaGreatDoor
namespace Go.Proofs.YtpekpdimdelncaaGreatDoor
namespace Lard
set_option linter.unusedVariables false
def strip (h : List (By × Thing)) : List (By × Thing) := h.map fun p => (p.1, { p.2 with kept := none })
def ruled (h : List (By × Thing)) : List By := (h.filter fun p => p.2.tree.isSome).map (·.1)
theorem ruled_strip (h : List (By × Thing)) : ruled (strip h) = ruled h := by
  unfold ruled strip
  rw [List.filter_map, List.map_map]
  rfl
theorem look_strip (h : List (By × Thing)) (k : By) : look (strip h) k = (look h k).map fun th => { th with kept := none } :=
  look_map (fun p : By × Thing => (p.1, ({ p.2 with kept := none } : Thing))) (fun _ (th : Thing) => ({ th with kept := none } : Thing)) (fun _ => rfl) h k
theorem strip_setKept (h : List (By × Thing)) (k : By) (o : Option Keep) : strip (setKept h k o) = strip h := by
  unfold strip setKept
  rw [List.map_map]
  refine List.map_congr_left (fun p _ => ?_)
  simp only [Function.comp_def]
  split <;> rfl
theorem look_mem' {α : Type} : ∀ {l : List (By × α)} {k : By} {a : α}, look l k = some a → (k, a) ∈ l
  | [], _, _, h => by cases h
  | p :: l, k, a, h => by
    rw [look_cons] at h
    by_cases hp : p.1 = k
    · rw [if_pos hp] at h; cases h; subst hp; exact List.mem_cons_self
    · rw [if_neg hp] at h; exact List.mem_cons_of_mem _ (look_mem' h)
theorem mem_ruled {h : List (By × Thing)} {k : By} {th : Thing} (hl : look h k = some th) (ht : th.tree.isSome = true) : k ∈ ruled h :=
  List.mem_map.2 ⟨(k, th), List.mem_filter.2 ⟨look_mem' hl, ht⟩, rfl⟩
def Rs (s : LS) : Nat := ((ruled s.has).filter fun k => (look s.done k).isNone).length
def KB (h : List (By × Thing)) : Prop := ∀ p ∈ h, ∀ kp, p.2.kept = some kp → kp.needs.length ≤ 401
structure Nst (s s' : LS) (c : Nat) : Prop where
  strip : strip s'.has = strip s.has
  kb : KB s.has → KB s'.has
  begun : s'.begun = s.begun
  mono : ∀ k, (look s.done k).isSome = true → (look s'.done k).isSome = true
  dn : ∀ k ∈ s.begun, look s'.done k = look s.done k
  psi : s'.done.length + 1000 * Rs s' ≤ s.done.length + 1000 * Rs s + c
  ran : s'.ran.length + Rs s' ≤ s.ran.length + Rs s
theorem Nst.refl (s : LS) (c : Nat) : Nst s s c := ⟨rfl, id, rfl, fun _ h => h, fun _ _ => rfl, by omega, by omega⟩
theorem Nst.trans {s s1 s2 : LS} {c d : Nat} (h : Nst s s1 c) (h' : Nst s1 s2 d) : Nst s s2 (c + d) :=
  ⟨h'.strip.trans h.strip, fun k => h'.kb (h.kb k), h'.begun.trans h.begun, fun k hk => h'.mono k (h.mono k hk), fun k hk => (h'.dn k (h.begun ▸ hk)).trans (h.dn k hk), by have := h.psi; have := h'.psi; omega, by have := h.ran; have := h'.ran; omega⟩
theorem Nst.le {s s1 : LS} {c d : Nat} (h : Nst s s1 c) (hd : c ≤ d) : Nst s s1 d := { h with psi := by have := h.psi; omega }
theorem Nst.ruled {s s1 : LS} {c : Nat} (h : Nst s s1 c) : ruled s1.has = ruled s.has := by rw [← ruled_strip, h.strip, ruled_strip]
theorem rs_same {s s' : LS} (h1 : strip s'.has = strip s.has) (h2 : s'.done = s.done) : Rs s' = Rs s := by
  unfold Rs
  rw [← ruled_strip s'.has, h1, ruled_strip, h2]
theorem rs_put (s : LS) (k : By) (w : Wo) : Rs { s with done := put s.done k w } ≤ Rs s := by
  unfold Rs
  have h2 : ((ruled s.has).filter fun x => (look (put s.done k w) x).isNone) = ((ruled s.has).filter fun x => (look s.done x).isNone).filter fun x => !(x == k) := by
    rw [List.filter_filter]
    apply List.filter_congr
    intro x _
    rw [look_put]
    by_cases hx : k = x
    · subst hx; simp
    · have : ¬ x = k := fun e => hx e.symm
      simp [hx, this]
  show (List.filter (fun x => (look (put s.done k w) x).isNone) (ruled s.has)).length ≤ _
  rw [h2]
  exact List.length_filter_le _ _
theorem rs_put_lt (s : LS) (k : By) (w : Wo) (hk : k ∈ ruled s.has) (hn : look s.done k = none) : Rs { s with done := put s.done k w } + 1 ≤ Rs s := by
  unfold Rs
  have h2 : ((ruled s.has).filter fun x => (look (put s.done k w) x).isNone) = ((ruled s.has).filter fun x => (look s.done x).isNone).filter fun x => !(x == k) := by
    rw [List.filter_filter]
    apply List.filter_congr
    intro x _
    rw [look_put]
    by_cases hx : k = x
    · subst hx; simp
    · have : ¬ x = k := fun e => hx e.symm
      simp [hx, this]
  show (List.filter (fun x => (look (put s.done k w) x).isNone) (ruled s.has)).length + 1 ≤ _
  rw [h2]
  apply List.length_filter_lt_length_iff_exists.2
  exact ⟨k, List.mem_filter.2 ⟨hk, by rw [hn]; rfl⟩, by simp⟩
theorem put_len {α : Type} (l : List (By × α)) (k : By) (a : α) : (put l k a).length ≤ l.length + 1 := by
  unfold put
  split <;> simp
theorem kb_setKept {h : List (By × Thing)} {k : By} {o : Option Keep} (hk : KB h) (ho : ∀ kp, o = some kp → kp.needs.length ≤ 401) : KB (setKept h k o) := by
  intro p hp kp hkp
  obtain ⟨q, hq, rfl⟩ := List.mem_map.1 hp
  by_cases h1 : q.1 = k
  · rw [if_pos (by simp [h1])] at hkp
    exact ho kp hkp
  · rw [if_neg (by simp [h1])] at hkp
    exact hk q hq kp hkp
section
variable {Br : By → LS → Wo × LS}
theorem due_nst (hB : ∀ k s, KB s.has → Nst s (Br k s).2 1) (key : By) : ∀ (l : List (By × Wo)) (s : LS), KB s.has → Nst s (dueL Br key l s).2 l.length
  | [], s, _ => Nst.refl s 0
  | (k, w) :: r, s, hkb => by
    unfold dueL
    split
    · exact ((hB k s hkb).trans (due_nst hB key r _ ((hB k s hkb).kb hkb))).le (by simp; omega)
    · exact (hB k s hkb).le (by simp)
theorem withNeed_len (ns : List (By × Wo)) (k : By) (w : Wo) : (withNeed ns k w).length ≤ ns.length + 1 := by
  unfold withNeed
  split <;> simp
theorem run_nst (hB : ∀ k s, KB s.has → Nst s (Br k s).2 1) : ∀ (p : Pe V) (f : Nat) (s : LS) (ns : List (By × Wo)), KB s.has → Sp p f → Nst s (p.worth.run (needL Br) (s, ns)).2.1 f ∧ (p.worth.run (needL Br) (s, ns)).2.2.length ≤ ns.length + f
  | ⟨.inl q⟩, f, s, ns, _, h => ⟨Nst.refl s f, by show ns.length ≤ _; omega⟩
  | ⟨.inr (k, c)⟩, f, s, ns, hkb, h => by
    obtain ⟨h1, h2⟩ := run_nst hB (c (Br k s).1) (f - 1) (Br k s).2 (withNeed ns k (Br k s).1) ((hB k s hkb).kb hkb) (h.2 _)
    have hl := withNeed_len ns k (Br k s).1
    have h3 := h.1
    refine ⟨((hB k s hkb).trans h1).le (by omega), ?_⟩
    show ((c (Br k s).1).worth.run (needL Br) ((Br k s).2, withNeed ns k (Br k s).1)).2.2.length ≤ _
    omega
structure Own (s s' : LS) : Prop where
  strip : strip s'.has = strip s.has
  kb : KB s.has → KB s'.has
  begun : s'.begun = s.begun
  mono : ∀ k, (look s.done k).isSome = true → (look s'.done k).isSome = true
  dn : ∀ k ∈ s.begun, look s'.done k = look s.done k
  psi : s'.done.length + 1000 * Rs s' ≤ s.done.length + 1000 * Rs s + 801
  ran : s'.ran.length + Rs s' ≤ s.ran.length + Rs s + 1
theorem own_run (hB : ∀ k s, KB s.has → Nst s (Br k s).2 1) (key : By) (t : T) (y : Why) (s s0 : LS) (hkb : KB s.has) (h0 : Nst s0 s 401) : Own s0 (runL Br key t y s).2 := by
  unfold runL
  obtain ⟨h1, h2⟩ := run_nst hB (tr (hM t) t none 400) 400 { s with ran := s.ran ++ [y] } [] hkb (sp_tr _ _ _ _)
  have hp : prog t = (tr (hM t) t none 400).worth := rfl
  rw [← hp] at h1 h2
  generalize (prog t).run (needL Br) ({ s with ran := s.ran ++ [y] }, []) = q at h1 h2
  obtain ⟨r, s4, ns⟩ := q
  simp only at h1 h2
  have hsame : Rs { s with ran := s.ran ++ [y] } = Rs s := rs_same rfl rfl
  -- whatever is kept
  have fin : ∀ s5 : LS, Lard.strip s5.has = Lard.strip s4.has → s5.done = s4.done → s5.begun = s4.begun → s5.ran = s4.ran → (KB s4.has → KB s5.has) → Own s0 s5 := by
    intro s5 e1 e2 e3 e4 e5
    have hr5 : Rs s5 = Rs s4 := rs_same e1 e2
    exact {
      strip := e1.trans (h1.strip.trans h0.strip)
      kb := fun k => e5 (h1.kb (h0.kb k))
      begun := e3.trans (h1.begun.trans h0.begun)
      mono := fun k hk => by rw [e2]; exact h1.mono k (h0.mono k hk)
      dn := fun k hk => by rw [e2]; exact (h1.dn k (by show k ∈ s.begun; rw [h0.begun]; exact hk)).trans (h0.dn k hk)
      psi := by
        rw [e2, hr5]
        have a := h1.psi
        have b := h0.psi
        rw [hsame] at a
        have a : s4.done.length + 1000 * Rs s4 ≤ s.done.length + 1000 * Rs s + 400 := a
        omega
      ran := by
        rw [e4, hr5]
        have a := h1.ran
        have b := h0.ran
        rw [hsame] at a
        have a : s4.ran.length + Rs s4 ≤ (s.ran ++ [y]).length + Rs s := a
        rw [List.length_append] at a
        simp only [List.length_cons, List.length_nil] at a
        omega }
  unfold ranL
  simp only
  split
  · split
    · exact fin _ (strip_setKept _ _ _) rfl rfl rfl (fun h => kb_setKept h (fun _ e => by cases e))
    · exact fin _ rfl rfl rfl rfl id
  · exact fin _ (strip_setKept _ _ _) rfl rfl rfl (fun h => kb_setKept h (fun kp e => by cases e; show ns.length ≤ 401; simp at h2; omega))
end
theorem bringW_nst {Wk : By → LS → Wo × LS} (hW : ∀ key s, KB s.has → (look s.has key = none → (Wk key s).2 = s) ∧ (∀ th, look s.has key = some th → (th.tree = none ∧ (Wk key s).2 = s) ∨ (th.tree.isSome = true ∧ Own s (Wk key s).2))) (key : By) (s : LS) (hkb : KB s.has) : Nst s (bringW Wk key s).2 1 := by
  unfold bringW
  cases hd : look s.done key with
  | some w => exact Nst.refl s 1
  | none =>
    simp only
    by_cases hb : s.begun.contains key = true
    · rw [if_pos hb]
      simp only
      unfold LS.meet
      split
      · exact ⟨rfl, id, rfl, fun _ h => h, fun _ _ => rfl, by show _ ≤ _; have : Rs { s with ring := fromKey s.begun key } = Rs s := rs_same rfl rfl; rw [this]; simp, by have : Rs { s with ring := fromKey s.begun key } = Rs s := rs_same rfl rfl; rw [this]; simp⟩
      · exact Nst.refl s 1
    · rw [if_neg hb]
      have hnb : key ∉ s.begun := by simpa using hb
      simp only
      -- nothing but the key itself is noted
      have leaf : ∀ r, Nst s { s with begun := (s.begun ++ [key]).dropLast, done := put s.done key r } 1 := by
        intro r
        have hr : Rs { s with begun := (s.begun ++ [key]).dropLast, done := put s.done key r } ≤ Rs s := rs_put s key r
        have hl := put_len s.done key r
        refine ⟨rfl, id, by simp, fun k hk => ?_, fun k hk => ?_, by show (put s.done key r).length + _ ≤ _; omega, by show s.ran.length + _ ≤ _; omega⟩
        · show (look (put s.done key r) k).isSome = true
          rw [look_put]
          split
          · rfl
          · exact hk
        · show look (put s.done key r) k = _
          rw [look_put, if_neg (fun (e : key = k) => hnb (e ▸ hk))]
      obtain ⟨h1, h2⟩ := hW key { s with begun := s.begun ++ [key] } hkb
      cases hl : look s.has key with
      | none =>
        rw [h1 hl]
        exact leaf _
      | some th =>
        rcases h2 th hl with ⟨_, h3⟩ | ⟨ht, h3⟩
        · rw [h3]; exact leaf _
        · generalize Wk key { s with begun := s.begun ++ [key] } = q at h3
          obtain ⟨r, s4⟩ := q
          simp only at h3 ⊢
          have hk4 : look s4.done key = none := (h3.dn key (by show key ∈ s.begun ++ [key]; simp)).trans hd
          have hrul : key ∈ ruled s4.has := by
            rw [← ruled_strip, h3.strip, ruled_strip]
            exact mem_ruled hl ht
          have hs0 : Rs { s with begun := s.begun ++ [key] } = Rs s := rs_same rfl rfl
          have hr : Rs { s4 with begun := s4.begun.dropLast, done := put s4.done key r } + 1 ≤ Rs s4 := rs_put_lt s4 key r hrul hk4
          have hlen := put_len s4.done key r
          have hps := h3.psi
          have hra := h3.ran
          rw [hs0] at hps hra
          have hps : s4.done.length + 1000 * Rs s4 ≤ s.done.length + 1000 * Rs s + 801 := hps
          have hra : s4.ran.length + Rs s4 ≤ s.ran.length + Rs s + 1 := hra
          refine ⟨h3.strip, h3.kb, ?_, fun k hk => ?_, fun k hk => ?_, by show (put s4.done key r).length + _ ≤ _; omega, by show s4.ran.length + _ ≤ _; omega⟩
          · show s4.begun.dropLast = _
            rw [h3.begun]
            simp
          · show (look (put s4.done key r) k).isSome = true
            rw [look_put]
            split
            · rfl
            · exact h3.mono k hk
          · show look (put s4.done key r) k = _
            rw [look_put, if_neg (fun (e : key = k) => hnb (e ▸ hk))]
            exact h3.dn k (by show k ∈ s.begun ++ [key]; exact List.mem_append_left _ hk)
theorem bring_nst : ∀ (n : Nat) (key : By) (s : LS), KB s.has → Nst s (bring n key s).2 1
  | 0, key, s, hkb => by
    refine bringW_nst (fun key s hk => ⟨fun _ => rfl, fun th hl => ?_⟩) key s hkb
    cases ht : th.tree with
    | none => exact .inl ⟨rfl, rfl⟩
    | some t => exact .inr ⟨rfl, rfl, id, rfl, fun _ h => h, fun _ _ => rfl, by show s.done.length + 1000 * Rs s ≤ _; omega, by show s.ran.length + Rs s ≤ _; omega⟩
  | n + 1, key, s, hkb => by
    refine bringW_nst (fun key s hk => ⟨fun hl => ?_, fun th hl => ?_⟩) key s hkb
    · unfold workL; rw [hl]
    · have hw : (workL (bring n) key s) = match th.tree with | .none => (.ok th.value, s) | .some t => ruleL (bring n) key t th.kept s := by unfold workL; rw [hl]; rfl
      rw [hw]
      cases ht : th.tree with
      | none =>
        exact .inl ⟨rfl, rfl⟩
      | some t =>
        refine .inr ⟨rfl, ?_⟩
        show Own s (ruleL (bring n) key t th.kept s).2
        have hB : ∀ k s, KB s.has → Nst s (bring n k s).2 1 := fun k s hk => bring_nst n k s hk
        cases hkp : th.kept with
        | none => exact own_run hB key t ⟨key, [], .error 0, .error 0⟩ s s hk (Nst.refl s 401)
        | some kp =>
          have h401 : kp.needs.length ≤ 401 := hk _ (look_mem' hl) kp hkp
          have hd := due_nst hB key kp.needs s hk
          show Own s (ruleL (bring n) key t (some kp) s).2
          have hdue : ruleL (bring n) key t (some kp) s = match dueL (bring n) key kp.needs s with | (.none, s) => (kp.worth, s) | (.some y, s) => runL (bring n) key t y s := rfl
          rw [hdue]
          generalize dueL (bring n) key kp.needs s = q at hd
          obtain ⟨o, s2⟩ := q
          simp only at hd
          cases o with
          | none => exact ⟨hd.strip, hd.kb, hd.begun, hd.mono, hd.dn, by have := hd.psi; show s2.done.length + 1000 * Rs s2 ≤ _; omega, by have := hd.ran; show s2.ran.length + Rs s2 ≤ _; omega⟩
          | some y => exact own_run hB key t y s2 s (hd.kb hk) (hd.le h401)
end Lard
end Go.Proofs.YtpekpdimdelncaaGreatDoor
