/- Out of: L35, K1, Rk, Rk2. -/
import Derived.Test.YtpekpdimdelncaaGreatDoorP33
import Derived.Test.YtpekpdimdelncaaGreatDoorP34
import Derived.Test.YtpekpdimdelncaaGreatDoorP38
import Derived.Test.YtpekpdimdelncaaGreatDoorP32
import Derived.Test.YtpekpdimdelncaaGreatDoorP29
namespace Go.Proofs.YtpekpdimdelncaaGreatDoor
set_option maxRecDepth 100000
set_option maxHeartbeats 1000000
open Go.RowKit Go.Shelf
set_option linter.unusedVariables false
set_option linter.unusedSimpArgs false
def Lard.LS.putC (s : Lard.LS) (key text : List UInt8) : Nat × Lard.LS :=
  if Lard.isName key = false then (1, s) else match Lard.rdV text with
    | none => (6, s)
    | some v => s.give key ⟨v, none, [], none⟩
theorem LPost0.new {w w1 w' : World} {lb p : Nat} {s : Lard.LS} {L : Nat → Prop} (hB : Below w.heap.size w w1) (hp : w.heap.size ≤ p) (h : LPost0 w1 lb (fun k => L k ∨ k = p) s w') : LPost0 w lb L s w' := by
  obtain ⟨L', h1, h2, h3, h4⟩ := h
  refine ⟨L', h1, fun k hk => ?_, fun k hk => h3 k (.inl hk), ⟨h4.os.trans hB.os, h4.tape.trans hB.tape, h4.output.trans hB.output, Nat.le_trans hB.size h4.size, fun k hk hn => ?_⟩⟩
  · rcases h2 k hk with (h | rfl) | h
    · exact .inl h
    · exact .inr hp
    · have := hB.size
      exact .inr (by omega)
  · have := hB.size
    exact (h4.block k (by omega) (fun e => by rcases e with e | e; exact hn e; omega)).trans (hB.block k hk)
theorem LPost0.below {w w' : World} {lb : Nat} {s : Lard.LS} {L : Nat → Prop} (h : LAt w lb s L) (hB : Below w.heap.size w w') : LPost0 w lb L s w' := (LPost.below h hB).weak
theorem name_len {k : List UInt8} (h : Lard.isName k = true) : k.length ≤ 8 := by
  unfold Lard.isName at h
  simp only [Bool.and_eq_true, beq_iff_eq] at h
  obtain ⟨h1, h2⟩ := h
  cases k with
  | nil => cases h1
  | cons c r =>
    rw [Lard.tok_cons (c :: r) c r rfl] at h1 h2
    split at h1
    · split at h1 <;> cases h1
    · rename_i hd
      rw [if_neg hd] at h2
      split at h1
      · rename_i hl
        rw [if_pos hl] at h2
        split at h1
        · cases h1
        · rename_i ht
          rw [if_neg ht] at h2
          split at h1
          · cases h1
          · rename_i h8
            rw [if_neg h8] at h2
            have h2 : Lard.lead Lard.isAl (c :: r) = (c :: r).length := h2
            omega
      · rename_i hl
        split at h1
        · cases hw : Lard.wordOf (c :: r) with
          | none => rw [hw] at h1; cases h1
          | some n => rw [hw] at h1; cases h1
        · split at h1 <;> cases h1
theorem put_any (w : World) (lb : Nat) (key text : ByteArray) (s : Lard.LS) (L : Nat → Prop) (h : LAt w lb s L) (g : G w) (hd : Deb w) (hk : key.size ≤ 281474976710656) (ht : text.size ≤ 281474976710656) (hlen : s.has.length ≤ 40) (hj : (jbytes s.jr).length ≤ 70368744177664) :
    Calls Tryz.prog 23 #[ptr lb, .string key, .string text] w fun e w' => e = .returned (.int .i64 ((s.putC key.data.toList text.data.toList).1 : Nat)) ∧ LPost0 w lb L (s.putC key.data.toList text.data.toList).2 w' := by
  have hN := isName_any key w g hk
  cases hn : Lard.isName key.data.toList with
  | false =>
    have e : s.putC key.data.toList text.data.toList = (1, s) := by unfold Lard.LS.putC; rw [if_pos hn]
    rw [e]
    rw [hn] at hN
    have HN := hide hN
    have HL := hide h
    clear hN e hn h
    unfold ptr
    go_enter Tryz.func23, Tryz.ntmps23
    go_wp2_with fail
    refine HN.out.mono ?_
    rintro e w1 ⟨rfl, hB⟩
    go_wp2_with fail
    exact bodyPost_ret (v := .int .i64 1) (by simp [results, Tryz.results23, go_sem]) rfl ⟨rfl, LPost0.below HL.out hB⟩
  | true =>
    rw [hn] at hN
    have hk8 : key.size ≤ 8 := by rw [size_data]; exact name_len hn
    have e0 : s.putC key.data.toList text.data.toList = match Lard.rdV text.data.toList with | none => (6, s) | some v => s.give key.data.toList ⟨v, none, [], none⟩ := by
      unfold Lard.LS.putC
      rw [if_neg (by rw [hn]; exact fun e => by cases e)]
    rw [e0]
    generalize hRR : (fun (e : Ending) (w' : World) => e = .returned (.int .i64 (((match Lard.rdV text.data.toList with | none => (6, s) | some v => s.give key.data.toList ⟨v, none, [], none⟩) : Nat × Lard.LS).1 : Nat)) ∧ LPost0 w lb L ((match Lard.rdV text.data.toList with | none => (6, s) | some v => s.give key.data.toList ⟨v, none, [], none⟩) : Nat × Lard.LS).2 w') = RR
    have HR6 : Hid (Lard.rdV text.data.toList = none → ∀ w', LPost0 w lb L s w' → RR (.returned (.int .i64 6)) w') := hide (fun hv w' hP => by
      rw [← hRR, hv]
      exact ⟨rfl, hP⟩)
    have HRV : Hid (∀ v, Lard.rdV text.data.toList = some v → ∀ w', LPost0 w lb L (s.give key.data.toList ⟨v, none, [], none⟩).2 w' → RR (.returned (.int .i64 ((s.give key.data.toList ⟨v, none, [], none⟩).1 : Nat))) w') := hide (fun v hv w' hP => by
      rw [← hRR, hv]
      exact ⟨rfl, hP⟩)
    clear hRR
    have hR := fun (w1 : World) (hB : Below w.heap.size w w1) => read_any text w1 (g.below hB g.size) ht
    have HN := hide hN
    have HR := hide hR
    have HL := hide (And.intro h (And.intro g hd))
    clear hN hR e0 hn h g hd
    unfold ptr
    go_enter Tryz.func23, Tryz.ntmps23
    go_wp2_with fail
    refine HN.out.mono ?_
    rintro e w1 ⟨rfl, hB1⟩
    have HR1 := hide (HR.out w1 hB1)
    clear HR HN
    go_wp2_with fail
    refine HR1.out.mono ?_
    rintro e w2 ⟨hB2, ⟨v, tv, av, hv, rfl, hval⟩ | ⟨hv, rfl⟩⟩
    · have hB12 := hB1.trans (hB2.mono hB1.size)
      have hB3 : Below w.heap.size w (w2.alloc (.cells #[.iface tv av, .pointer none, .string ⟨#[]⟩, .pointer none] 124)) := hB12.alloc hB12.size _
      obtain ⟨h, g, hd⟩ := HL.out
      have hA3 : LAt (w2.alloc (.cells #[.iface tv av, .pointer none, .string ⟨#[]⟩, .pointer none] 124)) lb s L := h.st (fun k hk => hB3.block k (h.typed k hk).2.1) (Stay.below hB3)
      have hnew := heap_alloc_new w2 (.cells #[.iface tv av, .pointer none, .string ⟨#[]⟩, .pointer none] 124)
      have hsz := hB12.size
      have hv3 := hval.keeps (Keeps.below ((Below.refl _ w2).alloc (Nat.le_refl _) (.cells #[.iface tv av, .pointer none, .string ⟨#[]⟩, .pointer none] 124)))
      have hG := give_any _ lb w2.heap.size key s L ⟨v, none, [], none⟩ hA3 (g.below hB3 g.size) (hd.below hB3 g.size) hk8 (fun hl => by have := (h.typed _ hl).2.1; omega) (Nat.le_trans g.size hsz) ⟨_, _, _, hnew, .inr rfl, by simp, .inl ⟨rfl, rfl, hv3, rfl⟩, .inl ⟨rfl, rfl⟩⟩ hlen hj
      unfold ptr at hG
      have HG := hide hG
      clear hG hv3 hA3 h g hd HR1 hval hnew
      go_wp2_with fail
      refine HG.out.mono ?_
      rintro e w4 ⟨rfl, hP⟩
      have HP := hide (HRV.out v hv _ (LPost0.new hB3 hsz hP))
      clear hP HG HR6 HRV
      go_wp2_with fail
      exact HP.out
    · have HP := hide (HR6.out hv _ (LPost0.below HL.out.1 (hB1.trans (hB2.mono hB1.size))))
      clear HL HR1 HR6 HRV
      go_wp2_with fail
      exact HP.out
/-! Rules. -/
theorem IsTree.lower {w : World} : ∀ (m n : Nat) (b : Bool) (t : Lard.T) (x : Value), Lard.okT m b t = true → IsTree w n t x → IsTree w m t x
  | 0, n, b, t, x, h, _ => by unfold Lard.okT at h; cases h
  | m + 1, 0, b, t, x, _, h => h.elim
  | m + 1, n + 1, b, t, x, h, ⟨b', i, s, qs, fz, h1, h2, h3, h4, h5, h6⟩ => by
    obtain ⟨_, _, k3, k4, k5⟩ := Lard.okT_parts h
    refine ⟨b', i, s, qs, fz, h1, h2, h3, h4, h5, fun j u q hu hq => ?_⟩
    have hx := h6 j u q hu hq
    by_cases hk : t.kind = 15 ∨ t.kind = 16
    · have hl : t.parts.length = 2 := by
        rcases k3 with k3 | k3
        · omega
        · rw [k3]; rcases hk with hk | hk <;> rw [hk] <;> rfl
      obtain ⟨a0, a1⟩ := k4 hk
      have hj := (List.getElem?_eq_some_iff.1 hu).1
      have hj2 : j = 0 ∨ j = 1 := by omega
      rcases hj2 with rfl | rfl
      · have : t.part 0 = u := by unfold Lard.T.part; rw [hu]; rfl
        rw [this] at a0
        exact IsTree.lower m n b u q a0 hx
      · have : t.part 1 = u := by unfold Lard.T.part; rw [hu]; rfl
        rw [this] at a1
        exact IsTree.lower m n true u q a1 hx
    · exact IsTree.lower m n b u q (k5 hk u (List.mem_of_getElem? hu)) hx
theorem hT_mono {n m : Nat} (h : n ≤ m) : Lard.hT n ≤ Lard.hT m := by
  induction h with
  | refl => exact Nat.le_refl _
  | step _ ih => exact Nat.le_trans ih (by show _ ≤ Lard.hT _ + _ + 2; omega)
theorem ruleT_ok {l : List UInt8} {t : Lard.T} (h : Lard.ruleT l = some t) : l.length ≤ 200 ∧ t = Lard.treeOf l ∧ Lard.okT (Lard.hM t) false t = true := by
  unfold Lard.ruleT at h
  split at h
  · cases h
  · rename_i hl
    have hl' : l.length ≤ 200 := by omega
    split at h
    · rename_i j ts hpt
      split at h
      · obtain ⟨h1, _, _⟩ := Lard.PT_ok l hl' (8 * l.length + 5)
        obtain ⟨_, _, t', hts, hok⟩ := h1 0 0 0 (Lard.skip l 0) [] j ts (by omega) (Lard.skip_le l 0 (Nat.zero_le _)) hpt
        subst hts
        simp at h
        subst h
        refine ⟨hl', ?_, ?_⟩
        · unfold Lard.treeOf
          rw [hpt]
          rfl
        · have hh : Lard.hT (8 * l.length + 5) ≤ Lard.hM t' := by
            unfold Lard.hM
            rw [Nat.zero_mul, Nat.add_zero]
            exact hT_mono (by omega)
          exact Lard.okT_le hok hh
      · cases h
    · cases h
theorem set_ok (w : World) (lb : Nat) (key text : ByteArray) (s : Lard.LS) (L : Nat → Prop) (t : Lard.T) (h : LAt w lb s L) (g : G w) (hd : Deb w) (hn : Lard.isName key.data.toList = true) (ht : Lard.ruleT text.data.toList = some t) (hlen : s.has.length ≤ 40) (hj : (jbytes s.jr).length ≤ 70368744177664) :
    Calls Tryz.prog 25 #[ptr lb, .string key, .string text] w fun e w' => e = .returned (.tuple #[.int .i64 ((s.give key.data.toList ⟨Lard.vn 0, some t, text.data.toList, none⟩).1 : Nat), .int .i64 0]) ∧ LPost0 w lb L (s.give key.data.toList ⟨Lard.vn 0, some t, text.data.toList, none⟩).2 w' := by
  obtain ⟨hl200, -, hok⟩ := ruleT_ok ht
  have hk8 : key.size ≤ 8 := by rw [size_data]; exact name_len hn
  have hN := isName_any key w g (by omega)
  rw [hn] at hN
  have htz : text.size ≤ 200 := by rw [size_data]; exact hl200
  have hR := fun (w1 : World) (hB : Below w.heap.size w w1) => parseT_any text w1 (g.below hB g.size) (by omega)
  rw [ht] at hR
  generalize hRR : (fun (e : Ending) (w' : World) => e = .returned (.tuple #[.int .i64 ((s.give key.data.toList ⟨Lard.vn 0, some t, text.data.toList, none⟩).1 : Nat), .int .i64 0]) ∧ LPost0 w lb L (s.give key.data.toList ⟨Lard.vn 0, some t, text.data.toList, none⟩).2 w') = RR
  have HRR := hide hRR
  have HN := hide hN
  have HR := hide hR
  have HL := hide (And.intro h (And.intro g hd))
  clear hN hR hn h g hd hRR ht
  unfold ptr
  go_enter Tryz.func25, Tryz.ntmps25
  go_wp2_with fail
  refine HN.out.mono ?_
  rintro e w1 ⟨rfl, hB1⟩
  have HR1 := hide (HR.out w1 hB1)
  clear HR HN
  go_wp2_with fail
  refine HR1.out.mono ?_
  rintro e w2 ⟨⟨q, rfl, hq⟩, hB2⟩
  obtain ⟨hc0, hi0, a, rfl, n, htree⟩ := hq t rfl
  rw [hc0, hi0]
  have htr := IsTree.lower _ _ _ _ _ hok htree
  obtain ⟨tb, htb⟩ := tree_ptr htr
  unfold ptr at htb
  cases htb
  have hB12 := hB1.trans (hB2.mono hB1.size)
  have hB3 : Below w.heap.size w (w2.alloc (.cells #[.nilIface, .pointer (some ⟨tb, 0, none⟩), .string text, .pointer none] 124)) := hB12.alloc hB12.size _
  obtain ⟨h, g, hd⟩ := HL.out
  have hA3 : LAt (w2.alloc (.cells #[.nilIface, .pointer (some ⟨tb, 0, none⟩), .string text, .pointer none] 124)) lb s L := h.st (fun k hk => hB3.block k (h.typed k hk).2.1) (Stay.below hB3)
  have hnew := heap_alloc_new w2 (.cells #[.nilIface, .pointer (some ⟨tb, 0, none⟩), .string text, .pointer none] 124)
  have hsz := hB12.size
  have ht3 := htr.keeps (Keeps.below ((Below.refl _ w2).alloc (Nat.le_refl _) (.cells #[.nilIface, .pointer (some ⟨tb, 0, none⟩), .string text, .pointer none] 124)))
  have hstr : str text.data.toList = .string text := str_bytes text
  have hG := give_any _ lb w2.heap.size key s L ⟨Lard.vn 0, some t, text.data.toList, none⟩ hA3 (g.below hB3 g.size) (hd.below hB3 g.size) hk8 (fun hl => by have := (h.typed _ hl).2.1; omega) (Nat.le_trans g.size hsz) ⟨_, _, _, by rw [hstr]; exact hnew, .inr rfl, hl200, .inr ⟨t, _, rfl, rfl, rfl, hok, ht3⟩, .inl ⟨rfl, rfl⟩⟩ hlen hj
  unfold ptr at hG
  have HG := hide hG
  clear hG ht3 htr htree hA3 h g hd HR1 hnew hq
  go_wp2_with fail
  refine HG.out.mono ?_
  rintro e w4 ⟨rfl, hP⟩
  have HP : Hid (RR (.returned (.tuple #[.int .i64 ((s.give key.data.toList ⟨Lard.vn 0, some t, text.data.toList, none⟩).1 : Nat), .int .i64 0])) w4) := hide (by
    rw [← HRR.out]
    exact ⟨rfl, LPost0.new hB3 hsz hP⟩)
  clear hP HG HRR
  go_wp2_with fail
  exact HP.out
end Go.Proofs.YtpekpdimdelncaaGreatDoor
namespace Go.Proofs.YtpekpdimdelncaaGreatDoor
set_option maxRecDepth 100000
set_option maxHeartbeats 1000000
open Go.RowKit Go.Shelf
set_option linter.unusedVariables false
set_option linter.unusedSimpArgs false
structure Ld (B : Nat) (w0 w : World) (lb : Nat) (s : Lard.LS) (N : Nat) : Prop where
  lat : ∃ L, LAt w lb s L ∧ ∀ k, L k → B ≤ k
  bel : Below B w0 w
  g : G w
  deb : Deb w
  base : B ≤ w0.heap.size
  b8 : 8 ≤ B
  sound : Lard.Sound s
  jr : (jbytes s.jr).length ≤ N
theorem Ld.below {B : Nat} {w0 w w' : World} {lb : Nat} {s : Lard.LS} {N : Nat} (h : Ld B w0 w lb s N) (hB : Below w.heap.size w w') : Ld B w0 w' lb s N := by
  obtain ⟨L, hA, hL⟩ := h.lat
  exact {
    lat := ⟨L, hA.st (fun k hk => hB.block k (hA.typed k hk).2.1) (Stay.below hB), hL⟩
    bel := h.bel.trans (hB.mono (Nat.le_trans h.base h.bel.size))
    g := h.g.below hB h.g.size
    deb := h.deb.below hB h.g.size
    base := h.base
    b8 := h.b8
    sound := h.sound
    jr := h.jr }
theorem Ld.le {B : Nat} {w0 w : World} {lb : Nat} {s : Lard.LS} {N M : Nat} (h : Ld B w0 w lb s N) (hM : N ≤ M) : Ld B w0 w lb s M := { h with jr := Nat.le_trans h.jr hM }
theorem Ld.post {B : Nat} {w0 w w' : World} {lb : Nat} {s s' : Lard.LS} {N M : Nat} (h : Ld B w0 w lb s N) {L : Nat → Prop} (hA : LAt w lb s L) (hL : ∀ k, L k → B ≤ k) (hP : LPost0 w lb L s' w') (hs : Lard.Sound s') (hj : (jbytes s'.jr).length ≤ M) : Ld B w0 w' lb s' M := by
  obtain ⟨L', h1, h2, h3, h4⟩ := hP
  have hsz : B ≤ w.heap.size := Nat.le_trans h.base h.bel.size
  have hb : Below B w w' := ⟨h4.os, h4.tape, h4.output, h4.size, fun k hk => h4.block k (by omega) (fun hl => by have := hL k hl; omega)⟩
  exact {
    lat := ⟨L', h1, fun k hk => by
      rcases h2 k hk with h | h
      · exact hL k h
      · omega⟩
    bel := h.bel.trans hb
    g := h.g.below hb h.b8
    deb := h.deb.below hb h.b8
    base := h.base
    b8 := h.b8
    sound := hs
    jr := hj }
theorem lat_new (w : World) (h8 : 8 ≤ w.heap.size) : LAt (((w.alloc (.map #[] 0)).alloc (.map #[] 0)).alloc (.cells #[.map (some w.heap.size), .map (some (w.heap.size + 1)), .slice none 0 0, .slice none 0 0, .slice none 0 0, .slice none 0 0] 108)) (w.heap.size + 1 + 1) Lard.LS.new (fun k => w.heap.size ≤ k ∧ k ≤ w.heap.size + 2) := by
  have e2 : (((w.alloc (.map #[] 0)).alloc (.map #[] 0)).alloc (.cells #[.map (some w.heap.size), .map (some (w.heap.size + 1)), .slice none 0 0, .slice none 0 0, .slice none 0 0, .slice none 0 0] 108)).heap[w.heap.size + 1 + 1]? = some (.cells #[.map (some w.heap.size), .map (some (w.heap.size + 1)), .slice none 0 0, .slice none 0 0, .slice none 0 0, .slice none 0 0] 108 (0, 0)) := by
    have := heap_alloc_new ((w.alloc (.map #[] 0)).alloc (.map #[] 0)) (.cells #[.map (some w.heap.size), .map (some (w.heap.size + 1)), .slice none 0 0, .slice none 0 0, .slice none 0 0, .slice none 0 0] 108)
    rw [World.size_alloc, World.size_alloc] at this
    exact this
  have m0 : MapAt (((w.alloc (.map #[] 0)).alloc (.map #[] 0)).alloc (.cells #[.map (some w.heap.size), .map (some (w.heap.size + 1)), .slice none 0 0, .slice none 0 0, .slice none 0 0, .slice none 0 0] 108)) w.heap.size [] := by
    refine (mapAt_new w).same ?_
    rw [Below.heap_alloc _ _ _ (by simp; omega), Below.heap_alloc _ _ _ (by simp)]
  have m1 : MapAt (((w.alloc (.map #[] 0)).alloc (.map #[] 0)).alloc (.cells #[.map (some w.heap.size), .map (some (w.heap.size + 1)), .slice none 0 0, .slice none 0 0, .slice none 0 0, .slice none 0 0] 108)) (w.heap.size + 1) [] := by
    have := mapAt_new (w.alloc (.map #[] 0))
    rw [World.size_alloc] at this
    refine this.same ?_
    rw [Below.heap_alloc _ _ _ (by simp)]
  refine ⟨w.heap.size, w.heap.size + 1, _, _, _, _, {
    blk := e2
    here := ⟨by omega, by omega⟩
    ne := by omega
    has := ⟨[], rfl, m0, by simp, (fun x hx => by cases hx), (fun x hx => by cases hx), ⟨by omega, by omega⟩⟩
    done := ⟨[], rfl, m1, (fun x hx => by cases hx), ⟨by omega, by omega⟩⟩
    begun := ⟨rfl, .inl ⟨rfl, rfl⟩⟩
    ring := ⟨rfl, .inl ⟨rfl, rfl⟩⟩
    ran := ⟨rfl, .inl ⟨rfl, rfl⟩⟩
    jr := ⟨rfl, .inl ⟨rfl, rfl⟩⟩
    mine := fun g hg => by rcases hg with hg | hg | hg | hg <;> cases hg
    apart := fun g hg => by cases hg
    rnil := fun _ => rfl
    typed := fun k hk => ?_ }⟩
  refine ⟨by omega, ?_⟩
  have hk3 : k = w.heap.size ∨ k = w.heap.size + 1 ∨ k = w.heap.size + 1 + 1 := by omega
  rcases hk3 with rfl | rfl | rfl
  · exact .inl m0.isMap
  · exact .inl m1.isMap
  · exact .inr ⟨_, _, _, e2, .inl rfl⟩
theorem new_any (w : World) : Calls Tryz.prog 16 #[] w fun e w' => e = .returned (ptr (w.heap.size + 1 + 1)) ∧ w' = ((w.alloc (.map #[] 0)).alloc (.map #[] 0)).alloc (.cells #[.map (some w.heap.size), .map (some (w.heap.size + 1)), .slice none 0 0, .slice none 0 0, .slice none 0 0, .slice none 0 0] 108) := by
  have h1 : ∀ w, (Instr.makeMap 104 none).run Tryz.prog w = .ok (.map (some w.heap.size)) (w.alloc (.map #[] 0)) := fun w => by kernel_rfl
  have h2 : ∀ w, (Instr.makeMap 105 none).run Tryz.prog w = .ok (.map (some w.heap.size)) (w.alloc (.map #[] 0)) := fun w => by kernel_rfl
  unfold ptr
  go_enter Tryz.func16, Tryz.ntmps16
  go_wp2_with fail
  go_ret
  exact ⟨rfl, rfl⟩
theorem ld_new (B : Nat) (w0 w : World) (hB : Below B w0 w) (hb : B ≤ w0.heap.size) (g : G w) (hd : Deb w) (h8 : 8 ≤ B) : Calls Tryz.prog 16 #[] w fun e w' => ∃ lb, e = .returned (ptr lb) ∧ Ld B w0 w' lb Lard.LS.new 0 ∧ Below w.heap.size w w' := by
  refine (new_any w).mono ?_
  rintro e w' ⟨rfl, rfl⟩
  have hsz : B ≤ w.heap.size := Nat.le_trans hb hB.size
  have hBw : Below w.heap.size w (((w.alloc (.map #[] 0)).alloc (.map #[] 0)).alloc (.cells #[.map (some w.heap.size), .map (some (w.heap.size + 1)), .slice none 0 0, .slice none 0 0, .slice none 0 0, .slice none 0 0] 108)) := (((Below.refl _ w).alloc (Nat.le_refl _) _).alloc (by simp) _).alloc (by simp; omega) _
  refine ⟨_, rfl, {
    lat := ⟨_, lat_new w (by omega), fun k hk => by omega⟩
    bel := hB.trans (hBw.mono hsz)
    g := g.below hBw g.size
    deb := hd.below hBw g.size
    base := hb
    b8 := h8
    sound := Lard.Sound.new
    jr := Nat.le_refl _ }, hBw⟩
end Go.Proofs.YtpekpdimdelncaaGreatDoor
namespace Go.Proofs.YtpekpdimdelncaaGreatDoor
open Go.RowKit
namespace Lard
set_option linter.unusedVariables false
set_option linter.unusedSimpArgs false
def textA : By := [123, 120, 43, 121, 44, 120, 45, 121, 44, 120, 42, 121, 44, 120, 60, 121, 44, 120, 61, 121, 44, 109, 105, 110, 40, 120, 44, 121, 41, 44, 109, 97, 120, 40, 120, 44, 121, 41, 44, 45, 120, 44, 105, 102, 32, 120, 60, 121, 32, 116, 104, 101, 110, 32, 49, 32, 101, 108, 115, 101, 32, 50, 44, 116, 114, 121, 40, 120, 47, 121, 44, 39, 110, 111, 39, 41, 125]
def nX : T := ⟨3, 0, [120], .none, []⟩
def nY : T := ⟨3, 0, [121], .none, []⟩
def nW : T := ⟨3, 0, [119], .none, []⟩
def nL : T := ⟨3, 0, [108], .none, []⟩
def tI : T := ⟨4, 0, [], .none, []⟩
def treeA : T := ⟨8, 0, [], .none, [⟨1, 43, [], .none, [nX, nY]⟩, ⟨1, 45, [], .none, [nX, nY]⟩, ⟨1, 42, [], .none, [nX, nY]⟩, ⟨1, 60, [], .none, [nX, nY]⟩, ⟨1, 61, [], .none, [nX, nY]⟩, ⟨13, 109, [], .none, [nX, nY]⟩, ⟨13, 120, [], .none, [nX, nY]⟩, ⟨5, 0, [], .none, [nX]⟩, ⟨9, 0, [], .none, [⟨1, 60, [], .none, [nX, nY]⟩, ⟨2, 0, [], some (vn 1), []⟩, ⟨2, 0, [], some (vn 2), []⟩]⟩, ⟨14, 0, [], .none, [⟨1, 47, [], .none, [nX, nY]⟩, ⟨2, 0, [], some (vw [110, 111]), []⟩]⟩]⟩
def textB (d : UInt8) : By := [123, 119, 43, 119, 111, 114, 100, 40, 121, 41, 44, 115, 105, 122, 101, 40, 119, 41, 44, 115, 105, 122, 101, 40, 108, 41, 44, 116, 114, 121, 40, 97, 116, 40, 108, 44, d, 41, 44, 39, 110, 111, 110, 101, 39, 41, 44, 101, 97, 99, 104, 40, 115, 111, 109, 101, 40, 101, 97, 99, 104, 40, 108, 44, 116, 114, 121, 40, 105, 116, 43, 48, 44, 123, 125, 41, 41, 44, 49, 45, 40, 105, 116, 61, 123, 125, 41, 41, 44, 105, 116, 45, 120, 41, 44, 108, 61, 108, 43, 123, 125, 125]
def treeB (i : Int) : T := ⟨8, 0, [], .none, [⟨1, 43, [], .none, [nW, ⟨12, 0, [], .none, [nY]⟩]⟩, ⟨10, 0, [], .none, [nW]⟩, ⟨10, 0, [], .none, [nL]⟩, ⟨14, 0, [], .none, [⟨13, 64, [], .none, [nL, ⟨2, 0, [], some (vn i), []⟩]⟩, ⟨2, 0, [], some (vw [110, 111, 110, 101]), []⟩]⟩, ⟨15, 0, [], .none, [⟨16, 0, [], .none, [⟨15, 0, [], .none, [nL, ⟨14, 0, [], .none, [⟨1, 43, [], .none, [tI, ⟨2, 0, [], some (vn 0), []⟩]⟩, ⟨8, 0, [], .none, []⟩]⟩]⟩, ⟨1, 45, [], .none, [⟨2, 0, [], some (vn 1), []⟩, ⟨6, 0, [], .none, [⟨1, 61, [], .none, [tI, ⟨8, 0, [], .none, []⟩]⟩]⟩]⟩]⟩, ⟨1, 45, [], .none, [tI, nX]⟩]⟩, ⟨1, 61, [], .none, [nL, ⟨1, 43, [], .none, [nL, ⟨8, 0, [], .none, []⟩]⟩]⟩]⟩
def nA (x y : Int) (k : By) : Option Wo :=
  if k = [120] then some (.ok (vn x)) else if k = [121] then some (.ok (vn y)) else if k = [119] then some (.ok (vw (119 :: Lib.itoa x))) else if k = [108] then some (.ok (vl [vn x, vw [113], vn y])) else none
def valA (x y : Int) : V := vl [vn (x + y), vn (x - y), vn (x * y), bit (decide (x < y)), bit (decide (x = y)), vn (min x y), vn (max x y), vn (-x), vn (if x < y then 1 else 2), if y = 0 then vw [110, 111] else vn (x.tdiv y)]
section
variable (x y : Int)
end
def item8 : T := ⟨9, 0, [], .none, [⟨1, 60, [], .none, [nX, nY]⟩, ⟨2, 0, [], some (vn 1), []⟩, ⟨2, 0, [], some (vn 2), []⟩]⟩
def item9 : T := ⟨14, 0, [], .none, [⟨1, 47, [], .none, [nX, nY]⟩, ⟨2, 0, [], some (vw [110, 111]), []⟩]⟩
def accA (x y : Int) : List V := [vn (wrap (x + y)), vn (wrap (x - y)), vn (wrap (x * y)), bit (decide (x < y)), bit (x == y), vn (min x y), vn (max x y), vn (wrap (0 - x))]
def thirdB (x y : Int) (i : Nat) : V := if i = 0 then vn x else if i = 1 then vw [113] else if i = 2 then vn y else vw [110, 111, 110, 101]
def valB (x y : Int) (i : Nat) : V := vl [vw (119 :: (Lib.itoa x ++ Lib.itoa y)), vn (1 + (Lib.itoa x).length), vn 3, thirdB x y i, vl [vn 0, vn (y - x)], vn 1]
def valB' (x y : Int) (i : Nat) (W : By) : V := vl [vw W, vn ((119 :: Lib.itoa x).length : Nat), vn 3, thirdB x y i, vl [vn (wrap (wrap (x + 0) - x)), vn (wrap (wrap (y + 0) - x))], bit (same 3 (vl [vn x, vw [113], vn y]) (vl [vn x, vw [113], vn y]))]
def item0 : T := ⟨1, 43, [], .none, [nW, ⟨12, 0, [], .none, [nY]⟩]⟩
end Lard
end Go.Proofs.YtpekpdimdelncaaGreatDoor
namespace Go.Proofs.YtpekpdimdelncaaGreatDoor
open Go.RowKit
namespace Lard
set_option linter.unusedVariables false
theorem itoa_len8 {x : Int} (h : -9999999 ≤ x ∧ x ≤ 9999999) : (Lib.itoa x).length ≤ 8 := by
  unfold Lib.itoa
  split
  · have := dec_len 6 x.natAbs (by show _ < 10000000; omega)
    simp
    omega
  · have := dec_len 6 x.toNat (by show _ < 10000000; omega)
    omega
structure RkE (e : Src) (x y : Int) : Prop where
  hx : e [120] = some (.inl (vn x))
  hy : e [121] = some (.inl (vn y))
  hw : e [119] = some (.inl (vw (119 :: Lib.itoa x)))
  hl : e [108] = some (.inl (vl [vn x, vw [113], vn y]))
theorem RkE.base {e : Src} {x y : Int} (h : RkE e x y) : ∀ k u, nA x y k = some u → W e k u := by
  intro k u hk
  unfold nA at hk
  split at hk
  · rename_i h1; cases hk; subst h1; exact ⟨0, .inr ⟨_, h.hx, rfl⟩⟩
  split at hk
  · rename_i h1; cases hk; subst h1; exact ⟨0, .inr ⟨_, h.hy, rfl⟩⟩
  split at hk
  · rename_i h1; cases hk; subst h1; exact ⟨0, .inr ⟨_, h.hw, rfl⟩⟩
  split at hk
  · rename_i h1; cases hk; subst h1; exact ⟨0, .inr ⟨_, h.hl, rfl⟩⟩
  · cases hk
theorem hM_ge (t : T) : 8 ≤ hM t := by
  unfold hM
  rw [Nat.zero_mul, Nat.add_zero]
  have : ∀ n, n ≤ hT n := by
    intro n
    induction n with
    | zero => exact Nat.zero_le _
    | succ n ih => show n + 1 ≤ hT n + n + 2; omega
  exact Nat.le_trans (by omega) (this 1605)
def textE : By := [97, 42, 97, 43, 49]
def treeE : T := ⟨1, 43, [], .none, [⟨1, 42, [], .none, [⟨3, 0, [97], .none, []⟩, ⟨3, 0, [97], .none, []⟩]⟩, ⟨2, 0, [], some (vn 1), []⟩]⟩
theorem ok_E : okT 4 false treeE = true := by kernel_rfl
def nE (k : By) : Option Wo := if k = [97] then some (.ok (vn 2)) else none
theorem ev_E : ev (ans nE) 4 treeE none (400, true) = (.ok (vn 5), (397, true)) := by kernel_rfl
theorem w_E {e : Src} (ha : e [97] = some (.inl (vn 2))) {k : By} (hk : e k = some (.inr treeE)) : W e k (.ok (vn 5)) :=
  w_ev (N0 := nE) (fun k u h => by
    unfold nE at h
    split at h
    · rename_i h1; cases h; subst h1; exact ⟨0, .inr ⟨_, ha, rfl⟩⟩
    · cases h) hk ok_E (Nat.le_trans (by omega) (hM_ge _)) ev_E (fun e => by cases e)
theorem ask_is {s : LS} (hs : Sound s) {key : By} {w : Wo} (hw : W (srcOf s.has) key w) : (s.ask key).1 = w := by
  obtain ⟨_, _, h1, _⟩ := hs.bp key
  exact h1.det (.inl hw)
end Lard
end Go.Proofs.YtpekpdimdelncaaGreatDoor
