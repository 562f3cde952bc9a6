/- Out of: F7, St, Sl, G1, G2, G3, G4, T1. -/
import Derived.Test.YtpekpdimdelncaaGreatDoorP44
import Derived.Test.YtpekpdimdelncaaGreatDoorP32
import Derived.Test.YtpekpdimdelncaaGreatDoorP41
import Derived.Test.YtpekpdimdelncaaGreatDoorP43
import Derived.Laws.StructEq
namespace Go.Proofs.YtpekpdimdelncaaGreatDoor
set_option maxRecDepth 100000
set_option maxHeartbeats 1000000
open Go.RowKit Go.Shelf
set_option linter.unusedVariables false
set_option linter.unusedSimpArgs false
def worthW (f : Lard.LS) (key : List UInt8) : Lard.Wo := if Lard.isName key = true then (f.ask key).1 else .error 7
def worthS (f : Lard.LS) (key : List UInt8) : Lard.LS := if Lard.isName key = true then (f.ask key).2 else f
theorem la_worth {w : World} {lb : Nat} {f : Lard.LS} {L : Nat → Prop} {N : Nat} (h : La w lb f L N) (key : ByteArray) (hk : key.size ≤ 200) (hN : N ≤ 10000000000000) :
    Calls Tryz.prog 31 #[ptr lb, .string key] w fun e w' => ∃ (tc : Int) (ts : ByteArray), e = .returned (.tuple #[.string ts, .int .i64 tc]) ∧ toldV (worthW f key.data.toList) = .agg #[.int .i64 tc, .string ts] ∧ LaPost w lb L (worthS f key.data.toList) (N + 2000000000) w' := by
  generalize hRR : (fun (e : Ending) (w' : World) => ∃ (tc : Int) (ts : ByteArray), e = .returned (.tuple #[.string ts, .int .i64 tc]) ∧ toldV (worthW f key.data.toList) = .agg #[.int .i64 tc, .string ts] ∧ LaPost w lb L (worthS f key.data.toList) (N + 2000000000) w') = RR
  have HRR := hide hRR
  clear hRR
  cases hn : Lard.isName key.data.toList with
  | false =>
    have HA := hide (ask_noname w lb key h.g (by omega) hn)
    have HF : Hid (∀ w', Below w.heap.size w w' → RR (.returned (.tuple #[.string ⟨#[]⟩, .int .i64 7])) w') := hide (fun w' hB => by
      rw [← HRR.out]
      refine ⟨7, ⟨#[]⟩, rfl, ?_, L, ?_, fun k hk => .inl hk, fun k hk => hk, Frm.below hB⟩
      · unfold worthW
        rw [hn]
        rfl
      · unfold worthS
        rw [hn]
        exact (h.below hB).le (by omega))
    clear h hn HRR
    unfold ptr at *
    go_enter Tryz.func31, Tryz.ntmps31
    go_wp2_with fail
    refine HA.out.mono ?_
    rintro e w1 ⟨rfl, hB1⟩
    dsimp only
    have HE := hide (HF.out w1 hB1)
    clear HA HF hB1
    go_wp2_with fail
    exact HE.out
  | true =>
    have HA := hide (la_ask h key hn hN)
    have hec := h.sound.ec key.data.toList
    have HF : Hid (∀ w' tc ts, toldV (f.ask key.data.toList).1 = .agg #[.int .i64 tc, .string ts] → LaPost w lb L (f.ask key.data.toList).2 (N + 2000000000) w' → RR (.returned (.tuple #[.string ts, .int .i64 tc])) w') := hide (fun w' tc ts h1 h2 => by
      rw [← HRR.out]
      refine ⟨tc, ts, rfl, ?_, ?_⟩
      · unfold worthW
        rw [hn]
        exact h1
      · unfold worthS
        rw [hn]
        exact h2)
    clear h hn HRR
    unfold ptr at *
    go_enter Tryz.func31, Tryz.ntmps31
    go_wp2_with fail
    refine HA.out.mono ?_
    rintro e w1 ⟨v, tc, ts, rfl, htv, hP, o, c, rfl, -⟩
    dsimp only
    have HE := hide (HF.out w1 tc ts htv hP)
    have h1 : (tc == 1) = false := by
      refine beq_eq_false_iff_ne.2 (fun e => ?_)
      subst e
      cases hr : (f.ask key.data.toList).1 with
      | ok v =>
        rw [hr] at htv
        have e1 : toldV (.ok v) = .agg #[.int .i64 0, .string ⟨(Lard.wr 3 v).toArray⟩] := rfl
        rw [e1] at htv
        cases htv
      | error c =>
        rw [hr] at htv
        have e1 : toldV (.error c) = .agg #[.int .i64 (c : Int), .string ⟨#[]⟩] := rfl
        rw [e1] at htv
        have h2 : (c : Int) = 1 := congrArg (fun v => match v with | Value.agg #[.int _ x, _] => x | _ => 0) htv
        have := hec c hr
        omega
    clear HA HF htv hP hec
    generalize (if tc = 12 then (f.ask key.data.toList).2.ring else []).length = len
    go_wp2_with fail
    exact HE.out
end Go.Proofs.YtpekpdimdelncaaGreatDoor
namespace Go.Proofs.YtpekpdimdelncaaGreatDoor
namespace Lard
set_option linter.unusedVariables false
theorem utd_rules {e : Src} {h : List (By × Thing)} {k : By} (hn : ¬ Utd e h k) : ∃ t, e k = some (.inr t) :=
  Classical.byContradiction fun hc => hn (utd_none fun t ht => hc ⟨t, ht⟩)
/-! What is kept. -/
theorem told_kept {s : LS} (hs : Sound s) {k : By} {t : T} (ht : srcOf s.has k = some (.inr t)) (h12 : (s.ask k).1 ≠ .error 12) : ∃ kp, keptOf (s.ask k).2.has k = some kp ∧ kp.worth = (s.ask k).1 ∧ (∀ q ∈ kp.needs, W (srcOf s.has) q.1 q.2) ∧ (kp.needs.map (·.1)).Nodup := by
  obtain ⟨new, hon, his, _, hu, _⟩ := hs.bp k
  obtain ⟨kp, h1, h2⟩ := ((hu h12).1).rule ht
  have hh := hon.inv.hon k t kp ht h1
  have hw : W (srcOf s.has) k kp.worth := W.rule ht (hh.all (fun q hq => (h2 q hq).1))
  refine ⟨kp, h1, (his.det (.inl hw)).symm, fun q hq => (h2 q hq).1, ?_⟩
  have hnd : ∀ {p : Pg Wo} {acc ns : List (By × Wo)} {w : Wo}, Hon p acc ns w → (acc.map (·.1)).Nodup → (ns.map (·.1)).Nodup := by
    intro p
    refine Pg.ind (P := fun p => ∀ {acc ns : List (By × Wo)} {w : Wo}, Hon p acc ns w → (acc.map (·.1)).Nodup → (ns.map (·.1)).Nodup) (fun a acc ns w h hn => ?_) (fun key c ih acc ns w h hn => ?_) p
    · obtain ⟨_, _, h3⟩ := h
      first | exact h3 ▸ hn | (obtain ⟨rfl, _⟩ := h3; exact hn)
    · rcases h with ⟨u, _, h⟩ | ⟨hl, u, _, h⟩
      · exact ih u h hn
      · refine ih u h ?_
        rw [List.map_append, List.nodup_append]
        refine ⟨hn, by simp, fun a ha b hb hab => ?_⟩
        obtain ⟨q, hq, rfl⟩ := List.mem_map.1 ha
        simp at hb
        exact look_none.1 hl q hq (hab.trans hb)
  exact hnd hh (by simp)
theorem ran_round (key : By) (q : Wo × (LS × List (By × Wo))) (h : (ranL key q).1 = .error 12) : keptOf (ranL key q).2.has key = none := by
  obtain ⟨r, s, ns⟩ := q
  have h : r = .error 12 := h
  subst h
  have h12 : isRound (.error 12 : Wo) = true := rfl
  simp only [ranL, h12, if_true]
  cases hk : keptOf s.has key with
  | none =>
    simp only [Option.isSome_none]
    exact hk
  | some kp =>
    simp only [Option.isSome_some, if_true]
    show keptOf (setKept s.has key none) key = none
    rw [keptOf_setKept, if_pos rfl]
    cases look s.has key <;> rfl
theorem told_round {s : LS} (hs : Sound s) {k : By} (h : (s.ask k).1 = .error 12) : keptOf (s.ask k).2.has k = none := by
  have hb : s.fresh.begun = [] := hs.begun
  have e1 : bring 42 k s.fresh = ((workL (bring 41) k { s.fresh with begun := s.fresh.begun ++ [k] }).1, { (workL (bring 41) k { s.fresh with begun := s.fresh.begun ++ [k] }).2 with begun := (workL (bring 41) k { s.fresh with begun := s.fresh.begun ++ [k] }).2.begun.dropLast, done := put (workL (bring 41) k { s.fresh with begun := s.fresh.begun ++ [k] }).2.done k (workL (bring 41) k { s.fresh with begun := s.fresh.begun ++ [k] }).1 }) := by
    show bringW (workL (bring 41)) k s.fresh = _
    unfold bringW
    have : look s.fresh.done k = none := rfl
    rw [this]
    simp only
    rw [if_neg (by rw [hb]; simp)]
  have e2 : (s.ask k) = bring 42 k s.fresh := rfl
  rw [e2, e1] at h ⊢
  have h : (workL (bring 41) k { s.fresh with begun := s.fresh.begun ++ [k] }).1 = .error 12 := h
  show keptOf (workL (bring 41) k { s.fresh with begun := s.fresh.begun ++ [k] }).2.has k = none
  generalize hs1 : ({ s.fresh with begun := s.fresh.begun ++ [k] } : LS) = s1 at h ⊢
  have hh1 : s1.has = s.has := by rw [← hs1]; rfl
  unfold workL at h ⊢
  rw [hh1] at h ⊢
  cases hl : look s.has k with
  | none => rw [hl] at h; cases h
  | some th =>
    rw [hl] at h
    simp only at h ⊢
    cases ht : th.tree with
    | none => rw [ht] at h; cases h
    | some t =>
      rw [ht] at h
      simp only at h ⊢
      cases hk : th.kept with
      | none =>
        rw [hk] at h
        exact ran_round k _ h
      | some kp =>
        rw [hk] at h
        have hsrc : srcOf s.has k = some (.inr t) := by rw [look_src hl, ht]
        have hkp : keptOf s.has k = some kp := by unfold keptOf; rw [hl]; exact hk
        have hhon := hs.hon k t kp hsrc hkp
        unfold ruleL at h ⊢
        simp only at h ⊢
        generalize dueL (bring 41) k kp.needs s1 = q at h ⊢
        obtain ⟨o, s2⟩ := q
        cases o with
        | none => exact (hhon.not12 h).elim
        | some y => exact ran_round k _ h
theorem told_same {s : LS} (hs : Sound s) {k x : By} (h : ∀ y ∈ (s.ask k).2.ran, y.key ≠ x) : look (s.ask k).2.has x = look s.has x := by
  obtain ⟨new, hon, _⟩ := hs.bp k
  have h1 : (s.ask k).2.ran = new := by rw [hon.ran]; rfl
  rw [h1] at h
  exact hon.chg x h
theorem told_why {s : LS} (hs : Sound s) {k : By} : ∀ y ∈ (s.ask k).2.ran, WhyOk (srcOf s.has) y := by
  obtain ⟨new, hon, _⟩ := hs.bp k
  have h1 : (s.ask k).2.ran = new := by rw [hon.ran]; rfl
  rw [h1]
  exact hon.why
theorem told_was {s : LS} (hs : Sound s) {k : By} : ∀ y ∈ (s.ask k).2.ran, Wd s.has y ∧ ∃ t, srcOf s.has y.key = some (.inr t) := by
  obtain ⟨new, hon, _⟩ := hs.bp k
  have h1 : (s.ask k).2.ran = new := by rw [hon.ran]; rfl
  rw [h1]
  exact fun y hy => ⟨hon.was y hy, utd_rules (hon.old y hy).2.2.1⟩
theorem Sound.lose {s : LS} (h : Sound s) (key : By) : Sound (s.lose key) where
  ef := by
    show EF (srcOf (setKept s.has key none))
    rw [srcOf_setKept]
    exact h.ef
  hon k t kp h1 h2 := by
    have h1 : srcOf (setKept s.has key none) k = _ := h1
    have h2 : keptOf (setKept s.has key none) k = _ := h2
    rw [srcOf_setKept] at h1
    rw [keptOf_setKept] at h2
    split at h2
    · cases hl : look s.has k <;> rw [hl] at h2 <;> cases h2
    · exact h.hon k t kp h1 h2
  only k kp h2 := by
    have h2 : keptOf (setKept s.has key none) k = _ := h2
    show ∃ t, srcOf (setKept s.has key none) k = _
    rw [srcOf_setKept]
    rw [keptOf_setKept] at h2
    split at h2
    · cases hl : look s.has k <;> rw [hl] at h2 <;> cases h2
    · exact h.only k kp h2
  fine k kp h2 := by
    have h2 : keptOf (setKept s.has key none) k = _ := h2
    rw [keptOf_setKept] at h2
    split at h2
    · cases hl : look s.has k <;> rw [hl] at h2 <;> cases h2
    · exact h.fine k kp h2
  begun := h.begun
  kb := kb_setKept h.kb (fun kp e => by cases e)
  len := by
    show (setKept s.has key none).length ≤ 40
    unfold setKept
    rw [List.length_map]
    exact h.len
end Lard
end Go.Proofs.YtpekpdimdelncaaGreatDoor
namespace Go.Proofs.YtpekpdimdelncaaGreatDoor
namespace Lard
set_option linter.unusedVariables false
theorem ran_few {s : LS} (h : Sound s) (key : By) : (s.ask key).2.ran.length ≤ 40 := by
  have h1 := (h.nst key).ran
  have h2 : s.fresh.ran.length = 0 := rfl
  have h3 : Rs s.fresh ≤ s.has.length := by
    unfold Rs
    refine Nat.le_trans (List.length_filter_le _ _) ?_
    unfold ruled
    rw [List.length_map]
    exact List.length_filter_le _ _
  have := h.len
  omega
def needKeys : Option Keep → List By
  | none => []
  | some kp => kp.needs.map (·.1)
def allNeeds (h : List (By × Thing)) : List By := h.flatMap fun p => needKeys p.2.kept
theorem allNeeds_len {h : List (By × Thing)} (hk : KB h) : (allNeeds h).length ≤ h.length * 401 := by
  unfold allNeeds
  induction h with
  | nil => exact Nat.le_refl _
  | cons p h ih =>
    rw [List.flatMap_cons, List.length_append, List.length_cons]
    have h1 := ih (fun q hq => hk q (List.mem_cons_of_mem _ hq))
    have h2 : (needKeys p.2.kept).length ≤ 401 := by
      cases hp : p.2.kept with
      | none => exact Nat.zero_le _
      | some kp =>
        unfold needKeys
        rw [List.length_map]
        exact hk p List.mem_cons_self kp hp
    omega
structure Grows (s : LS) (k : By) (l : List By) (i : Nat) : Prop where
  nodup : l.Nodup
  first : k ∈ l
  sub : ∀ x ∈ l, x = k ∨ x ∈ allNeeds s.has
  shut : ∀ j x, j < i → l[j]? = some x → ∀ kp, keptOf s.has x = some kp → ∀ q ∈ kp.needs, q.1 ∈ l
section
variable {s : LS} {k : By} {l : List By} {i : Nat}
theorem Grows.start (s : LS) (k : By) : Grows s k [k] 0 := ⟨by simp, by simp, fun x hx => .inl (by simpa using hx), fun j x hj => by omega⟩
theorem Grows.len (h : Grows s k l i) (hs : Sound s) : l.length ≤ 16041 := by
  have h1 := nodup_sub l (k :: allNeeds s.has) h.nodup (fun x hx => by
    rcases h.sub x hx with rfl | hx
    · exact List.mem_cons_self
    · exact List.mem_cons_of_mem _ hx)
  have h2 := allNeeds_len hs.kb
  have h3 := hs.len
  simp only [List.length_cons] at h1
  have : s.has.length * 401 ≤ 40 * 401 := Nat.mul_le_mul_right _ h3
  omega
structure Grow2 (s : LS) (k : By) (l : List By) (i : Nat) (ns : List (By × Wo)) (j : Nat) : Prop where
  gr : Grows s k l i
  part : ∀ (a : Nat) q, a < j → ns[a]? = some q → q.1 ∈ l
theorem Grow2.skip {ns : List (By × Wo)} {j : Nat} {q : By × Wo} (h : Grow2 s k l i ns j) (hq : ns[j]? = some q) (hm : q.1 ∈ l) : Grow2 s k l i ns (j + 1) :=
  ⟨h.gr, fun a p ha hp => by
    by_cases e : a = j
    · subst e
      rw [hq] at hp
      cases hp
      exact hm
    · exact h.part a p (by omega) hp⟩
theorem Grow2.push {ns : List (By × Wo)} {j : Nat} {q : By × Wo} (h : Grow2 s k l i ns j) (hi : i < l.length) (hq : ns[j]? = some q) (hm : q.1 ∉ l) (hn : q.1 ∈ allNeeds s.has) : Grow2 s k (l ++ [q.1]) i ns (j + 1) := by
  refine ⟨⟨?_, List.mem_append_left _ h.gr.first, fun x hx => ?_, fun a x ha hx kp hkp p hp => ?_⟩, fun a p ha hp => ?_⟩
  · rw [List.nodup_append]
    refine ⟨h.gr.nodup, by simp, fun x hx y hy => ?_⟩
    rw [List.mem_singleton.1 hy]
    exact fun e => hm (e ▸ hx)
  · rcases List.mem_append.1 hx with hx | hx
    · exact h.gr.sub x hx
    · rw [List.mem_singleton.1 hx]
      exact .inr hn
  · rw [List.getElem?_append_left (by omega)] at hx
    exact List.mem_append_left _ (h.gr.shut a x ha hx kp hkp p hp)
  · by_cases e : a = j
    · subst e
      rw [hq] at hp
      cases hp
      simp
    · exact List.mem_append_left _ (h.part a p (by omega) hp)
theorem Grow2.done {kp : Keep} {x : By} (h : Grow2 s k l i kp.needs kp.needs.length) (hx : l[i]? = some x) (hk : keptOf s.has x = some kp) : Grows s k l (i + 1) :=
  ⟨h.gr.nodup, h.gr.first, h.gr.sub, fun j y hj hy kp' hk' q hq => by
    by_cases e : j = i
    · subst e
      rw [hx] at hy
      cases hy
      rw [hk] at hk'
      cases hk'
      obtain ⟨a, ha⟩ := List.getElem?_of_mem hq
      exact h.part a q (List.getElem?_eq_some_iff.1 ha).1 ha
    · exact h.gr.shut j y (by omega) hy kp' hk' q hq⟩
theorem Grows.none {x : By} (h : Grows s k l i) (hx : l[i]? = some x) (hk : keptOf s.has x = none) : Grows s k l (i + 1) :=
  ⟨h.nodup, h.first, h.sub, fun j y hj hy kp' hk' q hq => by
    by_cases e : j = i
    · subst e
      rw [hx] at hy
      cases hy
      rw [hk] at hk'
      cases hk'
    · exact h.shut j y (by omega) hy kp' hk' q hq⟩
theorem Grows.closed (h : Grows s k l l.length) : ∀ x kp, x ∈ l → keptOf s.has x = some kp → ∀ q ∈ kp.needs, q.1 ∈ l := by
  intro x kp hx hk q hq
  obtain ⟨j, hj⟩ := List.getElem?_of_mem hx
  exact h.shut j x (List.getElem?_eq_some_iff.1 hj).1 hj kp hk q hq
end
end Lard
end Go.Proofs.YtpekpdimdelncaaGreatDoor
namespace Go.Proofs.YtpekpdimdelncaaGreatDoor
open Go.RowKit Go.Shelf
set_option linter.unusedVariables false
set_option linter.unusedSimpArgs false
structure LW (w0 w : World) (lb : Nat) (s : Lard.LS) (L : Nat → Prop) (N : Nat) : Prop where
  la : La w lb s L N
  off : ∀ k, L k → w0.heap.size ≤ k
  bel : Below w0.heap.size w0 w
section
variable {w0 w w' : World} {lb : Nat} {s s' : Lard.LS} {L : Nat → Prop} {N M : Nat}
theorem LW.below (h : LW w0 w lb s L N) (hB : Below w.heap.size w w') : LW w0 w' lb s L N := ⟨h.la.below hB, h.off, h.bel.trans (hB.mono h.bel.size)⟩
theorem LW.post (h : LW w0 w lb s L N) (hP : LaPost w lb L s' M w') : ∃ L', LW w0 w' lb s' L' M := by
  obtain ⟨L', h1, h2, h3, h4⟩ := hP
  have hb0 := h.bel.size
  refine ⟨L', h1, fun k hk => ?_, ?_⟩
  · rcases h2 k hk with h5 | h5
    · exact h.off k h5
    · omega
  · exact h.bel.trans ⟨h4.os, h4.tape, h4.output, h4.size, fun k hk => h4.block k (by omega) (fun hl => by have := h.off k hl; omega)⟩
end
def tailT : Nat → Code → Code
  | 0, c => c
  | n + 1, .seq _ y => tailT n y
  | _, c => c
end Go.Proofs.YtpekpdimdelncaaGreatDoor
namespace Go.Proofs.YtpekpdimdelncaaGreatDoor
open Go.RowKit Go.Shelf
set_option linter.unusedVariables false
set_option linter.unusedSimpArgs false
theorem strInfo9 : (Tryz.prog.info? 9).map (fun i => (i.zero, i.size, i.bytes)) = some (some (.string ⟨#[]⟩), 1, 16) := by kernel_rfl
theorem imm_str : ¬ Imm 9 := by unfold Imm; decide
structure SR (w0 w : World) (L : Nat → Prop) (v : Value) (l : List (List UInt8)) : Prop where
  row : w.ownsRow 8 9 1 v l.length (l.map str)
  own : ∀ g, v.ownBlock = some g → w0.heap.size ≤ g ∧ ¬ L g
section
variable {w0 w w' : World} {lb : Nat} {s s' : Lard.LS} {L L' : Nat → Prop} {N M : Nat} {v : Value} {l : List (List UInt8)}
theorem SR.nil (w0 w : World) (L : Nat → Prop) : SR w0 w L (.slice none 0 0) [] := ⟨World.ownsRow_nil _ _ _ _, fun g h => by cases h⟩
theorem owns_block {base size n : Nat} {e : TypeId} {xs : List Value} (h : w.ownsRow base e size v n xs) {g : Nat} (hg : v.ownBlock = some g) : g < w.heap.size ∧ base ≤ g ∧ ∃ cs fz, w.heap[g]? = some (.cells cs e fz) := by
  rcases h.2 with ⟨rfl, _⟩ | ⟨g', cap, cur, rfl, hb, hc, _⟩
  · cases hg
  · cases hg
    exact ⟨lt_of_some hc, hb, cur, (0, 0), hc⟩
theorem owns_same {base size n : Nat} {e : TypeId} {xs : List Value} (h : w.ownsRow base e size v n xs) (hs : ∀ g, v.ownBlock = some g → w'.heap[g]? = w.heap[g]?) : w'.ownsRow base e size v n xs := by
  refine ⟨h.1, ?_⟩
  rcases h.2 with h1 | ⟨g, cap, cur, rfl, b, c, d⟩
  · exact .inl h1
  · exact .inr ⟨g, cap, cur, rfl, b, (hs g rfl).trans c, d⟩
theorem SR.below (h : SR w0 w L v l) (hB : Below w.heap.size w w') : SR w0 w' L v l := ⟨owns_same h.row (fun g hg => hB.block g (owns_block h.row hg).1), h.own⟩
theorem SR.post (h : SR w0 w L v l) (hP : LaPost w lb L s' M w') (hL' : ∀ k, L' k → L k ∨ w.heap.size ≤ k) (hf : Frm L w w') : SR w0 w' L' v l :=
  ⟨owns_same h.row (fun g hg => hf.block g (owns_block h.row hg).1 (h.own g hg).2), fun g hg => ⟨(h.own g hg).1, fun hl => by
    rcases hL' g hl with h1 | h1
    · exact (h.own g hg).2 h1
    · have := (owns_block h.row hg).1
      omega⟩⟩
theorem SR.push (h : SR w0 w L v l) (hw : LW w0 w lb s L N) (x : List UInt8) (ad : Addr) (c : Nat) (hx : w.cell? ad = some (str x)) (hl : l.length ≤ 1000000) :
    ∃ g cap w', (Builtin.append_ #[40, 40] 40 #[v, .slice (some ad) 1 c]).run Tryz.prog w = .ok (.slice (some ⟨g, 0, none⟩) (l.length + 1) cap) w' ∧ SR w0 w' L (.slice (some ⟨g, 0, none⟩) (l.length + 1) cap) (l ++ [x]) ∧ LW w0 w' lb s L N ∧ w.grownBy w' v.ownBlock ∧ (v.ownBlock = some g ∨ g = w.heap.size) := by
  obtain ⟨g, cap, w', h1, h2, h3, h4, h5⟩ := append_row 40 40 9 _ 1 16 Tryz.underlying40 strInfo9 rfl (by decide) v l.length (l.map str) h.row ad c [str x] rfl (fun j u hu => by
    cases j with
    | zero =>
      simp at hu
      subst hu
      exact hx
    | succ j => simp at hu) (fun u hu => by rw [List.mem_singleton.1 hu]; rfl) (by omega) (by unfold maxLen; omega) hw.la.g.size
  have hsz := hw.bel.size
  have hrow : v.ownBlock = some g ∨ g = w.heap.size := h4
  have hLW : LW w0 w' lb s L N := by
    refine ⟨hw.la.other (L2 := fun k => v.ownBlock = some k) ⟨h3.os, h3.tape, h3.output, h3.size, fun k hk hn => h3.block k hk (fun e => hn e.symm)⟩ (fun k hk => ?_) (fun k hk cs t fz hc => ?_) (fun k hk e => (h.own k e).2 hk), hw.off, hw.bel.trans ⟨h3.os, h3.tape, h3.output, h3.size, fun k hk => h3.block k (by omega) (fun e => by have := (h.own k e.symm).1; omega)⟩⟩
    · exact (owns_block h.row hk).2.1
    · obtain ⟨_, _, cs', fz', hc'⟩ := owns_block h.row hk
      rw [hc'] at hc
      cases hc
      exact imm_str
  refine ⟨g, cap, w', h1, ⟨by simpa using h2, fun g' hg' => ?_⟩, hLW, h3, h4⟩
  have hg2 : g = g' := by
    have : some g = some g' := hg'
    exact Option.some.inj this
  subst hg2
  rcases hrow with e | e
  · exact h.own g e
  · exact ⟨by omega, fun hl' => by have := (hw.la.lat.lt hl').2; omega⟩
end
theorem needs_short {w : World} {lb : Nat} {s : Lard.LS} {L : Nat → Prop} (h : LAt w lb s L) {x : List UInt8} {kp : Lard.Keep} (hk : Lard.keptOf s.has x = some kp) (hx : x.length ≤ 200) : ∀ q ∈ kp.needs, q.1.length ≤ 200 := by
  obtain ⟨hb, db, vb, vr, vn, vj, h0⟩ := h
  unfold Lard.keptOf at hk
  cases hl : Lard.look s.has x with
  | none => rw [hl] at hk; cases hk
  | some th =>
    rw [hl] at hk
    have hk : th.kept = some kp := hk
    obtain ⟨p, hth, _⟩ := h0.has.at hl
    obtain ⟨v, r, k, _, _, _, _, hkk⟩ := hth
    rcases hkk with ⟨h1, _⟩ | ⟨kp', kb, h1, _, h3⟩
    · rw [hk] at h1; cases h1
    · rw [hk] at h1
      cases h1
      obtain ⟨_, _, sl, _, _, _, hnd, _⟩ := h3
      obtain ⟨o, c, _, hcl⟩ := hnd.cell
      intro q hq
      obtain ⟨a, ha⟩ := List.getElem?_of_mem hq
      obtain ⟨g, x, y, _, _, hlen, _⟩ := hcl a q ha
      exact hlen
end Go.Proofs.YtpekpdimdelncaaGreatDoor
namespace Go.Proofs.YtpekpdimdelncaaGreatDoor
open Go.RowKit Go.Shelf
set_option linter.unusedVariables false
set_option linter.unusedSimpArgs false
theorem kept_few {h : List (List UInt8 × Lard.Thing)} {x : List UInt8} {kp : Lard.Keep} (hb : Lard.KB h) (hk : Lard.keptOf h x = some kp) : kp.needs.length ≤ 401 := by
  unfold Lard.keptOf at hk
  cases hl : Lard.look h x with
  | none => rw [hl] at hk; cases hk
  | some th =>
    rw [hl] at hk
    have hk : th.kept = some kp := hk
    unfold Lard.look at hl
    cases hf : h.find? (fun p => p.1 == x) with
    | none => rw [hf] at hl; cases hl
    | some p =>
      rw [hf] at hl
      cases hl
      exact hb p (List.mem_of_find?_eq_some hf) kp hk
theorem row_cell {w : World} {base size n : Nat} {e : TypeId} {o : Option Addr} {m c : Nat} {xs : List Value} (h : w.ownsRow base e size (.slice o m c) n xs) {j : Nat} {u : Value} (hj : xs[j]? = some u) (hn : 0 < n) : ∃ g, o = some ⟨g, 0, none⟩ ∧ w.cell? ⟨g, j, none⟩ = some u := by
  rcases h.2 with ⟨_, h0⟩ | ⟨g, cap, cur, e1, _⟩
  · omega
  · cases e1
    refine ⟨g, rfl, ?_⟩
    have := World.ownsRow.cells h (g := g) rfl j u hj
    have e : (⟨g, 0, none⟩ : Addr).add j = ⟨g, j, none⟩ := by unfold Addr.add; split <;> simp_all
    rw [e] at this
    exact this
end Go.Proofs.YtpekpdimdelncaaGreatDoor
namespace Go.Proofs.YtpekpdimdelncaaGreatDoor
open Go.RowKit Go.Shelf
set_option linter.unusedVariables false
set_option linter.unusedSimpArgs false
theorem whyCells_len (y : Lard.Why) : (whyCells y).length = 6 := by
  unfold whyCells
  simp only [List.length_cons, List.length_append, woCells_len]
end Go.Proofs.YtpekpdimdelncaaGreatDoor
namespace Go.Proofs.YtpekpdimdelncaaGreatDoor
open Go.RowKit Go.Shelf
set_option linter.unusedVariables false
set_option linter.unusedSimpArgs false
theorem flat_at {α : Type} {f : α → List Value} {c : Nat} (hc : ∀ y, (f y).length = c) : ∀ (R : List α) (k j : Nat) (y : α), R[k]? = some y → j < c → (R.flatMap f)[k * c + j]? = (f y)[j]?
  | [], k, j, y, h, _ => by simp at h
  | m :: R, 0, j, y, h, hj => by
    simp at h
    subst h
    rw [List.flatMap_cons, List.getElem?_append_left (by rw [hc]; omega)]
    simp
  | m :: R, k + 1, j, y, h, hj => by
    rw [List.flatMap_cons, List.getElem?_append_right (by rw [hc, Nat.succ_mul]; omega), hc, show (k + 1) * c + j - c = k * c + j by rw [Nat.succ_mul]; omega]
    exact flat_at hc R k j y (by simpa using h) hj
theorem is_fine {e : Lard.Src} (he : Lard.EF e) {k : List UInt8} {w : Lard.Wo} (h : Lard.Is e k w) : Lard.Fine w := by
  rcases h with h | ⟨rfl, _⟩
  · exact Lard.W.fine he h
  · exact Lard.fine_error _
theorem wo_ne {u v : Lard.Wo} (hu : Lard.Fine u) (hv : Lard.Fine v) (h : Lard.sameO u v = false) : toldV u ≠ toldV v := by
  intro e
  have hnil : Lard.rdV [] = none := by kernel_rfl
  have key : ∀ {l m : List UInt8}, ((⟨l.toArray⟩ : ByteArray) = ⟨m.toArray⟩) → l = m := fun {l m} e => by simpa using e
  cases u with
  | ok a =>
    have ha := Lard.rdV_wr (hu a rfl)
    cases v with
    | ok b =>
      simp only [toldV, Value.agg.injEq] at e
      have e1 : Lard.wr 3 a = Lard.wr 3 b := by simpa using e
      rw [e1, Lard.rdV_wr (hv b rfl)] at ha
      cases ha
      rw [hu.same] at h
      cases h
    | error c =>
      simp only [toldV, Value.agg.injEq] at e
      have e1 : Lard.wr 3 a = [] := by
        have := e
        simp at this
        exact this.2
      rw [e1, hnil] at ha
      cases ha
  | error c =>
    cases v with
    | ok b =>
      have hb := Lard.rdV_wr (hv b rfl)
      simp only [toldV, Value.agg.injEq] at e
      have e1 : Lard.wr 3 b = [] := by
        have := e
        simp at this
        exact this.2
      rw [e1, hnil] at hb
      cases hb
    | error d =>
      simp only [toldV, Value.agg.injEq] at e
      have e1 : c = d := by
        have := e
        simp at this
        omega
      subst e1
      rw [hu.same] at h
      cases h
theorem worth_is {f : Lard.LS} {H : Nat → Nat × List UInt8} (h : Lard.HasOk f H 8) {q : List UInt8} {u : Lard.Wo} (hI : Lard.Is (Lard.srcOf f.has) q u) : worthW f q = u := by
  unfold worthW
  split
  · obtain ⟨_, _, his, _⟩ := h.sound.bp q
    exact his.det hI
  · rename_i hn
    have ho := h.out q (fun i hi e => hn (by rw [← e, ← keyB_list]; exact keyB_name i (by omega)))
    exact Lard.Is.det (.inl ⟨0, .inl ⟨ho, rfl⟩⟩) hI
theorem worthS_ok {f : Lard.LS} {H : Nat → Nat × List UInt8} (h : Lard.HasOk f H 8) (q : List UInt8) : Lard.HasOk (worthS f q) H 8 := by
  unfold worthS
  split
  · exact h.ask q
  · exact h
def KT (o : Option Lard.Keep) (ns : List (List UInt8 × Lard.Wo)) (tc cd : Int) (ts : ByteArray) : Prop :=
  (o = none ∧ ns = [] ∧ tc = 0 ∧ ts = ⟨#[]⟩ ∧ cd = 7) ∨ ∃ kp, o = some kp ∧ kp.needs = ns ∧ toldV kp.worth = .agg #[.int .i64 tc, .string ts] ∧ cd = 0
theorem kept_told (w : World) (lb : Nat) (s : Lard.LS) (L : Nat → Prop) (key : ByteArray) (h : LAt w lb s L) (g : G w) (hx : Lard.isName key.data.toList = true) (hkb : Lard.KB s.has) :
    Calls Tryz.prog 30 #[ptr lb, .string key] w fun e w' => ∃ (ns : List (List UInt8 × Lard.Wo)) (o : Option Addr) (c : Nat) (tc cd : Int) (ts : ByteArray), e = .returned (.tuple #[.agg #[.int .i64 tc, .string ts], .slice o ns.length c, .int .i64 cd]) ∧
      w'.ownsRow w.heap.size 66 3 (.slice o ns.length c) ns.length (ns.flatMap needCells) ∧ KT (Lard.keptOf s.has key.data.toList) ns tc cd ts ∧ (∀ q ∈ ns, q.1.length ≤ 200) ∧ ns.length ≤ 401 ∧ Below w.heap.size w w' := by
  have hxl : key.data.toList.length ≤ 8 := name_len hx
  have hxs : key.size ≤ 8 := by rw [Lib.size_eq]; exact hxl
  refine (kept_any w lb s L key h g (by omega)).mono ?_
  rintro e w' ⟨hK, hB⟩
  unfold KeptTold at hK
  rw [if_pos hx] at hK
  cases hk : Lard.keptOf s.has key.data.toList with
  | none =>
    rw [hk] at hK
    exact ⟨[], none, 0, 0, 7, ⟨#[]⟩, hK, World.ownsRow_nil _ _ _ _, .inl ⟨rfl, rfl, rfl, rfl, rfl⟩, (fun q hq => by cases hq), Nat.zero_le _, hB⟩
  | some kp =>
    rw [hk] at hK
    obtain ⟨v, rfl, ho⟩ := hK
    obtain ⟨tc, ts, ht1, _⟩ := told_cells kp.worth
    have hv : ∃ o c, v = .slice o kp.needs.length c := by
      rcases ho.2 with ⟨e, h0⟩ | ⟨g, cap, cur, e, _⟩
      · exact ⟨none, 0, by rw [e, h0]⟩
      · exact ⟨_, _, e⟩
    obtain ⟨o, c, rfl⟩ := hv
    exact ⟨kp.needs, o, c, tc, 0, ts, by rw [ht1], ho, .inr ⟨kp, rfl, rfl, ht1, rfl⟩, needs_short h hk (by omega), kept_few hkb hk, hB⟩
section
variable {s : Lard.LS} {H : Nat → Nat × List UInt8} {k0 : Nat}
theorem kept_not (h : Lard.HasOk s H 8) (hk : k0 < 8) (hn : (H k0).1 ≠ 2) : Lard.keptOf s.has (Lard.keyText k0) = none := by
  cases hkp : Lard.keptOf s.has (Lard.keyText k0) with
  | none => rfl
  | some kp =>
    obtain ⟨t, ht⟩ := h.sound.only _ kp hkp
    rw [h.src k0 hk, if_pos hk] at ht
    unfold Lard.srcI at ht
    split at ht
    · cases hr : Lard.rdV (H k0).2 <;> rw [hr] at ht <;> cases ht
    · first | (rw [if_neg hn] at ht; cases ht) | cases ht
theorem rule_in (h : Lard.HasOk s H 8) (hk : k0 < 8) (hi : Lard.OkI (H k0)) (h2 : (H k0).1 = 2) : ∃ t, Lard.srcOf s.has (Lard.keyText k0) = some (.inr t) := by
  rw [h.src k0 hk, if_pos hk]
  unfold Lard.srcI
  rw [if_neg (by omega), if_pos h2]
  rcases hi with e | ⟨e, _⟩ | ⟨_, e, _⟩
  · rw [e] at h2; cases h2
  · omega
  · rw [if_pos e]
    exact ⟨_, rfl⟩
theorem told_end {k : List UInt8} (hs : Lard.Sound s) {ns0 ns1 : List (List UInt8 × Lard.Wo)} {tb cb tw cw : Int} {sb sw : ByteArray} (h0 : KT (Lard.keptOf s.has k) ns0 tb cb sb) (h1 : KT (Lard.keptOf (s.ask k).2.has k) ns1 tw cw sw) (hc : cw = 0) : (s.ask k).2.ran.any (fun y => y.key == k) = true ∨ (cb = 0 ∧ tb = tw ∧ sb = sw) := by
  cases hany : (s.ask k).2.ran.any (fun y => y.key == k) with
  | true => exact .inl rfl
  | false =>
    right
    have hl := Lard.told_same hs (k := k) (x := k) (fun y hy e => by
      have := List.any_eq_false.1 hany y hy
      simp [e] at this)
    have hkk : Lard.keptOf (s.ask k).2.has k = Lard.keptOf s.has k := by unfold Lard.keptOf; rw [hl]
    rw [hkk] at h1
    rcases h1 with ⟨_, _, _, _, e⟩ | ⟨kp, e1, e2, e3, e4⟩
    · omega
    · rcases h0 with ⟨f1, _⟩ | ⟨kp', f1, f2, f3, f4⟩
      · rw [e1] at f1; cases f1
      · rw [e1] at f1
        cases f1
        obtain ⟨a, b⟩ := told_same2 f3 e3
        exact ⟨f4, a, b⟩
theorem whys_short {w : World} {lb : Nat} {L : Nat → Prop} (h : Lard.HasOk s H 8) (hl : LAt w lb s L) {k : List UInt8} : ∀ y ∈ (s.ask k).2.ran, y.need.length ≤ 200 := by
  intro y hy
  obtain ⟨h1, t, ht⟩ := Lard.told_was h.sound y hy
  rcases h1 with e | ⟨kp, e1, e2⟩
  · rw [e]; exact Nat.zero_le _
  · have hyk : y.key.length ≤ 200 := by
      by_cases hk : ∃ i, i < 8 ∧ Lard.keyText i = y.key
      · obtain ⟨i, hi, e⟩ := hk
        have hn := keyB_name i (by omega)
        rw [keyB_list, e] at hn
        have : y.key.length ≤ 8 := name_len hn
        omega
      · rw [h.out y.key (fun i hi e => hk ⟨i, hi, e⟩)] at ht
        cases ht
    exact needs_short hl e1 hyk _ e2
end
theorem cell_same {w w' : World} {b j : Nat} (h : w'.heap[b]? = w.heap[b]?) : w'.cell? ⟨b, j, none⟩ = w.cell? ⟨b, j, none⟩ := by
  unfold World.cell?
  simp only [h]
theorem eqlW (w : World) (a b : Int) (s t : ByteArray) : (binOp .eql 59 (.agg #[.int .i64 a, .string s]) (.agg #[.int .i64 b, .string t])).run Tryz.prog w = .ok (.bool (a == b && s.toList == t.toList)) w := by
  have u3 := Tryz.underlying39
  have a3 := Tryz.isAgg39
  have z3 := Tryz.sizeOf39
  have u9 := Tryz.underlying9
  have a9 := Tryz.isAgg9
  have z9 := Tryz.sizeOf9
  have hS : Tryz.prog.underlying 59 = some (.struct (Tryz.prog.fieldsOf 59)) := by kernel_rfl
  have hp : Tryz.prog.stoodInHeld 59 = false := by kernel_rfl
  rw [run_eql_struct, show (10000 : Nat) = 9999 + 1 from rfl, run_equalIn_agg w 9999 59 _ _ hS hp]
  simp only [Program.fieldsOf, Tryz.underlying59]
  go_simp
  by_cases h1 : a = b <;> by_cases h2 : s.toList = t.toList <;> simp [h1, h2]
theorem guardW (w : World) (x y : Operand) (xs ys : Array Value) : (eqGuard .eql 59 x y (.agg xs) (.agg ys)).run Tryz.prog w = .ok () w := run_eqGuard_agg w .eql 59 x y xs ys (by kernel_rfl)
end Go.Proofs.YtpekpdimdelncaaGreatDoor
