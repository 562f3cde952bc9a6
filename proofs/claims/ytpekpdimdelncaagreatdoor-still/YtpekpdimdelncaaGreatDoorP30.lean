/- Out of: Ef, Sq. -/
import Derived.Test.YtpekpdimdelncaaGreatDoorP29
import Derived.Test.YtpekpdimdelncaaGreatDoorP06
import Derived.Test.YtpekpdimdelncaaGreatDoorP25
namespace Go.Proofs.YtpekpdimdelncaaGreatDoor
namespace Lard
set_option linter.unusedVariables false
theorem zip_self_all {α : Type} (p : α × α → Bool) : ∀ (l : List α), ((l.zip l).all p) = l.all fun x => p (x, x)
  | [] => rfl
  | a :: l => by simp only [List.zip_cons_cons, List.all_cons, zip_self_all p l]
theorem same_self : ∀ (n : Nat) (v : V), same n v v = lev n v
  | n, ⟨.inl i⟩ => by unfold same lev; simp
  | n, ⟨.inr (.inl b)⟩ => by unfold same lev; simp
  | 0, ⟨.inr (.inr l)⟩ => by unfold same lev; rfl
  | n + 1, ⟨.inr (.inr l)⟩ => by
    unfold same lev
    simp only [beq_self_eq_true, Bool.true_and]
    rw [zip_self_all]
    congr 1
    funext x
    exact same_self n x
theorem lev_up : ∀ (n : Nat) (v : V), lev n v = true → lev (n + 1) v = true
  | n, ⟨.inl i⟩, h => by unfold lev; rfl
  | n, ⟨.inr (.inl b)⟩, h => by unfold lev; rfl
  | 0, ⟨.inr (.inr l)⟩, h => by unfold lev at h; cases h
  | n + 1, ⟨.inr (.inr l)⟩, h => by
    unfold lev at h ⊢
    simp only [List.all_eq_true] at h ⊢
    exact fun x hx => lev_up n x (h x hx)
def L3 (v : V) : Prop := lev 3 v = true
theorem fine_ok {v : V} (h : L3 v) : Fine (.ok v) := by
  show same 3 v v = true
  rw [same_self]
  exact h
theorem fine_l3 {w : Wo} (h : Fine w) : ∀ v, w = .ok v → L3 v := by
  intro v hv
  subst hv
  have h : same 3 v v = true := h
  rw [same_self] at h
  exact h
theorem fine_error (c : Nat) : Fine (.error c) := by simp [Fine, sameO]
theorem l3_n (i : Int) : L3 (vn i) := rfl
theorem l3_w (b : By) : L3 (vw b) := rfl
theorem l3_l {l : List V} (h : ∀ x ∈ l, lev 2 x = true) : L3 (vl l) := by
  unfold L3 vl lev
  exact List.all_eq_true.2 h
theorem l3_in {l : List V} (h : L3 (vl l)) : ∀ x ∈ l, lev 2 x = true := by
  unfold L3 vl lev at h
  exact List.all_eq_true.1 h
def PP {α : Type} (A : α → Prop) : Pe α → Prop
  | ⟨.inl q⟩ => ∀ v, q.1 = .ok v → A v
  | ⟨.inr (_, c)⟩ => ∀ w, (∀ v, w = .ok v → L3 v) → PP A (c w)
theorem pp_ret {α : Type} {A : α → Prop} {r : Except Nat α} {f : Nat} (h : ∀ v, r = .ok v → A v) : PP A (.ret (r, f)) := h
theorem pp_then {α β : Type} {A : α → Prop} {B : β → Prop} : ∀ (p : Pe α) (k : α → Nat → Pe β), PP A p → (∀ v f, A v → PP B (k v f)) → PP B (thenP p k)
  | ⟨.inl (.ok a, f)⟩, k, h, hk => hk a f (h a rfl)
  | ⟨.inl (.error e, f)⟩, k, h, hk => fun v hv => by cases hv
  | ⟨.inr (q, c)⟩, k, h, hk => fun w hw => pp_then (c w) k (h w hw) hk
theorem pp_try {A : V → Prop} : ∀ (p : Pe V) (k : Nat → Pe V), PP A p → (∀ f, PP A (k f)) → PP A (tryP p k)
  | ⟨.inl (.ok a, f)⟩, k, h, hk => h
  | ⟨.inl (.error e, f)⟩, k, h, hk => by
    unfold tryP
    simp only [Pg.bind]
    by_cases he : e = 7 ∨ e = 8 ∨ e = 9 ∨ e = 10
    · rw [if_pos he]; exact hk f
    · rw [if_neg he]; exact h
  | ⟨.inr (q, c)⟩, k, h, hk => fun w hw => pp_try (c w) k (h w hw) hk
theorem l3_listOf {l : List V} {v : V} (h : listOf l = .ok v) : L3 v := by
  unfold listOf at h
  split at h
  · cases h
  · rename_i hn
    cases h
    refine l3_l (fun x hx => ?_)
    have h2 : l.all (lev 2) = true := by
      cases hb : l.all (lev 2) with
      | true => rfl
      | false => exact (hn (.inr hb)).elim
    exact List.all_eq_true.1 h2 x hx
theorem pp_seq {α : Type} (P : α → Nat → Pe V) : ∀ (l : List α) (acc : List V) (f : Nat), (∀ a ∈ l, ∀ f, PP L3 (P a f)) → PP L3 (seqP P l acc f)
  | [], acc, f, _ => fun v hv => l3_listOf hv
  | a :: r, acc, f, hP => pp_then _ _ (hP a List.mem_cons_self f) fun v f _ => pp_seq P r _ f (fun a ha => hP a (List.mem_cons_of_mem _ ha))
theorem pp_some (P : V → Nat → Pe V) : ∀ (l : List V) (acc : List V) (f : Nat), (∀ a ∈ l, ∀ f, PP L3 (P a f)) → PP L3 (someP P l acc f)
  | [], acc, f, _ => fun v hv => l3_listOf hv
  | a :: r, acc, f, hP => pp_then _ _ (hP a List.mem_cons_self f) fun v f _ => by
    cases h : numIn v with
    | ok i =>
      show PP L3 (if i = 0 then _ else _)
      by_cases h0 : i = 0
      · rw [if_pos h0]; exact pp_some P r _ f (fun a ha => hP a (List.mem_cons_of_mem _ ha))
      · rw [if_neg h0]; exact pp_some P r _ f (fun a ha => hP a (List.mem_cons_of_mem _ ha))
    | error e => exact fun v hv => by cases hv
theorem pp_need (k : By) (f : Nat) : PP L3 (needP k f) := fun w hw v hv => hw v hv
theorem l3_nums {x y v : V} {g : Int → Int → Except Nat V} (hg : ∀ i j u, g i j = .ok u → L3 u) (h : nums x y g = .ok v) : L3 v := by
  unfold nums at h
  split at h
  · exact hg _ _ _ h
  · cases h
theorem l3_make {op : Nat} {x y v : V} (hx : L3 x) (h : make op x y = .ok v) : L3 v := by
  unfold make at h
  split at h
  · unfold plus at h
    split at h
    · cases h; exact l3_n _
    · split at h
      · cases h
      · cases h; exact l3_w _
    · exact l3_listOf h
    · cases h
  · split at h
    · exact l3_nums (fun _ _ _ h => by cases h; exact l3_n _) h
    · split at h
      · exact l3_nums (fun _ _ _ h => by cases h; exact l3_n _) h
      · split at h
        · refine l3_nums (fun _ _ _ h => ?_) h
          split at h
          · cases h
          · cases h; exact l3_n _
        · split at h
          · unfold less at h
            split at h
            · cases h; exact l3_n _
            · cases h; exact l3_n _
            · cases h
          · split at h
            · cases h; exact l3_n _
            · split at h
              · exact l3_nums (fun _ _ _ h => by cases h; exact l3_n _) h
              · split at h
                · exact l3_nums (fun _ _ _ h => by cases h; exact l3_n _) h
                · unfold atPlace at h
                  split at h
                  · split at h
                    · split at h
                      · cases h; exact l3_w _
                      · cases h
                    · rename_i l hl
                      split at h
                      · rename_i k hk
                        cases h
                        have hx' : x = vl l := by cases x; simp only at hl; rw [hl]; rfl
                        rw [hx'] at hx
                        cases hg : l[k]? with
                        | none => exact l3_n 0
                        | some u => exact lev_up 2 u (l3_in hx u (List.mem_of_getElem? hg))
                      · cases h
                    · cases h
                  · cases h
theorem l3_size {x v : V} (h : size x = .ok v) : L3 v := by
  unfold size at h
  split at h
  · cases h
  · cases h; exact l3_n _
  · cases h; exact l3_n _
theorem l3_sumFrom : ∀ (l : List V) (a : Int) (v : V), sumFrom a l = .ok v → L3 v
  | [], a, v, h => by cases h; exact l3_n _
  | u :: r, a, v, h => by
    unfold sumFrom at h
    split at h
    · exact l3_sumFrom r _ v h
    · cases h
theorem l3_sumUp {x v : V} (h : sumUp x = .ok v) : L3 v := by
  unfold sumUp at h
  split at h
  · exact l3_sumFrom _ _ _ h
  · cases h
theorem l3_asWord {x v : V} (h : asWord x = .ok v) : L3 v := by
  unfold asWord at h
  split at h
  · cases h; exact l3_w _
  · cases h; exact l3_w _
  · cases h
theorem l3_listIn {v : V} {l : List V} (hv : L3 v) (h : listIn v = .ok l) : ∀ x ∈ l, L3 x := by
  unfold listIn at h
  split at h
  · rename_i l' hl
    cases h
    have : v = vl l := by cases v; simp only at hl; rw [hl]; rfl
    rw [this] at hv
    exact fun x hx => lev_up 2 x (l3_in hv x hx)
  · cases h
theorem pp_first (P : T → Nat → Pe V) (t : T) (f : Nat) (hP : ∀ i f, PP L3 (P (t.part i) f)) : PP L3 (firstP P t f) := by
  unfold firstP
  refine pp_then _ _ (hP 0 f) fun v f hv => ?_
  split
  · exact pp_then _ _ (hP 1 f) fun u f hu => pp_ret fun r hr => l3_make hv hr
  · split
    · exact pp_ret fun r hr => l3_make (l3_n 0) hr
    · split
      · split
        · exact pp_need _ _
        · exact pp_ret fun r hr => by cases hr
      · split
        · split
          · split
            · exact hP 2 f
            · exact hP 1 f
          · exact pp_ret fun r hr => by cases hr
        · split
          · exact pp_ret fun r hr => l3_size hr
          · split
            · exact pp_ret fun r hr => l3_sumUp hr
            · split
              · exact pp_ret fun r hr => l3_asWord hr
              · exact pp_ret fun r hr => by cases hr; exact hv
def lit : Nat → T → Bool
  | 0, _ => true
  | n + 1, t => (match t.is with | some v => lev 3 v | .none => true) && t.parts.all (lit n)
theorem lit_part {n : Nat} {t : T} (h : lit (n + 1) t = true) (i : Nat) : lit n (t.part i) = true := by
  unfold lit at h
  simp only [Bool.and_eq_true] at h
  unfold T.part
  cases hg : t.parts[i]? with
  | none =>
    simp only [Option.getD_none]
    cases n <;> simp [lit, T.none]
  | some u => exact List.all_eq_true.1 h.2 u (List.mem_of_getElem? hg)
theorem pp_tr : ∀ (n : Nat) (t : T) (it : Option V) (f : Nat), lit n t = true → (∀ v, it = some v → L3 v) → PP L3 (tr n t it f)
  | 0, t, it, f, _, _ => fun v hv => by cases hv
  | n + 1, t, it, f, h, hit => by
    have hp : ∀ i f, PP L3 (tr n (t.part i) it f) := fun i f => pp_tr n _ it f (lit_part h i) hit
    have hp2 : ∀ i u f, L3 u → PP L3 (tr n (t.part i) (some u) f) := fun i u f hu => pp_tr n _ _ f (lit_part h i) (fun v hv => by cases hv; exact hu)
    unfold tr
    split
    · exact pp_first _ t f hp
    · split
      · exact pp_ret fun r hr => by cases hr
      · split
        · refine pp_ret fun r hr => ?_
          unfold lit at h
          simp only [Bool.and_eq_true] at h
          cases hi : t.is with
          | none => rw [hi] at hr; cases hr
          | some v =>
            rw [hi] at hr h
            cases hr
            exact h.1
        · split
          · exact pp_need _ _
          · split
            · refine pp_ret fun r hr => ?_
              cases it with
              | none => cases hr
              | some v => cases hr; exact hit _ rfl
            · split
              · exact pp_try _ _ (hp 0 _) (fun f => hp 1 f)
              · split
                · refine pp_then _ _ (hp 0 _) fun v f hv => ?_
                  cases hl : listIn v with
                  | ok l => exact pp_seq _ l [] f (fun a ha f => hp2 1 a f (l3_listIn hv hl a ha))
                  | error e => exact pp_ret fun r hr => by cases hr
                · split
                  · refine pp_then _ _ (hp 0 _) fun v f hv => ?_
                    cases hl : listIn v with
                    | ok l => exact pp_some _ l [] f (fun a ha f => hp2 1 a f (l3_listIn hv hl a ha))
                    | error e => exact pp_ret fun r hr => by cases hr
                  · split
                    · refine pp_seq _ _ _ _ (fun a ha f => pp_tr n a it f ?_ hit)
                      unfold lit at h
                      simp only [Bool.and_eq_true] at h
                      exact List.all_eq_true.1 h.2 a ha
                    · exact pp_first _ t _ hp
theorem clo_worth : ∀ (p : Pe V), PP L3 p → Clo p.worth
  | ⟨.inl (.ok v, f)⟩, h => fine_ok (h v rfl)
  | ⟨.inl (.error c, f)⟩, h => fine_error c
  | ⟨.inr (k, c)⟩, h => fun w hw => clo_worth (c w) (h w (fine_l3 hw))
theorem clo_prog {t : T} (h : lit (hM t) t = true) : Clo (prog t) := clo_worth _ (pp_tr _ t none 400 h (fun _ hv => by cases hv))
/-! The trees that a reader makes. -/
def LA (t : T) : Prop := ∀ n, lit n t = true
theorem la_make {t : T} (h1 : (match t.is with | some v => lev 3 v | .none => true) = true) (h2 : ∀ u ∈ t.parts, LA u) : LA t := fun n => by
  cases n with
  | zero => rfl
  | succ n =>
    unfold lit
    rw [Bool.and_eq_true]
    exact ⟨h1, List.all_eq_true.2 (fun u hu => h2 u hu n)⟩
theorem isOf_fine (l : By) : (match isOf l with | some v => lev 3 v | .none => true) = true := by
  unfold isOf
  split <;> rename_i h
  · split at h <;> first | (cases h; rfl) | cases h
  · rfl
theorem la_node (l : By) (k i : Nat) (ts : List T) (h : ∀ u ∈ ts, LA u) : LA (nodeT l k i ts) := la_make (isOf_fine _) h
theorem la_oper (l : By) (i : Nat) (ts us : List T) (h : ∀ u ∈ ts, LA u) (h' : ∀ u ∈ us, LA u) : LA (operT l i ts us) := la_make rfl (fun u hu => by
  rcases List.mem_append.1 hu with hu | hu
  · exact h u hu
  · exact h' u hu)
def RTA (r : RT) : Prop := ∀ j ts, r = .ok (j, ts) → ∀ u ∈ ts, LA u
theorem rta_ok {j : Nat} {ts : List T} (h : ∀ u ∈ ts, LA u) : RTA (.ok (j, ts)) := fun _ _ e => by cases e; exact h
theorem rta_err {e : Nat × Nat} : RTA (.error e) := fun _ _ h => by cases h
theorem rta_then {r : RT} {f : Nat → List T → RT} (h : RTA r) (hf : ∀ j ts, (∀ u ∈ ts, LA u) → RTA (f j ts)) : RTA (thenT r f) := by
  rcases r with e | ⟨j, ts⟩
  · exact rta_err
  · exact hf j ts (h j ts rfl)
theorem rta_exp (l t : By) (i : Nat) (ts : List T) (h : ∀ u ∈ ts, LA u) : RTA (expT l t i ts) := by
  unfold expT
  split
  · exact rta_ok h
  · exact rta_err
theorem mem_app {α : Type} {P : α → Prop} {a b : List α} (h : ∀ u ∈ a, P u) (h' : ∀ u ∈ b, P u) : ∀ u ∈ a ++ b, P u := fun u hu => by
  rcases List.mem_append.1 hu with hu | hu
  · exact h u hu
  · exact h' u hu
theorem no_mem {α : Type} {P : α → Prop} : ∀ u ∈ ([] : List α), P u := fun u hu => by cases hu
theorem rta_parts (l : By) (k i : Nat) (R F W : Nat → RT) (I : Nat → List T → RT) (hR : ∀ j, RTA (R j)) (hF : ∀ j, RTA (F j)) (hW : ∀ j, RTA (W j)) (hI : ∀ j ts, (∀ u ∈ ts, LA u) → RTA (I j ts)) : RTA (partsT l k i R F W I) := by
  unfold partsT
  split
  · exact hF i
  split
  · exact rta_then (hR i) (rta_exp l _)
  split
  · exact rta_then (hR i) (rta_exp l _)
  split
  · split
    · exact rta_ok no_mem
    · exact rta_then (hR i) hI
  split
  · exact rta_then (rta_then (hR i) (rta_exp l _)) fun j ts h1 => rta_then (rta_then (hR j) (rta_exp l _)) fun j us h2 => rta_then (hF j) fun j vs h3 => rta_ok (mem_app h1 (mem_app h2 h3))
  split
  · exact rta_then (rta_exp l _ _ _ no_mem) fun j _ _ => rta_then (hR j) (rta_exp l _)
  split
  · exact rta_then (rta_exp l _ _ _ no_mem) fun j _ _ => rta_then (rta_then (hR j) (rta_exp l _)) fun j ts h1 => rta_then (rta_then (hR j) (rta_exp l _)) fun j us h2 => rta_ok (mem_app h1 h2)
  split
  · exact rta_then (rta_exp l _ _ _ no_mem) fun j _ _ => rta_then (rta_then (hR j) (rta_exp l _)) fun j ts h1 => rta_then (rta_then (hW j) (rta_exp l _)) fun j us h2 => rta_ok (mem_app h1 h2)
  · exact rta_ok no_mem
theorem one_mem {α : Type} {P : α → Prop} {a : α} (h : P a) : ∀ u ∈ [a], P u := fun u hu => by rw [List.mem_singleton.1 hu]; exact h
theorem rta_PT (l : By) : ∀ (n tag deep its i : Nat) (acc : List T), (∀ u ∈ acc, LA u) → RTA (PT l n tag deep its i acc) := by
  intro n
  induction n with
  | zero => intros; exact rta_err
  | succ n ih =>
    intro tag deep its i acc hacc
    unfold PT
    split
    · refine rta_then (ih _ _ _ _ _ no_mem) fun j ts h1 => ?_
      split
      · exact rta_then (ih _ _ _ _ _ no_mem) fun k us h2 => rta_ok (one_mem (la_oper l j ts us h1 h2))
      · exact rta_ok h1
    split
    · exact rta_then (ih _ _ _ _ _ no_mem) fun j ts h1 => ih _ _ _ _ _ h1
    split
    · exact rta_then (ih _ _ _ _ _ no_mem) fun j ts h1 => ih _ _ _ _ _ h1
    split
    · split
      · exact rta_err
      split
      · exact rta_err
      · exact rta_then (rta_parts l _ _ _ _ _ _ (fun j => ih _ _ _ _ _ no_mem) (fun j => ih _ _ _ _ _ no_mem) (fun j => ih _ _ _ _ _ no_mem) (fun j ts h => ih _ _ _ _ _ h)) fun j ts h1 => rta_ok (one_mem (la_node l _ _ ts h1))
    split
    · split
      · exact rta_then (ih _ _ _ _ _ no_mem) fun j us h1 => ih _ _ _ _ _ (one_mem (la_oper l i acc us hacc h1))
      · exact rta_ok hacc
    split
    · split
      · exact rta_then (ih _ _ _ _ _ no_mem) fun j us h1 => ih _ _ _ _ _ (one_mem (la_oper l i acc us hacc h1))
      · exact rta_ok hacc
    · split
      · exact rta_then (ih _ _ _ _ _ no_mem) fun j us h1 => ih _ _ _ _ _ (mem_app hacc h1)
      · exact rta_exp l _ _ _ hacc
theorem la_none : LA T.none := la_make rfl (fun u hu => by cases hu)
theorem la_treeOf (l : By) : LA (treeOf l) := by
  unfold treeOf
  cases h : PT l (8 * l.length + 5) 0 0 0 (skip l 0) [] with
  | error e => exact la_none
  | ok q =>
    obtain ⟨j, ts⟩ := q
    have := rta_PT l _ _ _ _ _ [] no_mem j ts h
    cases ts with
    | nil => exact la_none
    | cons t r => exact this t List.mem_cons_self
theorem clo_treeOf (l : By) : Clo (prog (treeOf l)) := clo_prog (la_treeOf l _)
end Lard
end Go.Proofs.YtpekpdimdelncaaGreatDoor
namespace Go.Proofs.YtpekpdimdelncaaGreatDoor
namespace Lard
set_option linter.unusedVariables false
structure Sound (s : LS) : Prop where
  ef : EF (srcOf s.has)
  hon : ∀ k t kp, srcOf s.has k = some (.inr t) → keptOf s.has k = some kp → Hon (prog t) [] kp.needs kp.worth
  only : ∀ k kp, keptOf s.has k = some kp → ∃ t, srcOf s.has k = some (.inr t)
  fine : ∀ k kp, keptOf s.has k = some kp → ∀ q ∈ kp.needs, Fine q.2
  begun : s.begun = []
  kb : KB s.has
  len : s.has.length ≤ 40
theorem Sound.new : Sound LS.new where
  ef := ⟨(fun k v h => by cases h), (fun k t h => by cases h)⟩
  hon k t kp h := by cases h
  only k kp h := by cases h
  fine k kp h := by cases h
  begun := rfl
  kb p hp := by cases hp
  len := Nat.zero_le _
theorem strip_len {h h' : List (By × Thing)} (e : strip h' = strip h) : h'.length = h.length := by
  have := congrArg List.length e
  unfold strip at this
  simpa using this
theorem src_ruled {h : List (By × Thing)} {k : By} {t : T} (he : srcOf h k = some (.inr t)) : k ∈ ruled h := by
  unfold srcOf at he
  cases hl : look h k with
  | none => rw [hl] at he; cases he
  | some th =>
    rw [hl] at he
    cases ht : th.tree with
    | none => simp only [Option.map_some, ht] at he; cases he
    | some t' => exact mem_ruled hl (by rw [ht]; rfl)
def LS.fresh (s : LS) : LS := { s with done := [], ring := [], ran := [] }
theorem Sound.inv {s : LS} (h : Sound s) : Inv (srcOf s.has) s.fresh where
  src := rfl
  done k w hk := by cases hk
  utd k w hk := by cases hk
  hon := h.hon
  only := h.only
  fine := h.fine
  ring hr := (hr rfl).elim
  rr k hk := by cases hk
theorem Sound.bp {s : LS} (h : Sound s) (key : By) : BP (srcOf s.has) key s.fresh (s.ask key) := by
  refine bring_ok h.ef (K := ruled s.has) (fun k t he => src_ruled he) 42 key s.fresh h.inv ?_ ?_
  · have : s.fresh.begun = [] := h.begun
    rw [this]
    trivial
  · have hb : s.fresh.begun = [] := h.begun
    unfold Fuel
    rw [hb]
    have h1 := List.length_filter_le (fun k => !([] : List By).contains k) (ruled s.has)
    have h2 : (ruled s.has).length ≤ s.has.length := by
      unfold ruled
      rw [List.length_map]
      exact List.length_filter_le _ _
    have := h.len
    omega
theorem Sound.nst {s : LS} (h : Sound s) (key : By) : Nst s.fresh (s.ask key).2 1 := bring_nst 42 key s.fresh h.kb
theorem Sound.ask {s : LS} (h : Sound s) (key : By) : Sound (s.ask key).2 := by
  obtain ⟨new, hon, -⟩ := h.bp key
  have hn := h.nst key
  have hi := hon.inv
  exact {
    ef := by rw [hi.src]; exact h.ef
    hon := fun k t kp h1 h2 => hi.hon k t kp (by rw [← hi.src]; exact h1) h2
    only := fun k kp h1 => by rw [hi.src]; exact hi.only k kp h1
    fine := hi.fine
    begun := hon.begun.trans h.begun
    kb := hn.kb h.kb
    len := by rw [strip_len hn.strip]; exact h.len }
theorem Sound.src {s : LS} (h : Sound s) (key : By) : srcOf (s.ask key).2.has = srcOf s.has := by
  obtain ⟨new, hon, -⟩ := h.bp key
  exact hon.inv.src
def FineT (th : Thing) : Prop := th.kept = none ∧ ((th.tree = none ∧ L3 th.value) ∨ ∃ t, th.tree = some t ∧ Clo (prog t))
theorem src_put (h : List (By × Thing)) (key : By) (th : Thing) (k : By) : srcOf (put h key th) k = if key = k then some (match th.tree with | .none => .inl th.value | .some t => .inr t) else srcOf h k := by
  unfold srcOf
  rw [look_put]
  split <;> rfl
theorem kept_put (h : List (By × Thing)) (key : By) (th : Thing) (hk : th.kept = none) (k : By) : keptOf (put h key th) k = if key = k then none else keptOf h k := by
  unfold keptOf
  rw [look_put]
  split
  · exact hk
  · rfl
theorem put_keys {α : Type} {l : List (By × α)} {k : By} {a : α} {p : By × α} (h : p ∈ put l k a) : p = (k, a) ∨ p ∈ l := by
  unfold put at h
  split at h
  · obtain ⟨q, hq, rfl⟩ := List.mem_map.1 h
    split
    · exact .inl rfl
    · exact .inr hq
  · rcases List.mem_append.1 h with h | h
    · exact .inr h
    · exact .inl (List.mem_singleton.1 h)
theorem Sound.put {s : LS} (h : Sound s) {key : By} {th : Thing} (hf : FineT th) (hl : (look s.has key).isSome = true ∨ s.has.length < 40) (t : By) : Sound ({ s with has := Lard.put s.has key th }.write t) where
  ef := by
    refine ⟨fun k v hk => ?_, fun k t hk => ?_⟩
    · have hk : srcOf (Lard.put s.has key th) k = _ := hk
      rw [src_put] at hk
      split at hk
      · rcases hf.2 with ⟨h1, h2⟩ | ⟨t', h1, h2⟩
        · rw [h1] at hk; cases hk; exact fine_ok h2
        · rw [h1] at hk; cases hk
      · exact h.ef.val k v hk
    · have hk : srcOf (Lard.put s.has key th) k = _ := hk
      rw [src_put] at hk
      split at hk
      · rcases hf.2 with ⟨h1, h2⟩ | ⟨t', h1, h2⟩
        · rw [h1] at hk; cases hk
        · rw [h1] at hk; cases hk; exact h2
      · exact h.ef.rule k t hk
  hon k t kp h1 h2 := by
    have h1 : srcOf (Lard.put s.has key th) k = _ := h1
    have h2 : keptOf (Lard.put s.has key th) k = _ := h2
    rw [kept_put _ _ _ hf.1] at h2
    split at h2
    · cases h2
    · rename_i hn
      rw [src_put, if_neg hn] at h1
      exact h.hon k t kp h1 h2
  only k kp h2 := by
    have h2 : keptOf (Lard.put s.has key th) k = _ := h2
    rw [kept_put _ _ _ hf.1] at h2
    split at h2
    · cases h2
    · rename_i hn
      show ∃ t, srcOf (Lard.put s.has key th) k = _
      rw [src_put, if_neg hn]
      exact h.only k kp h2
  fine k kp h2 := by
    have h2 : keptOf (Lard.put s.has key th) k = _ := h2
    rw [kept_put _ _ _ hf.1] at h2
    split at h2
    · cases h2
    · exact h.fine k kp h2
  begun := h.begun
  kb p hp kp hkp := by
    rcases put_keys hp with rfl | hp
    · rw [hf.1] at hkp; cases hkp
    · exact h.kb p hp kp hkp
  len := by
    show (Lard.put s.has key th).length ≤ 40
    unfold Lard.put
    split
    · rw [List.length_map]; exact h.len
    · rename_i hn
      rcases hl with hl | hl
      · exact (hn hl).elim
      · rw [List.length_append]; simp; omega
theorem Sound.give {s : LS} (h : Sound s) {key : By} {th : Thing} (hf : FineT th) : Sound (s.give key th).2 := by
  unfold LS.give
  split
  · exact h
  · rename_i hn
    refine h.put hf ?_ _
    cases hl : look s.has key with
    | some x => exact .inl rfl
    | none =>
      right
      refine Nat.lt_of_not_le fun h40 => hn ⟨by rw [hl]; rfl, h40⟩
theorem src_del (h : List (By × Thing)) (key k : By) : srcOf (del h key) k = if key = k then none else srcOf h k := by
  unfold srcOf
  rw [look_del]
  split <;> rfl
theorem kept_del (h : List (By × Thing)) (key k : By) : keptOf (del h key) k = if key = k then none else keptOf h k := by
  unfold keptOf
  rw [look_del]
  split <;> rfl
theorem Sound.drop {s : LS} (h : Sound s) (key : By) : Sound (s.drop key) where
  ef := by
    refine ⟨fun k v hk => ?_, fun k t hk => ?_⟩
    · have hk : srcOf (del s.has key) k = _ := hk
      rw [src_del] at hk
      split at hk
      · cases hk
      · exact h.ef.val k v hk
    · have hk : srcOf (del s.has key) k = _ := hk
      rw [src_del] at hk
      split at hk
      · cases hk
      · exact h.ef.rule k t hk
  hon k t kp h1 h2 := by
    have h1 : srcOf (del s.has key) k = _ := h1
    have h2 : keptOf (del s.has key) k = _ := h2
    rw [kept_del] at h2
    split at h2
    · cases h2
    · rename_i hn
      rw [src_del, if_neg hn] at h1
      exact h.hon k t kp h1 h2
  only k kp h2 := by
    have h2 : keptOf (del s.has key) k = _ := h2
    rw [kept_del] at h2
    split at h2
    · cases h2
    · rename_i hn
      show ∃ t, srcOf (del s.has key) k = _
      rw [src_del, if_neg hn]
      exact h.only k kp h2
  fine k kp h2 := by
    have h2 : keptOf (del s.has key) k = _ := h2
    rw [kept_del] at h2
    split at h2
    · cases h2
    · exact h.fine k kp h2
  begun := h.begun
  kb p hp kp hkp := h.kb p (List.mem_filter.1 hp).1 kp hkp
  len := Nat.le_trans (List.length_filter_le _ _) h.len
theorem ask_same {s f : LS} (hs : Sound s) (hf : Sound f) (he : srcOf s.has = srcOf f.has) (key : By) : (s.ask key).1 = (f.ask key).1 := by
  obtain ⟨_, _, h1, _⟩ := hs.bp key
  obtain ⟨_, _, h2, _⟩ := hf.bp key
  rw [he] at h1
  exact h1.det h2
theorem ask_ring {s : LS} (hs : Sound s) (key : By) (h : (s.ask key).1 = .error 12) : (s.ask key).2.ring ≠ [] ∧ Ring (srcOf s.has) (s.ask key).2.ring := by
  obtain ⟨_, hon, _, h2, _⟩ := hs.bp key
  exact ⟨h2 h, hon.inv.ring (h2 h)⟩
end Lard
end Go.Proofs.YtpekpdimdelncaaGreatDoor
