/- Out of: Rd, N1. -/
import Derived.Test.YtpekpdimdelncaaGreatDoorP01
import Derived.Test.YtpekpdimdelncaaGreatDoorP33
import Derived.Test.YtpekpdimdelncaaGreatDoorP13
import Derived.Test.YtpekpdimdelncaaGreatDoorP02
import Derived.Test.YtpekpdimdelncaaGreatDoorShelf2
import Derived.BigQuiet
namespace Go.Proofs.YtpekpdimdelncaaGreatDoor
namespace Lard
set_option linter.unusedVariables false
def numC (c : UInt8) : Bool := c == 45 || isDig c
def rdItems (R : List UInt8 → Option (V × List UInt8)) : Nat → List UInt8 → List V → Option (V × List UInt8)
  | 0, _, _ => none
  | k + 1, l, acc => match R l with
    | none => none
    | some (v, r) => match r with
      | [] => none
      | c :: r => if c = 125 then some (vl (acc ++ [v]), r) else if c = 44 then rdItems R k r (acc ++ [v]) else none
def rdNum (l : List UInt8) : Option (V × List UInt8) := (numOf (l.take (lead numC l))).map fun i => (vn i, l.drop (lead numC l))
def rdWord (l : List UInt8) : Option (V × List UInt8) := (wordOf l).map fun n => (vw ((l.drop 1).take n), l.drop (n + 2))
def rdList (R : List UInt8 → Option (V × List UInt8)) (l : List UInt8) : Option (V × List UInt8) :=
  if l.head? = some 125 then some (vl [], l.drop 1) else rdItems R 12 l []
def rdF : Nat → List UInt8 → Option (V × List UInt8)
  | n, l => if l.head? = some 39 then rdWord l else if l.head? = some 123 then (match n with | 0 => none | m + 1 => rdList (rdF m) (l.drop 1)) else rdNum l
def rdV (l : List UInt8) : Option V :=
  match rdF 3 l with
  | some (v, []) => some v
  | _ => none
/-! What is read. -/
def okV : Nat → V → Prop
  | n, v => match v.x with
    | .inl i => -9223372036854775808 ≤ i ∧ i ≤ 9223372036854775807
    | .inr (.inl b) => b.length ≤ 30 ∧ ∀ c ∈ b, wordC c = true ∧ c ≠ 39
    | .inr (.inr l) => match n with
      | 0 => False
      | m + 1 => l.length ≤ 12 ∧ ∀ u ∈ l, okV m u
theorem okV_lev : ∀ (n : Nat) (v : V), okV n v → lev n v = true
  | n, ⟨.inl i⟩, h => by unfold lev; rfl
  | n, ⟨.inr (.inl b)⟩, h => by unfold lev; rfl
  | 0, ⟨.inr (.inr l)⟩, h => by unfold okV at h; exact h.elim
  | n + 1, ⟨.inr (.inr l)⟩, h => by
    unfold okV at h
    unfold lev
    exact List.all_eq_true.2 (fun x hx => okV_lev n x (h.2 x hx))
theorem numOf_some {l : List UInt8} {i : Int} (h : numOf l = some i) : Lib.itoa i = l ∧ Lib.parseIntB 64 l = .ok i := by
  unfold numOf at h
  split at h
  · rename_i v hv
    split at h
    · rename_i h2
      cases h
      exact ⟨by simpa using h2, hv⟩
    · cases h
  · cases h
theorem quote_some : ∀ (n : Nat) (l : List UInt8) (k : Nat), quote n l = some k → k < n ∧ k < l.length ∧ l[k]? = some 39 ∧ ∀ c ∈ l.take k, wordC c = true ∧ c ≠ 39
  | 0, _, _, h => by cases h
  | n + 1, [], _, h => by cases h
  | n + 1, c :: r, k, h => by
    unfold quote at h
    split at h
    · rename_i hc
      cases h
      exact ⟨by omega, by simp, by simp [hc], fun c hc => by simp at hc⟩
    · rename_i hc
      split at h
      · rename_i hw
        cases hq : quote n r with
        | none => rw [hq] at h; cases h
        | some m =>
          rw [hq] at h
          cases h
          obtain ⟨h1, h2, h3, h4⟩ := quote_some n r m hq
          refine ⟨by show m + 1 < n + 1; omega, by show m + 1 < (c :: r).length; simp; omega, by simpa using h3, fun d hd => ?_⟩
          rw [List.take_succ_cons, List.mem_cons] at hd
          rcases hd with rfl | hd
          · exact ⟨hw, hc⟩
          · exact h4 d hd
      · cases h
theorem dec_ne (u : Nat) : Lib.decDigits u ≠ [] := by
  rw [Lib.decDigits]
  split
  · simp
  · simp
theorem itoa_ne (i : Int) : Lib.itoa i ≠ [] := by
  unfold Lib.itoa
  split
  · simp
  · exact dec_ne _
def Apart (r : List UInt8) : Prop := ∀ c, r.head? = some c → numC c = false
theorem rdItems_some (R : List UInt8 → Option (V × List UInt8)) (A : V → Prop) (f : V → List UInt8) (hR : ∀ l v r, R l = some (v, r) → A v ∧ l = f v ++ r) : ∀ (k : Nat) (l : List UInt8) (acc : List V) (v : V) (r : List UInt8), rdItems R k l acc = some (v, r) → ∃ m : List V, m ≠ [] ∧ m.length ≤ k ∧ v = vl (acc ++ m) ∧ (∀ u ∈ m, A u) ∧ l = commas (m.map f) ++ 125 :: r
  | 0, _, _, _, _, h => by cases h
  | k + 1, l, acc, v, r, h => by
    unfold rdItems at h
    cases hl : R l with
    | none => rw [hl] at h; cases h
    | some q =>
      obtain ⟨u, t⟩ := q
      obtain ⟨hA, rfl⟩ := hR l u t hl
      rw [hl] at h
      cases t with
      | nil => cases h
      | cons c t =>
        simp only at h
        split at h
        · rename_i hc
          cases h
          subst hc
          exact ⟨[u], by simp, by simp, rfl, fun x hx => by rw [List.mem_singleton.1 hx]; exact hA, by simp [commas]⟩
        · split at h
          · rename_i hc
            subst hc
            obtain ⟨m, h1, h2, h3, h4, h5⟩ := rdItems_some R A f hR k t (acc ++ [u]) v r h
            refine ⟨u :: m, by simp, by simp; omega, by rw [h3]; simp, fun x hx => ?_, ?_⟩
            · rcases List.mem_cons.1 hx with rfl | hx
              · exact hA
              · exact h4 x hx
            · cases m with
              | nil => exact (h1 rfl).elim
              | cons y m => rw [h5]; simp [commas]
          · cases h
theorem rdF_some : ∀ (n : Nat) (l : List UInt8) (v : V) (r : List UInt8), rdF n l = some (v, r) → okV n v ∧ l = wr n v ++ r := by
  have hleaf : ∀ (n : Nat) (l : List UInt8) (v : V) (r : List UInt8), (l.head? = some 39 ∧ rdWord l = some (v, r)) ∨ rdNum l = some (v, r) → okV n v ∧ l = wr n v ++ r := by
    rintro n l v r (⟨hh, h⟩ | h)
    · unfold rdWord at h
      cases l with
      | nil => cases hh
      | cons c t =>
        cases hh
        have e : wordOf (39 :: t) = quote 31 t := by unfold wordOf; exact if_pos rfl
        rw [e] at h
        cases hq : quote 31 t with
        | none => rw [hq] at h; cases h
        | some k =>
          rw [hq] at h
          cases h
          obtain ⟨h1, h2, h3, h4⟩ := quote_some 31 t k hq
          refine ⟨?_, ?_⟩
          · unfold vw okV
            simp only [List.drop_succ_cons, List.drop_zero]
            exact ⟨by rw [List.length_take]; omega, h4⟩
          · unfold vw wr
            simp only [List.drop_succ_cons, List.drop_zero]
            have ht : t = t.take k ++ 39 :: t.drop (k + 1) := by
              have h5 : t.drop k = 39 :: t.drop (k + 1) := by
                have hlt : k < t.length := h2
                rw [List.drop_eq_getElem_cons hlt]
                rw [List.getElem?_eq_getElem hlt] at h3
                rw [Option.some.inj h3]
              rw [← h5]
              exact (List.take_append_drop k t).symm
            conv => lhs; rw [ht]
            simp
    · unfold rdNum at h
      cases hn : numOf (l.take (lead numC l)) with
      | none => rw [hn] at h; cases h
      | some i =>
        rw [hn] at h
        cases h
        obtain ⟨h1, h2⟩ := numOf_some hn
        refine ⟨?_, ?_⟩
        · unfold vn okV
          exact parse_range _ _ h2
        · unfold vn wr
          simp only
          rw [h1]
          exact (List.take_append_drop _ l).symm
  intro n
  induction n with
  | zero =>
    intro l v r h
    unfold rdF at h
    split at h
    · rename_i hh; exact hleaf 0 l v r (.inl ⟨hh, h⟩)
    · split at h
      · cases h
      · exact hleaf 0 l v r (.inr h)
  | succ n ih =>
    intro l v r h
    unfold rdF at h
    split at h
    · rename_i hh; exact hleaf (n + 1) l v r (.inl ⟨hh, h⟩)
    · split at h
      · rename_i hh
        cases l with
        | nil => cases hh
        | cons c t =>
          cases hh
          simp only [List.drop_succ_cons, List.drop_zero] at h
          unfold rdList at h
          split at h
          · rename_i h125
            cases h
            cases t with
            | nil => cases h125
            | cons d t =>
              cases h125
              refine ⟨?_, ?_⟩
              · unfold vl okV
                exact ⟨by simp, fun u hu => by cases hu⟩
              · unfold vl wr
                simp [commas]
          · obtain ⟨m, h1, h2, h3, h4, h5⟩ := rdItems_some (rdF n) (okV n) (wr n) (fun l v r h => ih l v r h) 12 t [] v r h
            subst h3
            refine ⟨?_, ?_⟩
            · unfold vl okV
              exact ⟨by simpa using h2, by simpa using h4⟩
            · unfold vl wr
              rw [h5]
              simp
      · exact hleaf (n + 1) l v r (.inr h)
theorem rdV_some {l : List UInt8} {v : V} (h : rdV l = some v) : okV 3 v ∧ l = wr 3 v := by
  unfold rdV at h
  split at h
  · rename_i u hu
    cases h
    obtain ⟨h1, h2⟩ := rdF_some 3 l v [] hu
    exact ⟨h1, by rw [h2, List.append_nil]⟩
  · cases h
end Lard
end Go.Proofs.YtpekpdimdelncaaGreatDoor
namespace Go.Proofs.YtpekpdimdelncaaGreatDoor
open Go.RowKit Go.Shelf
set_option linter.unusedVariables false
set_option linter.unusedSimpArgs false
def RdPost (w : World) (n : Nat) (q : Option (Lard.V × List UInt8)) (e : Ending) (w' : World) : Prop :=
  Below w.heap.size w w' ∧ ((∃ v y t a, ∃ r : ByteArray, q = some (v, r.data.toList) ∧ e = .returned (.tuple #[y, .string r, .bool true]) ∧ y = .iface t a ∧ IsVal w' n v y) ∨
    ∃ y, ∃ r : ByteArray, q = none ∧ e = .returned (.tuple #[y, .string r, .bool false]) ∧ (y = .nilIface ∨ ∃ t a, y = .iface t a))
theorem drop_lead (p : UInt8 → Bool) : ∀ (l : List UInt8), l.dropWhile p = l.drop (Lard.lead p l)
  | [] => rfl
  | c :: r => by
    by_cases h : p c = true
    · have := drop_lead p r
      simp [Lard.lead, List.dropWhile_cons, h, this]
    · have h' : p c = false := by simpa using h
      simp [Lard.lead, List.dropWhile_cons, h']
theorem numC_set (c : UInt8) : ([45, 48, 49, 50, 51, 52, 53, 54, 55, 56, 57] : List UInt8).contains c = Lard.numC c := by
  have h0 : ((List.range 256).all fun n => ([45, 48, 49, 50, 51, 52, 53, 54, 55, 56, 57] : List UInt8).contains (UInt8.ofNat n) == Lard.numC (UInt8.ofNat n)) = true := by kernel_rfl
  have h := List.all_eq_true.1 h0 c.toNat (List.mem_range.2 c.toNat_lt)
  simpa using h
theorem trim_num (l : List UInt8) : Lib.trimLeftS l [45, 48, 49, 50, 51, 52, 53, 54, 55, 56, 57] = l.drop (Lard.lead Lard.numC l) := by
  unfold Lib.trimLeftS
  rw [show (fun c => ([45, 48, 49, 50, 51, 52, 53, 54, 55, 56, 57] : List UInt8).contains c) = Lard.numC from funext numC_set]
  exact drop_lead _ l
theorem trimLeft_num (s : ByteArray) (w : World) :
    Calls Tryz.prog 129 #[.string s, .string ⟨#[45, 48, 49, 50, 51, 52, 53, 54, 55, 56, 57]⟩] w fun e w' => (∃ r : ByteArray, e = .returned (.string r) ∧ r.size = s.size - Lard.lead Lard.numC s.data.toList) ∧ Below w.heap.size w w' := by
  refine (Any.strings_TrimLeft_laid Tryz.lays161 (by kernel_rfl) s ⟨#[45, 48, 49, 50, 51, 52, 53, 54, 55, 56, 57]⟩ w (by decide) (ascii_of_all (by decide))).mono ?_
  rintro e w' ⟨rfl, hB⟩
  refine ⟨⟨_, rfl, ?_⟩, hB⟩
  have := trim_num s.data.toList
  show (Lib.trimLeftS s.data.toList [45, 48, 49, 50, 51, 52, 53, 54, 55, 56, 57]).toArray.size = _
  rw [this, List.size_toArray, List.length_drop, Lib.size_eq]
theorem beq_comm_u8 (a b : UInt8) : (a == b) = (b == a) := by
  by_cases h : a = b
  · rw [h]
  · rw [beq_eq_false_iff_ne.2 h, beq_eq_false_iff_ne.2 (Ne.symm h)]
theorem head_prefix (l : List UInt8) (c : UInt8) : Lib.hasPrefix l [c] = (l.head? == some c) := by
  cases l with
  | nil => rfl
  | cons d r => simp [Lib.hasPrefix, List.isPrefixOf, beq_comm_u8]
theorem below_drewN (w : World) (k : Nat) : Below w.heap.size w (w.drewN k) := ⟨rfl, rfl, rfl, Nat.le_refl _, fun _ _ => rfl⟩
theorem drop_ext (s : ByteArray) (k : Nat) : (s.extract k s.size).data.toList = s.data.toList.drop k := by
  rw [Lib.extract_data, List.take_of_length_le (by rw [List.length_drop, Lib.size_eq]; exact Nat.le_refl _)]
theorem take_ext (s : ByteArray) (k : Nat) : (s.extract 0 k).data.toList = s.data.toList.take k := by
  rw [Lib.extract_data]; simp
theorem size_ext2 (s : ByteArray) (a b : Nat) (h : b ≤ s.size) (hab : a ≤ b) : (s.extract a b).size = b - a := by
  rw [Lib.size_eq, Lib.extract_data, List.length_take, List.length_drop, ← Lib.size_eq]
  omega
set_option maxRecDepth 100000 in
set_option maxHeartbeats 1000000 in
theorem first_word (s : ByteArray) (n : Nat) (w : World) (hs : s.size ≤ 281474976710656) (hh : s.data.toList.head? = some 39) :
    Calls Tryz.prog 86 #[.string s, .int .i64 n] w (RdPost w n (Lard.rdF n s.data.toList)) := by
  have hq : Lard.rdF n s.data.toList = Lard.rdWord s.data.toList := by unfold Lard.rdF; rw [if_pos hh]
  have hp : Lib.hasPrefix s.data.toList [39] = true := by rw [head_prefix, hh]; rfl
  rw [hq]
  generalize hR : RdPost w n (Lard.rdWord s.data.toList) = R
  have hrw := readWord_any s w (by omega)
  cases hw : Lard.wordOf s.data.toList with
  | none =>
    rw [hw] at hrw
    have hrw : Calls Tryz.prog 127 #[.string s] w fun e w' => e = .returned (.tuple #[.string ⟨#[]⟩, .bool false]) ∧ w' = w := hrw
    have HW := hide hrw
    have hfin : R (.returned (.tuple #[.nilIface, .string ⟨#[]⟩, .bool false])) w := by
      rw [← hR]
      refine ⟨Below.refl _ _, .inr ⟨_, _, ?_, rfl, .inl rfl⟩⟩
      unfold Lard.rdWord; rw [hw]; rfl
    clear hrw hR hw hh hq
    go_enter Tryz.func86, Tryz.ntmps86
    go_wp2_with (first | (go_at_call 126; refine (Tryz.strings_HasPrefix _ _ _).mono ?_; rintro e w' ⟨rfl, rfl⟩; try rw [hp]) | (go_at_call 127; refine HW.out.mono ?_; rintro e w' ⟨rfl, rfl⟩))
    exact bodyPost_ret (v := .tuple #[.nilIface, .string ⟨#[]⟩, .bool false]) (by simp [results, Tryz.results86, go_sem]) rfl hfin
  | some k =>
    rw [hw] at hrw
    have hl : ∃ t, s.data.toList = 39 :: t ∧ Lard.quote 31 t = some k := by
      cases hd : s.data.toList with
      | nil => rw [hd] at hh; cases hh
      | cons c t =>
        rw [hd] at hh hw
        cases hh
        exact ⟨t, rfl, by simpa [Lard.wordOf] using hw⟩
    obtain ⟨t, ht, hquo⟩ := hl
    obtain ⟨hk1, hk2, hk3, hk4⟩ := Lard.quote_some 31 t k hquo
    have hsz : s.size = t.length + 1 := by rw [Lib.size_eq, ht]; rfl
    obtain ⟨wd, hwd⟩ : ∃ wd, s.extract 1 (k + 1) = wd := ⟨_, rfl⟩
    have hwz : wd.size = k := by rw [← hwd, size_ext2 s 1 (k + 1) (by omega) (by omega)]; omega
    have hwl : wd.data.toList = (s.data.toList.drop 1).take k := by rw [← hwd, Lib.extract_data]; rfl
    have hrw : Calls Tryz.prog 127 #[.string s] w fun e w' => e = .returned (.tuple #[.string wd, .bool true]) ∧ w' = w := by rw [← hwd]; exact hrw
    have HW := hide hrw
    have hfin : ∀ w2, Below w.heap.size w w2 → R (.returned (.tuple #[.iface 215 (.string wd), .string (s.extract (k + 2) s.size), .bool true])) w2 := fun w2 hB2 => by
      rw [← hR]
      refine ⟨hB2, .inl ⟨Lard.vw wd.data.toList, _, _, _, _, ?_, rfl, rfl, IsVal.leaf (.inr ⟨wd, rfl, rfl, by omega⟩)⟩⟩
      unfold Lard.rdWord
      rw [hw, drop_ext, hwl]
      rfl
    have hks : k + 2 ≤ s.size := by omega
    clear hrw hR hw hh hq hquo hk4 hk3 hwl hwd ht hsz hk2
    go_enter Tryz.func86, Tryz.ntmps86
    go_wp2_with (first | (go_at_call 126; refine (Tryz.strings_HasPrefix _ _ _).mono ?_; rintro e w' ⟨rfl, rfl⟩; try rw [hp]) | (go_at_call 127; refine HW.out.mono ?_; rintro e w' ⟨rfl, rfl⟩))
    go_quiet (fail)
    go_wp2_with fail
    exact bodyPost_ret (v := .tuple #[.iface 215 (.string wd), .string (s.extract (k + 2) s.size), .bool true]) (by simp [results, Tryz.results86, go_sem]) rfl (hfin _ (below_drewN _ _))
set_option maxRecDepth 100000 in
set_option maxHeartbeats 1000000 in
theorem first_num (s : ByteArray) (n : Nat) (w : World) (g : G w) (hs : s.size ≤ 281474976710656) (h1 : s.data.toList.head? ≠ some 39) (h2 : s.data.toList.head? ≠ some 123) :
    Calls Tryz.prog 86 #[.string s, .int .i64 n] w (RdPost w n (Lard.rdF n s.data.toList)) := by
  have hq : Lard.rdF n s.data.toList = Lard.rdNum s.data.toList := by unfold Lard.rdF; rw [if_neg h1, if_neg h2]
  have hp1 : Lib.hasPrefix s.data.toList [39] = false := by rw [head_prefix]; exact beq_eq_false_iff_ne.2 h1
  have hp2 : Lib.hasPrefix s.data.toList [123] = false := by rw [head_prefix]; exact beq_eq_false_iff_ne.2 h2
  rw [hq]
  generalize hR : RdPost w n (Lard.rdNum s.data.toList) = R
  have hle : Lard.lead Lard.numC s.data.toList ≤ s.size := by rw [Lib.size_eq]; exact Lard.lead_le _ _
  have hT := trimLeft_num s w
  unfold Lard.rdNum at hR
  rw [← take_ext] at hR
  obtain ⟨m, hm⟩ : ∃ m, Lard.lead Lard.numC s.data.toList = m := ⟨_, rfl⟩
  rw [hm] at hle hT hR
  have hN := fun (w1 : World) (hB : Below w.heap.size w w1) => readNumber_any (s.extract 0 m) w1 (g.below hB g.size) (by rw [size_ext2 s 0 m hle (by omega)]; omega)
  have hfin : ∀ w2, Below w.heap.size w w2 → R (.returned (.tuple #[.iface 219 (.int .i64 ((Lard.numOf (s.extract 0 m).data.toList).getD 0)), .string (s.extract m s.size), .bool (Lard.numOf (s.extract 0 m).data.toList).isSome])) w2 := fun w2 hB => by
    rw [← hR]
    refine ⟨hB, ?_⟩
    cases hn : Lard.numOf (s.extract 0 m).data.toList with
    | none => exact .inr ⟨_, _, rfl, rfl, .inr ⟨_, _, rfl⟩⟩
    | some i =>
      have hr := Lard.parse_range _ _ (Lard.numOf_some hn).2
      refine .inl ⟨Lard.vn i, _, _, _, _, ?_, rfl, rfl, IsVal.leaf (.inl ⟨i, rfl, rfl, hr.1, hr.2⟩)⟩
      rw [drop_ext]
      rfl
  have HT := hide hT
  have HN := hide hN
  have HF := hide hfin
  clear hT hN hfin hR hq h1 h2 hm
  go_enter Tryz.func86, Tryz.ntmps86
  go_wp2_with (first | (go_at_call 126; refine (Tryz.strings_HasPrefix _ _ _).mono ?_; rintro e w' ⟨rfl, rfl⟩; try rw [hp1]; try rw [hp2]))
  refine HT.out.mono ?_
  rintro e w1 ⟨⟨r, rfl, hr⟩, hB1⟩
  have he : s.size - (s.size - m) = m := by omega
  have hi : (s.size : Int) - ((s.size - m : Nat) : Int) = (m : Int) := by omega
  have HN1 := hide (HN.out w1 hB1)
  clear HT HN
  go_wp2_with fail
  try simp only [he, hi]
  refine HN1.out.mono ?_
  rintro e w2 ⟨rfl, hB2⟩
  have hB := hB1.trans (hB2.mono hB1.size)
  have HFF := hide (fun k => HF.out (w2.drewN k) (hB.trans ((below_drewN w2 k).mono hB.size)))
  clear HN1 HF
  generalize (Lard.numOf (s.extract 0 m).data.toList).getD 0 = x at HFF ⊢
  generalize (Lard.numOf (s.extract 0 m).data.toList).isSome = b at HFF ⊢
  go_wp2_with fail
  go_quiet (fail)
  go_wp2_with fail
  exact bodyPost_ret (v := .tuple #[.iface 219 (.int .i64 x), .string (s.extract m s.size), .bool b]) (by simp [results, Tryz.results86, go_sem]) rfl (HFF.out _)
end Go.Proofs.YtpekpdimdelncaaGreatDoor
