/- Out of: N1. -/
import Derived.Test.YtpekpdimdelncaaGreatDoorP13
import Derived.Test.YtpekpdimdelncaaGreatDoorP31
import Derived.Test.YtpekpdimdelncaaGreatDoorP02
import Derived.Test.YtpekpdimdelncaaGreatDoorShelf2
import Derived.BigQuiet
namespace Go.Proofs.YtpekpdimdelncaaGreatDoor
set_option maxRecDepth 100000
set_option maxHeartbeats 1000000
open Go.RowKit Go.Shelf
set_option linter.unusedVariables false
set_option linter.unusedSimpArgs false
def RdPost (w : World) (n : Nat) (q : Option (Lard.V × List UInt8)) (e : Ending) (w' : World) : Prop :=
  Below w.heap.size w w' ∧ ((∃ v y t a, ∃ r : ByteArray, q = some (v, r.data.toList) ∧ e = .returned (.tuple #[y, .string r, .bool true]) ∧ y = .iface t a ∧ IsVal w' n v y) ∨
    ∃ y, ∃ r : ByteArray, q = none ∧ e = .returned (.tuple #[y, .string r, .bool false]) ∧ (y = .nilIface ∨ ∃ t a, y = .iface t a))
theorem drop_lead (p : UInt8 → Bool) : ∀ (l : List UInt8), l.dropWhile p = l.drop (Lard.lead p l)
  | [] => rfl
  | c :: r => by
    by_cases h : p c = true
    · have := drop_lead p r
      simp [Lard.lead, List.dropWhile_cons, h, this]
    · have h' : p c = false := by simpa using h
      simp [Lard.lead, List.dropWhile_cons, h']
theorem numC_set (c : UInt8) : ([45, 48, 49, 50, 51, 52, 53, 54, 55, 56, 57] : List UInt8).contains c = Lard.numC c := by
  have h0 : ((List.range 256).all fun n => ([45, 48, 49, 50, 51, 52, 53, 54, 55, 56, 57] : List UInt8).contains (UInt8.ofNat n) == Lard.numC (UInt8.ofNat n)) = true := by kernel_rfl
  have h := List.all_eq_true.1 h0 c.toNat (List.mem_range.2 c.toNat_lt)
  simpa using h
theorem trim_num (l : List UInt8) : Lib.trimLeftS l [45, 48, 49, 50, 51, 52, 53, 54, 55, 56, 57] = l.drop (Lard.lead Lard.numC l) := by
  unfold Lib.trimLeftS
  rw [show (fun c => ([45, 48, 49, 50, 51, 52, 53, 54, 55, 56, 57] : List UInt8).contains c) = Lard.numC from funext numC_set]
  exact drop_lead _ l
theorem trimLeft_num (s : ByteArray) (w : World) :
    Calls Tryz.prog 129 #[.string s, .string ⟨#[45, 48, 49, 50, 51, 52, 53, 54, 55, 56, 57]⟩] w fun e w' => (∃ r : ByteArray, e = .returned (.string r) ∧ r.size = s.size - Lard.lead Lard.numC s.data.toList) ∧ Below w.heap.size w w' := by
  refine (Any.strings_TrimLeft_laid Tryz.lays161 (by kernel_rfl) s ⟨#[45, 48, 49, 50, 51, 52, 53, 54, 55, 56, 57]⟩ w (by decide) (ascii_of_all (by decide))).mono ?_
  rintro e w' ⟨rfl, hB⟩
  refine ⟨⟨_, rfl, ?_⟩, hB⟩
  have := trim_num s.data.toList
  show (Lib.trimLeftS s.data.toList [45, 48, 49, 50, 51, 52, 53, 54, 55, 56, 57]).toArray.size = _
  rw [this, List.size_toArray, List.length_drop, Lib.size_eq]
theorem beq_comm_u8 (a b : UInt8) : (a == b) = (b == a) := by
  by_cases h : a = b
  · rw [h]
  · rw [beq_eq_false_iff_ne.2 h, beq_eq_false_iff_ne.2 (Ne.symm h)]
theorem head_prefix (l : List UInt8) (c : UInt8) : Lib.hasPrefix l [c] = (l.head? == some c) := by
  cases l with
  | nil => rfl
  | cons d r => simp [Lib.hasPrefix, List.isPrefixOf, beq_comm_u8]
theorem below_drewN (w : World) (k : Nat) : Below w.heap.size w (w.drewN k) := ⟨rfl, rfl, rfl, Nat.le_refl _, fun _ _ => rfl⟩
theorem drop_ext (s : ByteArray) (k : Nat) : (s.extract k s.size).data.toList = s.data.toList.drop k := by
  rw [Lib.extract_data, List.take_of_length_le (by rw [List.length_drop, Lib.size_eq]; exact Nat.le_refl _)]
theorem take_ext (s : ByteArray) (k : Nat) : (s.extract 0 k).data.toList = s.data.toList.take k := by
  rw [Lib.extract_data]; simp
theorem size_ext2 (s : ByteArray) (a b : Nat) (h : b ≤ s.size) (hab : a ≤ b) : (s.extract a b).size = b - a := by
  rw [Lib.size_eq, Lib.extract_data, List.length_take, List.length_drop, ← Lib.size_eq]
  omega
theorem first_word (s : ByteArray) (n : Nat) (w : World) (hs : s.size ≤ 281474976710656) (hh : s.data.toList.head? = some 39) :
    Calls Tryz.prog 86 #[.string s, .int .i64 n] w (RdPost w n (Lard.rdF n s.data.toList)) := by
  have hq : Lard.rdF n s.data.toList = Lard.rdWord s.data.toList := by unfold Lard.rdF; rw [if_pos hh]
  have hp : Lib.hasPrefix s.data.toList [39] = true := by rw [head_prefix, hh]; rfl
  rw [hq]
  generalize hR : RdPost w n (Lard.rdWord s.data.toList) = R
  have hrw := readWord_any s w (by omega)
  cases hw : Lard.wordOf s.data.toList with
  | none =>
    rw [hw] at hrw
    have hrw : Calls Tryz.prog 127 #[.string s] w fun e w' => e = .returned (.tuple #[.string ⟨#[]⟩, .bool false]) ∧ w' = w := hrw
    have HW := hide hrw
    have hfin : R (.returned (.tuple #[.nilIface, .string ⟨#[]⟩, .bool false])) w := by
      rw [← hR]
      refine ⟨Below.refl _ _, .inr ⟨_, _, ?_, rfl, .inl rfl⟩⟩
      unfold Lard.rdWord; rw [hw]; rfl
    clear hrw hR hw hh hq
    go_enter Tryz.func86, Tryz.ntmps86
    go_wp2_with (first | (go_at_call 126; refine (Tryz.strings_HasPrefix _ _ _).mono ?_; rintro e w' ⟨rfl, rfl⟩; try rw [hp]) | (go_at_call 127; refine HW.out.mono ?_; rintro e w' ⟨rfl, rfl⟩))
    exact bodyPost_ret (v := .tuple #[.nilIface, .string ⟨#[]⟩, .bool false]) (by simp [results, Tryz.results86, go_sem]) rfl hfin
  | some k =>
    rw [hw] at hrw
    have hl : ∃ t, s.data.toList = 39 :: t ∧ Lard.quote 31 t = some k := by
      cases hd : s.data.toList with
      | nil => rw [hd] at hh; cases hh
      | cons c t =>
        rw [hd] at hh hw
        cases hh
        exact ⟨t, rfl, by simpa [Lard.wordOf] using hw⟩
    obtain ⟨t, ht, hquo⟩ := hl
    obtain ⟨hk1, hk2, hk3, hk4⟩ := Lard.quote_some 31 t k hquo
    have hsz : s.size = t.length + 1 := by rw [Lib.size_eq, ht]; rfl
    obtain ⟨wd, hwd⟩ : ∃ wd, s.extract 1 (k + 1) = wd := ⟨_, rfl⟩
    have hwz : wd.size = k := by rw [← hwd, size_ext2 s 1 (k + 1) (by omega) (by omega)]; omega
    have hwl : wd.data.toList = (s.data.toList.drop 1).take k := by rw [← hwd, Lib.extract_data]; rfl
    have hrw : Calls Tryz.prog 127 #[.string s] w fun e w' => e = .returned (.tuple #[.string wd, .bool true]) ∧ w' = w := by rw [← hwd]; exact hrw
    have HW := hide hrw
    have hfin : ∀ w2, Below w.heap.size w w2 → R (.returned (.tuple #[.iface 215 (.string wd), .string (s.extract (k + 2) s.size), .bool true])) w2 := fun w2 hB2 => by
      rw [← hR]
      refine ⟨hB2, .inl ⟨Lard.vw wd.data.toList, _, _, _, _, ?_, rfl, rfl, IsVal.leaf (.inr ⟨wd, rfl, rfl, by omega⟩)⟩⟩
      unfold Lard.rdWord
      rw [hw, drop_ext, hwl]
      rfl
    have hks : k + 2 ≤ s.size := by omega
    clear hrw hR hw hh hq hquo hk4 hk3 hwl hwd ht hsz hk2
    go_enter Tryz.func86, Tryz.ntmps86
    go_wp2_with (first | (go_at_call 126; refine (Tryz.strings_HasPrefix _ _ _).mono ?_; rintro e w' ⟨rfl, rfl⟩; try rw [hp]) | (go_at_call 127; refine HW.out.mono ?_; rintro e w' ⟨rfl, rfl⟩))
    go_quiet (fail)
    go_wp2_with fail
    exact bodyPost_ret (v := .tuple #[.iface 215 (.string wd), .string (s.extract (k + 2) s.size), .bool true]) (by simp [results, Tryz.results86, go_sem]) rfl (hfin _ (below_drewN _ _))
theorem first_num (s : ByteArray) (n : Nat) (w : World) (g : G w) (hs : s.size ≤ 281474976710656) (h1 : s.data.toList.head? ≠ some 39) (h2 : s.data.toList.head? ≠ some 123) :
    Calls Tryz.prog 86 #[.string s, .int .i64 n] w (RdPost w n (Lard.rdF n s.data.toList)) := by
  have hq : Lard.rdF n s.data.toList = Lard.rdNum s.data.toList := by unfold Lard.rdF; rw [if_neg h1, if_neg h2]
  have hp1 : Lib.hasPrefix s.data.toList [39] = false := by rw [head_prefix]; exact beq_eq_false_iff_ne.2 h1
  have hp2 : Lib.hasPrefix s.data.toList [123] = false := by rw [head_prefix]; exact beq_eq_false_iff_ne.2 h2
  rw [hq]
  generalize hR : RdPost w n (Lard.rdNum s.data.toList) = R
  have hle : Lard.lead Lard.numC s.data.toList ≤ s.size := by rw [Lib.size_eq]; exact Lard.lead_le _ _
  have hT := trimLeft_num s w
  unfold Lard.rdNum at hR
  rw [← take_ext] at hR
  obtain ⟨m, hm⟩ : ∃ m, Lard.lead Lard.numC s.data.toList = m := ⟨_, rfl⟩
  rw [hm] at hle hT hR
  have hN := fun (w1 : World) (hB : Below w.heap.size w w1) => readNumber_any (s.extract 0 m) w1 (g.below hB g.size) (by rw [size_ext2 s 0 m hle (by omega)]; omega)
  have hfin : ∀ w2, Below w.heap.size w w2 → R (.returned (.tuple #[.iface 219 (.int .i64 ((Lard.numOf (s.extract 0 m).data.toList).getD 0)), .string (s.extract m s.size), .bool (Lard.numOf (s.extract 0 m).data.toList).isSome])) w2 := fun w2 hB => by
    rw [← hR]
    refine ⟨hB, ?_⟩
    cases hn : Lard.numOf (s.extract 0 m).data.toList with
    | none => exact .inr ⟨_, _, rfl, rfl, .inr ⟨_, _, rfl⟩⟩
    | some i =>
      have hr := Lard.parse_range _ _ (Lard.numOf_some hn).2
      refine .inl ⟨Lard.vn i, _, _, _, _, ?_, rfl, rfl, IsVal.leaf (.inl ⟨i, rfl, rfl, hr.1, hr.2⟩)⟩
      rw [drop_ext]
      rfl
  have HT := hide hT
  have HN := hide hN
  have HF := hide hfin
  clear hT hN hfin hR hq h1 h2 hm
  go_enter Tryz.func86, Tryz.ntmps86
  go_wp2_with (first | (go_at_call 126; refine (Tryz.strings_HasPrefix _ _ _).mono ?_; rintro e w' ⟨rfl, rfl⟩; try rw [hp1]; try rw [hp2]))
  refine HT.out.mono ?_
  rintro e w1 ⟨⟨r, rfl, hr⟩, hB1⟩
  have he : s.size - (s.size - m) = m := by omega
  have hi : (s.size : Int) - ((s.size - m : Nat) : Int) = (m : Int) := by omega
  have HN1 := hide (HN.out w1 hB1)
  clear HT HN
  go_wp2_with fail
  try simp only [he, hi]
  refine HN1.out.mono ?_
  rintro e w2 ⟨rfl, hB2⟩
  have hB := hB1.trans (hB2.mono hB1.size)
  have HFF := hide (fun k => HF.out (w2.drewN k) (hB.trans ((below_drewN w2 k).mono hB.size)))
  clear HN1 HF
  generalize (Lard.numOf (s.extract 0 m).data.toList).getD 0 = x at HFF ⊢
  generalize (Lard.numOf (s.extract 0 m).data.toList).isSome = b at HFF ⊢
  go_wp2_with fail
  go_quiet (fail)
  go_wp2_with fail
  exact bodyPost_ret (v := .tuple #[.iface 219 (.int .i64 x), .string (s.extract m s.size), .bool b]) (by simp [results, Tryz.results86, go_sem]) rfl (HFF.out _)
end Go.Proofs.YtpekpdimdelncaaGreatDoor
