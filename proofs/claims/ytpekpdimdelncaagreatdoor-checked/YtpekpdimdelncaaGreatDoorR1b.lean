/- The document's leaves: digits. -/
import Derived.Test.YtpekpdimdelncaaGreatDoorW16
import Derived.Test.YtpekpdimdelncaaGreatDoorDig
namespace Go.Proofs.YtpekpdimdelncaaGreatDoor
open Go.RowKit

/-- What the document's digits answer. -/
def digRes : Option Nat → Value
  | some n => .tuple #[.int .i64 (n : Int), .bool true]
  | none => .tuple #[.int .i64 0, .bool false]

/-- Where the document's digits stand, behind k bytes. -/
def DigAt (l : List UInt8) (k m : Nat) : Prop := m ≤ 9223372036854775807 ∧ Lard.digFold (l.drop k) m = Lard.refDig l

theorem digAt_no {l : List UInt8} {k m : Nat} (h : DigAt l k m) (hk : k < l.length) (hd : Lard.isDig l[k] = false) : Lard.refDig l = none := by
  rw [← h.2, List.drop_eq_getElem_cons hk, Lard.digFold, if_neg (by rw [hd]; simp)]

theorem digAt_over {l : List UInt8} {k m : Nat} (h : DigAt l k m) (hk : k < l.length) (hd : Lard.isDig l[k] = true) (ho : (9223372036854775807 - (l[k].toNat - 48)) / 10 < m) : Lard.refDig l = none := by
  rw [← h.2, List.drop_eq_getElem_cons hk, Lard.digFold, if_pos hd, if_pos ho]

theorem digAt_next {l : List UInt8} {k m : Nat} (h : DigAt l k m) (hk : k < l.length) (hd : Lard.isDig l[k] = true) (ho : ¬ (9223372036854775807 - (l[k].toNat - 48)) / 10 < m) : DigAt l (k + 1) (10 * m + (l[k].toNat - 48)) := by
  have hb := Lard.dig_bd hd
  refine ⟨by omega, ?_⟩
  rw [← h.2, List.drop_eq_getElem_cons hk, Lard.digFold, if_pos hd, if_neg ho]

theorem digAt_end {l : List UInt8} {k m : Nat} (h : DigAt l k m) (hk : l.length ≤ k) : Lard.refDig l = some m := by
  rw [← h.2, List.drop_eq_nil_of_le hk]; rfl

/-- One round of the document's digits. -/
theorem dig_round (m c : Int) (h0 : 48 ≤ c) (h1 : c ≤ 57) (hm : 0 ≤ m) (ho : ¬ (9223372036854775807 - (c - 48)) / 10 < m) : 0 ≤ 10 * m + (c - 48) ∧ 10 * m ≤ 9223372036854775807 ∧ 10 * m + (c - 48) ≤ 9223372036854775807 := by omega

theorem cast_next (m c : Nat) (h : 48 ≤ c) : ((10 * m + (c - 48) : Nat) : Int) = 10 * (m : Int) + ((c : Int) - 48) := by omega
theorem cast_over (m c : Nat) (h : 48 ≤ c) (h1 : c ≤ 57) : ((9223372036854775807 - (c - 48)) / 10 < m) ↔ ((9223372036854775807 - ((c : Int) - 48)) / 10 < (m : Int)) := by omega

set_option maxRecDepth 100000 in
set_option maxHeartbeats 1000000 in
theorem rdigits_loop (s : ByteArray) (w : World) (hs : s.size ≤ 1000) (h0' : 0 < s.size) (hne : s.toList.isEmpty = false) (hb : ((s[0].toNat : Int) == 48) = false) (hr : DigAt s.data.toList 0 0) :
    Calls Tryz.prog 231 #[.string s] w fun e w' => e = .returned (digRes (Lard.refDig s.data.toList)) ∧ w = w' := by
  have HR := hide hr
  clear hr
  go_enter Tryz.func231, Tryz.ntmps231
  go_wp2_with fail
  go_loop [4, 5] (fun n i => ∃ k m : Nat, i = .int .i64 k ∧ n = .int .i64 m ∧ k ≤ s.size ∧ DigAt s.data.toList k m) (fun _ i => s.size - (intOf i).toNat)
  case atStart => exact ⟨0, 0, rfl, rfl, Nat.zero_le _, HR.out⟩
  case round =>
    clear HR
    obtain ⟨k, m, rfl, rfl, hk, HD⟩ := hrel
    by_cases hlt : k < s.size
    · have GE := hide (Lard.getElem_data s k hlt)
      have hln : k < s.data.toList.length := by simpa using hlt
      by_cases hdg : Lard.isDig s[k] = true
      · have hb := Lard.dig_bd hdg
        have hdg' : Lard.isDig (s.data.toList[k]) = true := by rw [← GE.out]; exact hdg
        have hb1 : 48 ≤ (s[k].toNat : Int) := by omega
        have hb2 : (s[k].toNat : Int) ≤ 57 := by omega
        by_cases hov : (9223372036854775807 - ((s[k].toNat : Int) - 48)) / 10 < (m : Int)
        · have HR2 := hide (digAt_over HD hln hdg' (by rw [← GE.out]; exact (cast_over m _ hb.1 hb.2).2 hov))
          clear HD hdg hb hdg'
          go_wp2_with fail
          go_ret2
          exact ⟨by rw [HR2.out]; rfl, rfl⟩
        · have hnx := digAt_next HD hln hdg' (by rw [← GE.out]; exact fun h => hov ((cast_over m _ hb.1 hb.2).1 h))
          rw [← GE.out] at hnx
          have HN := hide hnx
          have HM := hide (cast_next m s[k].toNat hb.1)
          obtain ⟨r1, r2, r3⟩ := dig_round m s[k].toNat hb1 hb2 (by omega) hov
          clear HD hdg hb hdg' hnx
          go_wp2_with fail
          refine ⟨⟨k + 1, 10 * m + (s[k].toNat - 48), by go_num, by rw [HM.out], by omega, HN.out⟩, by simp [intOf]; omega⟩
      · have hdf : Lard.isDig (s.data.toList[k]) = false := by rw [← GE.out]; simpa using hdg
        have HR2 := hide (digAt_no HD hln hdf)
        have hdg' : (s[k].toNat : Int) < 48 ∨ 57 < (s[k].toNat : Int) := by
          simp [Lard.isDig, Lard.digB] at hdg; omega
        clear HD hdg hdf
        by_cases hlo : (s[k].toNat : Int) < 48
        · clear hdg'
          go_wp2_with fail
          go_ret2
          exact ⟨by rw [HR2.out]; rfl, rfl⟩
        · have hhi : 57 < (s[k].toNat : Int) := by omega
          clear hdg'
          go_wp2_with fail
          go_ret2
          exact ⟨by rw [HR2.out]; rfl, rfl⟩
    · have HR2 := hide (digAt_end HD (by simp; omega))
      clear HD
      go_wp2_with fail
      go_ret2
      exact ⟨by rw [HR2.out]; rfl, rfl⟩
set_option maxRecDepth 100000 in
set_option maxHeartbeats 1000000 in
theorem rdigits_loop0 (s : ByteArray) (w : World) (hs : s.size ≤ 1000) (h0' : 0 < s.size) (hne : s.toList.isEmpty = false) (hb : ((s[0].toNat : Int) == 48) = true) (hs1 : ¬ (1 : Int) < (s.size : Int)) (hr : DigAt s.data.toList 0 0) :
    Calls Tryz.prog 231 #[.string s] w fun e w' => e = .returned (digRes (Lard.refDig s.data.toList)) ∧ w = w' := by
  have HR := hide hr
  clear hr
  go_enter Tryz.func231, Tryz.ntmps231
  go_wp2_with fail
  go_loop [4, 5] (fun n i => ∃ k m : Nat, i = .int .i64 k ∧ n = .int .i64 m ∧ k ≤ s.size ∧ DigAt s.data.toList k m) (fun _ i => s.size - (intOf i).toNat)
  case atStart => exact ⟨0, 0, rfl, rfl, Nat.zero_le _, HR.out⟩
  case round =>
    clear HR
    obtain ⟨k, m, rfl, rfl, hk, HD⟩ := hrel
    by_cases hlt : k < s.size
    · have GE := hide (Lard.getElem_data s k hlt)
      have hln : k < s.data.toList.length := by simpa using hlt
      by_cases hdg : Lard.isDig s[k] = true
      · have hb := Lard.dig_bd hdg
        have hdg' : Lard.isDig (s.data.toList[k]) = true := by rw [← GE.out]; exact hdg
        have hb1 : 48 ≤ (s[k].toNat : Int) := by omega
        have hb2 : (s[k].toNat : Int) ≤ 57 := by omega
        by_cases hov : (9223372036854775807 - ((s[k].toNat : Int) - 48)) / 10 < (m : Int)
        · have HR2 := hide (digAt_over HD hln hdg' (by rw [← GE.out]; exact (cast_over m _ hb.1 hb.2).2 hov))
          clear HD hdg hb hdg'
          go_wp2_with fail
          go_ret2
          exact ⟨by rw [HR2.out]; rfl, rfl⟩
        · have hnx := digAt_next HD hln hdg' (by rw [← GE.out]; exact fun h => hov ((cast_over m _ hb.1 hb.2).1 h))
          rw [← GE.out] at hnx
          have HN := hide hnx
          have HM := hide (cast_next m s[k].toNat hb.1)
          obtain ⟨r1, r2, r3⟩ := dig_round m s[k].toNat hb1 hb2 (by omega) hov
          clear HD hdg hb hdg' hnx
          go_wp2_with fail
          refine ⟨⟨k + 1, 10 * m + (s[k].toNat - 48), by go_num, by rw [HM.out], by omega, HN.out⟩, by simp [intOf]; omega⟩
      · have hdf : Lard.isDig (s.data.toList[k]) = false := by rw [← GE.out]; simpa using hdg
        have HR2 := hide (digAt_no HD hln hdf)
        have hdg' : (s[k].toNat : Int) < 48 ∨ 57 < (s[k].toNat : Int) := by
          simp [Lard.isDig, Lard.digB] at hdg; omega
        clear HD hdg hdf
        by_cases hlo : (s[k].toNat : Int) < 48
        · clear hdg'
          go_wp2_with fail
          go_ret2
          exact ⟨by rw [HR2.out]; rfl, rfl⟩
        · have hhi : 57 < (s[k].toNat : Int) := by omega
          clear hdg'
          go_wp2_with fail
          go_ret2
          exact ⟨by rw [HR2.out]; rfl, rfl⟩
    · have HR2 := hide (digAt_end HD (by simp; omega))
      clear HD
      go_wp2_with fail
      go_ret2
      exact ⟨by rw [HR2.out]; rfl, rfl⟩

theorem rdigits_any (s : ByteArray) (w : World) (hs : s.size ≤ 1000) :
    Calls Tryz.prog 231 #[.string s] w fun e w' => e = .returned (digRes (Lard.refDig s.data.toList)) ∧ w = w' := by
  by_cases h0 : s.data.toList = []
  · have hr : Lard.refDig s.data.toList = none := by rw [Lard.refDig, if_pos (Or.inl h0)]
    have he : s.toList.isEmpty = true := by rw [Lib.toList_data, h0]; rfl
    have HR := hide hr
    clear hr h0
    go_enter Tryz.func231, Tryz.ntmps231
    go_wp2_with fail
    go_ret2
    exact ⟨by rw [HR.out]; rfl, rfl⟩
  · obtain ⟨c, r, hl⟩ : ∃ c r, s.data.toList = c :: r := by
      cases hl : s.data.toList with
      | nil => exact absurd hl h0
      | cons c r => exact ⟨c, r, rfl⟩
    have hsz : s.size = r.length + 1 := by rw [Lib.size_eq, hl]; rfl
    have h0' : 0 < s.size := by omega
    have hc0 : s[0] = c := by rw [Lard.getElem_data s 0 h0']; simp [hl]
    have hne : s.toList.isEmpty = false := by rw [Lib.toList_data, hl]; rfl
    by_cases hz : c = 48 ∧ 1 < s.size
    · have hr : Lard.refDig s.data.toList = none := by
        rw [Lard.refDig, if_pos]
        right
        rw [hl]
        exact ⟨by rw [hz.1]; rfl, by simp; omega⟩
      have hb : ((s[0].toNat : Int) == 48) = true := by rw [hc0, hz.1]; rfl
      have hs1 : (1 : Int) < (s.size : Int) := by omega
      have HR := hide hr
      clear hr hl hz hc0 hsz h0
      go_enter Tryz.func231, Tryz.ntmps231
      go_wp2_with fail
      go_ret2
      exact ⟨by rw [HR.out]; rfl, rfl⟩
    · have hr : DigAt s.data.toList 0 0 := by
        refine ⟨Nat.zero_le _, ?_⟩
        rw [Lard.refDig, if_neg, List.drop_zero]
        rintro (e | ⟨e1, e2⟩)
        · rw [hl] at e; cases e
        · rw [hl] at e1 e2
          have e1' : c = 48 := by simpa using e1
          have e2' : 1 < r.length + 1 := e2
          exact hz ⟨e1', by omega⟩
      by_cases hc : c = 48
      · exact rdigits_loop0 s w hs h0' hne (by rw [hc0, hc]; rfl) (fun h => hz ⟨hc, by omega⟩) hr
      · refine rdigits_loop s w hs h0' hne ?_ hr
        rw [hc0, beq_eq_false_iff_ne]
        intro e
        exact hc (UInt8.toNat_inj.1 (by show c.toNat = 48; omega))
end Go.Proofs.YtpekpdimdelncaaGreatDoor
