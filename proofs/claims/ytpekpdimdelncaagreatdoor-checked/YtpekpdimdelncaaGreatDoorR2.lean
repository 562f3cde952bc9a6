/- The document's leaves: names. -/
import Derived.Test.YtpekpdimdelncaaGreatDoorR1
namespace Go.Proofs.YtpekpdimdelncaaGreatDoor
open Go.RowKit

def tailN (l : List UInt8) (k : Nat) : Bool := (l.drop k).all Lard.isAl

/-- A name. -/
def nameB (l : List UInt8) : Bool := decide (1 ≤ l.length ∧ l.length ≤ 8 ∧ l.head?.map Lard.isLet = some true) && (tailN l 0 && !Lard.termB l)

theorem tailN_end {l : List UInt8} {k : Nat} (h : l.length ≤ k) : tailN l k = true := by
  unfold tailN; rw [List.drop_eq_nil_of_le h]; rfl

theorem tailN_step {l : List UInt8} {k : Nat} (h : k < l.length) : tailN l k = (Lard.isAl l[k] && tailN l (k + 1)) := by
  unfold tailN
  rw [List.drop_eq_getElem_cons h, List.all_cons]

theorem let_bd {c : UInt8} : Lard.isLet c = true ↔ 97 ≤ (c.toNat : Int) ∧ (c.toNat : Int) ≤ 122 := by
  simp [Lard.isLet, Lard.letB]
theorem dig_bdI {c : UInt8} : Lard.isDig c = true ↔ 48 ≤ (c.toNat : Int) ∧ (c.toNat : Int) ≤ 57 := by
  simp [Lard.isDig, Lard.digB]
theorem al_or (c : UInt8) : Lard.isAl c = (Lard.isLet c || Lard.isDig c) := rfl

set_option maxRecDepth 100000 in
set_option maxHeartbeats 1000000 in
theorem isName_no (s : ByteArray) (w : World) (hs : s.size ≤ 1000) (h : ¬ (1 ≤ s.size ∧ s.size ≤ 8 ∧ s.data.toList.head?.map Lard.isLet = some true)) :
    Calls Tryz.prog 108 #[.string s] w fun e w' => e = .returned (.bool false) ∧ w = w' := by
  by_cases h1 : s.size < 1
  · have hI1 : (s.size : Int) < 1 := by omega
    clear h
    go_enter Tryz.func108, Tryz.ntmps108
    go_wp2_with fail
    go_ret
    exact ⟨rfl, rfl⟩
  have hI1 : ¬ (s.size : Int) < 1 := by omega
  by_cases h2 : 8 < s.size
  · have hI2 : 8 < (s.size : Int) := by omega
    clear h
    go_enter Tryz.func108, Tryz.ntmps108
    go_wp2_with fail
    go_ret
    exact ⟨rfl, rfl⟩
  have hI2 : ¬ 8 < (s.size : Int) := by omega
  have h0' : 0 < s.size := by omega
  have hhead : s.data.toList.head? = some s[0] := by
    rw [Lard.getElem_data s 0 h0', List.head?_eq_getElem?, List.getElem?_eq_getElem (by simpa using h0')]
  have hn : ¬ Lard.isLet s[0] = true := fun e => h ⟨by omega, by omega, by rw [hhead, Option.map_some, e]⟩
  rw [let_bd] at hn
  by_cases h3 : (s[0].toNat : Int) < 97
  · clear h hhead hn
    go_enter Tryz.func108, Tryz.ntmps108
    go_wp2_with fail
    go_ret
    exact ⟨rfl, rfl⟩
  · have h4 : 122 < (s[0].toNat : Int) := by omega
    clear h hhead hn
    go_enter Tryz.func108, Tryz.ntmps108
    go_wp2_with fail
    go_ret
    exact ⟨rfl, rfl⟩

set_option maxRecDepth 100000 in
set_option maxHeartbeats 1000000 in
theorem isName_mid (s : ByteArray) (w : World) (h1 : 1 ≤ s.size) (h2 : s.size ≤ 8) (hh : s.data.toList.head?.map Lard.isLet = some true) :
    Calls Tryz.prog 108 #[.string s] w fun e w' => e = .returned (.bool (tailN s.data.toList 0 && !Lard.termB s.data.toList)) ∧ w = w' := by
  have h0' : 0 < s.size := by omega
  have hhead : s.data.toList.head? = some s[0] := by
    rw [Lard.getElem_data s 0 h0', List.head?_eq_getElem?, List.getElem?_eq_getElem (by simpa using h0')]
  have e0 : Lard.isLet s[0] = true := by rw [hhead] at hh; exact Option.some.inj hh
  rw [let_bd] at e0
  obtain ⟨h3, h4⟩ := e0
  have hI1 : ¬ (s.size : Int) < 1 := by omega
  have hI2 : ¬ 8 < (s.size : Int) := by omega
  have h3n : ¬ (s[0].toNat : Int) < 97 := by omega
  have h4n : ¬ 122 < (s[0].toNat : Int) := by omega
  clear hh hhead h3 h4
  go_enter Tryz.func108, Tryz.ntmps108
  go_wp2_with fail
  go_loop [3] (fun i => ∃ k : Nat, i = .int .i64 k ∧ k ≤ s.size ∧ Hid (tailN s.data.toList k = tailN s.data.toList 0)) (fun i => s.size - (intOf i).toNat)
  case atStart => exact ⟨0, rfl, Nat.zero_le _, rfl⟩
  case round =>
    obtain ⟨k, rfl, hk2, HD⟩ := hrel
    by_cases hlt : k < s.size
    · have hltI : (k : Int) < (s.size : Int) := by omega
      have GE := hide (Lard.getElem_data s k hlt)
      have hD := HD.out
      rw [tailN_step (by rw [← Lib.size_eq]; exact hlt), ← GE.out, al_or] at hD
      by_cases ha : Lard.isLet s[k] = true
      · rw [ha, Bool.true_or, Bool.true_and] at hD
        obtain ⟨a1, a2⟩ := let_bd.1 ha
        have b2 : ¬ (s[k].toNat : Int) ≤ 57 := by omega
        have b1 : 48 ≤ (s[k].toNat : Int) := by omega
        have HD2 := hide hD
        clear hD HD ha
        go_wp2_with fail
        exact ⟨⟨k + 1, by go_num, by omega, HD2⟩, by simp [intOf]; omega⟩
      · have ha' : Lard.isLet s[k] = false := by simpa using ha
        rw [ha', Bool.false_or] at hD
        have hna := fun h => ha (let_bd.2 h)
        by_cases hb : Lard.isDig s[k] = true
        · rw [hb, Bool.true_and] at hD
          obtain ⟨b1, b2⟩ := dig_bdI.1 hb
          have a1 : ¬ 97 ≤ (s[k].toNat : Int) := by omega
          have HD2 := hide hD
          clear hD HD ha ha' hb hna
          go_wp2_with fail
          exact ⟨⟨k + 1, by go_num, by omega, HD2⟩, by simp [intOf]; omega⟩
        · have hb' : Lard.isDig s[k] = false := by simpa using hb
          rw [hb', Bool.false_and] at hD
          have hnb := fun h => hb (dig_bdI.2 h)
          have HD2 := hide hD
          have hcs : (97 ≤ (s[k].toNat : Int) ∧ ¬ (s[k].toNat : Int) ≤ 122 ∧ 48 ≤ (s[k].toNat : Int) ∧ ¬ (s[k].toNat : Int) ≤ 57) ∨ (¬ 97 ≤ (s[k].toNat : Int) ∧ 48 ≤ (s[k].toNat : Int) ∧ ¬ (s[k].toNat : Int) ≤ 57) ∨ (¬ 97 ≤ (s[k].toNat : Int) ∧ ¬ 48 ≤ (s[k].toNat : Int)) := by
            by_cases x1 : 97 ≤ (s[k].toNat : Int)
            · exact Or.inl ⟨x1, fun h => hna ⟨x1, h⟩, by omega, by omega⟩
            · by_cases x2 : 48 ≤ (s[k].toNat : Int)
              · exact Or.inr (Or.inl ⟨x1, x2, fun h => hnb ⟨x2, h⟩⟩)
              · exact Or.inr (Or.inr ⟨x1, x2⟩)
          clear hD HD ha ha' hb hb' hna hnb
          rcases hcs with ⟨x1, x2, x3, x4⟩ | ⟨x1, x2, x3⟩ | ⟨x1, x2⟩
          all_goals
            go_wp2_with fail
            go_ret
            exact ⟨ret_bool (by rw [← HD2.out]; rfl), rfl⟩
    · have hltI : ¬ (k : Int) < (s.size : Int) := by omega
      have hD := HD.out
      rw [tailN_end (by rw [← Lib.size_eq]; omega)] at hD
      have HD2 := hide hD
      clear hD HD
      go_wp2_with (go_at_call 150; refine (rterm_any _ _).mono ?_; rintro e w' ⟨rfl, rfl⟩)
      go_ret
      exact ⟨ret_bool (by rw [← HD2.out]; rfl), rfl⟩

/-- The document's name, at every text. -/
theorem isName_any (s : ByteArray) (w : World) (hs : s.size ≤ 1000) :
    Calls Tryz.prog 108 #[.string s] w fun e w' => e = .returned (.bool (nameB s.data.toList)) ∧ w = w' := by
  by_cases h : 1 ≤ s.size ∧ s.size ≤ 8 ∧ s.data.toList.head?.map Lard.isLet = some true
  · have e : nameB s.data.toList = (tailN s.data.toList 0 && !Lard.termB s.data.toList) := by
      unfold nameB; rw [decide_eq_true (by rw [← Lib.size_eq]; exact h)]; rfl
    rw [e]
    exact isName_mid s w h.1 h.2.1 h.2.2
  · have e : nameB s.data.toList = false := by
      unfold nameB; rw [decide_eq_false (by rw [← Lib.size_eq]; exact h)]; rfl
    rw [e]
    exact isName_no s w hs h
end Go.Proofs.YtpekpdimdelncaaGreatDoor
