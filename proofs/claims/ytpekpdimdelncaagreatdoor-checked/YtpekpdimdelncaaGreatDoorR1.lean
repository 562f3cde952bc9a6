/- The document's leaves: words and terms. -/
import Derived.Test.YtpekpdimdelncaaGreatDoorR1b
namespace Go.Proofs.YtpekpdimdelncaaGreatDoor
open Go.RowKit

set_option maxHeartbeats 1000000 in
theorem rterm_any (s : ByteArray) (w : World) :
    Calls Tryz.prog 150 #[.string s] w fun e w' => e = .returned (.bool (Lard.termB s.data.toList)) ∧ w = w' := by
  go_enter Tryz.func150, Tryz.ntmps150
  go_wp2
  all_goals first
    | (exfalso; simp_all; done)
    | (go_ret; exact ⟨by rw [← Lib.toList_data]; simp [Lard.termB, *], rfl⟩)

def goodW (c : UInt8) : Bool := Lard.wordC c && !(c == 39)

/-- The bytes from k on, but for the last one, may stand in a word. -/
def tailW (l : List UInt8) (k : Nat) : Bool := ((l.drop k).take (l.length - 1 - k)).all goodW

/-- A word as it is written. -/
def isWordB (l : List UInt8) : Bool := decide (2 ≤ l.length ∧ l.length ≤ 32 ∧ l.head? = some 39 ∧ l.getLast? = some 39) && tailW l 1

theorem tailW_end {l : List UInt8} {k : Nat} (h : l.length - 1 ≤ k) : tailW l k = true := by
  unfold tailW; rw [show l.length - 1 - k = 0 by omega]; rfl

theorem tailW_step {l : List UInt8} {k : Nat} (h : k < l.length - 1) : tailW l k = (goodW (l[k]'(by omega)) && tailW l (k + 1)) := by
  unfold tailW
  rw [List.drop_eq_getElem_cons (show k < l.length by omega), show l.length - 1 - k = (l.length - 1 - (k + 1)) + 1 by omega, List.take_succ_cons, List.all_cons]

theorem isWordB_no {l : List UInt8} (h : ¬ (2 ≤ l.length ∧ l.length ≤ 32 ∧ l.head? = some 39 ∧ l.getLast? = some 39)) : isWordB l = false := by
  unfold isWordB; rw [decide_eq_false h]; rfl

set_option maxRecDepth 100000 in
set_option maxHeartbeats 1000000 in
theorem isWord_no (s : ByteArray) (w : World) (hs : s.size ≤ 1000) (h : ¬ (2 ≤ s.size ∧ s.size ≤ 32 ∧ s.data.toList.head? = some 39 ∧ s.data.toList.getLast? = some 39)) :
    Calls Tryz.prog 144 #[.string s] w fun e w' => e = .returned (.bool false) ∧ w = w' := by
  by_cases h1 : s.size < 2
  · clear h
    go_enter Tryz.func144, Tryz.ntmps144
    go_wp2_with fail
    go_ret
    exact ⟨rfl, rfl⟩
  by_cases h2 : 32 < s.size
  · clear h
    go_enter Tryz.func144, Tryz.ntmps144
    go_wp2_with fail
    go_ret
    exact ⟨rfl, rfl⟩
  have h0' : 0 < s.size := by omega
  have hlast : s.size - 1 < s.size := by omega
  have hhead : s.data.toList.head? = some s[0] := by
    rw [Lard.getElem_data s 0 h0', List.head?_eq_getElem?, List.getElem?_eq_getElem (by simpa using h0')]
  have hgl : s.data.toList.getLast? = some s[s.size - 1] := by
    rw [Lard.getElem_data s (s.size - 1) hlast, List.getLast?_eq_getElem?, List.getElem?_eq_getElem (by simp; omega)]
    simp
  have hI1 : ¬ (s.size : Int) < 2 := by omega
  have hI2 : ¬ 32 < (s.size : Int) := by omega
  by_cases h3 : ((s[0].toNat : Int) == 39) = true
  · have h4 : ((s[s.size - 1].toNat : Int) != 39) = true := by
      rw [bne_iff_ne]
      intro e
      apply h
      refine ⟨by omega, by omega, ?_, ?_⟩
      · rw [hhead]; congr 1; exact UInt8.toNat_inj.1 (by have := eq_of_beq h3; show s[0].toNat = 39; omega)
      · rw [hgl]; congr 1; exact UInt8.toNat_inj.1 (by show s[s.size - 1].toNat = 39; omega)
    have h3n : ((s[0].toNat : Int) != 39) = false := by rw [eq_of_beq h3]; rfl
    clear h hhead hgl h3
    go_enter Tryz.func144, Tryz.ntmps144
    go_wp2_with fail
    go_ret
    exact ⟨rfl, rfl⟩
  · have h3' : ((s[0].toNat : Int) != 39) = true := by rw [bne_iff_ne]; simpa using h3
    clear h hhead hgl h3
    go_enter Tryz.func144, Tryz.ntmps144
    go_wp2_with fail
    go_ret
    exact ⟨rfl, rfl⟩

set_option maxRecDepth 100000 in
set_option maxHeartbeats 1000000 in
theorem isWord_mid (s : ByteArray) (w : World) (h1 : 2 ≤ s.size) (h2 : s.size ≤ 32) (hh : s.data.toList.head? = some 39) (hl : s.data.toList.getLast? = some 39) :
    Calls Tryz.prog 144 #[.string s] w fun e w' => e = .returned (.bool (tailW s.data.toList 1)) ∧ w = w' := by
  have h0' : 0 < s.size := by omega
  have hlast : s.size - 1 < s.size := by omega
  have hhead : s.data.toList.head? = some s[0] := by
    rw [Lard.getElem_data s 0 h0', List.head?_eq_getElem?, List.getElem?_eq_getElem (by simpa using h0')]
  have hgl : s.data.toList.getLast? = some s[s.size - 1] := by
    rw [Lard.getElem_data s (s.size - 1) hlast, List.getLast?_eq_getElem?, List.getElem?_eq_getElem (by simp; omega)]
    simp
  have e0 : s[0] = 39 := by rw [hhead] at hh; exact Option.some.inj hh
  have e1 : s[s.size - 1] = 39 := by rw [hgl] at hl; exact Option.some.inj hl
  have h3 : ((s[0].toNat : Int) != 39) = false := by rw [e0]; rfl
  have h4 : ((s[s.size - 1].toNat : Int) != 39) = false := by rw [e1]; rfl
  have hI1 : ¬ (s.size : Int) < 2 := by omega
  have hI2 : ¬ 32 < (s.size : Int) := by omega
  clear hh hl hhead hgl e0 e1
  go_enter Tryz.func144, Tryz.ntmps144
  go_wp2_with fail
  go_loop [3] (fun i => ∃ k : Nat, i = .int .i64 k ∧ 1 ≤ k ∧ k ≤ s.size ∧ Hid (tailW s.data.toList k = tailW s.data.toList 1)) (fun i => s.size - (intOf i).toNat)
  case atStart => exact ⟨1, rfl, Nat.le_refl _, by omega, rfl⟩
  case round =>
    obtain ⟨k, rfl, hk1, hk2, HD⟩ := hrel
    by_cases hlt : k < s.size - 1
    · have hlt' : k < s.size := by omega
      have hltI : (k : Int) < (s.size : Int) - 1 := by omega
      have GE := hide (Lard.getElem_data s k hlt')
      have hD := HD.out
      rw [tailW_step (by rw [← Lib.size_eq]; exact hlt), ← GE.out] at hD
      by_cases hg : goodW s[k] = true
      · rw [hg, Bool.true_and] at hD
        have hg' : (32 ≤ (s[k].toNat : Int) ∧ (s[k].toNat : Int) ≤ 126) ∧ ¬ s[k] = 39 := by simpa [goodW, Lard.wordC] using hg
        obtain ⟨⟨g1, g2⟩, g3⟩ := hg'
        have g4 : ((s[k].toNat : Int) == 39) = false := by
          rw [beq_eq_false_iff_ne]
          intro e
          exact g3 (UInt8.toNat_inj.1 (by show s[k].toNat = 39; omega))
        have HD2 := hide hD
        clear hD HD hg g3
        go_wp2_with fail
        exact ⟨⟨k + 1, by go_num, by omega, by omega, HD2⟩, by simp [intOf]; omega⟩
      · have hgf : goodW s[k] = false := by simpa using hg
        rw [hgf, Bool.false_and] at hD
        have HD2 := hide hD
        have hg' : (s[k].toNat : Int) < 32 ∨ (¬ (s[k].toNat : Int) < 32 ∧ 126 < (s[k].toNat : Int)) ∨ (¬ (s[k].toNat : Int) < 32 ∧ ¬ 126 < (s[k].toNat : Int) ∧ ((s[k].toNat : Int) == 39) = true) := by
          by_cases a : (s[k].toNat : Int) < 32
          · exact Or.inl a
          by_cases b : 126 < (s[k].toNat : Int)
          · exact Or.inr (Or.inl ⟨a, b⟩)
          · refine Or.inr (Or.inr ⟨a, b, ?_⟩)
            have : s[k] = 39 := by
              simp only [goodW, Lard.wordC, Bool.and_eq_false_iff, decide_eq_false_iff_not, Bool.not_eq_false', beq_iff_eq] at hgf
              rcases hgf with (x | x) | x
              · omega
              · omega
              · exact x
            rw [this]; rfl
        clear hD HD hg hgf
        rcases hg' with a | ⟨a, b⟩ | ⟨a, b, c⟩
        all_goals
          go_wp2_with fail
          go_ret
          exact ⟨ret_bool HD2.out, rfl⟩
    · have hltI : ¬ (k : Int) < (s.size : Int) - 1 := by omega
      have hD := HD.out
      rw [tailW_end (by rw [← Lib.size_eq]; omega)] at hD
      have HD2 := hide hD
      clear hD HD
      go_wp2_with fail
      go_ret
      exact ⟨ret_bool HD2.out, rfl⟩

/-- The document's word, at every text. -/
theorem isWord_any (s : ByteArray) (w : World) (hs : s.size ≤ 1000) :
    Calls Tryz.prog 144 #[.string s] w fun e w' => e = .returned (.bool (isWordB s.data.toList)) ∧ w = w' := by
  by_cases h : 2 ≤ s.size ∧ s.size ≤ 32 ∧ s.data.toList.head? = some 39 ∧ s.data.toList.getLast? = some 39
  · have e : isWordB s.data.toList = tailW s.data.toList 1 := by
      unfold isWordB; rw [decide_eq_true (by rw [← Lib.size_eq]; exact h)]; rfl
    rw [e]
    exact isWord_mid s w h.1 h.2.1 h.2.2.1 h.2.2.2
  · rw [isWordB_no (by rw [← Lib.size_eq]; exact h)]
    exact isWord_no s w hs h
end Go.Proofs.YtpekpdimdelncaaGreatDoor
