/- Numbers and words as they are written: isTerm, Written, ReadNumber, ReadWord answer as the plain functions do. -/
import Derived.Test.YtpekpdimdelncaaGreatDoorShelf
import Derived.Test.YtpekpdimdelncaaGreatDoorW1
import Derived.Lib.AppendIntMem
import Derived.Shelf.Strconv.ErrVarParseInt
namespace Go.Proofs.YtpekpdimdelncaaGreatDoor
open Go.RowKit

/-- What the reading of numbers asks of the package-level variables. -/
structure G (w : World) : Prop where
  size : 8 ≤ w.heap.size
  tab : Lib.TabIs Tryz.prog w "internal/strconv.uint64pow10" .u64 Lib.pow10Tab
  syn : ∃ tp p, w.var? Tryz.prog "strconv.ErrSyntax" = some #[.iface tp p]
  ran : ∃ tp p, w.var? Tryz.prog "strconv.ErrRange" = some #[.iface tp p]

theorem globSyn : Tryz.prog.globalNamed "strconv.ErrSyntax" = some 4 := by kernel_rfl
theorem globRan : Tryz.prog.globalNamed "strconv.ErrRange" = some 5 := by kernel_rfl
theorem globTab : Tryz.prog.globalNamed "internal/strconv.uint64pow10" = some 1 := by kernel_rfl

theorem G.below {B : Nat} {w w' : World} (g : G w) (h : Below B w w') (hB : 8 ≤ B) : G w' := by
  obtain ⟨h1, h2, ⟨a, ha, ha'⟩, ⟨b, hb, hb'⟩⟩ := g
  exact ⟨Nat.le_trans h1 h.size, var?_below h globTab (by omega) h2, ⟨a, ha, var?_below h globSyn (by omega) ha'⟩, ⟨b, hb, var?_below h globRan (by omega) hb'⟩⟩

set_option maxHeartbeats 400000 in
theorem isTerm_any (s : ByteArray) (w : World) :
    Calls Tryz.prog 157 #[.string s] w fun e w' => e = .returned (.bool (Lard.termB s.data.toList)) ∧ w' = w := by
  go_enter Tryz.func157, Tryz.ntmps157
  go_wp2
  all_goals first
    | (exfalso; simp_all; done)
    | (go_ret; exact ⟨by rw [← Lib.toList_data]; simp [Lard.termB, *], rfl⟩)

set_option maxHeartbeats 400000 in
theorem written_any (n : Int) (w : World) (g : G w) (h0 : -9223372036854775808 ≤ n) (h1 : n ≤ 9223372036854775807) :
    Calls Tryz.prog 171 #[.int .i64 n] w fun e w' => e = .returned (.string ⟨(Lib.itoa n).toArray⟩) ∧ Below w.heap.size w w' := by
  go_enter Tryz.func171, Tryz.ntmps171
  go_wp2_with (go_at_call 211; refine (Tryz.strconv_FormatInt_10 _ h0 h1 _ g.tab).mono ?_; rintro e w' ⟨rfl, k, os, rfl⟩)
  go_ret
  exact ⟨rfl, Lib.below_grow _ _ (Nat.le_refl _) _ _⟩
set_option maxHeartbeats 400000 in
theorem readNumber_bad (s : ByteArray) (w : World) (g : G w) (hs : s.size ≤ 281474976710656) (h : ∀ v, Lib.parseIntB 64 s.data.toList ≠ .ok v) :
    Calls Tryz.prog 130 #[.string s] w fun e w' => e = .returned (.tuple #[.int .i64 0, .bool false]) ∧ Below w.heap.size w w' := by
  have hc : Calls Tryz.prog 170 #[.string s, .int .i64 10, .int .i64 64] w fun e w' => ∃ n N, e = .returned (.tuple #[.int .i64 n, .iface 331 (.pointer (some ⟨N, 0, none⟩))]) ∧ Below w.heap.size w w' := by
    obtain ⟨a, ha, ha'⟩ := g.syn
    obtain ⟨b, hb, hb'⟩ := g.ran
    rcases hp : Lib.parseIntB 64 s.data.toList with v | _ | _
    · exact absurd hp (h v)
    · refine (Any.strconv_ParseInt_10_at64_syntax_var Tryz.laysC174 s hs hp a ha w ha').mono ?_
      rintro e w' ⟨N, rfl, _, _, hB⟩
      exact ⟨_, _, rfl, hB⟩
    · refine (Any.strconv_ParseInt_10_at64_range_var Tryz.laysC174 s hs hp b hb w hb').mono ?_
      rintro e w' ⟨N, rfl, _, _, hB⟩
      exact ⟨_, _, rfl, hB⟩
  have H := hide hc
  clear hc h g
  go_enter Tryz.func130, Tryz.ntmps130
  go_wp2_with (go_at_call 170; refine H.out.mono ?_; rintro e w' ⟨n, N, rfl, hB⟩)
  go_ret2
  exact ⟨rfl, hB⟩
set_option maxHeartbeats 400000 in
theorem readNumber_ok (s : ByteArray) (w : World) (g : G w) (hs : s.size ≤ 281474976710656) (v : Int) (h : Lib.parseIntB 64 s.data.toList = .ok v) (h0 : -9223372036854775808 ≤ v) (h1 : v ≤ 9223372036854775807) (b : Bool) (hb : (Lib.itoa v == s.data.toList) = b) :
    Calls Tryz.prog 130 #[.string s] w fun e w' => e = .returned (.tuple #[.int .i64 (if b then v else 0), .bool b]) ∧ Below w.heap.size w w' := by
  have hc := Tryz.strconv_ParseInt_10_at64_ok s (by omega) v h w
  have H := hide hc
  have Hb := hide hb
  clear hc h hb
  go_enter Tryz.func130, Tryz.ntmps130
  go_wp2_with (go_at_call 170; refine H.out.mono ?_; rintro e w' ⟨rfl, hw⟩)
  have hB : Below w.heap.size w w' := by
    rcases hw with rfl | ⟨t, rfl⟩
    · exact Below.refl _ _
    · exact Lib.bytesWorld_below _ _ _
  clear hw
  have g' := g.below hB g.size
  have hb' : (Lib.itoa v == s.toList) = b := by
    rw [Lib.toList_data]; exact Hb.out
  clear Hb
  go_wp2_with fail
  refine (written_any v _ g' h0 h1).mono ?_
  rintro e w2 ⟨rfl, hB2⟩
  have hB3 := hB.trans (hB2.mono hB.size)
  cases b
  · go_wp2_with fail
    go_ret2
    exact ⟨rfl, hB3⟩
  · go_wp2_with fail
    go_ret2
    exact ⟨rfl, hB3⟩

/-- ReadNumber, at every text. -/
theorem readNumber_any (s : ByteArray) (w : World) (g : G w) (hs : s.size ≤ 281474976710656) :
    Calls Tryz.prog 130 #[.string s] w fun e w' => e = .returned (.tuple #[.int .i64 ((Lard.numOf s.data.toList).getD 0), .bool (Lard.numOf s.data.toList).isSome]) ∧ Below w.heap.size w w' := by
  by_cases h : ∃ v, Lib.parseIntB 64 s.data.toList = .ok v
  · obtain ⟨v, h⟩ := h
    have hr := Lard.parse_range _ _ h
    refine (readNumber_ok s w g hs v h hr.1 hr.2 _ rfl).mono ?_
    rintro e w' ⟨rfl, hB⟩
    refine ⟨?_, hB⟩
    simp only [Lard.numOf, h]
    by_cases hb : (Lib.itoa v == s.data.toList) = true
    · simp [hb]
    · simp at hb; simp [hb]
  · have h' : ∀ v, Lib.parseIntB 64 s.data.toList ≠ .ok v := fun v hv => h ⟨v, hv⟩
    refine (readNumber_bad s w g hs h').mono ?_
    rintro e w' ⟨rfl, hB⟩
    refine ⟨?_, hB⟩
    rw [Lard.numOf_none _ h']
    rfl

def wordRes (s : ByteArray) : Option Nat → Value
  | some n => .tuple #[.string (s.extract 1 (n + 1)), .bool true]
  | none => .tuple #[.string ⟨#[]⟩, .bool false]

theorem ret_word (s : ByteArray) {o : Option Nat} {v : Value} (h : wordRes s o = v) : Ending.returned v = .returned (wordRes s o) := by rw [h]

set_option maxHeartbeats 1000000 in
theorem readWord_any (s : ByteArray) (w : World) (_hs : s.size ≤ 4611686018427387904) :
    Calls Tryz.prog 127 #[.string s] w fun e w' => e = .returned (wordRes s (Lard.wordOf s.data.toList)) ∧ w' = w := by
  by_cases hq : Lib.hasPrefix s.data.toList [39] = true
  · have hq0 := Lard.quoteAt_start _ hq
    go_enter Tryz.func127, Tryz.ntmps127
    go_wp2_with (go_at_call 126; refine (Tryz.strings_HasPrefix _ _ _).mono ?_; rintro e w' ⟨rfl, rfl⟩)
    clear hq
    go_loop [4] (fun i => ∃ k : Nat, i = .int .i64 k ∧ Lard.QuoteAt s.data.toList k) (fun i => 32 - (intOf i).toNat)
    case atStart => exact ⟨1, rfl, hq0⟩
    case round =>
      clear hq0
      obtain ⟨k, rfl, hl⟩ := hrel
      have hk1 := hl.1
      have hk2 := hl.2.1
      by_cases hlt : k < s.size ∧ k ≤ 31
      · obtain ⟨hlt, hlt'⟩ := hlt
        have ge := Lard.getElem_data s k hlt
        have GE := hide ge
        clear ge
        have hln : k < s.data.toList.length := by simpa using hlt
        by_cases h1 : (s[k].toNat : Int) = 39
        · have hr := Lard.quote_hit hl hln hlt' (by rw [← GE.out]; exact UInt8.toNat_inj.1 (by show s[k].toNat = 39; omega))
          have HR := hide hr
          clear hr
          go_wp2_with fail
          go_ret2
          exact ⟨by rw [HR.out]; simp only [wordRes]; rw [show k - 1 + 1 = k by omega]; rfl, rfl⟩
        · have h1' : ¬ s.data.toList[k] = 39 := by
            rw [← GE.out]; intro e; rw [e] at h1; exact h1 rfl
          by_cases h2 : Lard.wordC s[k] = true
          · have hn := Lard.quote_next hl hln hlt' h1' (by rw [← GE.out]; exact h2)
            have HN := hide hn
            have h3 : 32 ≤ (s[k].toNat : Int) ∧ (s[k].toNat : Int) ≤ 126 := by simpa [Lard.wordC] using h2
            obtain ⟨h3, h4⟩ := h3
            have h1b : ((s[k].toNat : Int) == 39) = false := by simpa using h1
            clear hn h2 h1 h1'
            go_wp2_with fail
            exact ⟨⟨k + 1, by go_num, HN.out⟩, by simp [intOf]; omega⟩
          · have h2' : Lard.wordC s[k] = false := by simpa using h2
            have hr := Lard.quote_bad hl hln hlt' h1' (by rw [← GE.out]; exact h2')
            have HR := hide hr
            have h3 : (s[k].toNat : Int) < 32 ∨ 126 < (s[k].toNat : Int) := by
              simp [Lard.wordC] at h2'; omega
            have h1b : ((s[k].toNat : Int) == 39) = false := by simpa using h1
            clear hr h2 h2' h1 h1'
            by_cases h5 : (s[k].toNat : Int) < 32
            · clear h3
              go_wp2_with fail
              go_ret2
              exact ⟨by rw [HR.out]; rfl, rfl⟩
            · have h6 : 126 < (s[k].toNat : Int) := by omega
              clear h3
              go_wp2_with fail
              go_ret2
              exact ⟨by rw [HR.out]; rfl, rfl⟩
      · have hr := Lard.quote_end hl (by simp at hlt ⊢; omega)
        have HR := hide hr
        clear hr
        by_cases h5 : k < s.size
        · have h6 : ¬ k ≤ 31 := fun h => hlt ⟨h5, h⟩
          clear hlt
          go_wp2_with fail
          go_ret2
          exact ⟨by rw [HR.out]; rfl, rfl⟩
        · clear hlt
          go_wp2_with fail
          go_ret2
          exact ⟨by rw [HR.out]; rfl, rfl⟩
  · have hq' : Lib.hasPrefix s.data.toList [39] = false := by simpa using hq
    have HR := hide (Lard.wordOf_none _ hq')
    clear hq
    go_enter Tryz.func127, Tryz.ntmps127
    go_wp2_with (go_at_call 126; refine (Tryz.strings_HasPrefix _ _ _).mono ?_; rintro e w' ⟨rfl, rfl⟩)
    go_ret2
    exact ⟨by rw [HR.out]; rfl, rfl⟩
end Go.Proofs.YtpekpdimdelncaaGreatDoor
