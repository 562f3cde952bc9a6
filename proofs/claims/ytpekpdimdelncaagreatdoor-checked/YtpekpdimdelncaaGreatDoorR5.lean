/- The document's reader: with what a FACTOR begins; errors; the token that must come. -/
import Derived.Test.YtpekpdimdelncaaGreatDoorR4
import Derived.Test.YtpekpdimdelncaaGreatDoorRBeg
namespace Go.Proofs.YtpekpdimdelncaaGreatDoor
open Go.RowKit

set_option maxRecDepth 100000 in
set_option maxHeartbeats 2000000 in
theorem begins_any (t : ByteArray) (rb its : Nat) (w : World) (ht : t.size ≤ 1000) (c5 : w.cell? ⟨rb, 5, none⟩ = some (.int .i64 (its : Int))) :
    Calls Tryz.prog 229 #[.pointer (some ⟨rb, 0, none⟩), .string t] w fun e w' => e = .returned (.bool (beginsB t.data.toList its)) ∧ w = w' := by
  have hd := rdigits_any t w ht
  have hw := isWord_any t w ht
  have hn := isName_any t w ht
  have hb : beginsB t.data.toList its = ((Lard.refDig t.data.toList).isSome || isWordB t.data.toList || nameB t.data.toList || keyB t.toList || (t.toList == [105, 116] && decide (0 < its))) := by rw [Lib.toList_data]; rfl
  rw [hb]
  generalize Lard.refDig t.data.toList = od at hd hb
  generalize isWordB t.data.toList = bw at hw hb
  generalize nameB t.data.toList = bn at hn hb
  have HD := hide hd
  have HW := hide hw
  have HN := hide hn
  clear hd hw hn hb
  cases od with
  | some n =>
    go_enter Tryz.func229, Tryz.ntmps229
    go_wp2_with fail
    refine HD.out.mono ?_
    rintro e w' ⟨rfl, rfl⟩
    unfold digRes
    go_wp2_with (first | (go_at_call 144; refine HW.out.mono ?_; rintro e w' ⟨rfl, rfl⟩) | (go_at_call 108; refine HN.out.mono ?_; rintro e w' ⟨rfl, rfl⟩))
    go_ret
    exact ⟨ret_bool (by simp), rfl⟩
  | none =>
    cases bw with
    | true =>
      go_enter Tryz.func229, Tryz.ntmps229
      go_wp2_with fail
      refine HD.out.mono ?_
      rintro e w' ⟨rfl, rfl⟩
      unfold digRes
      go_wp2_with (first | (go_at_call 144; refine HW.out.mono ?_; rintro e w' ⟨rfl, rfl⟩) | (go_at_call 108; refine HN.out.mono ?_; rintro e w' ⟨rfl, rfl⟩))
      go_ret
      exact ⟨ret_bool (by simp), rfl⟩
    | false =>
      cases bn with
      | true =>
        go_enter Tryz.func229, Tryz.ntmps229
        go_wp2_with fail
        refine HD.out.mono ?_
        rintro e w' ⟨rfl, rfl⟩
        unfold digRes
        go_wp2_with (first | (go_at_call 144; refine HW.out.mono ?_; rintro e w' ⟨rfl, rfl⟩) | (go_at_call 108; refine HN.out.mono ?_; rintro e w' ⟨rfl, rfl⟩))
        go_ret
        exact ⟨ret_bool (by simp), rfl⟩
      | false =>
        go_enter Tryz.func229, Tryz.ntmps229
        go_wp2_with fail
        refine HD.out.mono ?_
        rintro e w' ⟨rfl, rfl⟩
        unfold digRes
        clear HD
        go_wp2_with (first | (go_at_call 144; refine HW.out.mono ?_; rintro e w' ⟨rfl, rfl⟩) | (go_at_call 108; refine HN.out.mono ?_; rintro e w' ⟨rfl, rfl⟩))
        all_goals clear HW HN c5
        all_goals first
          | (exfalso; simp_all; done)
          | (go_ret; refine ⟨ret_bool ?_, rfl⟩; simp_all [keyB]; done)
          | (go_ret; refine ⟨ret_bool ?_, rfl⟩; simp_all [keyB]; omega)

set_option maxHeartbeats 1000000 in
theorem fail_any (s : ByteArray) (rb i : Nat) (t : ByteArray) (place its c : Nat) (v : Value) (w : World) (h : RRaw w s rb i t 0 place its v) :
    Calls Tryz.prog 66 #[.pointer (some ⟨rb, 0, none⟩), .int .i64 (c : Int)] w fun e w' => e = .returned (.tuple #[]) ∧ RRaw w' s rb i t c i its v ∧ w.grownBy w' (some rb) := by
  obtain ⟨c0, c1, c2, c3, c4, c5, c6, cf⟩ := h.cells
  go_enter Tryz.func66, Tryz.ntmps66
  go_wp2_with fail
  go_end0
  exact ⟨rfl, blk_set (blk_set h 3 (.int .i64 (c : Int))) 4 (.int .i64 (i : Int)), Fr.set (Fr.set (World.grownBy.refl _ _) _ _) _ _⟩

theorem rtx_size {s : ByteArray} {i : Nat} (hi : i ≤ s.size) : i + (s.extract i (i + rsz (s.data.toList.drop i))).size ≤ s.size := by
  rw [ByteArray.size_extract]; omega

/-- The bytes of the document's token at a place. -/
def rtx (l : List UInt8) (i : Nat) : List UInt8 := (l.drop i).take (rsz (l.drop i))

theorem rtx_data (s : ByteArray) (i : Nat) : (s.extract i (i + rsz (s.data.toList.drop i))).data.toList = rtx s.data.toList i := by
  rw [Lib.extract_data, Nat.add_sub_cancel_left]; rfl

theorem rtx_known (l : List UInt8) (i : Nat) (x : List UInt8) (hx : known x = true) : rtx l i = x ↔ Lard.tx l i = x := known_same (l.drop i) x hx

/-- Behind a token that may stand both go to the same place. -/
theorem rnext_place {s : ByteArray} {i : Nat} (hi : i ≤ s.size) (hg : 2 ≤ (Lard.tok (s.data.toList.drop i)).1) : Lard.skip s.data.toList (i + (s.extract i (i + rsz (s.data.toList.drop i))).size) = Lard.nxt s.data.toList i := by
  have h1 := tok_rsz _ hg
  have h2 : i + (Lard.tok (s.data.toList.drop i)).2 ≤ s.size := by
    have := Lard.tok_in s.data.toList i (by simpa using hi); simpa using this
  rw [ByteArray.size_extract, h1]
  unfold Lard.nxt
  congr 1
  omega

/-- The step from a token that may stand. -/
theorem rnext_good (s : ByteArray) (rb i code place its : Nat) (v : Value) (w : World) (h : RAt w s rb i code place its v) (hs : s.size ≤ 200) (hi : i ≤ s.size) (hg : 2 ≤ (Lard.tok (s.data.toList.drop i)).1) :
    Calls Tryz.prog 64 #[.pointer (some ⟨rb, 0, none⟩)] w (PostN w s rb (Lard.nxt s.data.toList i) code place its v) := by
  have := next_any s rb i _ code place its v w h (by omega) (rtx_size hi)
  rw [rnext_place hi hg] at this
  exact this

theorem good_of_tx {l : List UInt8} {i : Nat} (h : Lard.tx l i ≠ []) : 2 ≤ (Lard.tok (l.drop i)).1 := by
  have := Lard.tx_pos h
  rcases tok_facts (l.drop i) _ rfl with ⟨h, _⟩ | ⟨h, _⟩ | ⟨h, _⟩ | ⟨h, _⟩ | ⟨h, _⟩ | ⟨h, _⟩
  · omega
  · omega
  · omega
  · omega
  · omega
  · exfalso
    cases hl : l.drop i with
    | nil => rw [hl] at this; simp [Lard.tok] at this
    | cons c r =>
      rw [hl] at this h
      rw [Lard.tok_cons (c :: r) c r rfl] at this h
      split at h
      · split at h
        · simp at h
        · rename_i h1 h2; rw [if_pos h1, if_neg h2] at this; simp at this
      · rename_i h1
        rw [if_neg h1] at this
        split at h
        · rename_i h2
          rw [if_pos h2] at this
          split at h
          · simp at h
          · rename_i h4
            rw [if_neg h4] at this
            split at h
            · rename_i h5; rw [if_pos h5] at this; simp at this
            · simp at h
        · rename_i h2
          rw [if_neg h2] at this
          split at h
          · rename_i h4
            rw [if_pos h4] at this
            cases hw : Lard.wordOf (c :: r) with
            | none => rw [hw] at this; simp [Lard.wordTok] at this
            | some n => rw [hw] at h; simp [Lard.wordTok] at h
          · rename_i h4
            rw [if_neg h4] at this
            split at h
            · simp at h
            · rename_i h5; rw [if_neg h5] at this; simp at this

/-- What the taking of a token leaves: the place behind it, or the error. -/
def PostT (w : World) (s : ByteArray) (rb its : Nat) (v : Value) (r : Except (Nat × Nat) Nat) (e : Ending) (w' : World) : Prop :=
  e = .returned (.tuple #[]) ∧ w.grownBy w' (some rb) ∧ (∀ j, r = .ok j → ∃ p, RAt w' s rb j 0 p its v) ∧ (∀ x, r = .error x → RAt w' s rb x.2 x.1 x.2 its v)

set_option maxRecDepth 100000 in
set_option maxHeartbeats 1000000 in
theorem rtake_ok (s : ByteArray) (rb i place its : Nat) (v : Value) (t : ByteArray) (w : World) (h : RAt w s rb i 0 place its v) (hs : s.size ≤ 200) (hi : i ≤ s.size) (hk : known t.data.toList = true) :
    Calls Tryz.prog 271 #[.pointer (some ⟨rb, 0, none⟩), .string t] w (PostT w s rb its v (Lard.expect s.data.toList t.data.toList i)) := by
  obtain ⟨c0, c1, c2, c3, c4, c5, c6, cf⟩ := h.cells
  have hne : t.data.toList ≠ [] := by intro e; rw [e] at hk; revert hk; decide
  by_cases ht : Lard.tx s.data.toList i = t.data.toList
  · have he : Lard.expect s.data.toList t.data.toList i = .ok (Lard.nxt s.data.toList i) := by rw [Lard.expect, if_pos ht]
    have hb : ((s.extract i (i + rsz (s.data.toList.drop i))).toList == t.toList) = true := by
      rw [Lib.toList_data, Lib.toList_data, rtx_data, (rtx_known _ _ _ hk).2 ht]; simp
    have hx := rnext_good s rb i 0 place its v w h hs hi (good_of_tx (by rw [ht]; exact hne))
    rw [he]
    have HX := hide hx
    clear hx he ht hne
    go_enter Tryz.func271, Tryz.ntmps271
    go_wp2_with fail
    refine HX.out.mono ?_
    rintro e w1 ⟨rfl, h1, f1⟩
    go_wp2_with fail
    go_end0
    exact ⟨rfl, f1, fun j hj => by cases hj; exact ⟨_, h1⟩, fun x hx => by cases hx⟩
  · have he : Lard.expect s.data.toList t.data.toList i = .error (3, i) := by rw [Lard.expect, if_neg ht]
    have hb : ((s.extract i (i + rsz (s.data.toList.drop i))).toList == t.toList) = false := by
      rw [Lib.toList_data, Lib.toList_data, rtx_data, beq_eq_false_iff_ne]
      exact fun e => ht ((rtx_known _ _ _ hk).1 e)
    rw [he]
    clear he ht hne
    go_enter Tryz.func271, Tryz.ntmps271
    go_wp2_with fail
    refine (fail_any s rb i _ place its 3 v _ h).mono ?_
    rintro e w1 ⟨rfl, h1, f1⟩
    go_wp2_with fail
    first | go_end0 | refine bodyPost_ret (results_none rfl _ _ _) rfl ?_
    exact ⟨rfl, f1, fun j hj => (by cases hj), fun x hx => by cases hx; exact h1⟩

set_option maxHeartbeats 1000000 in
theorem rtake_err (s : ByteArray) (rb i : Nat) (t : ByteArray) (code place its : Nat) (v : Value) (x : ByteArray) (w : World) (h : RRaw w s rb i t code place its v) (hc : code ≠ 0) :
    Calls Tryz.prog 271 #[.pointer (some ⟨rb, 0, none⟩), .string x] w fun e w' => e = .returned (.tuple #[]) ∧ w = w' := by
  obtain ⟨c0, c1, c2, c3, c4, c5, c6, cf⟩ := h.cells
  have hc' : ((code : Int) != 0) = true := by rw [bne_iff_ne]; omega
  go_enter Tryz.func271, Tryz.ntmps271
  go_wp2_with fail
  first | go_end0 | refine bodyPost_ret (results_none rfl _ _ _) rfl ?_
  exact ⟨rfl, rfl⟩
end Go.Proofs.YtpekpdimdelncaaGreatDoor
