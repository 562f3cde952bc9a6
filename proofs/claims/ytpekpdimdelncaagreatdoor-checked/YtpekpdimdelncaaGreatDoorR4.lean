/- The document's reader: where it stands, and the step to the next token. -/
import Derived.Test.YtpekpdimdelncaaGreatDoorRTok
import Derived.Deep.QuietTactic
import Derived.BigQuiet
namespace Go.Proofs.YtpekpdimdelncaaGreatDoor
open Go.RowKit

/-- What the document's reader holds. -/
def rCells (s : ByteArray) (i : Nat) (t : ByteArray) (code place its : Nat) (v : Value) : Array Value :=
  #[.string s, .int .i64 (i : Int), .string t, .int .i64 (code : Int), .int .i64 (place : Int), .int .i64 (its : Int), v]

def RRaw (w : World) (s : ByteArray) (rb i : Nat) (t : ByteArray) (code place its : Nat) (v : Value) : Prop := w.heap[rb]? = some (.cells (rCells s i t code place its v) 142 (0, 0))

/-- The document's reader stands at place i. -/
def RAt (w : World) (s : ByteArray) (rb i code place its : Nat) (v : Value) : Prop := RRaw w s rb i (s.extract i (i + rsz (s.data.toList.drop i))) code place its v

theorem RRaw.lt {w : World} {s : ByteArray} {rb i : Nat} {t : ByteArray} {code place its : Nat} {v : Value} (h : RRaw w s rb i t code place its v) : rb < w.heap.size := by
  by_cases hp : rb < w.heap.size
  · exact hp
  · unfold RRaw at h; rw [Array.getElem?_eq_none (by omega)] at h; cases h

theorem RRaw.cells {w : World} {s : ByteArray} {rb i : Nat} {t : ByteArray} {code place its : Nat} {v : Value} (h : RRaw w s rb i t code place its v) :
    w.cell? ⟨rb, 0, none⟩ = some (.string s) ∧ w.cell? ⟨rb, 1, none⟩ = some (.int .i64 (i : Int)) ∧ w.cell? ⟨rb, 2, none⟩ = some (.string t) ∧ w.cell? ⟨rb, 3, none⟩ = some (.int .i64 (code : Int)) ∧ w.cell? ⟨rb, 4, none⟩ = some (.int .i64 (place : Int)) ∧ w.cell? ⟨rb, 5, none⟩ = some (.int .i64 (its : Int)) ∧ w.cell? ⟨rb, 6, none⟩ = some v ∧ (∀ o, w.frozen? ⟨rb, o, none⟩ = false) := by
  unfold RRaw at h
  refine ⟨?_, ?_, ?_, ?_, ?_, ?_, ?_, ?_⟩
  all_goals simp [World.cell?, World.frozen?, h, rCells]

theorem RRaw.tok {w : World} {s : ByteArray} {rb i : Nat} {t : ByteArray} {code place its : Nat} {v : Value} (h : RRaw w s rb i t code place its v) (j : Nat) (t' : ByteArray) : RRaw ((w.setCell ⟨rb, 1, none⟩ (.int .i64 (j : Int))).setCell ⟨rb, 2, none⟩ (.string t')) s rb j t' code place its v :=
  blk_set (blk_set h 1 (.int .i64 (j : Int))) 2 (.string t')

theorem RRaw.tok2 {w : World} {s : ByteArray} {rb i : Nat} {t : ByteArray} {code place its : Nat} {v : Value} (h : RRaw w s rb i t code place its v) (t' : ByteArray) : RRaw (w.setCell ⟨rb, 2, none⟩ (.string t')) s rb i t' code place its v :=
  blk_set h 2 (.string t')

theorem RRaw.drewN {w : World} {s : ByteArray} {rb i : Nat} {t : ByteArray} {code place its : Nat} {v : Value} (h : RRaw w s rb i t code place its v) (n : Nat) : RRaw (w.drewN n) s rb i t code place its v := h

/-- What the step leaves. -/
def PostN (w : World) (s : ByteArray) (rb j code place its : Nat) (v : Value) (e : Ending) (w' : World) : Prop :=
  e = .returned (.tuple #[]) ∧ RAt w' s rb j code place its v ∧ w.grownBy w' (some rb)

theorem Fr.drewN {a w : World} {row : Option Nat} (h : a.grownBy w row) (n : Nat) : a.grownBy (w.drewN n) row := ⟨h.os, h.tape, h.output, h.size, h.block⟩

theorem quotedN_le (l : List UInt8) : quotedN l ≤ l.length := by
  unfold quotedN
  cases hw : Lard.wordOf l with
  | none => exact Nat.zero_le _
  | some n => exact Lard.wordOf_le hw

theorem next_fin {w : World} {s : ByteArray} {rb a : Nat} {t : ByteArray} {code place its : Nat} {v : Value} (h : RRaw w s rb a t code place its v) (nq k e : Nat) {j : Nat} (hj : j = k) (he : k + rsz (s.data.toList.drop k) = e) :
    PostN w s rb j code place its v (.returned (.tuple #[])) ((((w.drewN nq).setCell ⟨rb, 1, none⟩ (.int .i64 (k : Int))).setCell ⟨rb, 2, none⟩ (.string ⟨#[]⟩)).setCell ⟨rb, 2, none⟩ (.string (s.extract k e))) := by
  subst hj
  subst he
  exact ⟨rfl, ((h.drewN nq).tok _ _).tok2 _, Fr.set (Fr.set (Fr.set (Fr.drewN (World.grownBy.refl _ _) nq) _ _) _ _) _ _⟩

theorem next_end {w : World} {s : ByteArray} {rb a : Nat} {t : ByteArray} {code place its : Nat} {v : Value} (h : RRaw w s rb a t code place its v) (nq k : Nat) {j : Nat} (hj : j = k) (he : rsz (s.data.toList.drop k) = 0) :
    PostN w s rb j code place its v (.returned (.tuple #[])) (((w.drewN nq).setCell ⟨rb, 1, none⟩ (.int .i64 (k : Int))).setCell ⟨rb, 2, none⟩ (.string ⟨#[]⟩)) := by
  subst hj
  have hh := (h.drewN nq).tok j ⟨#[]⟩
  refine ⟨rfl, ?_, Fr.set (Fr.set (Fr.drewN (World.grownBy.refl _ _) nq) _ _) _ _⟩
  unfold RAt
  rw [he, Nat.add_zero]
  have e0 : s.extract j j = ⟨#[]⟩ := by rw [Lib.extract_eq]; simp
  rw [e0]
  exact hh

set_option maxRecDepth 100000 in
set_option maxHeartbeats 4000000 in
theorem next_any (s : ByteArray) (rb a : Nat) (t : ByteArray) (code place its : Nat) (v : Value) (w : World) (h : RRaw w s rb a t code place its v) (hs : s.size ≤ 1000) (ha : a + t.size ≤ s.size) :
    Calls Tryz.prog 64 #[.pointer (some ⟨rb, 0, none⟩)] w (PostN w s rb (Lard.skip s.data.toList (a + t.size)) code place its v) := by
  obtain ⟨c0, c1, c2, c3, c4, c5, c6, cf⟩ := h.cells
  go_enter Tryz.func64, Tryz.ntmps64
  go_wp2_with fail
  go_quiet (fail)
  go_wp2_with fail
  go_loop [2] (fun i => ∃ k : Nat, i = .int .i64 k ∧ k ≤ s.size ∧ Hid (Lard.skip s.data.toList k = Lard.skip s.data.toList (a + t.size))) (fun i => s.size - (intOf i).toNat)
  case atStart => exact ⟨a + t.size, by go_num, ha, rfl⟩
  case round =>
    obtain ⟨k, rfl, hk, HS⟩ := hrel
    by_cases hlt : k < s.size
    · have hltI : (k : Int) < (s.size : Int) := by omega
      have GE := hide (Lard.getElem_data s k hlt)
      have hln : k < s.data.toList.length := by simpa using hlt
      by_cases hb : ((s[k].toNat : Int) == 32) = true
      · have HS2 := hide (Lard.skip_step s.data.toList k hln (by rw [← GE.out]; exact hb))
        go_wp2_with fail
        exact ⟨⟨k + 1, by go_num, by omega, HS2.out.trans HS.out⟩, by simp [intOf]; omega⟩
      · have hb' : ((s[k].toNat : Int) == 32) = false := by simpa using hb
        have HS2 := hide (HS.out.symm.trans (Lard.skip_stop s.data.toList k (fun _ => by rw [← GE.out]; exact hb')))
        have hkn : ((k : Int) == (s.size : Int)) = false := by rw [beq_eq_false_iff_ne]; omega
        have HDR := hide (show s.data.toList.drop k = s[k] :: s.data.toList.drop (k + 1) by rw [GE.out]; exact List.drop_eq_getElem_cons hln)
        clear hb HS
        by_cases h39 : ((s[k].toNat : Int) == 39) = true
        · have e39 : s[k] = 39 := UInt8.toNat_inj.1 (by have := eq_of_beq h39; show s[k].toNat = 39; omega)
          have hq := quoted_any (s.extract k s.size) (((w.drewN nq).setCell ⟨rb, 1, none⟩ (.int .i64 (k : Int))).setCell ⟨rb, 2, none⟩ (.string ⟨#[]⟩)) (by have := size_ext s k s.size; omega) (by rw [extract_tail, HDR.out, e39]; rfl)
          rw [extract_tail] at hq
          have hsz : rsz (s.data.toList.drop k) = max (quotedN (s.data.toList.drop k)) 1 := by
            rw [HDR.out]; simp only [rsz]; rw [if_pos e39]
          have hqle := quotedN_le (s.data.toList.drop k)
          rw [List.length_drop, ← Lib.size_eq] at hqle
          have l1 : ¬ 97 ≤ (s[k].toNat : Int) := by have := eq_of_beq h39; omega
          have d1 : ¬ 48 ≤ (s[k].toNat : Int) := by have := eq_of_beq h39; omega
          generalize quotedN (s.data.toList.drop k) = qn at hq hsz hqle
          have HQ := hide hq
          have HSZ := hide hsz
          clear hq hsz e39
          by_cases hq0 : 0 < qn
          · have hqI : 0 < (qn : Int) := by omega
            have hle2 : k + qn ≤ s.size := by omega
            go_wp2_with fail
            refine HQ.out.mono ?_
            rintro e w1 ⟨rfl, rfl⟩
            go_wp2_with fail
            refine wp_loop_rounds 1 ?_
            rw [rounds_succ]
            go_wp2_with fail
            go_end0
            exact next_fin h nq k _ HS2.out (by rw [HSZ.out]; omega)
          · have hqI : ¬ 0 < (qn : Int) := by omega
            go_wp2_with fail
            refine HQ.out.mono ?_
            rintro e w1 ⟨rfl, rfl⟩
            go_wp2_with fail
            refine wp_loop_rounds 1 ?_
            rw [rounds_succ]
            go_wp2_with fail
            go_end0
            exact next_fin h nq k _ HS2.out (by rw [HSZ.out]; omega)
        · have h39' : ((s[k].toNat : Int) == 39) = false := by simpa using h39
          have hn39 : ¬ s[k] = 39 := fun e => h39 (by rw [e]; rfl)
          by_cases hle : Lard.isLet s[k] = true
          · obtain ⟨l1, l2⟩ := let_bd.1 hle
            have b2 : ¬ (s[k].toNat : Int) ≤ 57 := by omega
            have b1 : 48 ≤ (s[k].toNat : Int) := by omega
            have hpos : 1 ≤ Lard.lead Lard.isAl (s.data.toList.drop k) := by
              rw [HDR.out]; exact Lard.lead_pos _ _ _ (by rw [al_or, hle]; rfl)
            have hsz : rsz (s.data.toList.drop k) = Lard.lead Lard.isAl (s.data.toList.drop k) := by
              rw [HDR.out]; simp only [rsz]; rw [if_neg hn39, if_pos hle]
            have HSZ := hide hsz
            clear h39 hle hsz hn39
            go_wp2_with fail
            go_loop [6] (fun e => ∃ m : Nat, e = .int .i64 ((k + m : Nat) : Int) ∧ 1 ≤ m ∧ k + m ≤ s.size ∧ m ≤ Lard.lead Lard.isAl (s.data.toList.drop k)) (fun e => s.size - (intOf e).toNat)
            case atStart => exact ⟨1, by go_num, Nat.le_refl _, by omega, hpos⟩
            case round =>
              obtain ⟨m, rfl, hm1, hm2, hm3⟩ := hrel
              by_cases hend : k + m < s.size
              · have hendI : ((k + m : Nat) : Int) < (s.size : Int) := by omega
                have GE2 := hide (Lard.getElem_data s (k + m) hend)
                have hlen : m < (s.data.toList.drop k).length := by rw [List.length_drop, ← Lib.size_eq]; omega
                have HG := hide (show (s.data.toList.drop k)[m] = s[k + m] by rw [List.getElem_drop, GE2.out])
                by_cases hal : Lard.isAl s[k + m] = true
                · have HST := hide (Lard.lead_step Lard.isAl (s.data.toList.drop k) m hlen hm3 (by rw [HG.out]; exact hal))
                  by_cases hdg : Lard.isDig s[k + m] = true
                  · obtain ⟨d1, d2⟩ := dig_bdI.1 hdg
                    clear hdg hal
                    go_wp2_with fail
                    exact ⟨⟨m + 1, by go_num, by omega, by omega, HST.out⟩, by simp [intOf]; omega⟩
                  · have hlt2 : Lard.isLet s[k + m] = true := by
                      rw [al_or] at hal
                      simpa [hdg] using hal
                    obtain ⟨x1, x2⟩ := let_bd.1 hlt2
                    have d1 : 48 ≤ (s[k + m].toNat : Int) := by omega
                    have d2 : ¬ (s[k + m].toNat : Int) ≤ 57 := by omega
                    clear hdg hal hlt2
                    go_wp2_with fail
                    exact ⟨⟨m + 1, by go_num, by omega, by omega, HST.out⟩, by simp [intOf]; omega⟩
                · have HST := hide (Lard.lead_stop Lard.isAl (s.data.toList.drop k) m hm3 (fun _ => by rw [HG.out]; simpa using hal))
                  have hnl : ¬ (97 ≤ (s[k + m].toNat : Int) ∧ (s[k + m].toNat : Int) ≤ 122) := fun hx => hal (by rw [al_or, let_bd.2 hx]; rfl)
                  have hnd : ¬ (48 ≤ (s[k + m].toNat : Int) ∧ (s[k + m].toNat : Int) ≤ 57) := fun hx => hal (by rw [al_or, dig_bdI.2 hx, Bool.or_true])
                  have hcs : (¬ 48 ≤ (s[k + m].toNat : Int) ∧ (s[k + m].toNat : Int) < 97) ∨ (48 ≤ (s[k + m].toNat : Int) ∧ ¬ (s[k + m].toNat : Int) ≤ 57 ∧ (s[k + m].toNat : Int) < 97) ∨ (48 ≤ (s[k + m].toNat : Int) ∧ ¬ (s[k + m].toNat : Int) ≤ 57 ∧ ¬ (s[k + m].toNat : Int) < 97 ∧ 122 < (s[k + m].toNat : Int)) := by omega
                  clear hal hnl hnd
                  rcases hcs with ⟨x1, x2⟩ | ⟨x1, x2, x3⟩ | ⟨x1, x2, x3, x4⟩
                  all_goals go_wp2_with fail
                  all_goals first
                    | (go_end0; exact next_fin h nq k _ HS2.out (by rw [HSZ.out, HST.out]))
                    | (exfalso; rename_i hx; simp at hx; omega)
              · have hendI : ¬ ((k + m : Nat) : Int) < (s.size : Int) := by omega
                have HST := hide (Lard.lead_stop Lard.isAl (s.data.toList.drop k) m hm3 (fun hh => by rw [List.length_drop, ← Lib.size_eq] at hh; omega))
                go_wp2_with fail
                go_end0
                exact next_fin h nq k _ HS2.out (by rw [HSZ.out, HST.out])
          · have hle' : ¬ (97 ≤ (s[k].toNat : Int) ∧ (s[k].toNat : Int) ≤ 122) := fun hx => hle (let_bd.2 hx)
            by_cases hdi : Lard.isDig s[k] = true
            · obtain ⟨b1, b2⟩ := dig_bdI.1 hdi
              have l1 : ¬ 97 ≤ (s[k].toNat : Int) := by omega
              have hpos : 1 ≤ Lard.lead Lard.isDig (s.data.toList.drop k) := by
                rw [HDR.out]; exact Lard.lead_pos _ _ _ hdi
              have hsz : rsz (s.data.toList.drop k) = Lard.lead Lard.isDig (s.data.toList.drop k) := by
                rw [HDR.out]; simp only [rsz]; rw [if_neg hn39, if_neg hle, if_pos hdi]
              have HSZ := hide hsz
              clear h39 hle hle' hdi hsz hn39
              go_wp2_with fail
              go_loop [6] (fun e => ∃ m : Nat, e = .int .i64 ((k + m : Nat) : Int) ∧ 1 ≤ m ∧ k + m ≤ s.size ∧ m ≤ Lard.lead Lard.isDig (s.data.toList.drop k)) (fun e => s.size - (intOf e).toNat)
              case atStart => exact ⟨1, by go_num, Nat.le_refl _, by omega, hpos⟩
              case round =>
                obtain ⟨m, rfl, hm1, hm2, hm3⟩ := hrel
                by_cases hend : k + m < s.size
                · have hendI : ((k + m : Nat) : Int) < (s.size : Int) := by omega
                  have GE2 := hide (Lard.getElem_data s (k + m) hend)
                  have hlen : m < (s.data.toList.drop k).length := by rw [List.length_drop, ← Lib.size_eq]; omega
                  have HG := hide (show (s.data.toList.drop k)[m] = s[k + m] by rw [List.getElem_drop, GE2.out])
                  by_cases hal : Lard.isDig s[k + m] = true
                  · have HST := hide (Lard.lead_step Lard.isDig (s.data.toList.drop k) m hlen hm3 (by rw [HG.out]; exact hal))
                    obtain ⟨d1, d2⟩ := dig_bdI.1 hal
                    clear hal
                    go_wp2_with fail
                    exact ⟨⟨m + 1, by go_num, by omega, by omega, HST.out⟩, by simp [intOf]; omega⟩
                  · have HST := hide (Lard.lead_stop Lard.isDig (s.data.toList.drop k) m hm3 (fun _ => by rw [HG.out]; simpa using hal))
                    have hnd : ¬ (48 ≤ (s[k + m].toNat : Int) ∧ (s[k + m].toNat : Int) ≤ 57) := fun hx => hal (dig_bdI.2 hx)
                    have hcs : (¬ 48 ≤ (s[k + m].toNat : Int)) ∨ (48 ≤ (s[k + m].toNat : Int) ∧ ¬ (s[k + m].toNat : Int) ≤ 57) := by omega
                    clear hal hnd
                    rcases hcs with x1 | ⟨x1, x2⟩
                    all_goals go_wp2_with fail
                    all_goals first
                      | (go_end0; exact next_fin h nq k _ HS2.out (by rw [HSZ.out, HST.out]))
                      | (exfalso; rename_i hx; simp at hx; omega)
                · have hendI : ¬ ((k + m : Nat) : Int) < (s.size : Int) := by omega
                  have HST := hide (Lard.lead_stop Lard.isDig (s.data.toList.drop k) m hm3 (fun hh => by rw [List.length_drop, ← Lib.size_eq] at hh; omega))
                  go_wp2_with fail
                  go_end0
                  exact next_fin h nq k _ HS2.out (by rw [HSZ.out, HST.out])
            · have hdi' : ¬ (48 ≤ (s[k].toNat : Int) ∧ (s[k].toNat : Int) ≤ 57) := fun hx => hdi (dig_bdI.2 hx)
              have hsz : rsz (s.data.toList.drop k) = 1 := by
                rw [HDR.out]; simp only [rsz]; rw [if_neg hn39, if_neg hle, if_neg hdi]
              have HSZ := hide hsz
              have hcs : (¬ 97 ≤ (s[k].toNat : Int) ∧ ¬ 48 ≤ (s[k].toNat : Int)) ∨ (¬ 97 ≤ (s[k].toNat : Int) ∧ 48 ≤ (s[k].toNat : Int) ∧ ¬ (s[k].toNat : Int) ≤ 57) ∨ (97 ≤ (s[k].toNat : Int) ∧ ¬ (s[k].toNat : Int) ≤ 122 ∧ 48 ≤ (s[k].toNat : Int) ∧ ¬ (s[k].toNat : Int) ≤ 57) := by omega
              clear h39 hle hle' hdi hdi' hsz hn39
              rcases hcs with ⟨x1, x2⟩ | ⟨x1, x2, x3⟩ | ⟨x1, x2, x3, x4⟩
              all_goals
                go_wp2_with fail
                refine wp_loop_rounds 1 ?_
                rw [rounds_succ]
                go_wp2_with fail
                go_end0
                exact next_fin h nq k _ HS2.out (by rw [HSZ.out])
    · have hltI : ¬ (k : Int) < (s.size : Int) := by omega
      have hkn : ((k : Int) == (s.size : Int)) = true := by rw [beq_iff_eq]; omega
      have HS2 := hide (HS.out.symm.trans (Lard.skip_stop s.data.toList k (fun hh => absurd (by simpa using hh) hlt)))
      have HSZ := hide (show rsz (s.data.toList.drop k) = 0 by rw [List.drop_eq_nil_of_le (by simp; omega)]; rfl)
      clear HS
      go_wp2_with fail
      go_end0
      exact next_end h nq k HS2.out HSZ.out
end Go.Proofs.YtpekpdimdelncaaGreatDoor
