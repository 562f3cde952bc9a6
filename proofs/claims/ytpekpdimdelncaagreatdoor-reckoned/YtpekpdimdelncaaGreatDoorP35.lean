/- Out of: N2, X8. -/
import Derived.Test.YtpekpdimdelncaaGreatDoorP34
import Derived.Test.YtpekpdimdelncaaGreatDoorP11
import Derived.Test.YtpekpdimdelncaaGreatDoorP07
namespace Go.Proofs.YtpekpdimdelncaaGreatDoor
open Go.RowKit Go.Shelf
set_option linter.unusedVariables false
set_option linter.unusedSimpArgs false
def RFirst (n : Nat) : Prop := ∀ (s : ByteArray) (w : World), G w → s.size ≤ 281474976710656 → Calls Tryz.prog 86 #[.string s, .int .i64 n] w (RdPost w n (Lard.rdF n s.data.toList))
def itemsQ (n : Nat) (l : List UInt8) : Option (Lard.V × List UInt8) := match n with | 0 => none | m + 1 => Lard.rdList (Lard.rdF m) l
def RItems (n : Nat) : Prop := ∀ (s : ByteArray) (w : World), G w → s.size ≤ 281474976710656 → Calls Tryz.prog 128 #[.string s, .int .i64 n] w (RdPost w n (itemsQ n s.data.toList))
set_option maxRecDepth 100000 in
set_option maxHeartbeats 1000000 in
theorem items_zero : RItems 0 := by
  intro s w g hs
  have hfin : RdPost w 0 (itemsQ 0 s.data.toList) (.returned (.tuple #[.nilIface, .string ⟨#[]⟩, .bool false])) w := ⟨Below.refl _ _, .inr ⟨_, _, rfl, rfl, .inl rfl⟩⟩
  generalize RdPost w 0 (itemsQ 0 s.data.toList) = R at hfin ⊢
  go_enter Tryz.func128, Tryz.ntmps128
  go_wp2_with fail
  exact bodyPost_ret (v := .tuple #[.nilIface, .string ⟨#[]⟩, .bool false]) (by simp [results, Tryz.results128, go_sem]) rfl hfin
set_option maxRecDepth 100000 in
set_option maxHeartbeats 1000000 in
theorem first_list (n : Nat) (hi : RItems n) (s : ByteArray) (w : World) (g : G w) (hs : s.size ≤ 281474976710656) (hh : s.data.toList.head? = some 123) :
    Calls Tryz.prog 86 #[.string s, .int .i64 n] w (RdPost w n (Lard.rdF n s.data.toList)) := by
  have hp1 : Lib.hasPrefix s.data.toList [39] = false := by rw [head_prefix, hh]; rfl
  have hp2 : Lib.hasPrefix s.data.toList [123] = true := by rw [head_prefix, hh]; rfl
  have h1 : 1 ≤ s.size := by
    rw [Lib.size_eq]
    cases hd : s.data.toList with
    | nil => rw [hd] at hh; cases hh
    | cons c t => simp
  have hq : Lard.rdF n s.data.toList = itemsQ n (s.extract 1 s.size).data.toList := by
    rw [drop_ext]
    unfold Lard.rdF itemsQ
    rw [if_neg (by rw [hh]; intro e; cases e), if_pos hh]
    cases n <;> rfl
  have HI := hide (hi (s.extract 1 s.size) w g (by rw [size_ext2 s 1 s.size (Nat.le_refl _) h1]; omega))
  rw [hq]
  generalize hR : RdPost w n (itemsQ n (s.extract 1 s.size).data.toList) = R at HI ⊢
  have hforms : ∀ e w', R e w' → ∃ y, ∃ r : ByteArray, ∃ b, e = .returned (.tuple #[y, .string r, .bool b]) := fun e w' h => by
    rw [← hR] at h
    rcases h.2 with ⟨_, y, _, _, r, _, h2, _⟩ | ⟨y, r, _, h2, _⟩
    · exact ⟨y, r, true, h2⟩
    · exact ⟨y, r, false, h2⟩
  clear hR hq
  go_enter Tryz.func86, Tryz.ntmps86
  go_wp2_with (first | (go_at_call 126; refine (Tryz.strings_HasPrefix _ _ _).mono ?_; rintro e w' ⟨rfl, hw⟩; obtain rfl := hw.symm; try rw [hp1]; try rw [hp2]))
  refine HI.out.mono ?_
  intro e w1 hRe
  obtain ⟨y, r, b, rfl⟩ := hforms e w1 hRe
  have HRe := hide hRe
  clear hRe HI hforms
  go_wp2_with fail
  exact bodyPost_ret (v := .tuple #[y, .string r, .bool b]) (by simp [results, Tryz.results86, go_sem]) rfl HRe.out
theorem first_any (n : Nat) (hi : RItems n) : RFirst n := by
  intro s w g hs
  by_cases h1 : s.data.toList.head? = some 39
  · exact first_word s n w hs h1
  · by_cases h2 : s.data.toList.head? = some 123
    · exact first_list n hi s w g hs h2
    · exact first_num s n w g hs h1 h2
/-- Where the loop stands. -/
structure Il (w : World) (m : Nat) (fin : Option (Lard.V × List UInt8)) (t : ByteArray) (v : Value) (ys : List Value) (acc : List Lard.V) (wr : World) : Prop where
  priv : Priv wr w.heap.size v ys
  vals : Vals wr m acc ys
  len : acc.length ≤ 12
  bel : Below w.heap.size w wr
  rest : Lard.rdItems (Lard.rdF m) (12 - acc.length) t.data.toList acc = fin
  size : t.size ≤ 281474976710656
set_option maxRecDepth 100000 in
set_option maxHeartbeats 1000000 in
theorem items_succ (m : Nat) (hm : m ≤ 2) (ih : RFirst m) : RItems (m + 1) := by
  intro s w g hs
  have IH := hide ih
  clear ih
  generalize hR : RdPost w (m + 1) (itemsQ (m + 1) s.data.toList) = R
  have hno : ∀ wr, Below w.heap.size w wr → itemsQ (m + 1) s.data.toList = none → R (.returned (.tuple #[.nilIface, .string ⟨#[]⟩, .bool false])) wr := fun wr hB h => by
    rw [← hR]
    exact ⟨hB, .inr ⟨_, _, h, rfl, .inl rfl⟩⟩
  by_cases hh : s.data.toList.head? = some 125
  · have hp : Lib.hasPrefix s.data.toList [125] = true := by rw [head_prefix, hh]; rfl
    have h1 : 1 ≤ s.size := by
      rw [Lib.size_eq]
      cases hd : s.data.toList with
      | nil => rw [hd] at hh; cases hh
      | cons c t => simp
    have hq : itemsQ (m + 1) s.data.toList = some (Lard.vl [], (s.extract 1 s.size).data.toList) := by
      rw [drop_ext]
      show Lard.rdList _ _ = _
      unfold Lard.rdList
      rw [if_pos hh]
    have hok : ∀ (wr : World) (b : Nat), Below w.heap.size w wr → wr.heap[b]? = some (.cells #[] 111 (0, 0)) → R (.returned (.tuple #[.iface 248 (.slice (some ⟨b, 0, none⟩) 0 0), .string (s.extract 1 s.size), .bool true])) wr := fun wr b hB hb => by
      rw [← hR]
      exact ⟨hB, .inl ⟨Lard.vl [], _, _, _, _, hq, rfl, rfl, .inr ⟨[], _, [], rfl, rfl, .inr ⟨b, 0, #[], (0, 0), rfl, Nat.le_refl _, hb, Nat.le_refl _, fun i hi => by simp at hi⟩, rfl, by simp, fun i u y hu => by cases hu⟩⟩⟩
    have HOK := hide hok
    clear hok hR hno hq hh
    go_enter Tryz.func128, Tryz.ntmps128
    go_wp2_with (first | (go_at_call 126; refine (Tryz.strings_HasPrefix _ _ _).mono ?_; rintro e w' ⟨rfl, hw⟩; obtain rfl := hw.symm; try rw [hp]))
    go_region_with fail
    all_goals
      go_wp2_with fail
      exact bodyPost_ret (v := .tuple #[.iface 248 (.slice (some ⟨w.heap.size, 0, none⟩) 0 0), .string (s.extract 1 s.size), .bool true]) (by simp [results, Tryz.results128, go_sem]) rfl (HOK.out _ _ (((Below.refl _ w).drew).alloc (Nat.le_refl _) _) (heap_alloc_new _ _))
  · have hp : Lib.hasPrefix s.data.toList [125] = false := by rw [head_prefix]; exact beq_eq_false_iff_ne.2 hh
    have hq : itemsQ (m + 1) s.data.toList = Lard.rdItems (Lard.rdF m) 12 s.data.toList [] := by
      show Lard.rdList _ _ = _
      unfold Lard.rdList
      rw [if_neg hh]
    have HS : Hid (Il w m (itemsQ (m + 1) s.data.toList) s (.slice none 0 0) [] [] w) := hide ⟨.inl ⟨rfl, rfl⟩, ⟨rfl, fun i u y hu => by cases hu⟩, by simp, Below.refl _ _, hq.symm, hs⟩
    have HNO := hide hno
    have HR := hide hR
    clear hno hR hq hh
    go_enter Tryz.func128, Tryz.ntmps128
    go_wp2_with (first | (go_at_call 126; refine (Tryz.strings_HasPrefix _ _ _).mono ?_; rintro e w' ⟨rfl, hw⟩; obtain rfl := hw.symm; try rw [hp]))
    go_loopw [0, 7] (fun tx v wr => ∃ (t : ByteArray) (ys : List Value) (acc : List Lard.V), tx = .string t ∧ Hid (Il w m (itemsQ (m + 1) s.data.toList) t v ys acc wr)) (fun tx v _ => 12 - (match v with | .slice _ k _ => k | _ => 0))
    case atStart => exact ⟨s, [], [], rfl, HS⟩
    case round =>
      clear HS
      obtain ⟨t, ys, acc, rfl, IL⟩ := hrel
      have hys : acc.length = ys.length := IL.out.vals.1
      obtain ⟨oa, ca, rfl⟩ := IL.out.priv.row.len
      by_cases hlt : ys.length < 12
      · have HC := hide (IH.out t wr (g.below IL.out.bel g.size) IL.out.size)
        go_wp2_with fail
        refine HC.out.mono ?_
        rintro e w3 ⟨hB3, ⟨vv, y, ty, ay, r, hq3, rfl, rfl, hv⟩ | ⟨y, r, hq3, rfl, hy⟩⟩
        · have hBw3 := IL.out.bel.trans (hB3.mono IL.out.bel.size)
          obtain ⟨k, hk⟩ : ∃ k, 12 - acc.length = k + 1 := ⟨11 - acc.length, by omega⟩
          by_cases hr : r.data.toList = []
          · have hnone : itemsQ (m + 1) s.data.toList = none := by
              have h := IL.out.rest
              rw [hk] at h
              unfold Lard.rdItems at h
              rw [hq3, hr] at h
              exact h.symm
            have hr0 : r = ⟨#[]⟩ := by rw [← Lib.mk_data r, hr]
            subst hr0
            have HNN := hide (HNO.out w3 hBw3 hnone)
            clear HNO IL HC IH hv
            go_wp2_with fail
            exact bodyPost_ret (v := .tuple #[.nilIface, .string ⟨#[]⟩, .bool false]) (by simp [results, Tryz.results128, go_sem]) rfl HNN.out
          · obtain ⟨c, r', hrc⟩ : ∃ c r', r.data.toList = c :: r' := by
              cases hd : r.data.toList with
              | nil => exact (hr hd).elim
              | cons c r' => exact ⟨c, r', rfl⟩
            have hrz : 1 ≤ r.size := by rw [Lib.size_eq, hrc]; simp
            have hemp : (r.toList == []) = false := by rw [Lib.toList_data, hrc]; rfl
            have hemp2 : r.toList.isEmpty = false := by rw [Lib.toList_data, hrc]; rfl
            have hidx : r.data.toList[0]? = some c := by rw [hrc]; rfl
            have hB4 : Below w3.heap.size w3 (w3.alloc (Obj.cells #[.iface ty ay] 111)) := (Below.refl _ w3).alloc (Nat.le_refl _) _
            have HP4 := hide ((IL.out.priv.same (Keeps.below hB3)).same (Keeps.below hB4))
            have HV4 := hide ((IL.out.vals.keeps (Keeps.below hB3)).keeps (Keeps.below hB4))
            have HY4 := hide (hv.keeps (Keeps.below hB4))
            have hBw4 := hBw3.trans (hB4.mono hBw3.size)
            have hc4 : (w3.alloc (Obj.cells #[.iface ty ay] 111)).cell? ((⟨w3.heap.size, 0, none⟩ : Addr).add 0) = some (.iface ty ay) := cell_one_new _ _ _ 0 _ rfl
            have hsz4 : w.heap.size ≤ (w3.alloc (Obj.cells #[.iface ty ay] 111)).heap.size := hBw4.size
            have HREST := hide IL.out.rest
            have hlenz : acc.length ≤ 11 := by omega
            have HSZ := hide IL.out.size
            have hR3 : itemsQ (m + 1) s.data.toList = if c = 125 then some (Lard.vl (acc ++ [vv]), r') else if c = 44 then Lard.rdItems (Lard.rdF m) k r' (acc ++ [vv]) else none := by
              have h := HREST.out
              rw [hk] at h
              unfold Lard.rdItems at h
              rw [hq3, hrc] at h
              exact h.symm
            have hc0 : ∀ h : 0 < r.size, (r[0]'h) = c := fun h => by
              have h1 : r.data.toList[0]? = some (r[0]'h) := by
                rw [List.getElem?_eq_getElem (by rw [← Lib.size_eq]; exact h)]
                rfl
              rw [hidx] at h1
              exact (Option.some.inj h1).symm
            have hrl : (r.extract 1 r.size).data.toList = r' := by rw [drop_ext, hrc]; rfl
            have hrsz : (r.extract 1 r.size).size ≤ 281474976710656 := by
              have h6 := Lard.rdF_some m _ _ _ hq3
              have h7 := congrArg List.length h6.2
              rw [List.length_append] at h7
              have h8 := HSZ.out
              rw [Lib.size_eq] at h8
              have h9 := size_ext2 r 1 r.size (Nat.le_refl _) hrz
              have h10 := Lib.size_eq r
              omega
            have HAF : Hid (∀ (w5 : World) (v' : Value), Priv w5 w.heap.size v' (ys ++ [.iface ty ay]) → (w3.alloc (Obj.cells #[.iface ty ay] 111)).grownBy w5 (Value.slice oa ys.length ca).ownBlock → (∀ n u x, IsVal (w3.alloc (Obj.cells #[.iface ty ay] 111)) n u x → IsVal w5 n u x) → Below w.heap.size w w5 ∧ Vals w5 m (acc ++ [vv]) (ys ++ [.iface ty ay])) := hide (fun w5 v' q2 q3 q5 => ⟨hBw4.grown q3 hsz4 (fun b hb => (HP4.out.lt hb).2), by
              refine ⟨by simp [hys], fun i u y hu hy => ?_⟩
              rcases Nat.lt_or_ge i acc.length with hi | hi
              · rw [List.getElem?_append_left hi] at hu
                rw [List.getElem?_append_left (by omega)] at hy
                exact q5 _ _ _ (HV4.out.2 i u y hu hy)
              · rw [List.getElem?_append_right hi] at hu
                rw [List.getElem?_append_right (by omega)] at hy
                have hi0 : i - acc.length = 0 := by
                  have := (List.getElem?_eq_some_iff.1 hu).1
                  simp at this
                  omega
                rw [hi0] at hu
                rw [← hys, hi0] at hy
                simp at hu hy
                subst hu hy
                exact q5 _ _ _ HY4.out⟩)
            clear HC IH IL hv hB3 hB4
            go_wp2_with (at_builtin; refine wpList_priv rfl _ _ 248 Tryz.underlying248 rfl w.heap.size _ ys rfl HP4.out ⟨w3.heap.size, 0, none⟩ _ (.iface ty ay) rfl hc4 rfl (by omega) hsz4 ?_; intro v' w5 h2 h3 h4 h5; obtain ⟨o5, c5, rfl⟩ := h2.row.len)
            · rename_i hlt0 hcc
              obtain ⟨hB5, hV5⟩ := HAF.out w5 _ h2 h3 h5
              have hc125 : c = 125 := by
                have h7 : (c.toNat : Int) = 125 := by simpa using hcc
                have : c.toNat = 125 := by omega
                exact UInt8.toNat_inj.1 this
              rw [if_pos hc125] at hR3
              rw [List.length_append] at h2
              have HOK : Hid (R (.returned (.tuple #[.iface 248 (.slice o5 (ys.length + 1) c5), .string (r.extract 1 r.size), .bool true])) w5) := hide (by
                rw [← HR.out]
                exact ⟨hB5, .inl ⟨Lard.vl (acc ++ [vv]), _, _, _, _, by rw [hR3, hrl], rfl, rfl, .inr ⟨acc ++ [vv], _, ys ++ [.iface ty ay], rfl, rfl, h2.row, by simp [hys], by simp; omega, hV5.2⟩⟩⟩)
              exact bodyPost_ret (v := .tuple #[.iface 248 (.slice o5 (ys.length + 1) c5), .string (r.extract 1 r.size), .bool true]) (by simp [results, Tryz.results128, go_sem]) rfl HOK.out
            · rename_i hlt0 hcc1 hcc
              obtain ⟨hB5, hV5⟩ := HAF.out w5 _ h2 h3 h5
              have hc44 : c = 44 := by
                have h7 : (c.toNat : Int) = 44 := by simpa using hcc
                have : c.toNat = 44 := by omega
                exact UInt8.toNat_inj.1 this
              rw [if_neg (by rw [hc44]; decide), if_pos hc44] at hR3
              rw [List.length_append] at h2
              refine ⟨⟨_, ys ++ [.iface ty ay], acc ++ [vv], rfl, hide ⟨h2, hV5, by simp; omega, hB5, ?_, hrsz⟩⟩, ?_⟩
              · rw [hrl, hR3]
                congr 1
                simp
                omega
              · show 12 - (ys.length + 1) < 12 - ys.length
                omega
            · rename_i hlt0 hcc1 hcc2
              obtain ⟨hB5, hV5⟩ := HAF.out w5 _ h2 h3 h5
              have hn125 : c ≠ 125 := fun e => by
                rw [e] at hcc1
                exact absurd hcc1 (by decide)
              have hn44 : c ≠ 44 := fun e => by
                rw [e] at hcc2
                exact absurd hcc2 (by decide)
              rw [if_neg hn125, if_neg hn44] at hR3
              exact bodyPost_ret (v := .tuple #[.nilIface, .string ⟨#[]⟩, .bool false]) (by simp [results, Tryz.results128, go_sem]) rfl (HNO.out w5 hB5 hR3)
        · have hnone : itemsQ (m + 1) s.data.toList = none := by
            have h := IL.out.rest
            obtain ⟨k, hk⟩ : ∃ k, 12 - acc.length = k + 1 := ⟨11 - acc.length, by omega⟩
            rw [hk] at h
            unfold Lard.rdItems at h
            rw [hq3] at h
            exact h.symm
          have HNN := hide (HNO.out w3 (IL.out.bel.trans (hB3.mono IL.out.bel.size)) hnone)
          clear HNO IL HC IH
          go_wp2_with fail
          exact bodyPost_ret (v := .tuple #[.nilIface, .string ⟨#[]⟩, .bool false]) (by simp [results, Tryz.results128, go_sem]) rfl HNN.out
      · have hnone : itemsQ (m + 1) s.data.toList = none := by
          have h := IL.out.rest
          rw [show 12 - acc.length = 0 by omega] at h
          exact h.symm
        have HNN := hide (HNO.out wr IL.out.bel hnone)
        clear HNO IL IH
        go_wp2_with fail
        exact bodyPost_ret (v := .tuple #[.nilIface, .string ⟨#[]⟩, .bool false]) (by simp [results, Tryz.results128, go_sem]) rfl HNN.out
theorem first_all : ∀ n, n ≤ 3 → RFirst n
  | 0, _ => first_any 0 items_zero
  | n + 1, h => first_any (n + 1) (items_succ n (by omega) (first_all n (by omega)))
set_option maxRecDepth 100000 in
set_option maxHeartbeats 1000000 in
theorem read_any (s : ByteArray) (w : World) (g : G w) (hs : s.size ≤ 281474976710656) :
    Calls Tryz.prog 52 #[.string s] w fun e w' => Below w.heap.size w w' ∧ ((∃ v t a, Lard.rdV s.data.toList = some v ∧ e = .returned (.tuple #[.iface t a, .bool true]) ∧ IsVal w' 3 v (.iface t a)) ∨ (Lard.rdV s.data.toList = none ∧ e = .returned (.tuple #[.nilIface, .bool false]))) := by
  have HF := hide (first_all 3 (Nat.le_refl _) s w g hs)
  generalize hR : (fun (e : Ending) (w' : World) => Below w.heap.size w w' ∧ ((∃ v t a, Lard.rdV s.data.toList = some v ∧ e = .returned (.tuple #[.iface t a, .bool true]) ∧ IsVal w' 3 v (.iface t a)) ∨ (Lard.rdV s.data.toList = none ∧ e = .returned (.tuple #[.nilIface, .bool false])))) = R
  have hno : ∀ w', Below w.heap.size w w' → Lard.rdV s.data.toList = none → R (.returned (.tuple #[.nilIface, .bool false])) w' := fun w' hB h => by
    rw [← hR]
    exact ⟨hB, .inr ⟨h, rfl⟩⟩
  have hok : ∀ w' v t a, Below w.heap.size w w' → Lard.rdV s.data.toList = some v → IsVal w' 3 v (.iface t a) → R (.returned (.tuple #[.iface t a, .bool true])) w' := fun w' v t a hB h hv => by
    rw [← hR]
    exact ⟨hB, .inl ⟨v, t, a, h, rfl, hv⟩⟩
  have HNO := hide hno
  have HOK := hide hok
  clear hno hok hR
  go_enter Tryz.func52, Tryz.ntmps52
  go_wp2_with fail
  refine HF.out.mono ?_
  rintro e w3 ⟨hB3, ⟨v, y, ty, ay, r, hq3, rfl, rfl, hv⟩ | ⟨y, r, hq3, rfl, hy⟩⟩
  · cases hd : r.data.toList with
    | nil =>
      have hr0 : r = ⟨#[]⟩ := by rw [← Lib.mk_data r, hd]
      subst hr0
      have HK := hide (HOK.out w3 v ty ay hB3 (by unfold Lard.rdV; rw [hq3]) hv)
      clear HOK HNO HF hv
      go_wp2_with fail
      exact HK.out
    | cons c r' =>
      have hemp : (r.toList == []) = false := by rw [Lib.toList_data, hd]; rfl
      have hemp2 : r.toList.isEmpty = false := by rw [Lib.toList_data, hd]; rfl
      have HK := hide (HNO.out w3 hB3 (by unfold Lard.rdV; rw [hq3, hd]))
      clear HOK HNO HF hv hd
      go_wp2_with fail
      exact HK.out
  · have HK := hide (HNO.out w3 hB3 (by unfold Lard.rdV; rw [hq3]))
    clear HOK HNO HF
    go_wp2_with fail
    exact HK.out
end Go.Proofs.YtpekpdimdelncaaGreatDoor
namespace Go.Proofs.YtpekpdimdelncaaGreatDoor
open Go.RowKit
set_option linter.unusedSimpArgs false
set_option linter.unusedVariables false
theorem IsTree.up {w : World} : ∀ {n : Nat} {t : Lard.T} {x : Value}, IsTree w n t x → IsTree w (n + 1) t x
  | 0, _, _, h => h.elim
  | _ + 1, _, _, ⟨b, i, s, qs, fz, h1, h2, h3, h4, h5, h6⟩ => ⟨b, i, s, qs, fz, h1, h2, h3, h4, h5, fun j u q hu hq => IsTree.up (h6 j u q hu hq)⟩
theorem IsTree.le {w : World} {n m : Nat} {t : Lard.T} {x : Value} (h : IsTree w n t x) (hm : n ≤ m) : IsTree w m t x := by
  induction hm with
  | refl => exact h
  | step _ ih => exact ih.up
/-- A pointer to a tree, of some height. -/
def TreeAt (w : World) (t : Lard.T) (q : Addr) : Prop := ∃ h, IsTree w h t (.pointer (some q))
theorem TreeAt.keeps {w w' : World} {t : Lard.T} {q : Addr} (h : TreeAt w t q) (hk : Keeps w w') : TreeAt w' t q := h.elim fun n h => ⟨n, h.keeps hk⟩
/-- Blocks of trees from lo on, but for one row, stay. -/
def KO (lo : Nat) (row : Option Nat) (w w' : World) : Prop :=
  ∀ k, lo ≤ k → row ≠ some k → ∀ (cs : Array Value) (t : TypeId) (fz : Nat × Nat), w.heap[k]? = some (.cells cs t fz) → Imm t → w'.heap[k]? = some (.cells cs t fz)
/-- A tree that lies from lo on, and not in that row. -/
def TF (lo : Nat) (row : Option Nat) (w : World) (t : Lard.T) (q : Addr) : Prop := ∀ w', KO lo row w w' → TreeAt w' t q
theorem KO.refl (lo : Nat) (row : Option Nat) (w : World) : KO lo row w w := fun _ _ _ _ _ _ h _ => h
theorem KO.keeps {lo : Nat} {row : Option Nat} {w w' : World} (h : Keeps w w') : KO lo row w w' := fun k _ _ cs t fz hk ht => h k cs t fz hk ht
theorem TF.at {lo : Nat} {row : Option Nat} {w : World} {t : Lard.T} {q : Addr} (h : TF lo row w t q) : TreeAt w t q := h w (KO.refl _ _ _)
theorem KO.trans {lo : Nat} {row row' : Option Nat} {a b c : World} (h : KO lo row a b) (hr : ∀ k, row' = some k → row = some k ∨ a.heap.size ≤ k) (h' : KO lo row' b c) : KO lo row a c :=
  fun k hk hne cs t fz hb ht => h' k hk (fun e => by
    rcases hr k e with h1 | h1
    · exact hne h1
    · have := lt_of_some hb; omega) cs t fz (h k hk hne cs t fz hb ht) ht
theorem TF.move {lo : Nat} {row row' : Option Nat} {w w' : World} {t : Lard.T} {q : Addr} (h : TF lo row w t q) (hk : KO lo row w w') (hr : ∀ k, row' = some k → row = some k ∨ w.heap.size ≤ k) : TF lo row' w' t q :=
  fun w'' h2 => h w'' (hk.trans hr h2)
theorem TF.keeps {lo : Nat} {row : Option Nat} {w w' : World} {t : Lard.T} {q : Addr} (h : TF lo row w t q) (hk : Keeps w w') : TF lo row w' t q := h.move (KO.keeps hk) (fun _ e => .inl e)
theorem TF.mono {lo lo' : Nat} {row : Option Nat} {w : World} {t : Lard.T} {q : Addr} (h : TF lo row w t q) (hl : lo' ≤ lo) : TF lo' row w t q := fun w' h' => h w' (fun k hk => h' k (Nat.le_trans hl hk))
theorem TF.row {lo : Nat} {row : Option Nat} {w : World} {t : Lard.T} {q : Addr} (h : TF lo none w t q) (hr : ∀ k, row = some k → k < lo) : TF lo row w t q := fun w' h' => h w' (fun k hk _ => h' k hk (fun e => by have := hr k e; omega))
theorem TF.drop {lo : Nat} {row : Option Nat} {w : World} {t : Lard.T} {q : Addr} (h : TF lo row w t q) : TF lo none w t q := fun w' h' => h w' (fun k hk _ => h' k hk (fun e => by cases e))
/-- The trees of a slice. -/
def TFs (lo : Nat) (row : Option Nat) (w : World) (ts : List Lard.T) (s : Value) : Prop :=
  ∀ w', KO lo row w w' → ∃ qs, IsPtrs w' s qs ∧ ts.length = qs.length ∧ ∀ (j : Nat) u q, ts[j]? = some u → qs[j]? = some q → ∃ h, IsTree w' h u q
theorem TFs.move {lo : Nat} {row row' : Option Nat} {w w' : World} {ts : List Lard.T} {s : Value} (h : TFs lo row w ts s) (hk : KO lo row w w') (hr : ∀ k, row' = some k → row = some k ∨ w.heap.size ≤ k) : TFs lo row' w' ts s :=
  fun w'' h2 => h w'' (hk.trans hr h2)
theorem TFs.mono {lo lo' : Nat} {row : Option Nat} {w : World} {ts : List Lard.T} {s : Value} (h : TFs lo row w ts s) (hl : lo' ≤ lo) : TFs lo' row w ts s := fun w' h' => h w' (fun k hk => h' k (Nat.le_trans hl hk))
theorem TFs.nil (lo : Nat) (row : Option Nat) (w : World) : TFs lo row w [] (.slice none 0 0) := fun w' _ => ⟨[], .inl ⟨rfl, rfl⟩, rfl, fun j u q hu => by simp at hu⟩
theorem TFs.mk {lo b cap : Nat} {row : Option Nat} {w : World} {ts : List Lard.T} {qs : List Value} {cs : Array Value} {fz : Nat × Nat} (hb : w.heap[b]? = some (.cells cs 121 fz)) (hlo : lo ≤ b) (hrow : row ≠ some b) (hlen : ts.length = qs.length) (hcap : qs.length ≤ cap) (hcs : cap ≤ cs.size) (hq : ∀ i, i < qs.length → cs[i]? = qs[i]?)
    (ht : ∀ (j : Nat) u x, ts[j]? = some u → qs[j]? = some x → ∃ q, x = .pointer (some q) ∧ TF lo row w u q) : TFs lo row w ts (.slice (some ⟨b, 0, none⟩) qs.length cap) :=
  fun w' h' => ⟨qs, .inr ⟨b, cap, cs, fz, rfl, hcap, h' b hlo hrow _ _ _ hb (.inr (.inr rfl)), hcs, hq⟩, hlen, fun j u q hu hq => by
    obtain ⟨q', rfl, h1⟩ := ht j u q hu hq
    exact h1 w' h'⟩
/-- One height for all. -/
theorem heights {w : World} : ∀ (ts : List Lard.T) (qs : List Value), ts.length = qs.length → (∀ (j : Nat) u q, ts[j]? = some u → qs[j]? = some q → ∃ h, IsTree w h u q) → ∃ h, ∀ (j : Nat) u q, ts[j]? = some u → qs[j]? = some q → IsTree w h u q
  | [], _, _, _ => ⟨0, fun j u q hu => by simp at hu⟩
  | t :: ts, [], h, _ => by simp at h
  | t :: ts, q :: qs, h, H => by
    obtain ⟨h1, e1⟩ := H 0 t q rfl rfl
    obtain ⟨h2, e2⟩ := heights ts qs (by simpa using h) (fun j u q hu hq => H (j + 1) u q (by simpa using hu) (by simpa using hq))
    refine ⟨max h1 h2, fun j u q' hu hq => ?_⟩
    cases j with
    | zero => cases hu; cases hq; exact e1.le (Nat.le_max_left _ _)
    | succ j => exact (e2 j u q' (by simpa using hu) (by simpa using hq)).le (Nat.le_max_right _ _)
/-- A node over its parts. -/
theorem TF.node {lo b : Nat} {row : Option Nat} {w : World} {t : Lard.T} {i s : Value} {fz : Nat × Nat}
    (hb : w.heap[b]? = some (.cells #[.int .i64 (t.kind : Int), .int .u8 (t.op : Int), .string ⟨t.name.toArray⟩, i, s] 263 fz)) (hlo : lo ≤ b) (hrow : row ≠ some b) (hi : ∀ w, IsOpt w t.is i) (hname : t.name.length ≤ 200) (ht : TFs lo row w t.parts s) : TF lo row w t ⟨b, 0, none⟩ :=
  fun w' h' => by
    obtain ⟨qs, h1, h2, h3⟩ := ht w' h'
    obtain ⟨h, h4⟩ := heights t.parts qs h2 h3
    exact ⟨h + 1, b, i, s, qs, fz, rfl, h' b hlo hrow _ _ _ hb (.inr (.inl rfl)), ⟨hi w', hname⟩, h1, h2, h4⟩
/-- What a reading of a part leaves, its tree too. -/
def PostT (s : ByteArray) (pb deep its lo : Nat) (w : World) (r : Lard.RT) (e : Ending) (w' : World) : Prop :=
  w.grownBy w' (some pb) ∧ (∀ j ts, r = .ok (j, ts) → (∃ q t, ts = [t] ∧ e = .returned (.pointer (some q)) ∧ TF lo none w' t q) ∧ PAt w' s pb j deep its) ∧ (∀ x, r = .error x → e = refusal x.1 x.2)
theorem PostT.ok {s : ByteArray} {pb deep its lo j : Nat} {ts : List Lard.T} {w w' : World} {e : Ending} (h : PostT s pb deep its lo w (.ok (j, ts)) e w') : w.grownBy w' (some pb) ∧ (∃ q t, ts = [t] ∧ e = .returned (.pointer (some q)) ∧ TF lo none w' t q) ∧ PAt w' s pb j deep its :=
  ⟨h.1, h.2.1 j ts rfl⟩
theorem PostT.err {s : ByteArray} {pb deep its lo : Nat} {w w' : World} {e : Ending} {x : Nat × Nat} (h : PostT s pb deep its lo w (.error x) e w') : w.grownBy w' (some pb) ∧ e = refusal x.1 x.2 :=
  ⟨h.1, h.2.2 x rfl⟩
theorem PostT.mkOk {s : ByteArray} {pb deep its lo j : Nat} {w w' : World} {q : Addr} {t : Lard.T} (h : w.grownBy w' (some pb)) (hp : PAt w' s pb j deep its) (ht : TF lo none w' t q) : PostT s pb deep its lo w (.ok (j, [t])) (.returned (.pointer (some q))) w' :=
  ⟨h, fun k ts hk => (by cases hk; exact ⟨⟨q, t, rfl, rfl, ht⟩, hp⟩), fun x hx => (by cases hx)⟩
theorem PostT.mkErr {s : ByteArray} {pb deep its lo : Nat} {w w' : World} {x : Nat × Nat} (h : w.grownBy w' (some pb)) : PostT s pb deep its lo w (.error x) (refusal x.1 x.2) w' :=
  ⟨h, fun k ts hk => (by cases hk), fun y hy => (by cases hy; rfl)⟩
/-- A function of the reader reads from place i to r. -/
def ConT (s : ByteArray) (f pb deep its i : Nat) (r : Lard.RT) : Prop :=
  ∀ w : World, G w → PAt w s pb i deep its → Calls Tryz.prog f #[.pointer (some ⟨pb, 0, none⟩)] w (PostT s pb deep its w.heap.size w r)
theorem PAt.kp {w w' : World} {s : ByteArray} {pb i deep its : Nat} (h : PAt w s pb i deep its) (hg : w.grownBy w' (some pb)) : Keeps w w' := keeps_grown hg (fun cs t fz hb => by
  rw [PAt] at h
  rw [h] at hb; cases hb
  rintro (h | h | h) <;> cases h)
theorem keeps_alloc (w : World) (o : Obj) : Keeps w (w.alloc o) := Keeps.below ((Below.refl _ w).alloc (Nat.le_refl _) o)
theorem optNone (w : World) : IsOpt w none .nilIface := .inl ⟨rfl, rfl⟩
/-- A node of two parts, laid anew. -/
theorem tree_two {lo : Nat} {w : World} {t1 t2 : Lard.T} {q1 q2 : Addr} (op : Nat) (hlo : lo ≤ w.heap.size) (h1 : TF lo none w t1 q1) (h2 : TF lo none w t2 q2) :
    TF lo none ((w.alloc (.cells #[.pointer (some q1), .pointer (some q2)] 121)).alloc (.cells #[.int .i64 1, .int .u8 (op : Int), .string ⟨#[]⟩, .nilIface, .slice (some ⟨w.heap.size, 0, none⟩) 2 2] 263)) ⟨1, op, [], none, [t1, t2]⟩ ⟨w.heap.size + 1, 0, none⟩ := by
  have k1 := keeps_alloc w (.cells #[.pointer (some q1), .pointer (some q2)] 121)
  have k2 := keeps_alloc (w.alloc (.cells #[.pointer (some q1), .pointer (some q2)] 121)) (.cells #[.int .i64 1, .int .u8 (op : Int), .string ⟨#[]⟩, .nilIface, .slice (some ⟨w.heap.size, 0, none⟩) 2 2] 263)
  refine TF.node (fz := (0, 0)) ?_ (by omega) (fun e => by cases e) optNone (Nat.zero_le _) (TFs.mk (qs := [.pointer (some q1), .pointer (some q2)]) ((Below.heap_alloc _ _ _ (by simp)).trans (heap_alloc_new w _)) hlo (fun e => by cases e) rfl (Nat.le_refl _) (Nat.le_refl _) (fun i hi => by simp) ?_)
  · have := heap_alloc_new (w.alloc (.cells #[.pointer (some q1), .pointer (some q2)] 121)) (.cells #[.int .i64 1, .int .u8 (op : Int), .string ⟨#[]⟩, .nilIface, .slice (some ⟨w.heap.size, 0, none⟩) 2 2] 263)
    rwa [World.size_alloc] at this
  · intro j u q hu hq
    match j with
    | 0 => simp at hu hq; subst hu hq; exact ⟨_, rfl, (h1.keeps k1).keeps k2⟩
    | 1 => simp at hu hq; subst hu hq; exact ⟨_, rfl, (h2.keeps k1).keeps k2⟩
    | j + 2 => simp at hu
theorem first_byte (s : ByteArray) (i k : Nat) (h : 0 < (s.extract i (i + k)).size) : ((s.extract i (i + k))[0]'h).toNat = (((s.data.toList.drop i).take k).headD 0).toNat := by
  have hd : (s.extract i (i + k)).data.toList = (s.data.toList.drop i).take k := by
    rw [Lib.extract_data]; congr 1; omega
  rw [← hd]
  generalize s.extract i (i + k) = x at h
  obtain ⟨⟨l⟩⟩ := x
  cases l with
  | nil => exact absurd h (by decide)
  | cons a l => rfl
set_option maxRecDepth 100000 in
set_option maxHeartbeats 1000000 in
theorem operatorT_any (s : ByteArray) (f pb i deep its : Nat) (q : Addr) (t : Lard.T) (lo : Nat) (w : World) (hlo : lo ≤ w.heap.size) (g : G w) (h : PAt w s pb i deep its) (hq : TF lo none w t q) (hs : s.size ≤ 281474976710656) (hi : i ≤ s.size) (hpb : 8 ≤ pb)
    (hf : f = 131 ∨ f = 173 ∨ f = 212)
    (ho : 1 ≤ (Lard.tok (s.data.toList.drop i)).2) (r : Lard.RT) (H : ConT s f pb deep its (Lard.nxt s.data.toList i) r) :
    Calls Tryz.prog 133 #[.pointer (some ⟨pb, 0, none⟩), .pointer (some q), .func (.func f) #[.pointer (some ⟨pb, 0, none⟩)] #[]] w (PostT s pb deep its lo w (Lard.thenT r fun j us => .ok (j, [Lard.operT s.data.toList i [t] us]))) := by
  have hin : i + (Lard.tok (s.data.toList.drop i)).2 ≤ s.size := by
    have := Lard.tok_in s.data.toList i (by simpa using hi); simpa using this
  have hsz : (s.extract i (i + (Lard.tok (s.data.toList.drop i)).2)).size = (Lard.tok (s.data.toList.drop i)).2 := by
    rw [ByteArray.size_extract]; omega
  have HC := hide H
  have HQ := hide hq
  have hfield : ∀ (a b c d : Value) (w : World), (Instr.field 172 (.agg #[a, b, c, d]) 1).run Tryz.prog w = .ok b w := fun _ _ _ _ _ => by kernel_rfl
  clear H hq
  rcases hf with rfl | rfl | rfl
  all_goals
    go_enter Tryz.func133, Tryz.ntmps133
    go_wp2_with fail
    refine (take_any s pb i deep its _ g h hs hi).mono ?_
    rintro e w1 ⟨rfl, h1, f1⟩
    unfold tokV
    go_wp2_with fail
  all_goals
    refine (HC.out _ (g.fr f1 hpb) h1).mono ?_
    rintro e w2 hp
  all_goals rcases r with x | ⟨j, us⟩
  all_goals try
    obtain ⟨f2, rfl⟩ := PostT.err hp
    exact ⟨rfl, PostT.mkErr (Fr.trans f1 f2)⟩
  all_goals
    obtain ⟨f2, ⟨q2, t2, rfl, rfl, hq2⟩, h2⟩ := PostT.ok hp
    clear hp HC
    go_wp2_with fail
    go_ret
    have hz1 := f1.size
    have hz2 := f2.size
    have ht := tree_two (Lard.operT s.data.toList i [t] [t2]).op (by omega) ((HQ.out.keeps (h.kp f1)).keeps (h1.kp f2)) (hq2.mono (by omega))
    have hb := first_byte s i (Lard.tok (s.data.toList.drop i)).2 (by omega)
    rw [hb]
    exact PostT.mkOk (Fr.alloc (Fr.alloc (Fr.trans f1 f2) _) _) ((h2.alloc _).alloc _) ht
end Go.Proofs.YtpekpdimdelncaaGreatDoor
