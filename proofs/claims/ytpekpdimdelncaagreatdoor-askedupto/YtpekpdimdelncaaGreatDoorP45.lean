/- Proved: for every script of steps, where what is read is of bulk at most 1048576, larderlaw.Asked returns true: the larders of the program and those of the document, played by the script side by side, give the same errors and the same answers at every step; and the argument reads behind the call as before. Conditions: the bulk; the listed package-level variables stand as their own text lays them (the card's own list); nothing else. -/
import Derived.Test.YtpekpdimdelncaaGreatDoorP44
import Derived.Test.YtpekpdimdelncaaGreatDoorP02
import Derived.Test.YtpekpdimdelncaaGreatDoorTie
import Derived.Deep.DeepWitnessRowRef
import Derived.Lib.TrailingZeros
import Derived.Stop.LaidErr
import Derived.LaidMore
import Derived.Deep.Matrix
namespace Go.Proofs.YtpekpdimdelncaaGreatDoor.asked
open Go.ChangeShapes Go.WideShapes Go.ChangeAt Go.RowKit Go.ChangeMaps Go.Deep
theorem own : ownKnob Tryz.prog.godebug = none := by kernel_rfl
theorem Pv : Tryz.prog.globalNamed "math/bits.deBruijn64tab" = some 7 := by kernel_rfl
theorem Pw : Tryz.prog.globalNamed "internal/strconv.uint64pow10" = some 1 := by kernel_rfl
theorem Px : Tryz.prog.globalNamed "strconv.ErrRange" = some 5 := by kernel_rfl
theorem Py : Tryz.prog.globalNamed "strconv.ErrSyntax" = some 4 := by kernel_rfl
theorem Pz : (Tryz.prog.globals[1]?).map (·.type) = some 340 := by kernel_rfl
theorem PA : (Tryz.prog.globals[5]?).map (·.type) = some 190 := by kernel_rfl
theorem PB : (Tryz.prog.globals[4]?).map (·.type) = some 190 := by kernel_rfl
theorem Kk : Tryz.prog.cellsOf 9 = 1 := by kernel_rfl
theorem Kl : Tryz.prog.cellsOf 374 = 1 := by kernel_rfl
theorem Oa : Tryz.prog.cellsOf 228 = 1 := by kernel_rfl
theorem Ob : Tryz.prog.cellsOf 5 = 1 := by kernel_rfl
theorem MH : Tryz.prog.cellsOf 376 = 64 := by kernel_rfl
theorem t64 : (Tryz.prog.globals[7]?).map (·.type) = some 376 := by kernel_rfl
theorem Oc : Tryz.prog.cellsOf 340 = 20 := by kernel_rfl
theorem MI : laidOutB Tryz.prog = true := by kernel_rfl
theorem star : "*" ++ "errors.errorString" = "*errors.errorString" := by decide
theorem row(u : TypeId)(h : Tryz.prog.typeName? 3 u = some "*errors.errorString") : u = 372 :=
  typeName_ptr_named (nm := "errors.errorString") (by rw [star]; kernel_rfl) (by kernel_rfl) (by decide) u (by rw [star]; exact h)
/-- The table of the places of single bits. -/
def O1 : List Int := Lib.deBruijn64tab.map Int.ofNat
/-- What the row's list gives. -/
theorem globals{W : World}(h : laidMetH Tryz.prog Rows.askedUptoRow.laid W) : G W /\ jI W := by
  rw[MakeChecks.laidMetH_plain _ _ _ (by kernel_rfl)]at h;have h1 := h.tail;have h2 := h1.tail;have h3 := h2.tail;have h4 := h3.tail;have h5 := h4.tail;have hp := Lib.tabIs_of_head (zs := Lib.pow10Tab) Pw Pz Tryz.underlying340 Tryz.underlying228 Oa Oc h2;have hb := Lib.tabIs_of_head (zs := O1) Pv t64 Tryz.underlying376 Tryz.underlying5 Ob MH h1;obtain⟨a3, s3, hv3, _⟩ := laid_sentinel h4 Px PA Tryz.underlying190 row Tryz.underlying372 Tryz.underlying374 rfl rfl Tryz.underlying9 Kl Kk;obtain⟨a4, s4, hv4, _⟩ := laid_sentinel h5 Py PB Tryz.underlying190 row Tryz.underlying372 Tryz.underlying374 rfl rfl Tryz.underlying9 Kl Kk;have hz : 8 <= W.heap.size := by
    obtain⟨ps, ⟨g0, t0, cs0, f0, p0, q0, hg0, ht0, hv0, _⟩, _⟩ := h1;obtain rfl := Option.some.inj (Pv.symm.trans hg0);unfold World.var? at hv0;rw[hg0]at hv0;rcases Nat.lt_or_ge 7 W.heap.size with h'|h'
    · exact h'
    · simp[Array.getElem?_eq_none h']at hv0
  exact⟨⟨hz, hp, ⟨_, _, hv4⟩, ⟨_, _, hv3⟩⟩, hb.cell Pv 15 (by decide)⟩
theorem yu{W : World}{b o : Nat}{v : Value}(h : W.cell? ⟨b, o, none⟩ = some v) : b<W.heap.size := by
  rcases Nat.lt_or_ge b W.heap.size with h'|h'
  · exact h'
  · simp[World.cell?, Array.getElem?_eq_none h']at h
theorem BD{H : Type}{d : DataW H} : ∀{l : List (DataW H)}, d ∈ l -> Rows.uptoBulk d <= Rows.uptoBulkAll l
  | [], h => by cases h
  | x :: r, h => by
    rw[Rows.uptoBulkAll];rcases List.mem_cons.1 h with rfl|h
    · omega
    · have := BD h;omega
theorem BF{H : Type} : ∀{l : List (DataW H)}, (∀d ∈ l, 6 <= Rows.uptoBulk d) -> 6*l.length <= Rows.uptoBulkAll l
  | [], _ => by simp
  | x :: r, h => by
    rw[Rows.uptoBulkAll];have h1 := h x (by simp);have h2 := BF (l := r) λd hd => h d (by simp[hd]);simp only[List.length_cons];omega
/-- So many steps, and strings so long, are within the bulk. -/
theorem Km{H : Type}{x : DataW H}{len : Nat}{K A B : Nat -> Int}{S T : Nat -> ByteArray}{D : Nat -> DataW H}{sp : List (DataW H)}(hx : x = .slice ((List.range len).map D) sp \/ len = 0)
    (hD : ∀i, i<len -> D i = .agg [.lit (.int .i64 (K i)), .lit (.int .i64 (A i)), .lit (.int .i64 (B i)), .lit (.string (S i).data.toList), .lit (.string (T i).data.toList)]) (hk : Rows.uptoBulkAll [x] <= 1048576) :
    len <= 174762 /\ ∀i, i<len -> (S i).size <= 1048576 /\ (T i).size <= 1048576 := by
  rcases hx with rfl|rfl
  · simp only[Rows.uptoBulkAll, Rows.uptoBulk]at hk
    have e : ∀i, i<len -> Rows.uptoBulk (D i) = (S i).size+(T i).size+6 := λi hi => by
      rw[hD i hi];simp only[Rows.uptoBulkAll, Rows.uptoBulk, Array.length_toList, ByteArray.size_data];omega
    have h1 := BF (l := (List.range len).map D) (λd hd => by
      obtain⟨i, hi, rfl⟩ := List.mem_map.1 hd;rw[e i (List.mem_range.1 hi)];omega)
    simp only[List.length_map, List.length_range]at h1;refine⟨by omega, λi hi => ?_⟩;have h2 := BD (l := (List.range len).map D) (List.mem_map.2 ⟨i, List.mem_range.2 hi, rfl⟩);rw[e i hi]at h2;omega
  · exact⟨by omega, λi hi => by omega⟩
set_option maxRecDepth 100000 in
/-- For every argument and every world that holds the listed variables. -/
theorem contract(H : Type)(enc : TypeId × Value -> H)(W : World)(base : Nat)(args : Array Value)(ds gs : List (DataW H))(before : List MemPlace)
    (hval : ∀(j : Nat) t v, Tryz.f4.params[j]?=some t -> args[j]?=some v -> Value.okWide Tryz.prog W .any base t v)
    (hW : DataW.Whole enc Tryz.prog Tryz.f4.params.toList Rows.askedSpec.vars false W args.toList ds gs before) (hk : Rows.uptoBulkAll (ds ++ gs) <= 1048576) (hL : laidMetH Tryz.prog Rows.askedUptoRow.laid W) :
    Calls Tryz.prog 4 args W λe W' => ∃v, e = .returned v /\ Rows.askedSpec.post enc Tryz.prog Tryz.f4 false true false false W args v W' := by
  have hW' := hW;obtain⟨p, q, hA0, hV, rfl, hfz, hnd⟩ := hW;have hA : DataW.TrodAll enc Tryz.prog W 0 (λ_ => true) true Tryz.f4.params.toList args.toList ds p := hA0;rw[Tryz.params4]at hA hval;obtain⟨v0, d0, rfl, rfl, h0⟩ := trodAll_one hA;obtain⟨rfl, rfl⟩ := trodVars_none hV;obtain⟨o, len, cap, rfl⟩ := okWide_slice Tryz.underlying24 (hval 0 24 v0 rfl rfl);have h0k := h0;obtain⟨fuel0, hf⟩ := h0;clear hA0;simp only[List.append_nil]at hW';have hlt : ∀x ∈ p, x.block<W.heap.size := λx hx => hW'.lt x (by simp[hx]);obtain⟨o', len', cap', K, A, B, S, T, D, sp, hcs0, hv, hx, hD⟩ := mK.Kj hf;simp[Value.cells]at hcs0;obtain⟨rfl, rfl, rfl⟩ := hcs0;have hbk := Km hx hD hk;refine(mK.Gs W (globals hL).1 (globals hL).2 o len cap K A B S T (λi hi => by
    obtain⟨ab, ao, e0, e1, e2, e3, e4, e5, e6⟩ := hv i hi;exact⟨ab, ao, e0, yu e1, e1, e2, e3, e4, e5, e6, by have := (hbk.2 i hi).1;omega, by have := (hbk.2 i hi).2;omega⟩) (by have := hbk.1;omega)).mono λe W' hb' => ?_
  obtain⟨he, eh⟩ := hb';subst he;refine⟨_, rfl, _, _, _, [], p, [], hW', ?_, ?_, ?_, eh.frame _, λh => by cases h⟩
  · exact trodAll_cons_mk (shut_bool Tryz.underlying4 _) trodAll_mk0
  · exact trodAll_mk1 (WideElems.Trod_stays MI (by kernel_rfl) (of_decide_eq_true (by kernel_rfl)) h0k (λx hx => eh.same (hlt x hx)) (λx hx => by simpa using hlt x hx))
  · rfl
def firstCells : Array Value := (Go.Pinned.utf8FirstZ.map λ(n : Nat) => Value.int .u8 (Int.ofNat n)).toArray
def zE(w : World) : World := { w with heap := w.heap.setIfInBounds 2 (.cells firstCells 353 (0, 0)) }
set_option maxRecDepth 1000000 in
theorem Kn(os : Os) : laidMet Tryz.prog Rows.askedUptoRow.laid ((zE (World.doorLaid Tryz.prog 72 os)).forCall (λ_ _ => 0) ⟨#[], #[.slice none 0 0], []⟩).memory :=laidMet_of_run' 8 (by kernel_rfl) (by kernel_rfl)
theorem reads(os : Os){H : Type}(enc : TypeId × Value -> H) : ∃places, DataW.whole enc Tryz.prog ((zE (World.doorLaid Tryz.prog 72 os)).forCall (λ_ _ => 0) ⟨#[], #[.slice none 0 0], []⟩).memory Tryz.f4.params.toList Rows.askedSpec.vars false #[Value.slice none 0 0].toList 8 = some ([.nil], [], places) :=⟨[], by kernel_rfl⟩
set_option maxRecDepth 100000 in
theorem lifted(os : Os)(started : os.Started)(H : Type)(enc : TypeId × Value -> H)(F : Stop.Interp):ReturnsInHanded {} Tryz.checked os 4 .any ((Rows.OpenSpec.upto Rows.askedSpec).preRow enc Tryz.prog Tryz.f4 Rows.askedUptoRow.domain false Rows.askedUptoRow.laid) (((Rows.OpenSpec.upto Rows.askedSpec).at F).post enc Tryz.prog Tryz.f4 false true false false) := by
  obtain⟨places, hx⟩ := reads os enc;refine returnsInHanded_of_row (C := Tryz.checked) (s := Rows.OpenSpec.upto Rows.askedSpec) own started (by kernel_rfl) Tryz.func4
    (witness_row_atRef (enc := enc) (C := Tryz.checked) false (zE (World.doorLaid Tryz.prog 72 os)) #[.slice none 0 0] rfl (by kernel_rfl) (by kernel_rfl) (by kernel_rfl)
      (OpenSpec.preRow_of_cond 8 hx (by kernel_rfl) (λk hk => by cases hk;rfl) (by kernel_rfl) (Kn os))) ?_
  intro W base args ds gs before hval hW _ hk _ hL _ _;exact contract H enc W base args ds gs before hval hW (of_decide_eq_true (hk _ rfl)) hL
set_option maxRecDepth 100000 in
theorem said : Rows.AskedUptoSaid :=OpenClaim.holds_of_cond 4 Tryz.f4 rfl rfl rfl rfl rfl rfl rfl ⟨rfl, rfl, rfl, rfl, rfl⟩ rfl rfl rfl rfl rfl (by kernel_rfl) Tryz.func4 closed
    (of_decide_eq_true (by kernel_rfl)) (by unfold Func.isWrapper;first|(rw[if_pos (by decide +kernel)];kernel_rfl)|(rw[if_neg (by decide +kernel)];exact⟨rfl, rfl⟩))
    (λos started H enc _ F => by rw[OpenClaim.pre_eq_preRow];exact lifted os started H enc F)
theorem plain(f : FuncId)(fn : Func)(hf : Tryz.pinned.checked.prog.funcNamed "larder/larderlaw.Asked" = some f)(hfn : Tryz.pinned.checked.prog.funcs[f]? = some fn) :
    true = Tryz.pinned.checked.prog.looks [] /\ ∀(j : Nat) t, fn.params[j]?=some t -> Tryz.pinned.checked.prog.wantsStandIn t = false := by
  obtain rfl : f = 4 := Option.some.inj ((show Tryz.prog.funcNamed "larder/larderlaw.Asked" = some 4 by kernel_rfl).symm.trans hf) |>.symm
  obtain rfl : fn = Tryz.f4 := (Option.some.inj (Tryz.func4.symm.trans hfn)).symm;refine⟨by kernel_rfl, λj t ht => ?_⟩;rw[Tryz.params4]at ht;obtain rfl : t = 24 := by simpa using Array.mem_of_getElem? ht
  exact(show Tryz.prog.wantsStandIn 24 = false by kernel_rfl)
/-- The card. -/
theorem card : Rows.AskedUptoCardSaid :=Claim7.holds_tied_plain_at .later [] _ _ _ _ said (λ_ h => by cases h) (by kernel_rfl) (λ_ h => by cases h) askedUpto_row_tie rfl ⟨rfl, rfl⟩ (by kernel_rfl) rfl plain (by kernel_rfl)
end Go.Proofs.YtpekpdimdelncaaGreatDoor.asked
