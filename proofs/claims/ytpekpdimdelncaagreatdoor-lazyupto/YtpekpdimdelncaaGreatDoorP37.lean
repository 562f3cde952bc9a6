/- Proved: for every script of steps, where what is read is of bulk at most 1048576, larderlaw.Lazy returns true: the larders of the program and those of the document, played by the script side by side, give the same errors and the same answers at every step (Ran, Kept and Forget among them); and the argument reads behind the call as before. Conditions: the bulk; the listed package-level variables stand as their own text lays them (the card's own list); nothing else. -/
import Derived.Test.YtpekpdimdelncaaGreatDoorP36
import Derived.Test.YtpekpdimdelncaaGreatDoorP02
import Derived.Test.YtpekpdimdelncaaGreatDoorTie
namespace Go.Proofs.YtpekpdimdelncaaGreatDoor.lazy
open Go.ChangeShapes Go.WideShapes Go.ChangeAt Go.RowKit Go.ChangeMaps Go.Deep
set_option maxRecDepth 100000 in
theorem said : Rows.LazyUptoSaid :=OpenClaim.holds_of_cond 8 Tryz.f8 rfl rfl rfl rfl rfl rfl rfl ⟨rfl, rfl, rfl, rfl, rfl⟩ rfl rfl rfl rfl rfl (by kernel_rfl) Tryz.func8 closed
    (of_decide_eq_true (by kernel_rfl)) (by unfold Func.isWrapper;first|(rw[if_pos (by decide +kernel)];kernel_rfl)|(rw[if_neg (by decide +kernel)];exact⟨rfl, rfl⟩))
    (λos started H enc _ F => by rw[OpenClaim.pre_eq_preRow];exact lifted os started H enc F)
theorem plain(f : FuncId)(fn : Func)(hf : Tryz.pinned.checked.prog.funcNamed "larder/larderlaw.Lazy" = some f)(hfn : Tryz.pinned.checked.prog.funcs[f]? = some fn) :
    true = Tryz.pinned.checked.prog.looks [] /\ ∀(j : Nat) t, fn.params[j]?=some t -> Tryz.pinned.checked.prog.wantsStandIn t = false := by
  obtain rfl : f = 8 := Option.some.inj ((show Tryz.prog.funcNamed "larder/larderlaw.Lazy" = some 8 by kernel_rfl).symm.trans hf) |>.symm
  obtain rfl : fn = Tryz.f8 := (Option.some.inj (Tryz.func8.symm.trans hfn)).symm;refine⟨by kernel_rfl, λj t ht => ?_⟩;rw[Tryz.params8]at ht;obtain rfl : t = 24 := by simpa using Array.mem_of_getElem? ht
  exact(show Tryz.prog.wantsStandIn 24 = false by kernel_rfl)
/-- The card. -/
theorem card : Rows.LazyUptoCardSaid :=Claim7.holds_tied_plain_at .later [] _ _ _ _ said (λ_ h => by cases h) (by kernel_rfl) (λ_ h => by cases h) lazyUpto_row_tie rfl ⟨rfl, rfl⟩ (by kernel_rfl) rfl plain (by kernel_rfl)
end Go.Proofs.YtpekpdimdelncaaGreatDoor.lazy
