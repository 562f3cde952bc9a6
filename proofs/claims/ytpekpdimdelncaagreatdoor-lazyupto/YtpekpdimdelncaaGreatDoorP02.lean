/- Out of C10a. -/
import Derived.Test.YtpekpdimdelncaaGreatDoorCards
import Derived.WalkKit
import Derived.ProofKit
import Derived.MakeChecks
namespace Go.Proofs.YtpekpdimdelncaaGreatDoor.lazy
open Go.ChangeShapes Go.WideShapes Go.ChangeAt Go.RowKit Go.ChangeMaps
set_option maxRecDepth 100000
theorem k1:(Rows.lazyUptoRow.inPlace==Tryz.pinned.checked.prog.inPlace 8)=true:=by kernel_rfl
theorem k2:(Rows.lazyUptoRow.unfollowed==Tryz.pinned.checked.prog.unfollowed 8)=true:=by kernel_rfl
theorem k3:(Rows.lazyUptoRow.recurses==Tryz.pinned.checked.prog.recurses 8)=true:=by kernel_rfl
theorem k4:(Rows.lazyUptoRow.named==Tryz.pinned.checked.prog.varsNamed 8)=true:=by kernel_rfl
theorem closed:joinedFacts Tryz.pinned.checked.prog 8 Tryz.f8 (Rows.OpenSpec.upto Rows.lazySpec).bare Rows.lazyUptoRow=true:=by
 unfold joinedFacts;rw[k1,k2,k3,k4]
 kernel_rfl
end Go.Proofs.YtpekpdimdelncaaGreatDoor.lazy
