/- Out of: C8a. -/
import Derived.Test.YtpekpdimdelncaaGreatDoorCards
import Derived.WalkKit
import Derived.ProofKit
import Derived.MakeChecks
namespace Go.Proofs.YtpekpdimdelncaaGreatDoor.cut
set_option maxRecDepth 100000
open Go.ChangeShapes Go.WideShapes Go.ChangeAt Go.RowKit Go.ChangeMaps
theorem closed:joinedFacts Tryz.pinned.checked.prog 12 Tryz.f12 (OpenSpec.ofChange Rows.cutSpec).bare Rows.cutRow=true:=by kernel_rfl
end Go.Proofs.YtpekpdimdelncaaGreatDoor.cut
