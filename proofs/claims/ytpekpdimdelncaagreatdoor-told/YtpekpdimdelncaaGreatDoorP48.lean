/- Out of: C7a. -/
import Derived.Test.YtpekpdimdelncaaGreatDoorCards
import Derived.WalkKit
import Derived.ProofKit
import Derived.MakeChecks
namespace Go.Proofs.YtpekpdimdelncaaGreatDoor.told
set_option maxRecDepth 100000
open Go.ChangeShapes Go.WideShapes Go.ChangeAt Go.RowKit Go.ChangeMaps
theorem closed : joinedFacts Tryz.pinned.checked.prog 10 Tryz.f10 (OpenSpec.ofChange Rows.toldSpec).bare Rows.toldRow = true := by kernel_rfl
end Go.Proofs.YtpekpdimdelncaaGreatDoor.told
