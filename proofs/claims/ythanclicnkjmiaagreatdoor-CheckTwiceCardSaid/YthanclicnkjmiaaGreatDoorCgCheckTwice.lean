/- The closed facts of the card checkTwice, one by one. -/
import Derived.Test.YthanclicnkjmiaaGreatDoorCards
import Derived.ProofKit
import Derived.OpenShut
import Derived.SevenTiedAt
set_option linter.unusedVariables false
namespace Go.Proofs.YthanclicnkjmiaaGreatDoor.cgCheckTwice
open Go Go.ChangeShapes Go.WideShapes Go.ChangeAt Go.RowKit Go.ChangeMaps Go.Proofs.YthanclicnkjmiaaGreatDoor
theorem g1 : Rows.checkTwiceRow.wfByText (OpenSpec.ofChange Rows.checkTwiceSpec) = true := by kernel_rfl
theorem g2 : Tryz.pinned.checked.prog.mainIs = some (Rows.checkTwiceCard.stood.harness.1, Rows.checkTwiceCard.stood.harness.2.toList) := by kernel_rfl
theorem g3 : Tryz.prog.funcNamed "troupe/troupelaw14.CheckTwice" = some 6 := by kernel_rfl
theorem g4 : Rows.checkTwiceCard.stood.looks = Tryz.pinned.checked.prog.looks [] := by kernel_rfl
theorem g5 : ([25, 5, 5].all fun u => !Tryz.prog.wantsStandIn u) = true := by kernel_rfl
theorem g6 : false = Rows.checkTwiceRow.goesBy Tryz.pinned.checked.prog := by kernel_rfl
end Go.Proofs.YthanclicnkjmiaaGreatDoor.cgCheckTwice
