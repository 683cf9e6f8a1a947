/- The closed facts of the card checkPrograms, one by one. -/
import Derived.Test.YthanclicnkjmiaaGreatDoorCards
import Derived.ProofKit
import Derived.OpenShut
import Derived.SevenTiedAt
set_option linter.unusedVariables false
namespace Go.Proofs.YthanclicnkjmiaaGreatDoor.cgCheckPrograms
open Go Go.ChangeShapes Go.WideShapes Go.ChangeAt Go.RowKit Go.ChangeMaps Go.Proofs.YthanclicnkjmiaaGreatDoor
theorem g1 : Rows.checkProgramsRow.wfByText (OpenSpec.ofChange Rows.checkProgramsSpec) = true := by kernel_rfl
theorem g2 : Tryz.pinned.checked.prog.mainIs = some (Rows.checkProgramsCard.stood.harness.1, Rows.checkProgramsCard.stood.harness.2.toList) := by kernel_rfl
theorem g3 : Tryz.prog.funcNamed "troupe/troupelaw14.CheckPrograms" = some 4 := by kernel_rfl
theorem g4 : Rows.checkProgramsCard.stood.looks = Tryz.pinned.checked.prog.looks [] := by kernel_rfl
theorem g5 : ([25].all fun u => !Tryz.prog.wantsStandIn u) = true := by kernel_rfl
theorem g6 : false = Rows.checkProgramsRow.goesBy Tryz.pinned.checked.prog := by kernel_rfl
end Go.Proofs.YthanclicnkjmiaaGreatDoor.cgCheckPrograms
