/- The closed facts of the card parsePrograms, one by one. -/
import Derived.Test.YtnkokonkbklelaaGreatDoorCards
import Derived.ProofKit
import Derived.OpenShut
import Derived.SevenTiedAt
set_option linter.unusedVariables false
namespace Go.Proofs.YtnkokonkbklelaaGreatDoor.cgParsePrograms
open Go Go.ChangeShapes Go.WideShapes Go.ChangeAt Go.RowKit Go.ChangeMaps Go.Proofs.YtnkokonkbklelaaGreatDoor
theorem g1 : Rows.parseProgramsRow.wfByText (OpenSpec.ofChange Rows.parseProgramsSpec) = true := by kernel_rfl
theorem g2 : Tryz.pinned.checked.prog.mainIs = some (Rows.parseProgramsCard.stood.harness.1, Rows.parseProgramsCard.stood.harness.2.toList) := by kernel_rfl
theorem g3 : Tryz.prog.funcNamed "troupe/troupelaw13.ParsePrograms" = some 3 := by kernel_rfl
theorem g4 : Rows.parseProgramsCard.stood.looks = Tryz.pinned.checked.prog.looks [] := by kernel_rfl
theorem g5 : ([9].all fun u => !Tryz.prog.wantsStandIn u) = true := by kernel_rfl
theorem g6 : false = Rows.parseProgramsRow.goesBy Tryz.pinned.checked.prog := by kernel_rfl
end Go.Proofs.YtnkokonkbklelaaGreatDoor.cgParsePrograms
