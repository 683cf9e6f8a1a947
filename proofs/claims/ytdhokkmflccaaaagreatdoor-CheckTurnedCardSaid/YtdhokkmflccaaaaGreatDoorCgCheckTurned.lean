/- The closed facts of the card checkTurned, one by one. -/
import Derived.Test.YtdhokkmflccaaaaGreatDoorCards
import Derived.ProofKit
import Derived.OpenShut
import Derived.SevenTiedAt
set_option linter.unusedVariables false
namespace Go.Proofs.YtdhokkmflccaaaaGreatDoor.cgCheckTurned
open Go Go.ChangeShapes Go.WideShapes Go.ChangeAt Go.RowKit Go.ChangeMaps Go.Proofs.YtdhokkmflccaaaaGreatDoor
theorem g1 : Rows.checkTurnedRow.wfByText (OpenSpec.ofChange Rows.checkTurnedSpec) = true := by kernel_rfl
theorem g2 : Tryz.pinned.checked.prog.mainIs = some (Rows.checkTurnedCard.stood.harness.1, Rows.checkTurnedCard.stood.harness.2.toList) := by kernel_rfl
theorem g3 : Tryz.prog.funcNamed "troupe/troupelaw14.CheckTurned" = some 13 := by kernel_rfl
theorem g4 : Rows.checkTurnedCard.stood.looks = Tryz.pinned.checked.prog.looks [] := by kernel_rfl
theorem g5 : ([25, 3, 3, 3].all fun u => !Tryz.prog.wantsStandIn u) = true := by kernel_rfl
theorem g6 : false = Rows.checkTurnedRow.goesBy Tryz.pinned.checked.prog := by kernel_rfl
end Go.Proofs.YtdhokkmflccaaaaGreatDoor.cgCheckTurned
