/- The closed facts of the card checkPlaces, one by one. -/
import Derived.Test.YtdhokkmflccaaaaGreatDoorCards
import Derived.ProofKit
import Derived.OpenShut
import Derived.SevenTiedAt
set_option linter.unusedVariables false
namespace Go.Proofs.YtdhokkmflccaaaaGreatDoor.cgCheckPlaces
open Go Go.ChangeShapes Go.WideShapes Go.ChangeAt Go.RowKit Go.ChangeMaps Go.Proofs.YtdhokkmflccaaaaGreatDoor
theorem g1 : Rows.checkPlacesRow.wfByText (OpenSpec.ofChange Rows.checkPlacesSpec) = true := by kernel_rfl
theorem g2 : Tryz.pinned.checked.prog.mainIs = some (Rows.checkPlacesCard.stood.harness.1, Rows.checkPlacesCard.stood.harness.2.toList) := by kernel_rfl
theorem g3 : Tryz.prog.funcNamed "troupe/troupelaw14.CheckPlaces" = some 15 := by kernel_rfl
theorem g4 : Rows.checkPlacesCard.stood.looks = Tryz.pinned.checked.prog.looks [] := by kernel_rfl
theorem g5 : ([25].all fun u => !Tryz.prog.wantsStandIn u) = true := by kernel_rfl
theorem g6 : false = Rows.checkPlacesRow.goesBy Tryz.pinned.checked.prog := by kernel_rfl
end Go.Proofs.YtdhokkmflccaaaaGreatDoor.cgCheckPlaces
