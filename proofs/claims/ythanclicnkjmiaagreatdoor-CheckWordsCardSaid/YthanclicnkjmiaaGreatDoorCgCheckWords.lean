/- The closed facts of the card checkWords, one by one. -/
import Derived.Test.YthanclicnkjmiaaGreatDoorCards
import Derived.ProofKit
import Derived.OpenShut
import Derived.SevenTiedAt
set_option linter.unusedVariables false
namespace Go.Proofs.YthanclicnkjmiaaGreatDoor.cgCheckWords
open Go Go.ChangeShapes Go.WideShapes Go.ChangeAt Go.RowKit Go.ChangeMaps Go.Proofs.YthanclicnkjmiaaGreatDoor
theorem g1 : Rows.checkWordsRow.wfByText (OpenSpec.ofChange Rows.checkWordsSpec) = true := by kernel_rfl
theorem g2 : Tryz.pinned.checked.prog.mainIs = some (Rows.checkWordsCard.stood.harness.1, Rows.checkWordsCard.stood.harness.2.toList) := by kernel_rfl
theorem g3 : Tryz.prog.funcNamed "troupe/troupelaw14.CheckWords" = some 5 := by kernel_rfl
theorem g4 : Rows.checkWordsCard.stood.looks = Tryz.pinned.checked.prog.looks [] := by kernel_rfl
theorem g5 : ([3, 38].all fun u => !Tryz.prog.wantsStandIn u) = true := by kernel_rfl
theorem g6 : false = Rows.checkWordsRow.goesBy Tryz.pinned.checked.prog := by kernel_rfl
end Go.Proofs.YthanclicnkjmiaaGreatDoor.cgCheckWords
