/- The closed facts of the row checkPlaces, one by one. -/
import Derived.Test.YtdhokkmflccaaaaGreatDoorRows
import Derived.ProofKit
import Derived.OpenShut
set_option linter.unusedVariables false
namespace Go.Proofs.YtdhokkmflccaaaaGreatDoor.cfCheckPlaces
open Go Go.ChangeShapes Go.WideShapes Go.ChangeAt Go.RowKit Go.ChangeMaps Go.Proofs.YtdhokkmflccaaaaGreatDoor
theorem and_tt {a b : Bool} (h : a = true) (k : b = true) : (a && b) = true := by rw [h, k]; rfl
theorem h0 : (Rows.checkPlacesRow.wf (OpenSpec.ofChange Rows.checkPlacesSpec)) = true := by kernel_rfl
theorem h1 : (laidOutB Tryz.pinned.checked.prog) = true := by kernel_rfl
theorem h2 : (mapsRowed Tryz.pinned.checked.prog) = true := by kernel_rfl
theorem h3 : (Tryz.f15.params.all (Tryz.pinned.checked.prog.readableRec ·)) = true := by kernel_rfl
theorem h4 : (namedTie Tryz.pinned.checked.prog Rows.checkPlacesRow.named Rows.checkPlacesSpec.vars) = true := by kernel_rfl
theorem h5 : ((Rows.checkPlacesRow.stops == [])) = true := by kernel_rfl
theorem h6 : ((Tryz.pinned.checked.prog.stops == [])) = true := by kernel_rfl
theorem h7 : ((Rows.checkPlacesRow.knobs == [])) = true := by kernel_rfl
theorem h8 : ((Tryz.pinned.checked.prog.stopKnobs == [])) = true := by kernel_rfl
theorem h9 : ((Rows.checkPlacesRow.inPlace == Tryz.pinned.checked.prog.inPlace 15)) = true := by kernel_rfl
theorem h10 : ((Rows.checkPlacesRow.unfollowed == Tryz.pinned.checked.prog.unfollowed 15)) = true := by kernel_rfl
theorem h11 : ((Rows.checkPlacesRow.recurses == Tryz.pinned.checked.prog.recurses 15)) = true := by kernel_rfl
theorem h12 : ((Rows.checkPlacesRow.named == Tryz.pinned.checked.prog.varsNamed 15)) = true := by kernel_rfl
theorem h13 : ((Rows.checkPlacesRow.maps == (Tryz.f15.params.toList ++ Rows.checkPlacesSpec.plain.varTypes Tryz.pinned.checked.prog).any (Tryz.pinned.checked.prog.mapsRec ·))) = true := by kernel_rfl
theorem h14 : ((Rows.checkPlacesRow.ifaces == (Tryz.f15.params.toList ++ Rows.checkPlacesSpec.plain.varTypes Tryz.pinned.checked.prog).any (Tryz.pinned.checked.prog.ifacesRec ·))) = true := by kernel_rfl
theorem h15 : ((Rows.checkPlacesRow.mapsOut == Tryz.pinned.checked.prog.mapsAmong Tryz.f15.resultTypes.toList)) = true := by kernel_rfl
theorem h16 : ((Rows.checkPlacesRow.loops == (Tryz.f15.params.toList ++ Rows.checkPlacesSpec.plain.varTypes Tryz.pinned.checked.prog).any (Tryz.pinned.checked.prog.loopsFrom ·))) = true := by kernel_rfl
theorem h17 : ((Rows.checkPlacesRow.wideKeys == (Tryz.f15.params.toList ++ Rows.checkPlacesSpec.plain.varTypes Tryz.pinned.checked.prog ++ Tryz.f15.resultTypes.toList).any (Tryz.pinned.checked.prog.wideKeysFrom ·))) = true := by kernel_rfl
theorem h18 : (Rows.checkPlacesSpec.vars.all (Tryz.pinned.checked.prog.varReadable ·)) = true := by kernel_rfl
theorem h19 : (Tryz.f15.resultTypes.all (fun t => Tryz.pinned.checked.prog.readableRec t && decide (t < Tryz.pinned.checked.prog.types.size))) = true := by kernel_rfl
theorem h20 : ((Rows.checkPlacesRow.ifacesOut == Tryz.f15.resultTypes.toList.any (Tryz.pinned.checked.prog.ifacesRec ·))) = true := by kernel_rfl
theorem h21 : ((Rows.checkPlacesRow.loopsOut == Tryz.f15.resultTypes.toList.any (Tryz.pinned.checked.prog.loopsFrom ·))) = true := by kernel_rfl
theorem h22 : ((Rows.checkPlacesRow.plainKeys == Tryz.pinned.checked.prog.plainKeys)) = true := by kernel_rfl
theorem h23 : (Rows.checkPlacesRow.shortTexts.isNone) = true := by kernel_rfl
theorem h24 : (Tryz.pinned.checked.prog.stopsHeard) = true := by kernel_rfl
theorem h25 : (Tryz.pinned.checked.prog.mayEnter) = true := by kernel_rfl
theorem h26 : ((Rows.checkPlacesRow.lifted == Tryz.pinned.checked.prog.liftsFinal)) = true := by kernel_rfl
theorem h27 : ((Tryz.pinned.checked.prog.make == some Rows.checkPlacesRow.make)) = true := by kernel_rfl
theorem h28 : ((Rows.checkPlacesRow.kinds == (if Rows.checkPlacesRow.domain.isEmpty then [] else Tryz.f15.params.toList.map fun t => match Tryz.pinned.checked.prog.underlying t with | some (.int k) => some k | _ => none))) = true := by kernel_rfl
theorem h29 : ((Rows.checkPlacesRow.pinned == Rows.checkPlacesRow.pinnedBy)) = true := by kernel_rfl
theorem h30 : ((Rows.checkPlacesRow.veiled == (Tryz.f15.params.toList ++ Rows.checkPlacesSpec.plain.varTypes Tryz.pinned.checked.prog ++ Tryz.f15.resultTypes.toList).any (Tryz.pinned.checked.prog.veiledRec ·))) = true := by kernel_rfl
theorem h31 : (Rows.checkPlacesRow.veiledFits Tryz.pinned.checked.prog Tryz.f15.params.toList (Tryz.f15.params.toList ++ Rows.checkPlacesSpec.plain.varTypes Tryz.pinned.checked.prog ++ Tryz.f15.resultTypes.toList)) = true := by kernel_rfl
set_option maxRecDepth 100000 in
theorem closed : joinedFacts Tryz.pinned.checked.prog 15 Tryz.f15 Rows.checkPlacesSpec Rows.checkPlacesRow = true := by
  unfold joinedFacts
  exact (and_tt (and_tt (and_tt (and_tt (and_tt (and_tt (and_tt (and_tt (and_tt (and_tt (and_tt (and_tt (and_tt (and_tt (and_tt (and_tt (and_tt (and_tt (and_tt (and_tt (and_tt (and_tt (and_tt (and_tt (and_tt (and_tt (and_tt (and_tt (and_tt (and_tt (and_tt h0 h1) h2) h3) h4) h5) h6) h7) h8) h9) h10) h11) h12) h13) h14) h15) h16) h17) h18) h19) h20) h21) h22) h23) h24) h25) h26) h27) h28) h29) h30) h31)
end Go.Proofs.YtdhokkmflccaaaaGreatDoor.cfCheckPlaces
