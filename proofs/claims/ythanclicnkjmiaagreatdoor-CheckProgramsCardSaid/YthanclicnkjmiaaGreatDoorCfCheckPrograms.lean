/- The closed facts of the row checkPrograms, one by one. -/
import Derived.Test.YthanclicnkjmiaaGreatDoorRows
import Derived.ProofKit
import Derived.OpenShut
set_option linter.unusedVariables false
namespace Go.Proofs.YthanclicnkjmiaaGreatDoor.cfCheckPrograms
open Go Go.ChangeShapes Go.WideShapes Go.ChangeAt Go.RowKit Go.ChangeMaps Go.Proofs.YthanclicnkjmiaaGreatDoor
theorem and_tt {a b : Bool} (h : a = true) (k : b = true) : (a && b) = true := by rw [h, k]; rfl
theorem h0 : (Rows.checkProgramsRow.wf (OpenSpec.ofChange Rows.checkProgramsSpec)) = true := by kernel_rfl
theorem h1 : (laidOutB Tryz.pinned.checked.prog) = true := by kernel_rfl
theorem h2 : (mapsRowed Tryz.pinned.checked.prog) = true := by kernel_rfl
theorem h3 : (Tryz.f4.params.all (Tryz.pinned.checked.prog.readableRec ·)) = true := by kernel_rfl
theorem h4 : (namedTie Tryz.pinned.checked.prog Rows.checkProgramsRow.named Rows.checkProgramsSpec.vars) = true := by kernel_rfl
theorem h5 : ((Rows.checkProgramsRow.stops == [])) = true := by kernel_rfl
theorem h6 : ((Tryz.pinned.checked.prog.stops == [])) = true := by kernel_rfl
theorem h7 : ((Rows.checkProgramsRow.knobs == [])) = true := by kernel_rfl
theorem h8 : ((Tryz.pinned.checked.prog.stopKnobs == [])) = true := by kernel_rfl
theorem h9 : ((Rows.checkProgramsRow.inPlace == Tryz.pinned.checked.prog.inPlace 4)) = true := by kernel_rfl
theorem h10 : ((Rows.checkProgramsRow.unfollowed == Tryz.pinned.checked.prog.unfollowed 4)) = true := by kernel_rfl
theorem h11 : ((Rows.checkProgramsRow.recurses == Tryz.pinned.checked.prog.recurses 4)) = true := by kernel_rfl
theorem h12 : ((Rows.checkProgramsRow.named == Tryz.pinned.checked.prog.varsNamed 4)) = true := by kernel_rfl
theorem h13 : ((Rows.checkProgramsRow.maps == (Tryz.f4.params.toList ++ Rows.checkProgramsSpec.plain.varTypes Tryz.pinned.checked.prog).any (Tryz.pinned.checked.prog.mapsRec ·))) = true := by kernel_rfl
theorem h14 : ((Rows.checkProgramsRow.ifaces == (Tryz.f4.params.toList ++ Rows.checkProgramsSpec.plain.varTypes Tryz.pinned.checked.prog).any (Tryz.pinned.checked.prog.ifacesRec ·))) = true := by kernel_rfl
theorem h15 : ((Rows.checkProgramsRow.mapsOut == Tryz.pinned.checked.prog.mapsAmong Tryz.f4.resultTypes.toList)) = true := by kernel_rfl
theorem h16 : ((Rows.checkProgramsRow.loops == (Tryz.f4.params.toList ++ Rows.checkProgramsSpec.plain.varTypes Tryz.pinned.checked.prog).any (Tryz.pinned.checked.prog.loopsFrom ·))) = true := by kernel_rfl
theorem h17 : ((Rows.checkProgramsRow.wideKeys == (Tryz.f4.params.toList ++ Rows.checkProgramsSpec.plain.varTypes Tryz.pinned.checked.prog ++ Tryz.f4.resultTypes.toList).any (Tryz.pinned.checked.prog.wideKeysFrom ·))) = true := by kernel_rfl
theorem h18 : (Rows.checkProgramsSpec.vars.all (Tryz.pinned.checked.prog.varReadable ·)) = true := by kernel_rfl
theorem h19 : (Tryz.f4.resultTypes.all (fun t => Tryz.pinned.checked.prog.readableRec t && decide (t < Tryz.pinned.checked.prog.types.size))) = true := by kernel_rfl
theorem h20 : ((Rows.checkProgramsRow.ifacesOut == Tryz.f4.resultTypes.toList.any (Tryz.pinned.checked.prog.ifacesRec ·))) = true := by kernel_rfl
theorem h21 : ((Rows.checkProgramsRow.loopsOut == Tryz.f4.resultTypes.toList.any (Tryz.pinned.checked.prog.loopsFrom ·))) = true := by kernel_rfl
theorem h22 : ((Rows.checkProgramsRow.plainKeys == Tryz.pinned.checked.prog.plainKeys)) = true := by kernel_rfl
theorem h23 : (Rows.checkProgramsRow.shortTexts.isNone) = true := by kernel_rfl
theorem h24 : (Tryz.pinned.checked.prog.stopsHeard) = true := by kernel_rfl
theorem h25 : (Tryz.pinned.checked.prog.mayEnter) = true := by kernel_rfl
theorem h26 : ((Rows.checkProgramsRow.lifted == Tryz.pinned.checked.prog.liftsFinal)) = true := by kernel_rfl
theorem h27 : ((Tryz.pinned.checked.prog.make == some Rows.checkProgramsRow.make)) = true := by kernel_rfl
theorem h28 : ((Rows.checkProgramsRow.kinds == (if Rows.checkProgramsRow.domain.isEmpty then [] else Tryz.f4.params.toList.map fun t => match Tryz.pinned.checked.prog.underlying t with | some (.int k) => some k | _ => none))) = true := by kernel_rfl
theorem h29 : ((Rows.checkProgramsRow.pinned == Rows.checkProgramsRow.pinnedBy)) = true := by kernel_rfl
theorem h30 : ((Rows.checkProgramsRow.veiled == (Tryz.f4.params.toList ++ Rows.checkProgramsSpec.plain.varTypes Tryz.pinned.checked.prog ++ Tryz.f4.resultTypes.toList).any (Tryz.pinned.checked.prog.veiledRec ·))) = true := by kernel_rfl
theorem h31 : (Rows.checkProgramsRow.veiledFits Tryz.pinned.checked.prog Tryz.f4.params.toList (Tryz.f4.params.toList ++ Rows.checkProgramsSpec.plain.varTypes Tryz.pinned.checked.prog ++ Tryz.f4.resultTypes.toList)) = true := by kernel_rfl
set_option maxRecDepth 100000 in
theorem closed : joinedFacts Tryz.pinned.checked.prog 4 Tryz.f4 Rows.checkProgramsSpec Rows.checkProgramsRow = true := by
  unfold joinedFacts
  exact (and_tt (and_tt (and_tt (and_tt (and_tt (and_tt (and_tt (and_tt (and_tt (and_tt (and_tt (and_tt (and_tt (and_tt (and_tt (and_tt (and_tt (and_tt (and_tt (and_tt (and_tt (and_tt (and_tt (and_tt (and_tt (and_tt (and_tt (and_tt (and_tt (and_tt (and_tt h0 h1) h2) h3) h4) h5) h6) h7) h8) h9) h10) h11) h12) h13) h14) h15) h16) h17) h18) h19) h20) h21) h22) h23) h24) h25) h26) h27) h28) h29) h30) h31)
end Go.Proofs.YthanclicnkjmiaaGreatDoor.cfCheckPrograms
