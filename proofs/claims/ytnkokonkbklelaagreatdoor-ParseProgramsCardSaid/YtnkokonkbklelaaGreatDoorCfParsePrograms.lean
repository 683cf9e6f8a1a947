/- The closed facts of the row parsePrograms, one by one. -/
import Derived.Test.YtnkokonkbklelaaGreatDoorRows
import Derived.ProofKit
import Derived.OpenShut
set_option linter.unusedVariables false
namespace Go.Proofs.YtnkokonkbklelaaGreatDoor.cfParsePrograms
open Go Go.ChangeShapes Go.WideShapes Go.ChangeAt Go.RowKit Go.ChangeMaps Go.Proofs.YtnkokonkbklelaaGreatDoor
theorem and_tt {a b : Bool} (h : a = true) (k : b = true) : (a && b) = true := by rw [h, k]; rfl
theorem h0 : (Rows.parseProgramsRow.wf (OpenSpec.ofChange Rows.parseProgramsSpec)) = true := by kernel_rfl
theorem h1 : (laidOutB Tryz.pinned.checked.prog) = true := by kernel_rfl
theorem h2 : (mapsRowed Tryz.pinned.checked.prog) = true := by kernel_rfl
theorem h3 : (Tryz.f3.params.all (Tryz.pinned.checked.prog.readableRec ·)) = true := by kernel_rfl
theorem h4 : (namedTie Tryz.pinned.checked.prog Rows.parseProgramsRow.named Rows.parseProgramsSpec.vars) = true := by kernel_rfl
theorem h5 : ((Rows.parseProgramsRow.stops == [])) = true := by kernel_rfl
theorem h6 : ((Tryz.pinned.checked.prog.stops == [])) = true := by kernel_rfl
theorem h7 : ((Rows.parseProgramsRow.knobs == [])) = true := by kernel_rfl
theorem h8 : ((Tryz.pinned.checked.prog.stopKnobs == [])) = true := by kernel_rfl
theorem h9 : ((Rows.parseProgramsRow.inPlace == Tryz.pinned.checked.prog.inPlace 3)) = true := by kernel_rfl
theorem h10 : ((Rows.parseProgramsRow.unfollowed == Tryz.pinned.checked.prog.unfollowed 3)) = true := by kernel_rfl
theorem h11 : ((Rows.parseProgramsRow.recurses == Tryz.pinned.checked.prog.recurses 3)) = true := by kernel_rfl
theorem h12 : ((Rows.parseProgramsRow.named == Tryz.pinned.checked.prog.varsNamed 3)) = true := by kernel_rfl
theorem h13 : ((Rows.parseProgramsRow.maps == (Tryz.f3.params.toList ++ Rows.parseProgramsSpec.plain.varTypes Tryz.pinned.checked.prog).any (Tryz.pinned.checked.prog.mapsRec ·))) = true := by kernel_rfl
theorem h14 : ((Rows.parseProgramsRow.ifaces == (Tryz.f3.params.toList ++ Rows.parseProgramsSpec.plain.varTypes Tryz.pinned.checked.prog).any (Tryz.pinned.checked.prog.ifacesRec ·))) = true := by kernel_rfl
theorem h15 : ((Rows.parseProgramsRow.mapsOut == Tryz.pinned.checked.prog.mapsAmong Tryz.f3.resultTypes.toList)) = true := by kernel_rfl
theorem h16 : ((Rows.parseProgramsRow.loops == (Tryz.f3.params.toList ++ Rows.parseProgramsSpec.plain.varTypes Tryz.pinned.checked.prog).any (Tryz.pinned.checked.prog.loopsFrom ·))) = true := by kernel_rfl
theorem h17 : ((Rows.parseProgramsRow.wideKeys == (Tryz.f3.params.toList ++ Rows.parseProgramsSpec.plain.varTypes Tryz.pinned.checked.prog ++ Tryz.f3.resultTypes.toList).any (Tryz.pinned.checked.prog.wideKeysFrom ·))) = true := by kernel_rfl
theorem h18 : (Rows.parseProgramsSpec.vars.all (Tryz.pinned.checked.prog.varReadable ·)) = true := by kernel_rfl
theorem h19 : (Tryz.f3.resultTypes.all (fun t => Tryz.pinned.checked.prog.readableRec t && decide (t < Tryz.pinned.checked.prog.types.size))) = true := by kernel_rfl
theorem h20 : ((Rows.parseProgramsRow.ifacesOut == Tryz.f3.resultTypes.toList.any (Tryz.pinned.checked.prog.ifacesRec ·))) = true := by kernel_rfl
theorem h21 : ((Rows.parseProgramsRow.loopsOut == Tryz.f3.resultTypes.toList.any (Tryz.pinned.checked.prog.loopsFrom ·))) = true := by kernel_rfl
theorem h22 : ((Rows.parseProgramsRow.plainKeys == Tryz.pinned.checked.prog.plainKeys)) = true := by kernel_rfl
theorem h23 : (Rows.parseProgramsRow.shortTexts.isNone) = true := by kernel_rfl
theorem h24 : (Tryz.pinned.checked.prog.stopsHeard) = true := by kernel_rfl
theorem h25 : (Tryz.pinned.checked.prog.mayEnter) = true := by kernel_rfl
theorem h26 : ((Rows.parseProgramsRow.lifted == Tryz.pinned.checked.prog.liftsFinal)) = true := by kernel_rfl
theorem h27 : ((Tryz.pinned.checked.prog.make == some Rows.parseProgramsRow.make)) = true := by kernel_rfl
theorem h28 : ((Rows.parseProgramsRow.kinds == (if Rows.parseProgramsRow.domain.isEmpty then [] else Tryz.f3.params.toList.map fun t => match Tryz.pinned.checked.prog.underlying t with | some (.int k) => some k | _ => none))) = true := by kernel_rfl
theorem h29 : ((Rows.parseProgramsRow.pinned == Rows.parseProgramsRow.pinnedBy)) = true := by kernel_rfl
theorem h30 : ((Rows.parseProgramsRow.veiled == (Tryz.f3.params.toList ++ Rows.parseProgramsSpec.plain.varTypes Tryz.pinned.checked.prog ++ Tryz.f3.resultTypes.toList).any (Tryz.pinned.checked.prog.veiledRec ·))) = true := by kernel_rfl
theorem h31 : (Rows.parseProgramsRow.veiledFits Tryz.pinned.checked.prog Tryz.f3.params.toList (Tryz.f3.params.toList ++ Rows.parseProgramsSpec.plain.varTypes Tryz.pinned.checked.prog ++ Tryz.f3.resultTypes.toList)) = true := by kernel_rfl
set_option maxRecDepth 100000 in
theorem closed : joinedFacts Tryz.pinned.checked.prog 3 Tryz.f3 Rows.parseProgramsSpec Rows.parseProgramsRow = true := by
  unfold joinedFacts
  exact (and_tt (and_tt (and_tt (and_tt (and_tt (and_tt (and_tt (and_tt (and_tt (and_tt (and_tt (and_tt (and_tt (and_tt (and_tt (and_tt (and_tt (and_tt (and_tt (and_tt (and_tt (and_tt (and_tt (and_tt (and_tt (and_tt (and_tt (and_tt (and_tt (and_tt (and_tt h0 h1) h2) h3) h4) h5) h6) h7) h8) h9) h10) h11) h12) h13) h14) h15) h16) h17) h18) h19) h20) h21) h22) h23) h24) h25) h26) h27) h28) h29) h30) h31)
end Go.Proofs.YtnkokonkbklelaaGreatDoor.cfParsePrograms
