/- The closed facts of the row checkWords, one by one. -/
import Derived.Test.YthanclicnkjmiaaGreatDoorRows
import Derived.ProofKit
import Derived.OpenShut
set_option linter.unusedVariables false
namespace Go.Proofs.YthanclicnkjmiaaGreatDoor.cfCheckWords
open Go Go.ChangeShapes Go.WideShapes Go.ChangeAt Go.RowKit Go.ChangeMaps Go.Proofs.YthanclicnkjmiaaGreatDoor
theorem and_tt {a b : Bool} (h : a = true) (k : b = true) : (a && b) = true := by rw [h, k]; rfl
theorem h0 : (Rows.checkWordsRow.wf (OpenSpec.ofChange Rows.checkWordsSpec)) = true := by kernel_rfl
theorem h1 : (laidOutB Tryz.pinned.checked.prog) = true := by kernel_rfl
theorem h2 : (mapsRowed Tryz.pinned.checked.prog) = true := by kernel_rfl
theorem h3 : (Tryz.f5.params.all (Tryz.pinned.checked.prog.readableRec ·)) = true := by kernel_rfl
theorem h4 : (namedTie Tryz.pinned.checked.prog Rows.checkWordsRow.named Rows.checkWordsSpec.vars) = true := by kernel_rfl
theorem h5 : ((Rows.checkWordsRow.stops == [])) = true := by kernel_rfl
theorem h6 : ((Tryz.pinned.checked.prog.stops == [])) = true := by kernel_rfl
theorem h7 : ((Rows.checkWordsRow.knobs == [])) = true := by kernel_rfl
theorem h8 : ((Tryz.pinned.checked.prog.stopKnobs == [])) = true := by kernel_rfl
theorem h9 : ((Rows.checkWordsRow.inPlace == Tryz.pinned.checked.prog.inPlace 5)) = true := by kernel_rfl
theorem h10 : ((Rows.checkWordsRow.unfollowed == Tryz.pinned.checked.prog.unfollowed 5)) = true := by kernel_rfl
theorem h11 : ((Rows.checkWordsRow.recurses == Tryz.pinned.checked.prog.recurses 5)) = true := by kernel_rfl
theorem h12 : ((Rows.checkWordsRow.named == Tryz.pinned.checked.prog.varsNamed 5)) = true := by kernel_rfl
theorem h13 : ((Rows.checkWordsRow.maps == (Tryz.f5.params.toList ++ Rows.checkWordsSpec.plain.varTypes Tryz.pinned.checked.prog).any (Tryz.pinned.checked.prog.mapsRec ·))) = true := by kernel_rfl
theorem h14 : ((Rows.checkWordsRow.ifaces == (Tryz.f5.params.toList ++ Rows.checkWordsSpec.plain.varTypes Tryz.pinned.checked.prog).any (Tryz.pinned.checked.prog.ifacesRec ·))) = true := by kernel_rfl
theorem h15 : ((Rows.checkWordsRow.mapsOut == Tryz.pinned.checked.prog.mapsAmong Tryz.f5.resultTypes.toList)) = true := by kernel_rfl
theorem h16 : ((Rows.checkWordsRow.loops == (Tryz.f5.params.toList ++ Rows.checkWordsSpec.plain.varTypes Tryz.pinned.checked.prog).any (Tryz.pinned.checked.prog.loopsFrom ·))) = true := by kernel_rfl
theorem h17 : ((Rows.checkWordsRow.wideKeys == (Tryz.f5.params.toList ++ Rows.checkWordsSpec.plain.varTypes Tryz.pinned.checked.prog ++ Tryz.f5.resultTypes.toList).any (Tryz.pinned.checked.prog.wideKeysFrom ·))) = true := by kernel_rfl
theorem h18 : (Rows.checkWordsSpec.vars.all (Tryz.pinned.checked.prog.varReadable ·)) = true := by kernel_rfl
theorem h19 : (Tryz.f5.resultTypes.all (fun t => Tryz.pinned.checked.prog.readableRec t && decide (t < Tryz.pinned.checked.prog.types.size))) = true := by kernel_rfl
theorem h20 : ((Rows.checkWordsRow.ifacesOut == Tryz.f5.resultTypes.toList.any (Tryz.pinned.checked.prog.ifacesRec ·))) = true := by kernel_rfl
theorem h21 : ((Rows.checkWordsRow.loopsOut == Tryz.f5.resultTypes.toList.any (Tryz.pinned.checked.prog.loopsFrom ·))) = true := by kernel_rfl
theorem h22 : ((Rows.checkWordsRow.plainKeys == Tryz.pinned.checked.prog.plainKeys)) = true := by kernel_rfl
theorem h23 : (Rows.checkWordsRow.shortTexts.isNone) = true := by kernel_rfl
theorem h24 : (Tryz.pinned.checked.prog.stopsHeard) = true := by kernel_rfl
theorem h25 : (Tryz.pinned.checked.prog.mayEnter) = true := by kernel_rfl
theorem h26 : ((Rows.checkWordsRow.lifted == Tryz.pinned.checked.prog.liftsFinal)) = true := by kernel_rfl
theorem h27 : ((Tryz.pinned.checked.prog.make == some Rows.checkWordsRow.make)) = true := by kernel_rfl
theorem h28 : ((Rows.checkWordsRow.kinds == (if Rows.checkWordsRow.domain.isEmpty then [] else Tryz.f5.params.toList.map fun t => match Tryz.pinned.checked.prog.underlying t with | some (.int k) => some k | _ => none))) = true := by kernel_rfl
theorem h29 : ((Rows.checkWordsRow.pinned == Rows.checkWordsRow.pinnedBy)) = true := by kernel_rfl
theorem h30 : ((Rows.checkWordsRow.veiled == (Tryz.f5.params.toList ++ Rows.checkWordsSpec.plain.varTypes Tryz.pinned.checked.prog ++ Tryz.f5.resultTypes.toList).any (Tryz.pinned.checked.prog.veiledRec ·))) = true := by kernel_rfl
theorem h31 : (Rows.checkWordsRow.veiledFits Tryz.pinned.checked.prog Tryz.f5.params.toList (Tryz.f5.params.toList ++ Rows.checkWordsSpec.plain.varTypes Tryz.pinned.checked.prog ++ Tryz.f5.resultTypes.toList)) = true := by kernel_rfl
set_option maxRecDepth 100000 in
theorem closed : joinedFacts Tryz.pinned.checked.prog 5 Tryz.f5 Rows.checkWordsSpec Rows.checkWordsRow = true := by
  unfold joinedFacts
  exact (and_tt (and_tt (and_tt (and_tt (and_tt (and_tt (and_tt (and_tt (and_tt (and_tt (and_tt (and_tt (and_tt (and_tt (and_tt (and_tt (and_tt (and_tt (and_tt (and_tt (and_tt (and_tt (and_tt (and_tt (and_tt (and_tt (and_tt (and_tt (and_tt (and_tt (and_tt h0 h1) h2) h3) h4) h5) h6) h7) h8) h9) h10) h11) h12) h13) h14) h15) h16) h17) h18) h19) h20) h21) h22) h23) h24) h25) h26) h27) h28) h29) h30) h31)
end Go.Proofs.YthanclicnkjmiaaGreatDoor.cfCheckWords
