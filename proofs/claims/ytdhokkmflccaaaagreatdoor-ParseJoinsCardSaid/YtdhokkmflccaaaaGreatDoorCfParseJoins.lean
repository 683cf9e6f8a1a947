/- The closed facts of the row parseJoins, one by one. -/
import Derived.Test.YtdhokkmflccaaaaGreatDoorRows
import Derived.ProofKit
import Derived.OpenShut
set_option linter.unusedVariables false
namespace Go.Proofs.YtdhokkmflccaaaaGreatDoor.cfParseJoins
open Go Go.ChangeShapes Go.WideShapes Go.ChangeAt Go.RowKit Go.ChangeMaps Go.Proofs.YtdhokkmflccaaaaGreatDoor
theorem and_tt {a b : Bool} (h : a = true) (k : b = true) : (a && b) = true := by rw [h, k]; rfl
theorem h0 : (Rows.parseJoinsRow.wf (OpenSpec.ofChange Rows.parseJoinsSpec)) = true := by kernel_rfl
theorem h1 : (laidOutB Tryz.pinned.checked.prog) = true := by kernel_rfl
theorem h2 : (mapsRowed Tryz.pinned.checked.prog) = true := by kernel_rfl
theorem h3 : (Tryz.f8.params.all (Tryz.pinned.checked.prog.readableRec ·)) = true := by kernel_rfl
theorem h4 : (namedTie Tryz.pinned.checked.prog Rows.parseJoinsRow.named Rows.parseJoinsSpec.vars) = true := by kernel_rfl
theorem h5 : ((Rows.parseJoinsRow.stops == [])) = true := by kernel_rfl
theorem h6 : ((Tryz.pinned.checked.prog.stops == [])) = true := by kernel_rfl
theorem h7 : ((Rows.parseJoinsRow.knobs == [])) = true := by kernel_rfl
theorem h8 : ((Tryz.pinned.checked.prog.stopKnobs == [])) = true := by kernel_rfl
theorem h9 : ((Rows.parseJoinsRow.inPlace == Tryz.pinned.checked.prog.inPlace 8)) = true := by kernel_rfl
theorem h10 : ((Rows.parseJoinsRow.unfollowed == Tryz.pinned.checked.prog.unfollowed 8)) = true := by kernel_rfl
theorem h11 : ((Rows.parseJoinsRow.recurses == Tryz.pinned.checked.prog.recurses 8)) = true := by kernel_rfl
theorem h12 : ((Rows.parseJoinsRow.named == Tryz.pinned.checked.prog.varsNamed 8)) = true := by kernel_rfl
theorem h13 : ((Rows.parseJoinsRow.maps == (Tryz.f8.params.toList ++ Rows.parseJoinsSpec.plain.varTypes Tryz.pinned.checked.prog).any (Tryz.pinned.checked.prog.mapsRec ·))) = true := by kernel_rfl
theorem h14 : ((Rows.parseJoinsRow.ifaces == (Tryz.f8.params.toList ++ Rows.parseJoinsSpec.plain.varTypes Tryz.pinned.checked.prog).any (Tryz.pinned.checked.prog.ifacesRec ·))) = true := by kernel_rfl
theorem h15 : ((Rows.parseJoinsRow.mapsOut == Tryz.pinned.checked.prog.mapsAmong Tryz.f8.resultTypes.toList)) = true := by kernel_rfl
theorem h16 : ((Rows.parseJoinsRow.loops == (Tryz.f8.params.toList ++ Rows.parseJoinsSpec.plain.varTypes Tryz.pinned.checked.prog).any (Tryz.pinned.checked.prog.loopsFrom ·))) = true := by kernel_rfl
theorem h17 : ((Rows.parseJoinsRow.wideKeys == (Tryz.f8.params.toList ++ Rows.parseJoinsSpec.plain.varTypes Tryz.pinned.checked.prog ++ Tryz.f8.resultTypes.toList).any (Tryz.pinned.checked.prog.wideKeysFrom ·))) = true := by kernel_rfl
theorem h18 : (Rows.parseJoinsSpec.vars.all (Tryz.pinned.checked.prog.varReadable ·)) = true := by kernel_rfl
theorem h19 : (Tryz.f8.resultTypes.all (fun t => Tryz.pinned.checked.prog.readableRec t && decide (t < Tryz.pinned.checked.prog.types.size))) = true := by kernel_rfl
theorem h20 : ((Rows.parseJoinsRow.ifacesOut == Tryz.f8.resultTypes.toList.any (Tryz.pinned.checked.prog.ifacesRec ·))) = true := by kernel_rfl
theorem h21 : ((Rows.parseJoinsRow.loopsOut == Tryz.f8.resultTypes.toList.any (Tryz.pinned.checked.prog.loopsFrom ·))) = true := by kernel_rfl
theorem h22 : ((Rows.parseJoinsRow.plainKeys == Tryz.pinned.checked.prog.plainKeys)) = true := by kernel_rfl
theorem h23 : (Rows.parseJoinsRow.shortTexts.isNone) = true := by kernel_rfl
theorem h24 : (Tryz.pinned.checked.prog.stopsHeard) = true := by kernel_rfl
theorem h25 : (Tryz.pinned.checked.prog.mayEnter) = true := by kernel_rfl
theorem h26 : ((Rows.parseJoinsRow.lifted == Tryz.pinned.checked.prog.liftsFinal)) = true := by kernel_rfl
theorem h27 : ((Tryz.pinned.checked.prog.make == some Rows.parseJoinsRow.make)) = true := by kernel_rfl
theorem h28 : ((Rows.parseJoinsRow.kinds == (if Rows.parseJoinsRow.domain.isEmpty then [] else Tryz.f8.params.toList.map fun t => match Tryz.pinned.checked.prog.underlying t with | some (.int k) => some k | _ => none))) = true := by kernel_rfl
theorem h29 : ((Rows.parseJoinsRow.pinned == Rows.parseJoinsRow.pinnedBy)) = true := by kernel_rfl
theorem h30 : ((Rows.parseJoinsRow.veiled == (Tryz.f8.params.toList ++ Rows.parseJoinsSpec.plain.varTypes Tryz.pinned.checked.prog ++ Tryz.f8.resultTypes.toList).any (Tryz.pinned.checked.prog.veiledRec ·))) = true := by kernel_rfl
theorem h31 : (Rows.parseJoinsRow.veiledFits Tryz.pinned.checked.prog Tryz.f8.params.toList (Tryz.f8.params.toList ++ Rows.parseJoinsSpec.plain.varTypes Tryz.pinned.checked.prog ++ Tryz.f8.resultTypes.toList)) = true := by kernel_rfl
set_option maxRecDepth 100000 in
theorem closed : joinedFacts Tryz.pinned.checked.prog 8 Tryz.f8 Rows.parseJoinsSpec Rows.parseJoinsRow = true := by
  unfold joinedFacts
  exact (and_tt (and_tt (and_tt (and_tt (and_tt (and_tt (and_tt (and_tt (and_tt (and_tt (and_tt (and_tt (and_tt (and_tt (and_tt (and_tt (and_tt (and_tt (and_tt (and_tt (and_tt (and_tt (and_tt (and_tt (and_tt (and_tt (and_tt (and_tt (and_tt (and_tt (and_tt h0 h1) h2) h3) h4) h5) h6) h7) h8) h9) h10) h11) h12) h13) h14) h15) h16) h17) h18) h19) h20) h21) h22) h23) h24) h25) h26) h27) h28) h29) h30) h31)
end Go.Proofs.YtdhokkmflccaaaaGreatDoor.cfParseJoins
