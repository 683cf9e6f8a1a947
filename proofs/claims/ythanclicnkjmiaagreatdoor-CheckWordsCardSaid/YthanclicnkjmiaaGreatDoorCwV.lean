/- check: a world that holds CheckWords' listed variables; what the list gives a walk. -/
import Derived.Test.YthanclicnkjmiaaGreatDoorCwI
import Derived.Test.YthanclicnkjmiaaGreatDoorTie
import Derived.ProofKit
import Derived.OpenShut
import Derived.LaidMore
import Derived.LaidHandle
import Derived.Lay
import Derived.SevenTiedAt
import Derived.Stop.Joined
import Derived.Lib.LaidTab
namespace Go.Proofs.YthanclicnkjmiaaGreatDoor.Cw
open Go Go.ChangeShapes Go.WideShapes Go.ChangeAt Go.RowKit Go.Proofs.YthanclicnkjmiaaGreatDoor Lx Ps Ch

def laidL : List (String × DataW Unit) := Rows.checkWordsRow.laid
/-- The start: the door's own heap. -/
noncomputable def lw (os : Os) : World := World.doorLaid Tryz.prog 79 os
theorem lw_os (os : Os) : (lw os).os = os := rfl
theorem lw_shaped (os : Os) (args : Array Value) : ((lw os).forCall (fun _ _ => 0) ⟨#[], args, []⟩).Shaped Tryz.prog := World.shaped_of_ZipB (by kernel_rfl) (by kernel_rfl)
theorem oneRowW : ((List.range 310).filter fun t => Tryz.prog.rowNamed t [101, 114, 114, 111, 114]) = [27] := by kernel_rfl
theorem sizeTW : Tryz.prog.types.size = 310 := by kernel_rfl
theorem env_of_laid {W : World} (h : laidMetH Tryz.prog laidL W) : EnvE W ∧ Tab W := by
  have h' : laidMet Tryz.prog (laidL.filter fun x => x.2.handleName?.isNone) W ∧ handlesMet Tryz.prog (laidL.filter fun x => x.2.handleName?.isSome) W := h
  have gE : Tryz.prog.globalNamed "errors.errorType" = some 0 := by kernel_rfl
  have rt : (Tryz.prog.cutTypes.find? (·.1 == "internal/reflectlite.rtype")).map (·.2) = some 139 := by kernel_rfl
  have gP : Tryz.prog.globalNamed "internal/strconv.uint64pow10" = some 1 := by kernel_rfl
  have tP : (Tryz.prog.globals[1]?).map (·.type) = some 238 := by kernel_rfl
  refine ⟨⟨?_⟩, ?_⟩
  rotate_left
  · obtain ⟨ps, ⟨g0, t0, cs0, f0, p0, q0, hg0, ht0, hv0, hd0, ⟨g1, t1, cs1, f1, p1, q1, hg1, ht1, hv1, hd1, ⟨g2, t2, cs2, f2, p2, q2, hg2, ht2, hv2, hd2, _, _⟩, _⟩, _⟩, _, _⟩ := h'.1
    obtain rfl := Option.some.inj (gP.symm.trans hg2)
    obtain rfl := Option.some.inj (tP.symm.trans ht2)
    have e : (Rows.laid_internal_strconv_uint64pow10 : DataW Unit) = Lib.tabData .u64 Lib.pow10Tab := rfl
    rw [e] at hd2
    unfold Tab Lib.TabIs
    rw [hv2, ← Lib.cells_of_tab Tryz.underlying238 Tryz.underlying190 (by kernel_rfl) (by kernel_rfl) hd2]
  have hm : (("errors.errorType", Rows.laid_errors_errorType) : String × DataW Unit) ∈ laidL.filter fun x => x.2.handleName?.isSome := by
    have : (laidL.filter fun x => x.2.handleName?.isSome) = [("errors.errorType", Rows.laid_errors_errorType)] := rfl
    rw [this]; exact List.mem_singleton.2 rfl
  obtain ⟨name, u, ty, e1, e2, e3, e4, e5⟩ := h'.2 _ hm
  have en : name = [101, 114, 114, 111, 114] := (Option.some.inj e1).symm
  subst en
  obtain rfl := Option.some.inj (rt.symm.trans e2)
  have hm : ty ∈ (List.range Tryz.prog.types.size).filter fun t => Tryz.prog.rowNamed t [101, 114, 114, 111, 114] := List.mem_filter.2 ⟨List.mem_range.2 e3, e4⟩
  rw [sizeTW, oneRowW] at hm
  obtain rfl := List.mem_singleton.1 hm
  have hh : typeHandle Tryz.prog 27 = .pointer (some ⟨9, 27, none⟩) := by kernel_rfl
  rw [hh] at e5
  simpa using World.var?_cell gE e5 0
theorem lw_met (os : Os) (args : Array Value) : laidMetH Tryz.prog laidL ((lw os).forCall (fun _ _ => 0) ⟨#[], args, []⟩).memory :=
  laidMetH_of_parts3 (fuel := 8) (laidMet_of_run' 8 (by kernel_rfl) (by kernel_rfl)) (by kernel_rfl) (by kernel_rfl)
end Go.Proofs.YthanclicnkjmiaaGreatDoor.Cw
