/- parse: a world that holds the listed variables; what the list gives a walk. -/
import Derived.Test.YtnkokonkbklelaaGreatDoorPsMc
import Derived.Test.YtnkokonkbklelaaGreatDoorLxM2
import Derived.Test.YtnkokonkbklelaaGreatDoorTie
import Derived.ProofKit
import Derived.OpenShut
import Derived.LaidMore
import Derived.LaidHandle
import Derived.Lay
import Derived.SevenTiedAt
import Derived.Stop.Joined
import Derived.Lib.LaidTab
namespace Go.Proofs.YtnkokonkbklelaaGreatDoor.Ps
open Go Go.ChangeShapes Go.WideShapes Go.ChangeAt Go.RowKit Go.Proofs.YtnkokonkbklelaaGreatDoor Lx

def laidL : List (String × DataW Unit) := Rows.parseProgramsRow.laid
/-- The start: the door's own heap, and the pinned table in its place. -/
noncomputable def lw (os : Os) : World := (World.doorLaid Tryz.prog 79 os).layVars Tryz.prog [("unicode/utf8.first", Rows.laid_unicode_utf8_first)]
theorem lw_os (os : Os) : (lw os).os = os := World.layVars_os _ _ _
theorem lw_shaped (os : Os) (args : Array Value) : ((lw os).forCall (fun _ _ => 0) ⟨#[], args, []⟩).Shaped Tryz.prog := World.shaped_of_ZipB (by kernel_rfl) (by kernel_rfl)
theorem iface_cells {P : Program} {W : World} {enc : TypeId × Value → Unit} {keep : TypeId → Bool} {b : Bool} {f : Nat} {t : TypeId} {ms : Array (String × TypeId)} {cs : List Value} {nm : String} {d : DataW Unit} {p : List MemPlace}
    (ht : P.underlying t = some (.interface ms)) (h : DataW.trod enc P W 0 keep b f t cs = some (.iface nm d, p)) : ∃ u v, cs = [.iface u v] := by
  cases f with
  | zero => simp [DataW.trod] at h
  | succ f =>
    unfold DataW.trod at h
    rw [ht] at h
    simp only at h
    split at h
    all_goals first | exact ⟨_, _, rfl⟩ | (exfalso; revert h; simp; done) | (exfalso; rename_i hq; injection hq with hq; injection hq; done) | contradiction
theorem oneRow : ((List.range 238).filter fun t => Tryz.prog.rowNamed t [101, 114, 114, 111, 114]) = [27] := by kernel_rfl
theorem sizeT : Tryz.prog.types.size = 238 := by kernel_rfl
theorem env_of_laid {W : World} (h : laidMetH Tryz.prog laidL W) : Env W ∧ Tab W := by
  have h' : laidMet Tryz.prog (laidL.filter fun x => x.2.handleName?.isNone) W ∧ handlesMet Tryz.prog (laidL.filter fun x => x.2.handleName?.isSome) W := h
  have gE : Tryz.prog.globalNamed "errors.errorType" = some 0 := by kernel_rfl
  have gS : Tryz.prog.globalNamed "strconv.ErrSyntax" = some 4 := by kernel_rfl
  have gR : Tryz.prog.globalNamed "strconv.ErrRange" = some 5 := by kernel_rfl
  have gP : Tryz.prog.globalNamed "internal/strconv.uint64pow10" = some 6 := by kernel_rfl
  have tS : (Tryz.prog.globals[4]?).map (·.type) = some 27 := by kernel_rfl
  have tR : (Tryz.prog.globals[5]?).map (·.type) = some 27 := by kernel_rfl
  have tP : (Tryz.prog.globals[6]?).map (·.type) = some 205 := by kernel_rfl
  have rt : (Tryz.prog.cutTypes.find? (·.1 == "internal/reflectlite.rtype")).map (·.2) = some 125 := by kernel_rfl
  refine ⟨⟨?_, ?_, ?_⟩, ?_⟩
  · have hm : (("errors.errorType", Rows.laid_errors_errorType) : String × DataW Unit) ∈ laidL.filter fun x => x.2.handleName?.isSome := by
      have : (laidL.filter fun x => x.2.handleName?.isSome) = [("errors.errorType", Rows.laid_errors_errorType)] := rfl
      rw [this]; exact List.mem_singleton.2 rfl
    obtain ⟨name, u, ty, e1, e2, e3, e4, e5⟩ := h'.2 _ hm
    have en : name = [101, 114, 114, 111, 114] := (Option.some.inj e1).symm
    subst en
    obtain rfl := Option.some.inj (rt.symm.trans e2)
    have hm : ty ∈ (List.range Tryz.prog.types.size).filter fun t => Tryz.prog.rowNamed t [101, 114, 114, 111, 114] := List.mem_filter.2 ⟨List.mem_range.2 e3, e4⟩
    rw [sizeT, oneRow] at hm
    obtain rfl := List.mem_singleton.1 hm
    have hh : typeHandle Tryz.prog 27 = .pointer (some ⟨9, 27, none⟩) := by kernel_rfl
    rw [hh] at e5
    simpa using World.var?_cell gE e5 0
  · obtain ⟨ps, ⟨g0, t0, cs0, f0, p0, q0, hg0, ht0, hv0, hd0, ⟨g1, t1, cs1, f1, p1, q1, hg1, ht1, hv1, hd1, ⟨g2, t2, cs2, f2, p2, q2, hg2, ht2, hv2, hd2, ⟨g3, t3, cs3, f3, p3, q3, hg3, ht3, hv3, hd3, ⟨g4, t4, cs4, f4, p4, q4, hg4, ht4, hv4, hd4, ⟨g5, t5, cs5, f5, p5, q5, hg5, ht5, hv5, hd5, _, _⟩, _⟩, _⟩, _⟩, _⟩, _⟩, _, _⟩ := h'.1
    obtain rfl := Option.some.inj (gS.symm.trans hg5)
    obtain rfl := Option.some.inj (tS.symm.trans ht5)
    obtain ⟨u, v, hc⟩ := iface_cells Tryz.underlying27 hd5
    refine ⟨u, v, ?_⟩
    have := World.var?_cell gS hv5 0
    obtain ⟨l⟩ := cs5
    have hl : l = [.iface u v] := hc
    subst hl
    simpa using this
  · obtain ⟨ps, ⟨g0, t0, cs0, f0, p0, q0, hg0, ht0, hv0, hd0, ⟨g1, t1, cs1, f1, p1, q1, hg1, ht1, hv1, hd1, ⟨g2, t2, cs2, f2, p2, q2, hg2, ht2, hv2, hd2, ⟨g3, t3, cs3, f3, p3, q3, hg3, ht3, hv3, hd3, ⟨g4, t4, cs4, f4, p4, q4, hg4, ht4, hv4, hd4, _, _⟩, _⟩, _⟩, _⟩, _⟩, _, _⟩ := h'.1
    obtain rfl := Option.some.inj (gR.symm.trans hg4)
    obtain rfl := Option.some.inj (tR.symm.trans ht4)
    obtain ⟨u, v, hc⟩ := iface_cells Tryz.underlying27 hd4
    refine ⟨u, v, ?_⟩
    have := World.var?_cell gR hv4 0
    obtain ⟨l⟩ := cs4
    have hl : l = [.iface u v] := hc
    subst hl
    simpa using this
  · obtain ⟨ps, ⟨g0, t0, cs0, f0, p0, q0, hg0, ht0, hv0, hd0, ⟨g1, t1, cs1, f1, p1, q1, hg1, ht1, hv1, hd1, ⟨g2, t2, cs2, f2, p2, q2, hg2, ht2, hv2, hd2, _, _⟩, _⟩, _⟩, _, _⟩ := h'.1
    obtain rfl := Option.some.inj (gP.symm.trans hg2)
    obtain rfl := Option.some.inj (tP.symm.trans ht2)
    have e : (Rows.laid_internal_strconv_uint64pow10 : DataW Unit) = Lib.tabData .u64 Lib.pow10Tab := rfl
    rw [e] at hd2
    unfold Tab Lib.TabIs
    rw [hv2, ← Lib.cells_of_tab Tryz.underlying205 Tryz.underlying143 (by kernel_rfl) (by kernel_rfl) hd2]
theorem lw_met (os : Os) (args : Array Value) : laidMetH Tryz.prog laidL ((lw os).forCall (fun _ _ => 0) ⟨#[], args, []⟩).memory :=
  laidMetH_of_parts3 (fuel := 8) (laidMet_of_run' 8 (by kernel_rfl) (by kernel_rfl)) (by kernel_rfl) (by kernel_rfl)
end Go.Proofs.YtnkokonkbklelaaGreatDoor.Ps
