/- A slice of bools that came in, as a walk is told of it. -/
import Derived.Test.YtpmgmdlfnlmieaaRowA
import Derived.ProofKit
import Derived.OpenShut
import Derived.ShutString
import Derived.ChangeOld
import Derived.SizedLaws
import Derived.Deep.Grids
namespace Go.Proofs.Ytpmgmdlfnlmieaa
open Go.RowKit Go.ChangeShapes Go.WideShapes Go.ChangeAt Go.Deep

/-- The slice at a, of the bools L: where there is one, it leads to a row of cells below the world's end that hold L. -/
def RowBo (w : World) (a : Option Addr) (L : List Bool) : Prop :=
  ∀ i, i < L.length → ∃ b off, a = some ⟨b, off, none⟩ ∧ b < w.heap.size ∧ ∀ j, j < L.length → w.cell? ⟨b, off + j, none⟩ = some (.bool (L.getD j false))

/-- An argument that is a slice of bools, opened. -/
theorem open_rowb {H : Type} {enc : TypeId × Value → H} {P : Program} {T E : TypeId} {w : World} {held : Bool} {fuel : Nat} {a : Option Addr} {len cap : Nat} {x : DataW H × List MemPlace} (hT : P.underlying T = some (.slice E)) (hE : P.underlying E = some .bool) (hc : P.cellsOf E = 1)
    (h : DataW.trod enc P w 0 (fun _ => true) held fuel T (Value.slice a len cap).cells.toList = some x) :
    ∃ L : List Bool, L.length = len ∧ RowBo w a L ∧
      ∀ (ts : List TypeId) (ds : List (DataW H)) (j : Nat), (DataW.weightsEach P ts ds).all (· ≤ reachBytes) = true → ts[j]? = some T → ds[j]? = some x.1 → L.length * P.bytesOf E ≤ reachBytes := by
  rcases open_bools hT hE hc h with ⟨hcs, rfl⟩ | ⟨y, l, c, B, hcs, _, hl, hm, rfl, hcell⟩
  · simp [Value.cells] at hcs
    obtain ⟨rfl, rfl, rfl⟩ := hcs
    exact ⟨[], rfl, fun i hi => by simp at hi, fun _ _ _ _ _ _ => by simp⟩
  · simp [Value.cells] at hcs
    obtain ⟨rfl, rfl, rfl⟩ := hcs
    refine ⟨(List.range len).map B, by simp, ?_, ?_⟩
    · intro i hi
      have hi' : i < len := by simpa using hi
      have h0 := hcell 0 (by omega)
      obtain ⟨b, off, spot⟩ := y
      have hspot : spot = none := by simpa [Addr.add] using World.cell?_spot h0
      subst hspot
      refine ⟨b, off, rfl, ?_, ?_⟩
      · have h0' : w.cell? ⟨b, off, none⟩ = some (.bool (B 0)) := by simpa [Addr.add] using h0
        rcases Nat.lt_or_ge b w.heap.size with h' | h'
        · exact h'
        · simp [World.cell?, Array.getElem?_eq_none h'] at h0'
      · intro j hj
        have hj' : j < len := by simpa using hj
        have := hcell j (by omega)
        have e : ((List.range len).map B).getD j false = B j := by
          simp [List.getD_eq_getElem?_getD, hj']
        rw [e]
        by_cases h0 : j = 0
        · subst h0; simpa [Addr.add] using this
        · simpa [Addr.add, h0] using this
    · intro ts ds j hw ht hd
      have := sized_slice hw ht (by simpa [boolRow] using hd) hT
      simp only [List.length_map, List.length_range] at this
      refine Nat.le_trans (Nat.mul_le_mul_right _ ?_) this
      simp

theorem RowBo.later {w w' : World} {a : Option Addr} {L : List Bool} (h : RowBo w a L) (hb : Below w.heap.size w w') : RowBo w' a L := by
  intro i hi
  obtain ⟨b, off, ha, hlt, hc⟩ := h i hi
  exact ⟨b, off, ha, Nat.lt_of_lt_of_le hlt hb.size, fun j hj => (hb.cell (p := ⟨b, off + j, none⟩) hlt).trans (hc j hj)⟩
end Go.Proofs.Ytpmgmdlfnlmieaa
