/- A slice of numbers that came in, as a walk is told of it. -/
import Derived.Test.YtmkcmncbiancgaaRows
import Derived.ProofKit
import Derived.OpenShut
import Derived.ShutString
import Derived.ChangeOld
import Derived.SizedLaws
namespace Go.Proofs.Ytmkcmncbiancgaa
open Go.RowKit Go.ChangeShapes Go.WideShapes Go.ChangeAt

/-- The slice at a, of the elements L, each of kind k: where there is an element, it leads to a row of cells below the world's end that hold L. -/
def RowK (k : IntKind) (w : World) (a : Option Addr) (L : List Int) : Prop :=
  ∀ i, i < L.length → ∃ b off, a = some ⟨b, off, none⟩ ∧ b < w.heap.size ∧ ∀ j, j < L.length → w.cell? ⟨b, off + j, none⟩ = some (.int k (L.getD j 0))

theorem u8_of_wf {x : Int} (h : (Lit.int .u8 x).wf = true) : 0 ≤ x ∧ x < 256 := by
  simp [Lit.wf, IntKind.min, IntKind.max, IntKind.signed, IntKind.bits] at h
  omega
theorem u64_of_wf {x : Int} (h : (Lit.int .u64 x).wf = true) : 0 ≤ x ∧ x < 18446744073709551616 := by
  simp [Lit.wf, IntKind.min, IntKind.max, IntKind.signed, IntKind.bits] at h
  omega
theorem u64s_of_wf {L : List Int} (h : ∀ n ∈ L, (Lit.int .u64 n).wf = true) : ∀ j, 0 ≤ L.getD j 0 ∧ L.getD j 0 < 18446744073709551616 := by
  intro j
  rcases Nat.lt_or_ge j L.length with hj | hj
  · have e : L.getD j 0 = L[j] := by simp [hj]
    rw [e]; exact u64_of_wf (h _ (List.getElem_mem hj))
  · have e : L.getD j 0 = 0 := by simp [List.getD_eq_getElem?_getD, List.getElem?_eq_none hj]
    rw [e]; omega
theorem u8s_of_wf {L : List Int} (h : ∀ n ∈ L, (Lit.int .u8 n).wf = true) : ∀ j, 0 ≤ L.getD j 0 ∧ L.getD j 0 < 256 := by
  intro j
  rcases Nat.lt_or_ge j L.length with hj | hj
  · have e : L.getD j 0 = L[j] := by simp [hj]
    rw [e]; exact u8_of_wf (h _ (List.getElem_mem hj))
  · have e : L.getD j 0 = 0 := by simp [List.getD_eq_getElem?_getD, List.getElem?_eq_none hj]
    rw [e]; omega

/-- An argument that is a slice of numbers, opened. -/
theorem open_rowk {k : IntKind} {H : Type} {enc : TypeId × Value → H} {P : Program} {T E : TypeId} {w : World} {held : Bool} {fuel : Nat} {a : Option Addr} {len cap : Nat} {x : DataW H × List MemPlace} (hT : P.underlying T = some (.slice E)) (hE : P.underlying E = some (.int k)) (hc : P.cellsOf E = 1)
    (h : DataW.trod enc P w 0 (fun _ => true) held fuel T (Value.slice a len cap).cells.toList = some x) :
    ∃ L : List Int, L.length = len ∧ RowK k w a L ∧ (∀ n ∈ L, (Lit.int k n).wf = true) ∧
      ∀ (ts : List TypeId) (ds : List (DataW H)) (j : Nat), (DataW.weightsEach P ts ds).all (· ≤ reachBytes) = true → ts[j]? = some T → ds[j]? = some x.1 → L.length * P.bytesOf E ≤ reachBytes := by
  rcases open_ints hT hE hc h with ⟨hcs, rfl⟩ | ⟨y, l, c, zs, hcs, _, hl, hm, hz, rfl, hcell, hwz⟩
  · simp [Value.cells] at hcs
    obtain ⟨rfl, rfl, rfl⟩ := hcs
    exact ⟨[], rfl, fun i hi => by simp at hi, fun n hn => by simp at hn, fun _ _ _ _ _ _ => by simp⟩
  · simp [Value.cells] at hcs
    obtain ⟨rfl, rfl, rfl⟩ := hcs
    simp only [if_true] at hz
    have hlen : (zs.take len).length = len := by simp; omega
    refine ⟨zs.take len, hlen, ?_, fun n hn => hwz n (List.mem_of_mem_take hn), ?_⟩
    · intro i hi
      have h0 := hcell 0 (by omega)
      obtain ⟨b, off, spot⟩ := y
      have hspot : spot = none := by simpa [Addr.add] using World.cell?_spot h0
      subst hspot
      refine ⟨b, off, rfl, ?_, ?_⟩
      · have h0' : w.cell? ⟨b, off, none⟩ = some (.int k (zs.getD 0 0)) := by simpa [Addr.add] using h0
        rcases Nat.lt_or_ge b w.heap.size with h' | h'
        · exact h'
        · simp [World.cell?, Array.getElem?_eq_none h'] at h0'
      · intro j hj
        rw [hlen] at hj
        have := hcell j (by omega)
        have e : (zs.take len).getD j 0 = zs.getD j 0 := by
          simp [List.getD_eq_getElem?_getD, hj]
        rw [e]
        by_cases h0 : j = 0
        · subst h0; simpa [Addr.add] using this
        · simpa [Addr.add, h0] using this
    · intro ts ds j hw ht hd
      have := sized_slice hw ht hd hT
      simp only [lits, List.length_map, List.length_take, List.length_drop] at this
      have e : min len zs.length + (zs.length - len) = zs.length := by omega
      rw [e] at this
      refine Nat.le_trans (Nat.mul_le_mul_right _ ?_) this
      rw [hlen]; omega

theorem RowK.later {k : IntKind} {w w' : World} {a : Option Addr} {L : List Int} (h : RowK k w a L) (hb : Below w.heap.size w w') : RowK k w' a L := by
  intro i hi
  obtain ⟨b, off, ha, hlt, hc⟩ := h i hi
  exact ⟨b, off, ha, Nat.lt_of_lt_of_le hlt hb.size, fun j hj => (hb.cell (p := ⟨b, off + j, none⟩) hlt).trans (hc j hj)⟩
end Go.Proofs.Ytmkcmncbiancgaa
