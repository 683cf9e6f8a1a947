/- What the laws read of a gang that has come to its end. -/
import Derived.Test.YtokopocldicnmaaDqCm
import Derived.Test.YtokopocldicnmaaRowA
namespace Go.Proofs.Ytokopocldicnmaa.Dq
open Go.RowKit

/-- A slice that holds the numbers X. -/
def UIn (w : World) (v : Value) (X : List Int) : Prop :=
  ∃ a cap, v = .slice a X.length cap ∧ ∀ i, i < X.length → ∃ g, a = some ⟨g, 0, none⟩ ∧ g < w.heap.size ∧ ∀ j, j < X.length → w.cell? ⟨g, j, none⟩ = some (.int .u64 (X.getD j 0))
theorem own_uin {w : World} {base : Nat} {v : Value} {X : List Int} (h : w.ownsRow base 28 1 v X.length (uv X)) : UIn w v X := by
  rcases h.2 with ⟨rfl, h0⟩ | ⟨g, c, cur, rfl, _, hg, _⟩
  · refine ⟨none, 0, by rw [h0], fun i hi => by omega⟩
  · refine ⟨_, c, rfl, fun i hi => ⟨g, rfl, lt_of_block hg, fun j hj => ?_⟩⟩
    rw [h.cellAt j (by omega)]
    simp [uv, hj]
theorem UIn.keep {w w' : World} {v : Value} {X : List Int} (h : UIn w v X) {S : Nat → Prop} (o : Only S w w') (hS : ∀ k, S k → w.heap.size ≤ k) : UIn w' v X := by
  obtain ⟨a, cap, e, f⟩ := h
  refine ⟨a, cap, e, fun i hi => ?_⟩
  obtain ⟨g, ha, hg, hc⟩ := f i hi
  refine ⟨g, ha, Nat.lt_of_lt_of_le hg o.size, fun j hj => ?_⟩
  rw [World.cell?_of_block (a := ⟨g, j, none⟩) (o.block g hg (fun s => by have := hS g s; omega))]
  exact hc j hj
/-- What a law reads. -/
structure Rd (w1 w : World) (gb rg : Nat) (nx : Nat) (iv : Nat → Value) (ins : Nat → List Int) (most : Int) : Prop where
  only : Only Nil w1 w
  lg : gb < w.heap.size
  c0 : w.cell? ⟨gb, 0, none⟩ = some (.pointer (some ⟨rg, 0, none⟩))
  c3 : w.cell? ⟨gb, 3, none⟩ = some (.int .u64 (nx : Int))
  c4 : w.cell? ⟨gb, 4, none⟩ = some (iv 0)
  c5 : w.cell? ⟨gb, 5, none⟩ = some (iv 1)
  c7 : w.cell? ⟨gb, 7, none⟩ = some (iv 2)
  c9 : w.cell? ⟨gb, 9, none⟩ = some (.int .i64 most)
  iu : ∀ p, p < 3 → UIn w (iv p) (ins p)
  short : ∀ p, (ins p).length ≤ 100000
  nxb : nx ≤ 100000
theorem Rd.keep {w1 w w' : World} {gb rg nx : Nat} {iv : Nat → Value} {ins : Nat → List Int} {most : Int} (h : Rd w1 w gb rg nx iv ins most) {S : Nat → Prop} (o : Only S w w') (hS : ∀ k, S k → w.heap.size ≤ k) : Rd w1 w' gb rg nx iv ins most := by
  have f3 : ∀ i v, w.cell? ⟨gb, i, none⟩ = some v → w'.cell? ⟨gb, i, none⟩ = some v := fun i v e => by
    rw [World.cell?_of_block (a := ⟨gb, i, none⟩) (o.block gb h.lg (fun s => by have := hS gb s; have := h.lg; omega))]; exact e
  exact ⟨h.only.then o (fun i hi hlt => by have := hS i hi; have := h.only.size; omega), Nat.lt_of_lt_of_le h.lg o.size, f3 _ _ h.c0, f3 _ _ h.c3, f3 _ _ h.c4, f3 _ _ h.c5, f3 _ _ h.c7, f3 _ _ h.c9, fun p hp => (h.iu p hp).keep o hS, h.short, h.nxb⟩
/-- What is true of the rows at the end. -/
structure Fe (nx : Nat) (ins : Nat → List Int) : Prop where
  perm : (ins 0).Perm (ins 1 ++ ins 2)
  inr : ∀ v ∈ ins 0, 1 ≤ v ∧ v ≤ (nx : Int)
  inc : (ins 0).Pairwise (· < ·)
  stl : (ins 2).Pairwise (· < ·)
theorem Mend.rd {w1 w : World} {rg B base c gb tb K : Nat} (h : Mend w1 w rg B base c gb tb K) : ∃ nx iv ins most, Rd w1 w gb rg nx iv ins most ∧ Fe nx ins ∧ most ≤ c := by
  obtain ⟨T, th, ⟨L, t, f, ob, psh, nx, iv, ins, lost, most, h⟩, _⟩ := h
  have hd := h.di
  have hp := hd.perm
  rw [live_nil, show held T f none = [] from rfl, List.append_nil, List.append_nil] at hp
  exact ⟨nx, iv, ins, most, ⟨h.gw.core.lw.only, lt_of_block h.gw.gbh, (h.gw.cell 0 (by decide)).1, (h.gw.cell 3 (by decide)).1, (h.gw.cell 4 (by decide)).1, (h.gw.cell 5 (by decide)).1, (h.gw.cell 7 (by decide)).1, (h.gw.cell 9 (by decide)).1,
    fun p hp => own_uin (h.gw.core.own p hp), fun p => Nat.le_trans (h.inb p) h.kb, Nat.le_trans h.nxb h.kb⟩, ⟨hp, hd.inr, hd.inc, hd.stl⟩, h.ms.2⟩
theorem take_next {X : List Int} {j : Nat} (h : j < X.length) : X.take (j + 1) = X.take j ++ [X.getD j 0] := by
  rw [List.take_add_one, List.getElem?_eq_getElem h]
  simp [h]
theorem pair_lt {X : List Int} (h : X.Pairwise (· < ·)) {i j : Nat} (hij : i < j) (hj : j < X.length) : X.getD i 0 < X.getD j 0 := by
  have := List.pairwise_iff_getElem.1 h i j (by omega) hj hij
  simpa [List.getD_eq_getElem?_getD, List.getElem?_eq_getElem (show i < X.length by omega), List.getElem?_eq_getElem hj] using this
end Go.Proofs.Ytokopocldicnmaa.Dq
