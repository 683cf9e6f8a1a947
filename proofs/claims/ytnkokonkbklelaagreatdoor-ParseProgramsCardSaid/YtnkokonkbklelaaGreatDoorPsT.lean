/- parse: rows, states, kinds and programs compared. -/
import Derived.Test.YtnkokonkbklelaaGreatDoorPsM7
import Derived.Shelf.Abstract
set_option linter.unusedVariables false
namespace Go.Proofs.YtnkokonkbklelaaGreatDoor.Ps
open Go.RowKit Go.Proofs.YtnkokonkbklelaaGreatDoor Lx

theorem two_box (w w1 : World) (c1 c2 : Array Value) (t : TypeId) (o : Only Nil ((w.alloc (.cells c1 t)).alloc (.cells c2 t)) w1) (k : Nat) (x y : Value) (h1 : c1[k]? = some x) (h2 : c2[k]? = some y) :
    w1.cell? ⟨w.heap.size, k, none⟩ = some x ∧ w1.cell? ⟨w.heap.size + 1, k, none⟩ = some y := by
  have hs : (w.alloc (.cells c1 t)).heap.size = w.heap.size + 1 := by simp
  have g1 : ((w.alloc (.cells c1 t)).alloc (.cells c2 t)).heap[w.heap.size]? = some (.cells c1 t (0, 0)) := by
    rw [Below.heap_alloc _ _ _ (by rw [hs]; omega)]; exact heap_new w _
  have g2 : ((w.alloc (.cells c1 t)).alloc (.cells c2 t)).heap[w.heap.size + 1]? = some (.cells c2 t (0, 0)) := by
    rw [← hs]; exact heap_new _ _
  refine ⟨only_cell0 o ?_, only_cell0 o ?_⟩
  · simp only [World.cell?, g1]; simpa using h1
  · simp only [World.cell?, g2]; simpa using h2
theorem str_ne {a b : Wd} (h : ¬ a = b) : ((bs a).toList == (bs b).toList) = false := by rw [bs_beq]; exact decide_eq_false h
theorem str_eq (a : Wd) : ((bs a).toList == (bs a).toList) = true := by simp


theorem Rw_eq (x y : Rw) : (x = y) ↔ (x.tag = y.tag ∧ x.only = y.only ∧ x.n = y.n ∧ x.effs = y.effs) := by cases x; cases y; simp


theorem Sta_eq (x y : Sta) : (x = y) ↔ (x.name = y.name ∧ x.rows = y.rows) := by cases x; cases y; simp


theorem Kd_eq (x y : Kd) : (x = y) ↔ (x.name = y.name ∧ x.limit = y.limit ∧ x.within = y.within ∧ x.cases = y.cases ∧ x.states = y.states) := by cases x; cases y; simp

end Go.Proofs.YtnkokonkbklelaaGreatDoor.Ps
