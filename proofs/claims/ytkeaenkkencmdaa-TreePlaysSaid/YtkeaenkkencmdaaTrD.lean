/- tree: Add. -/
import Derived.Test.YtkeaenkkencmdaaTrC
set_option linter.unusedSimpArgs false
set_option linter.unusedVariables false
namespace Go.Proofs.Ytkeaenkkencmdaa.Tr
open Go.RowKit Go.Proofs.Ytkeaenkkencmdaa Go.Maps

theorem at_same {w : World} {q o : Nat} {v : Array Value} {t : TypeId} {m : Nat × Nat} (h : w.heap[q]? = some (.cells v t m)) (u : Value) : (w.setCell ⟨q, o, none⟩ u).heap[q]? = some (.cells (v.setIfInBounds o u) t m) := heap_setCell_self u h
theorem at_other {w : World} {q r o : Nat} {X : Option Obj} (hne : q ≠ r) (h : w.heap[q]? = X) (u : Value) : (w.setCell ⟨r, o, none⟩ u).heap[q]? = X := (Below.heap_setCell _ _ _ _ hne).trans h
theorem blk_free {w : World} {q o : Nat} {v : Array Value} {t : TypeId} (h : w.heap[q]? = some (.cells v t (0, 0))) : w.frozen? ⟨q, o, none⟩ = false := by simp [World.frozen?, h]

/-- Behind join: m stands last below p, behind z, if there is one. -/
def joinW (w : World) (m p : Nat) : Option Nat → World
  | none => (((w.setCell ⟨m, 1, none⟩ (.pointer (some ⟨p, 0, none⟩))).setCell ⟨m, 4, none⟩ (.pointer none)).setCell ⟨p, 2, none⟩ (.pointer (some ⟨m, 0, none⟩))).setCell ⟨p, 3, none⟩ (.pointer (some ⟨m, 0, none⟩))
  | some z => (((w.setCell ⟨m, 1, none⟩ (.pointer (some ⟨p, 0, none⟩))).setCell ⟨m, 4, none⟩ (.pointer (some ⟨z, 0, none⟩))).setCell ⟨z, 5, none⟩ (.pointer (some ⟨m, 0, none⟩))).setCell ⟨p, 3, none⟩ (.pointer (some ⟨m, 0, none⟩))

set_option maxRecDepth 100000 in
theorem join_none {w : World} {m p : Nat} {x : Int} {vp : Array Value} (hm : w.heap[m]? = some (.cells #[.int .i64 x, .pointer none, .pointer none, .pointer none, .pointer none, .pointer none] 53 (0, 0)))
    (hp : w.heap[p]? = some (.cells vp 53 (0, 0))) {v2 : Value} (h2 : w.cell? ⟨p, 2, none⟩ = some v2) (h3 : w.cell? ⟨p, 3, none⟩ = some (.pointer none)) (hne : p ≠ m) :
    Calls Try.prog 25 #[.pointer (some ⟨m, 0, none⟩), .pointer (some ⟨p, 0, none⟩)] w fun e w' => e = .returned (.tuple #[]) ∧ w' = joinW w m p none := by
  have f1 : w.frozen? ⟨m, 1, none⟩ = false := blk_free hm
  have f4 : w.frozen? ⟨m, 4, none⟩ = false := blk_free hm
  have g2 : w.frozen? ⟨p, 2, none⟩ = false := blk_free hp
  have g3 : w.frozen? ⟨p, 3, none⟩ = false := blk_free hp
  have k4 : ((w.setCell ⟨m, 1, none⟩ (.pointer (some ⟨p, 0, none⟩))).setCell ⟨m, 4, none⟩ (.pointer none)).cell? ⟨m, 4, none⟩ = some (.pointer none) := by
    have := at_same (o := 4) (at_same (o := 1) hm (.pointer (some ⟨p, 0, none⟩))) (.pointer none)
    simp [World.cell?, this]
  have c1 : w.cell? ⟨m, 1, none⟩ = some (.pointer none) := by simp [World.cell?, hm]
  have c4 : w.cell? ⟨m, 4, none⟩ = some (.pointer none) := by simp [World.cell?, hm]
  unfold joinW
  clear hm hp
  go_enter Try.func25, Try.ntmps25
  go_wp2
  go_end0
  exact ⟨rfl, rfl⟩

set_option maxRecDepth 100000 in
theorem join_some {w : World} {m p z : Nat} {x : Int} {vp vz : Array Value} (hm : w.heap[m]? = some (.cells #[.int .i64 x, .pointer none, .pointer none, .pointer none, .pointer none, .pointer none] 53 (0, 0)))
    (hp : w.heap[p]? = some (.cells vp 53 (0, 0))) (hz : w.heap[z]? = some (.cells vz 53 (0, 0))) {v5 : Value} (h5 : w.cell? ⟨z, 5, none⟩ = some v5) (h3 : w.cell? ⟨p, 3, none⟩ = some (.pointer (some ⟨z, 0, none⟩))) (hne : p ≠ m) (hne2 : z ≠ m) (hne3 : p ≠ z) :
    Calls Try.prog 25 #[.pointer (some ⟨m, 0, none⟩), .pointer (some ⟨p, 0, none⟩)] w fun e w' => e = .returned (.tuple #[]) ∧ w' = joinW w m p (some z) := by
  have f1 : w.frozen? ⟨m, 1, none⟩ = false := blk_free hm
  have f4 : w.frozen? ⟨m, 4, none⟩ = false := blk_free hm
  have g2 : w.frozen? ⟨z, 5, none⟩ = false := blk_free hz
  have g3 : w.frozen? ⟨p, 3, none⟩ = false := blk_free hp
  have k4 : ((w.setCell ⟨m, 1, none⟩ (.pointer (some ⟨p, 0, none⟩))).setCell ⟨m, 4, none⟩ (.pointer (some ⟨z, 0, none⟩))).cell? ⟨m, 4, none⟩ = some (.pointer (some ⟨z, 0, none⟩)) := by
    have := at_same (o := 4) (at_same (o := 1) hm (.pointer (some ⟨p, 0, none⟩))) (.pointer (some ⟨z, 0, none⟩))
    simp [World.cell?, this]
  have c1 : w.cell? ⟨m, 1, none⟩ = some (.pointer none) := by simp [World.cell?, hm]
  have c4 : w.cell? ⟨m, 4, none⟩ = some (.pointer none) := by simp [World.cell?, hm]
  unfold joinW
  clear hm hp hz
  go_enter Try.func25, Try.ntmps25
  go_wp2
  go_end0
  exact ⟨rfl, rfl⟩
end Go.Proofs.Ytkeaenkkencmdaa.Tr
