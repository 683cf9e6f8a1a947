/- check: CheckPlaces' walk. -/
import Derived.Test.YthanclicnkjmiaaGreatDoorChR
import Derived.Deep.QuietTactic
import Derived.StillTailTactics
set_option linter.unusedVariables false
namespace Go.Proofs.YthanclicnkjmiaaGreatDoor.Ch
open Go.RowKit Go.Proofs.YthanclicnkjmiaaGreatDoor Lx Ps

theorem place_of (P : List Kd) : Place P (whereF (whole P)) := by
  cases h : whole P with
  | none => exact Or.inl rfl
  | some x => exact whole_place h
theorem place_len {P : List Kd} {W : List Nat} (h : Place P W) : W.length ≤ 100 := by
  rcases h with rfl | ⟨i, _, rfl | ⟨j, _, rfl | ⟨n, _, rfl | ⟨m, _, rfl⟩⟩⟩⟩ <;> simp
theorem w_back (i : Nat) (A : Int) (hA : A = (i : Int) + 1) (hb : (i : Int) ≤ 140737488355328) : IntKind.i64.wrap (A - 1) = (i : Int) := by
  subst hA
  rw [show (i : Int) + 1 - 1 = i by omega]
  exact IntWalk.i64_in _ (by omega)

end Go.Proofs.YthanclicnkjmiaaGreatDoor.Ch
