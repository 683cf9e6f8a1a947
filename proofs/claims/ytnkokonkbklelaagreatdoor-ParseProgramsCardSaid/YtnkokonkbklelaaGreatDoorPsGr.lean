/- parse: the document's Great: what isn't great is small. -/
import Derived.Test.YtnkokonkbklelaaGreatDoorPsMc
import Derived.Lib.MinMax
set_option linter.unusedVariables false
namespace Go.Proofs.YtnkokonkbklelaaGreatDoor.Ps
open Go.RowKit Go.Proofs.YtnkokonkbklelaaGreatDoor Lx

theorem take_all_snoc {α : Type} {Q : α → Prop} {L : List α} {k : Nat} (h : k < L.length) (h1 : ∀ x ∈ L.take k, Q x) (h2 : Q L[k]) : ∀ x ∈ L.take (k + 1), Q x := by
  intro x hx
  rw [List.take_succ_eq_append_getElem h] at hx
  rcases List.mem_append.1 hx with hx | hx
  · exact h1 x hx
  · rw [List.mem_singleton.1 hx]; exact h2
theorem min_lo (x : Nat) : (0 : Int) ≤ min (x : Int) 20000 ∧ min (x : Int) 20000 ≤ 20000 := by omega

end Go.Proofs.YtnkokonkbklelaaGreatDoor.Ps
