/- An operation that is done at once; a fresh ring; what a law's walk carries along. -/
import Derived.Test.YtmkcmncbiancgaaRingV
namespace Go.Proofs.Ytmkcmncbiancgaa
open Go.RowKit

/-- n steps, and the operation is over. -/
inductive Runs (b c : Nat) : Nat → List Int → OS → List Int → OS → Prop
  | over {L : List Int} {s : OS} (h : s.isO = true) : Runs b c 0 L s L s
  | step {n : Nat} {L L' : List Int} {s s' : OS} (h : s.isO = false) (hn : Nums b L) (hr : Runs b c n (stepL b c L s) (stepS b c L s) L' s') : Runs b c (n + 1) L s L' s'
theorem Runs.isO {b c n : Nat} {L L' : List Int} {s s' : OS} (h : Runs b c n L s L' s') : s'.isO = true := by
  induction h with
  | over h => exact h
  | step _ _ _ ih => exact ih
theorem Runs.tk {b c n : Nat} {L L' : List Int} {s s' : OS} (h : Runs b c n L s L' s') (hs : s.tk) : s'.tk := by
  induction h with
  | over h => exact hs
  | step _ hn _ ih => exact ih (stepS_tk _ _ _ _ hs hn)
theorem Runs.length {b c n : Nat} {L L' : List Int} {s s' : OS} (h : Runs b c n L s L' s') : L'.length = L.length := by
  induction h with
  | over h => rfl
  | step _ _ _ ih => rw [ih, stepL_length]

section
variable {w : World} {ob rg hb rb b c : Nat} {L L' : List Int} {t : Int} {s s' : OS} {n : Nat}
theorem overO (h : OpIn w ob rg s) (htk : s.tk) :
    Calls Try.prog 128 #[.pointer (some ⟨ob, 0, none⟩)] w fun e w' => e = .returned (.bool s.isO) ∧ w = w' := by
  obtain ⟨nx, a, y, h, _⟩ := h
  have := over_any h
  rwa [isO_ne s htk] at this
theorem outcomeO (h : OpIn w ob rg s) :
    Calls Try.prog 126 #[.pointer (some ⟨ob, 0, none⟩)] w fun e w' => e = .returned (.int .i64 s.o) ∧ w = w' := by
  obtain ⟨nx, a, y, h, _⟩ := h
  exact outcome_any h
theorem valueO (h : OpIn w ob rg s) :
    Calls Try.prog 81 #[.pointer (some ⟨ob, 0, none⟩)] w fun e w' => e = .returned (.int .u64 s.x) ∧ w = w' := by
  obtain ⟨nx, a, y, h, _⟩ := h
  exact ovalue_any h

end
end Go.Proofs.Ytmkcmncbiancgaa
