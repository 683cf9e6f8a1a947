/- check: a program with one state's rows in another order. -/
import Derived.Test.YtdhokkmflccaaaaGreatDoorChR
set_option linter.unusedVariables false
namespace Go.Proofs.YtdhokkmflccaaaaGreatDoor.Ch
open Go Go.RowKit Go.Proofs.YtdhokkmflccaaaaGreatDoor Lx Ps

/-- The program with other rows in one state. -/
def rowsAt (P : List Kd) (i j : Nat) (R : List Rw) : List Kd := P.set i { (gt P i) with states := (gt P i).states.set j ⟨(gt (gt P i).states j).name, R⟩ }
theorem rows_mem {P : List Kd} {i j : Nat} {R : List Rw} {k : Kd} (h : k ∈ rowsAt P i j R) : k ∈ P ∨ k = { (gt P i) with states := (gt P i).states.set j ⟨(gt (gt P i).states j).name, R⟩ } := by
  exact List.mem_or_eq_of_mem_set h
theorem rowsAt_len (P : List Kd) (i j : Nat) (R : List Rw) : (rowsAt P i j R).length = P.length := List.length_set
theorem rows_sz {P : List Kd} (h : szP P) {i j : Nat} (hi : i < P.length) (hj : j < (gt P i).states.length) {R : List Rw} (hR : R.length ≤ 140737488355328) (hm : ∀ r ∈ R, szR r) : szP (rowsAt P i j R) := by
  refine ⟨by rw [rowsAt_len]; exact h.1, fun k hk => ?_⟩
  have hK := h.2 (gt P i) (by rw [gt_eq hi]; exact List.getElem_mem hi)
  rcases rows_mem hk with hk | rfl
  · exact h.2 _ hk
  · refine ⟨hK.1, by dsimp only; rw [List.length_set]; exact hK.2.1, fun s hs => ?_⟩
    rcases List.mem_or_eq_of_mem_set hs with hs | rfl
    · exact hK.2.2 _ hs
    · exact ⟨hR, hm⟩
theorem rows_wf {P : List Kd} (h : wfP P) {i j : Nat} (hi : i < P.length) (hj : j < (gt P i).states.length) {R : List Rw} (hm : ∀ r ∈ R, wfR r) : wfP (rowsAt P i j R) := by
  intro k hk
  have hK := h (gt P i) (by rw [gt_eq hi]; exact List.getElem_mem hi)
  rcases rows_mem hk with hk | rfl
  · exact h _ hk
  · refine ⟨hK.limit, hK.within, hK.name, hK.cases, fun s hs => ?_⟩
    rcases List.mem_or_eq_of_mem_set hs with hs | rfl
    · exact hK.states _ hs
    · exact ⟨(hK.states (gt (gt P i).states j) (by rw [gt_eq hj]; exact List.getElem_mem hj)).name, hm⟩
theorem rows_whole {P : List Kd} {i j : Nat} (hi : i < P.length) (hj : j < (gt P i).states.length) {R : List Rw} (hR : R.Perm (gt (gt P i).states j).rows) : whole (rowsAt P i j R) = none ↔ whole P = none := by
  have ej : gt (gt P i).states j = (gt P i).states[j] := gt_eq hj
  unfold rowsAt
  rw [ej] at hR ⊢
  have ei : gt P i = P[i] := gt_eq hi
  revert hR hj
  rw [ei]
  intro hj hR _
  exact turned hi hj hR
end Go.Proofs.YtdhokkmflccaaaaGreatDoor.Ch
