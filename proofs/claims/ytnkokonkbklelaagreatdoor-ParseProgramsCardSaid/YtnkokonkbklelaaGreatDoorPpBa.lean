/- parse, the document's reader: word (bad, or over). -/
import Derived.Test.YtnkokonkbklelaaGreatDoorPpB
set_option linter.unusedSimpArgs false
set_option linter.unusedVariables false
namespace Go.Proofs.YtnkokonkbklelaaGreatDoor.Ps
open Go.RowKit Go.Proofs.YtnkokonkbklelaaGreatDoor Lx

set_option maxRecDepth 100000 in
set_option maxHeartbeats 40000000 in
theorem word_bad {w : World} {R : Nat} {X T : Tks} (h : Tx w R X (true, T)) (s : Wd) :
    Calls Tryz.prog 26 #[.pointer (some ⟨R, 0, none⟩), .string (bs s)] w (WordP w R X s (true, T)) := by
  have H := Lib.hid h
  have HD := Lib.hid (show dW s (true, T) = false from dW_bad rfl)
  have c2 := h.c2
  clear h
  go_enter Tryz.func26, Tryz.ntmps26
  go_wp2_with fail
  go_quiet (fail)
  go_wp2_with fail
  go_ret
  exact ⟨by rw [HD.out]; rfl, by unfold dWs; rw [if_neg (by rw [HD.out]; decide)]; exact H.out.keep ((Only.refl Nil w).drewN nq), (Only.refl _ w).drewN nq⟩
set_option maxRecDepth 100000 in
set_option maxHeartbeats 40000000 in
theorem word_nil {w : World} {R : Nat} {X : Tks} (h : Tx w R X (false, [])) (s : Wd) (hne : s ≠ []) :
    Calls Tryz.prog 26 #[.pointer (some ⟨R, 0, none⟩), .string (bs s)] w (WordP w R X s (false, [])) := by
  have H := Lib.hid h
  have HD := Lib.hid (show dW s (false, []) = false from by
    unfold dW
    have : (hw [] == s) = false := beq_eq_false_iff_ne.2 (fun e => hne e.symm)
    simp [this])
  have c2 := h.c2
  obtain ⟨a, n, c, c0, c1, hn⟩ := h.none
  have hn' : (n : Int) ≤ 20000 := by omega
  clear h hne hn
  go_enter Tryz.func26, Tryz.ntmps26
  go_wp2_with fail
  go_quiet (fail)
  go_wp2_with fail
  go_ret
  exact ⟨by rw [HD.out]; rfl, by unfold dWs; rw [if_neg (by rw [HD.out]; decide)]; exact H.out.keep ((Only.refl Nil w).drewN nq), (Only.refl _ w).drewN nq⟩
end Go.Proofs.YtnkokonkbklelaaGreatDoor.Ps
