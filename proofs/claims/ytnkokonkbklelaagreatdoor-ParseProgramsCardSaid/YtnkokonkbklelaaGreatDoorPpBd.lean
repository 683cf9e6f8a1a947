/- parse, the document's reader: word (another one). -/
import Derived.Test.YtnkokonkbklelaaGreatDoorPpB
set_option linter.unusedSimpArgs false
set_option linter.unusedVariables false
namespace Go.Proofs.YtnkokonkbklelaaGreatDoor.Ps
open Go.RowKit Go.Proofs.YtnkokonkbklelaaGreatDoor Lx

set_option maxRecDepth 100000 in
set_option maxHeartbeats 40000000 in
theorem word_no {w : World} {R : Nat} {X r : Tks} {x : Tok × Nat} (h : Tx w R X (false, x :: r)) (s : Wd) (hd : dW s (false, x :: r) = false) (hk : x.1.k ≠ 2) :
    Calls Tryz.prog 26 #[.pointer (some ⟨R, 0, none⟩), .string (bs s)] w (WordP w R X s (false, x :: r)) := by
  have HD := Lib.hid hd
  have hx : x.1.w ≠ s := dW_no hd rfl
  have H := Lib.hid h
  have c2 := h.c2
  obtain ⟨g, off, n, c, q, c0, c1, hqn, hn, hg, _, hq, hq1, x0, x1, _, _⟩ := h.head
  have hqn' : (q : Int) < (n : Int) := by omega
  have hge : ¬ (n : Int) ≤ (q : Int) := by omega
  have hge3 : ¬ n ≤ q := by omega
  have hn' : (n : Int) ≤ 20000 := by omega
  have x1' : w.cell? ⟨g, off + q * 4 + 1, none⟩ = some (.string (bs x.1.w)) := x1
  have hk' : (((x.1.k : Nat) : Int) == 2) = false := by simp; omega
  have t1 : ((bs x.1.w).toList != (bs s).toList) = true := by rw [toList_bs, toList_bs]; simpa using hx
  have t2 : ((bs x.1.w).toList == (bs s).toList) = false := by rw [toList_bs, toList_bs]; simpa using hx
  generalize ((x.1.k : Nat) : Int) = kz at *
  generalize x.1.w = xw at *
  clear h hd hq hq1 hk hx hqn hn
  go_enter Tryz.func26, Tryz.ntmps26
  go_wp2_with fail
  go_quiet (fail)
  go_wp2_with fail
  go_ret
  exact ⟨by rw [HD.out]; rfl, by unfold dWs; rw [if_neg (by rw [HD.out]; decide)]; exact H.out.keep ((Only.refl Nil w).drewN nq), (Only.refl _ w).drewN nq⟩
end Go.Proofs.YtnkokonkbklelaaGreatDoor.Ps
