/- parse, the document's reader: word (a number). -/
import Derived.Test.YtnkokonkbklelaaGreatDoorPpB
set_option linter.unusedSimpArgs false
set_option linter.unusedVariables false
namespace Go.Proofs.YtnkokonkbklelaaGreatDoor.Ps
open Go.RowKit Go.Proofs.YtnkokonkbklelaaGreatDoor Lx

set_option maxRecDepth 100000 in
set_option maxHeartbeats 40000000 in
theorem word_num {w : World} {R : Nat} {X r : Tks} {x : Tok × Nat} (h : Tx w R X (false, x :: r)) (s : Wd) (hd : dW s (false, x :: r) = false) (hk : x.1.k = 2) :
    Calls Tryz.prog 26 #[.pointer (some ⟨R, 0, none⟩), .string (bs s)] w (WordP w R X s (false, x :: r)) := by
  have HD := Lib.hid hd
  have H := Lib.hid h
  have c2 := h.c2
  obtain ⟨g, off, n, c, q, c0, c1, hqn, hn, hg, _, hq, hq1, x0, x1, _, _⟩ := h.head
  have hqn' : (q : Int) < (n : Int) := by omega
  have hge : ¬ (n : Int) ≤ (q : Int) := by omega
  have hge3 : ¬ n ≤ q := by omega
  have hn' : (n : Int) ≤ 20000 := by omega
  rw [hk] at x0
  have x0' : w.cell? ⟨g, off + q * 4, none⟩ = some (.int .i64 2) := x0
  clear h hd hq hq1 hk x0 x1 hqn hn
  go_enter Tryz.func26, Tryz.ntmps26
  go_wp2_with fail
  go_quiet (fail)
  go_wp2_with fail
  go_ret
  exact ⟨by rw [HD.out]; rfl, by unfold dWs; rw [if_neg (by rw [HD.out]; decide)]; exact H.out.keep ((Only.refl Nil w).drewN nq), (Only.refl _ w).drewN nq⟩
end Go.Proofs.YtnkokonkbklelaaGreatDoor.Ps
