/- parse, the document's reader: word (this one). -/
import Derived.Test.YtnkokonkbklelaaGreatDoorPpB
set_option linter.unusedSimpArgs false
set_option linter.unusedVariables false
namespace Go.Proofs.YtnkokonkbklelaaGreatDoor.Ps
open Go.RowKit Go.Proofs.YtnkokonkbklelaaGreatDoor Lx

set_option maxRecDepth 100000 in
set_option maxHeartbeats 40000000 in
theorem word_yes {w : World} {R : Nat} {X r : Tks} {x : Tok × Nat} (h : Tx w R X (false, x :: r)) (s : Wd) (hd : dW s (false, x :: r) = true) (hk : x.1.k ≠ 2) :
    Calls Tryz.prog 26 #[.pointer (some ⟨R, 0, none⟩), .string (bs s)] w (WordP w R X s (false, x :: r)) := by
  have HD := Lib.hid hd
  have hx : x.1.w = s := (dW_yes hd).2
  have H := Lib.hid h
  have c2 := h.c2
  obtain ⟨g, off, n, c, q, c0, c1, hqn, hn, hg, _, hq, hq1, x0, x1, _, _⟩ := h.head
  have hqn' : (q : Int) < (n : Int) := by omega
  have hge : ¬ (n : Int) ≤ (q : Int) := by omega
  have hge3 : ¬ n ≤ q := by omega
  have hn' : (n : Int) ≤ 20000 := by omega
  have x1' : w.cell? ⟨g, off + q * 4 + 1, none⟩ = some (.string (bs x.1.w)) := x1
  have f1 := h.f 1
  have hk' : (((x.1.k : Nat) : Int) == 2) = false := by simp; omega
  have t1 : ((bs x.1.w).toList != (bs s).toList) = false := by rw [hx]; simp
  have t2 : ((bs x.1.w).toList == (bs s).toList) = true := by rw [hx]; simp
  have hfin := Lib.hid (fun (m : Nat) => show Tx ((w.drewN m).setCell ⟨R, 1, none⟩ (.int .i64 ((q : Int) + 1))) R X (false, r) ∧ Only (At R) w ((w.drewN m).setCell ⟨R, 1, none⟩ (.int .i64 ((q : Int) + 1))) from by
    have h1 := (H.out.keep ((Only.refl Nil w).drewN m)).set1 h.tail
    rw [hq1] at h1
    exact ⟨by simpa using h1, ((Only.refl (At R) w).drewN m).trans (at_only _ R 1 _)⟩)
  generalize ((x.1.k : Nat) : Int) = kz at *
  generalize x.1.w = xw at *
  clear h hd hq hq1 hk hx hqn hn
  go_enter Tryz.func26, Tryz.ntmps26
  go_wp2_with fail
  go_quiet (fail)
  have d1 : (w.drewN nq).cell? ⟨R, 1, none⟩ = some (.int .i64 (q : Nat)) := c1
  have d2 : (w.drewN nq).frozen? ⟨R, 1, none⟩ = false := f1
  go_wp2_with fail
  go_ret
  exact ⟨by rw [HD.out]; rfl, by unfold dWs; rw [if_pos HD.out]; exact (hfin.out nq).1, (hfin.out nq).2⟩
end Go.Proofs.YtnkokonkbklelaaGreatDoor.Ps
