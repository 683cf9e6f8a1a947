/- The document's examples, done by the bell; a bell of whom some sleep. -/
import Derived.Test.YtfhbgabblegecaaBlW
import Derived.Test.YtfhbgabblegecaaRowBo
namespace Go.Proofs.Ytfhbgabblegecaa.Bl
open Go.RowKit

theorem set_zeros' (n i : Nat) : (zeros n).set i 0 = zeros n := by
  apply List.ext_getElem
  · simp
  · intro k h1 h2
    rw [List.getElem_set]
    split
    · simp [zeros]
    · rfl
theorem layL_zeros' (n b k : Nat) : layL (zeros n) b k = zeros n := by
  induction k with
  | zero => rfl
  | succ k ih => simp only [layL, ih, set_zeros']
/-- A bell that was made over a memory of its own, of m cells. -/
theorem make_fresh (w0 w1 : World) (n m : Nat) (hn : 0 < n) (hn2 : n ≤ 8) (hm1 : n ≤ m) (hm2 : m ≤ 1000) (mm : MemAt w1 (w0.heap.size + 1) w0.heap.size (zeros m) 0) (o1 : Only Nil w0 w1) :
    Calls Try.prog 15 #[.pointer (some ⟨w0.heap.size + 1, 0, none⟩), .int .i64 0, .int .i64 (n : Int)] w1 fun e w2 => ∃ g,
      e = .returned (.tuple #[.pointer (some ⟨g, 0, none⟩), .int .i64 0]) ∧ Lw w0 w2 g (w0.heap.size + 1) w0.heap.size 0 n (zeros m) (n : Int) := by
  refine (make_yes (b := 0) mm (by omega) (by omega) hn hn2 (by omega) (by rw [length_zeros]; omega) (by rw [length_zeros]; omega)).mono ?_
  rintro e w2 ⟨g, rfl, hg, R, o⟩
  rw [layL_zeros'] at R
  refine ⟨g, rfl, ⟨by simpa using R, o1.then o ?_, by omega, by omega, Nat.le_trans o1.size hg, by omega⟩⟩
  intro i hi hlt; rcases hi with e | e <;> omega

theorem bgn_in (k : Kd) (n v x : Nat) (h : v < n) : bgn k n (v : Int) x = .one k v x (x + 1) := if_pos ⟨by omega, by omega⟩
theorem al_ring0 : Runs 0 2 2 [0, 0] (.look 0) [0, 0] (.over 4 (-1)) := by
  refine Runs.step rfl ?_
  refine Runs.step rfl ?_
  exact Runs.over rfl
theorem al_sleep (x : Nat) : Runs 0 2 1 [0, 0] (bgn .sleep 2 1 x) [0, 1] (.over 1 (-1)) := by
  rw [show bgn .sleep 2 1 x = _ from bgn_in .sleep 2 1 x (by decide)]
  refine Runs.step rfl ?_
  exact Runs.over rfl
theorem al_poll1 (x : Nat) : Runs 0 2 1 [0, 1] (bgn .poll 2 1 x) [0, 1] (.over 4 (-1)) := by
  rw [show bgn .poll 2 1 x = _ from bgn_in .poll 2 1 x (by decide)]
  refine Runs.step rfl ?_
  exact Runs.over rfl
theorem al_ring1 : Runs 0 2 3 [0, 1] (.look 0) [0, 0] (.over 7 1) := by
  refine Runs.step rfl ?_
  refine Runs.step rfl ?_
  refine Runs.step rfl ?_
  exact Runs.over rfl
theorem al_poll2 (x : Nat) : Runs 0 2 1 [0, 0] (bgn .poll 2 1 x) [0, 0] (.over 1 (-1)) := by
  rw [show bgn .poll 2 1 x = _ from bgn_in .poll 2 1 x (by decide)]
  refine Runs.step rfl ?_
  exact Runs.over rfl
theorem al_none (x : Nat) : Runs 0 2 0 [0, 0] (bgn .sleep 2 5 x) [0, 0] (.over 4 (-1)) := by
  rw [show bgn .sleep 2 5 x = .over 4 (-1) from if_neg (by decide)]
  exact Runs.over rfl

set_option maxRecDepth 100000 in
set_option maxHeartbeats 8000000 in
theorem alive_any (w : World) : Calls Try.prog 13 #[] w fun e w' => e = .returned (.bool true) ∧ Only Nil w w' := by
  have nw := Lib.hid (new_any 2 w)
  rw [show count 2 = 2 by decide] at nw
  have mk := Lib.hid (fun w1 m o => make_fresh w w1 2 2 (by decide) (by decide) (by decide) (by decide) m o)
  simp only [show ((2 : Nat) : Int) = 2 from rfl] at mk
  have p0 := Lib.hid (fun (w1 : World) (rg hb rb : Nat) (h : Lw w w1 rg hb rb 0 2 (zeros 2) (2 : Int)) => h.ring)
  have d0 := Lib.hid (fun (w1 : World) (ob rg hb rb : Nat) (h : Lw w w1 rg hb rb 0 2 (zeros 2) (2 : Int)) (q : Op1 w w1 ob rg hb rb 2 (.look 0)) => (h.done q al_ring0 (by decide) (by decide)).mono (R' := fun e w' => e = .returned (.tuple #[.int .i64 4, .int .i64 (-1), .int .i64 2]) ∧ Lw w w' rg hb rb 0 2 [0, 0] 4) (fun e w' hh => ⟨hh.1, hh.2.1⟩))
  have p1 := Lib.hid (fun (w1 : World) (rg hb rb : Nat) (h : Lw w w1 rg hb rb 0 2 [0, 0] (4 : Int)) => h.sleep 1)
  have d1 := Lib.hid (fun (w1 : World) (x ob rg hb rb : Nat) (h : Lw w w1 rg hb rb 0 2 [0, 0] (4 : Int)) (q : Op1 w w1 ob rg hb rb 2 (bgn .sleep 2 1 x)) => (h.done q (al_sleep x) (by decide) (by decide)).mono (R' := fun e w' => e = .returned (.tuple #[.int .i64 1, .int .i64 (-1), .int .i64 1]) ∧ Lw w w' rg hb rb 0 2 [0, 1] 5) (fun e w' hh => ⟨hh.1, hh.2.1⟩))
  have p2 := Lib.hid (fun (w1 : World) (rg hb rb : Nat) (h : Lw w w1 rg hb rb 0 2 [0, 1] (5 : Int)) => h.poll 1)
  have d2 := Lib.hid (fun (w1 : World) (x ob rg hb rb : Nat) (h : Lw w w1 rg hb rb 0 2 [0, 1] (5 : Int)) (q : Op1 w w1 ob rg hb rb 2 (bgn .poll 2 1 x)) => (h.done q (al_poll1 x) (by decide) (by decide)).mono (R' := fun e w' => e = .returned (.tuple #[.int .i64 4, .int .i64 (-1), .int .i64 1]) ∧ Lw w w' rg hb rb 0 2 [0, 1] 6) (fun e w' hh => ⟨hh.1, hh.2.1⟩))
  have p3 := Lib.hid (fun (w1 : World) (rg hb rb : Nat) (h : Lw w w1 rg hb rb 0 2 [0, 1] (6 : Int)) => h.ring)
  have d3 := Lib.hid (fun (w1 : World) (ob rg hb rb : Nat) (h : Lw w w1 rg hb rb 0 2 [0, 1] (6 : Int)) (q : Op1 w w1 ob rg hb rb 2 (.look 0)) => (h.done q al_ring1 (by decide) (by decide)).mono (R' := fun e w' => e = .returned (.tuple #[.int .i64 7, .int .i64 1, .int .i64 3]) ∧ Lw w w' rg hb rb 0 2 [0, 0] 9) (fun e w' hh => ⟨hh.1, hh.2.1⟩))
  have p4 := Lib.hid (fun (w1 : World) (rg hb rb : Nat) (h : Lw w w1 rg hb rb 0 2 [0, 0] (9 : Int)) => h.poll 1)
  have d4 := Lib.hid (fun (w1 : World) (x ob rg hb rb : Nat) (h : Lw w w1 rg hb rb 0 2 [0, 0] (9 : Int)) (q : Op1 w w1 ob rg hb rb 2 (bgn .poll 2 1 x)) => (h.done q (al_poll2 x) (by decide) (by decide)).mono (R' := fun e w' => e = .returned (.tuple #[.int .i64 1, .int .i64 (-1), .int .i64 1]) ∧ Lw w w' rg hb rb 0 2 [0, 0] 10) (fun e w' hh => ⟨hh.1, hh.2.1⟩))
  have p5 := Lib.hid (fun (w1 : World) (rg hb rb : Nat) (h : Lw w w1 rg hb rb 0 2 [0, 0] (10 : Int)) => h.sleep 5)
  have d5 := Lib.hid (fun (w1 : World) (x ob rg hb rb : Nat) (h : Lw w w1 rg hb rb 0 2 [0, 0] (10 : Int)) (q : Op1 w w1 ob rg hb rb 2 (bgn .sleep 2 5 x)) => (h.done q (al_none x) (by decide) (by decide)).mono (R' := fun e w' => e = .returned (.tuple #[.int .i64 4, .int .i64 (-1), .int .i64 0]) ∧ Lw w w' rg hb rb 0 2 [0, 0] 10) (fun e w' hh => ⟨hh.1, hh.2.1⟩))
  go_enter Try.func13, Try.ntmps13
  go_wp2_with (first
    | (go_at_call 14; refine (nw.out).mono ?_; rintro e w1 ⟨rfl, m1, o1⟩)
    | (go_at_call 15; refine (mk.out _ m1 o1).mono ?_; rintro e w2 ⟨g, rfl, h0⟩)
    | (go_at_call 31; (with_reducible refine (p0.out _ _ _ _ h0).mono ?_); rintro e y0 ⟨rfl, j0, q0, _, _⟩)
    | (go_at_call 36; (with_reducible refine (d0.out _ _ _ _ _ j0 q0).mono ?_); rintro e x1 ⟨rfl, h1⟩)
    | (go_at_call 34; (with_reducible refine (p1.out _ _ _ _ h1).mono ?_); rintro e y1 ⟨rfl, j1, q1, _, _⟩)
    | (go_at_call 36; (with_reducible refine (d1.out _ _ _ _ _ _ j1 q1).mono ?_); rintro e x2 ⟨rfl, h2⟩)
    | (go_at_call 37; (with_reducible refine (p2.out _ _ _ _ h2).mono ?_); rintro e y2 ⟨rfl, j2, q2, _, _⟩)
    | (go_at_call 36; (with_reducible refine (d2.out _ _ _ _ _ _ j2 q2).mono ?_); rintro e x3 ⟨rfl, h3⟩)
    | (go_at_call 31; (with_reducible refine (p3.out _ _ _ _ h3).mono ?_); rintro e y3 ⟨rfl, j3, q3, _, _⟩)
    | (go_at_call 36; (with_reducible refine (d3.out _ _ _ _ _ j3 q3).mono ?_); rintro e x4 ⟨rfl, h4⟩)
    | (go_at_call 37; (with_reducible refine (p4.out _ _ _ _ h4).mono ?_); rintro e y4 ⟨rfl, j4, q4, _, _⟩)
    | (go_at_call 36; (with_reducible refine (d4.out _ _ _ _ _ _ j4 q4).mono ?_); rintro e x5 ⟨rfl, h5⟩)
    | (go_at_call 34; (with_reducible refine (p5.out _ _ _ _ h5).mono ?_); rintro e y5 ⟨rfl, j5, q5, _, _⟩)
    | (go_at_call 36; (with_reducible refine (d5.out _ _ _ _ _ _ j5 q5).mono ?_); rintro e x6 ⟨rfl, h6⟩))
  go_ret
  exact ⟨rfl, h6.only⟩
end Go.Proofs.Ytfhbgabblegecaa.Bl
