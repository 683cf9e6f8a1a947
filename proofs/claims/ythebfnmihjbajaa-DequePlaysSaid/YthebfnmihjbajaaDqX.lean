/- The document's examples, done by the deque. -/
import Derived.Test.YthebfnmihjbajaaDqW
namespace Go.Proofs.Ythebfnmihjbajaa.Dq
open Go.RowKit

/-- What a law's walk carries along: a ring of its own, and nothing older has turned. -/
structure Lw (w0 w : World) (rg hb rb b c : Nat) (L : List Int) (t : Int) : Prop where
  rng : Rng w rg hb rb b c L t
  only : Only Nil w0 w
  g1 : w0.heap.size ≤ hb
  g2 : w0.heap.size ≤ rb
  g3 : w0.heap.size ≤ rg
  tt : t < 4611686018427000000
  u : U64s L
/-- An operation of it, at a block of its own. -/
structure Op1 (w0 w : World) (ob rg hb rb : Nat) (s : OS) : Prop where
  op : OpIn w ob rg s
  n1 : ¬ Blk hb rb ob
  n2 : ob ≠ rg
  g : w0.heap.size ≤ ob
  ok : s.ok

section
variable {w0 w w' : World} {ob rg hb rb b c n : Nat} {L L' : List Int} {t : Int} {s s' : OS}
theorem Lw.nil (h : Lw w0 w rg hb rb b c L t) (o : Only Nil w w') : Lw w0 w' rg hb rb b c L t := { h with rng := h.rng.nil o, only := h.only.trans o }
theorem Op1.nil (h : Op1 w0 w ob rg hb rb s) (o : Only Nil w w') : Op1 w0 w' ob rg hb rb s := { h with op := h.op.keep o (fun h => h) }
/-- Another operation's doing leaves it as it is. -/
theorem Op1.other (h : Op1 w0 w ob rg hb rb s) {ob' : Nat} (o : Only (OB hb rb ob') w w') (hne : ob ≠ ob') : Op1 w0 w' ob rg hb rb s := { h with op := h.op.keep o (fun hh => hh.elim h.n1 hne) }
theorem Lw.new (h : Lw w0 w rg hb rb b c L t) (q : OpIn w' w.heap.size rg s) (o : Only Nil w w') (k : s.ok) : Lw w0 w' rg hb rb b c L t ∧ Op1 w0 w' w.heap.size rg hb rb s :=
  ⟨h.nil o, ⟨q, fun hh => by have := h.rng.mem.lt_hb; have := h.rng.mem.lt_rb; rcases hh with e | e <;> omega, by have := h.rng.ring.lt; omega, h.only.size, k⟩⟩
theorem Lw.step (h : Lw w0 w rg hb rb b c L t) (q : Op1 w0 w ob rg hb rb s) (t2 : t + 1 < 4611686018427000000) :
    Calls Try.prog 15 #[.pointer (some ⟨ob, 0, none⟩)] w fun e w' =>
      e = .returned (.bool (stepS b c L s).isO) ∧ Lw w0 w' rg hb rb b c (stepL b c L s) (stepT s t) ∧ Op1 w0 w' ob rg hb rb (stepS b c L s) ∧ Only (OB hb rb ob) w w' := by
  refine (dstep_any s h.rng q.op q.n1 q.n2 q.ok h.u (by omega)).mono ?_
  rintro e w1 ⟨rfl, Q, R, O⟩
  refine ⟨rfl, { h with rng := R, only := h.only.then O ?_, tt := ?_, u := stepL_ok _ _ _ q.ok h.u }, { q with op := Q, ok := stepS_ok _ _ _ q.ok h.u }, O⟩
  · intro i hi hlt
    have := h.g1; have := h.g2; have := q.g
    rcases hi with (e | e) | e <;> omega
  · unfold stepT; split
    · exact h.tt
    · exact t2
theorem Lw.done (h : Lw w0 w rg hb rb b c L t) (q : Op1 w0 w ob rg hb rb s) (hr : Runs b c n L s L' s') (hn : n < 100) (t2 : t + (n : Int) < 4611686018427000000) :
    Calls Try.prog 25 #[.pointer (some ⟨ob, 0, none⟩)] w fun e w' =>
      e = .returned (.tuple #[.int .i64 s'.o, .int .u64 s'.x, .int .i64 (n : Int)]) ∧ Lw w0 w' rg hb rb b c L' (t + (n : Int)) ∧ Op1 w0 w' ob rg hb rb s' ∧ Only (OB hb rb ob) w w' := by
  refine (done_any h.rng q.op q.n1 q.n2 q.ok h.u hr hn (by have := h.tt; omega)).mono ?_
  rintro e w1 ⟨rfl, R, Q, O⟩
  refine ⟨rfl, { h with rng := R, only := h.only.then O ?_, tt := t2, u := (hr.ok q.ok h.u).2 }, { q with op := Q, ok := (hr.ok q.ok h.u).1 }, O⟩
  intro i hi hlt
  have := h.g1; have := h.g2; have := q.g
  rcases hi with (e | e) | e <;> omega
theorem Lw.keep {S : Nat → Prop} (h : Lw w0 w rg hb rb b c L t) (o : Only S w w') (h1 : ¬ S rg) (h2 : ¬ S hb) (h3 : ¬ S rb) (hS : ∀ k, S k → w0.heap.size ≤ k) : Lw w0 w' rg hb rb b c L t :=
  { h with rng := h.rng.keep o h1 h2 h3, only := h.only.then o (fun i hi hlt => by have := hS i hi; omega) }
theorem Op1.keep {S : Nat → Prop} (h : Op1 w0 w ob rg hb rb s) (o : Only S w w') (h1 : ¬ S ob) : Op1 w0 w' ob rg hb rb s := { h with op := h.op.keep o h1 }
theorem Lw.push (h : Lw w0 w rg hb rb b c L t) (v : Int) (hv : In64 v) :
    Calls Try.prog 26 #[.pointer (some ⟨rg, 0, none⟩), .int .u64 v] w fun e w' => e = .returned (.pointer (some ⟨w.heap.size, 0, none⟩)) ∧ Lw w0 w' rg hb rb b c L t ∧ Op1 w0 w' w.heap.size rg hb rb (.push0 v) ∧ Only Nil w w' ∧ w.heap.size < w'.heap.size := by
  refine (dpush_any w rg v).mono ?_
  rintro e w1 ⟨rfl, Q, O, Z⟩
  exact ⟨rfl, (h.new Q O hv).1, (h.new Q O hv).2, O, Z⟩
theorem Lw.pop (h : Lw w0 w rg hb rb b c L t) :
    Calls Try.prog 27 #[.pointer (some ⟨rg, 0, none⟩)] w fun e w' => e = .returned (.pointer (some ⟨w.heap.size, 0, none⟩)) ∧ Lw w0 w' rg hb rb b c L t ∧ Op1 w0 w' w.heap.size rg hb rb (.pop0) ∧ Only Nil w w' ∧ w.heap.size < w'.heap.size := by
  refine (dpop_any w rg).mono ?_
  rintro e w1 ⟨rfl, Q, O, Z⟩
  exact ⟨rfl, (h.new Q O trivial).1, (h.new Q O trivial).2, O, Z⟩
theorem Lw.steal (h : Lw w0 w rg hb rb b c L t) :
    Calls Try.prog 28 #[.pointer (some ⟨rg, 0, none⟩)] w fun e w' => e = .returned (.pointer (some ⟨w.heap.size, 0, none⟩)) ∧ Lw w0 w' rg hb rb b c L t ∧ Op1 w0 w' w.heap.size rg hb rb (.st0) ∧ Only Nil w w' ∧ w.heap.size < w'.heap.size := by
  refine (dsteal_any w rg).mono ?_
  rintro e w1 ⟨rfl, Q, O, Z⟩
  exact ⟨rfl, (h.new Q O trivial).1, (h.new Q O trivial).2, O, Z⟩
end

/-- A fresh deque's cells. -/
def fresh (c : Nat) : List Int := layL (zeros (2 + c)) 0 c
theorem length_fresh (c : Nat) : (fresh c).length = 2 + c := by unfold fresh; rw [layL_length, length_zeros]
theorem layL_ok (L : List Int) (b c : Nat) (h : U64s L) : U64s (layL L b c) := by
  induction c with
  | zero => exact (h.set _ (by decide) (by decide)).set _ (by decide) (by decide)
  | succ k ih => exact ih.set _ (by decide) (by decide)
theorem zeros_ok (n : Nat) : U64s (zeros n) := fun i => by rw [getD_zeros]; decide
theorem fresh_ok (c : Nat) : U64s (fresh c) := layL_ok _ _ _ (zeros_ok _)

/-- A deque that was made over a memory of its own. -/
theorem make_fresh (w0 w1 : World) (c : Nat) (hc : 0 < c) (hc2 : c ≤ 64) (m : MemAt w1 (w0.heap.size + 1) w0.heap.size (zeros (2 + c)) 0) (o1 : Only Nil w0 w1) :
    Calls Try.prog 9 #[.pointer (some ⟨w0.heap.size + 1, 0, none⟩), .int .i64 0, .int .i64 (c : Int)] w1 fun e w2 => ∃ g,
      e = .returned (.tuple #[.pointer (some ⟨g, 0, none⟩), .int .i64 0]) ∧ Lw w0 w2 g (w0.heap.size + 1) w0.heap.size 0 c (fresh c) (2 + (c : Int)) := by
  refine (make_yes (b := 0) m (by omega) (by omega) hc hc2 (by omega) (by rw [length_zeros]; omega) (by rw [length_zeros]; omega)).mono ?_
  rintro e w2 ⟨g, rfl, hg, R, o⟩
  have e : (0 : Int) + 2 + (c : Int) = 2 + (c : Int) := by omega
  rw [e] at R
  refine ⟨g, rfl, ⟨R, o1.then o ?_, by omega, by omega, Nat.le_trans o1.size hg, by omega, fresh_ok c⟩⟩
  intro i hi hlt; rcases hi with e | e <;> omega

set_option maxHeartbeats 1000000 in
theorem made_any (c : Nat) (w : World) (hc : 0 < c) (hc2 : c ≤ 64) :
    Calls Try.prog 24 #[.int .i64 (c : Int)] w fun e w' => ∃ rg, e = .returned (.pointer (some ⟨rg, 0, none⟩)) ∧ Lw w w' rg (w.heap.size + 1) w.heap.size 0 c (fresh c) (2 + (c : Int)) := by
  have nw := Lib.hid (new_any (2 + (c : Int)) w)
  rw [show count (2 + (c : Int)) = 2 + c by unfold count; omega] at nw
  have mk := Lib.hid (fun w1 m o => make_fresh w w1 c hc hc2 m o)
  have g3 : (c : Int) ≤ 64 := by omega
  clear hc hc2
  go_enter Try.func24, Try.ntmps24
  go_wp2_with (first
    | (go_at_call 8; refine (nw.out).mono ?_; rintro e w1 ⟨rfl, m1, o1⟩)
    | (go_at_call 9; refine (mk.out _ m1 o1).mono ?_; rintro e w2 ⟨g, rfl, l2⟩))
  go_ret
  exact ⟨_, rfl, l2⟩

/-- All answers the cells; they are held against a row that the law lays. -/
theorem same_laid (w : World) (b : Nat) (hb : w.heap[b]? = some (.cells (u64s [1, 1, 0, 0]) 37 (0, 0))) :
    Calls Try.prog 19 #[.slice (some ⟨b, 0, none⟩) 4 4, .slice (some ⟨w.heap.size, 0, none⟩) 4 4] (w.alloc (.cells #[.int .u64 1, .int .u64 1, .int .u64 0, .int .u64 0] 37)) fun e w' => e = .returned (.bool true) ∧ Only Nil w w' := by
  refine (same_yes _ b w.heap.size [1, 1, 0, 0] ((Below.heap_alloc _ _ _ (lt_of_block hb)).trans hb) (heap_new w _) (by decide)).mono ?_
  rintro e w' ⟨rfl, o⟩
  exact ⟨rfl, ((Only.refl Nil w).alloc _).trans o⟩
theorem all_four {w : World} {hb rb : Nat} {t : Int} (h : MemAt w hb rb (fresh 2) t) :
    Calls Try.prog 20 #[.pointer (some ⟨hb, 0, none⟩)] w fun e w' =>
      e = .returned (.slice (some ⟨w.heap.size, 0, none⟩) 4 4) ∧ w'.heap[w.heap.size]? = some (.cells (u64s [1, 1, 0, 0]) 37 (0, 0)) ∧ w.heap.size < w'.heap.size ∧ Only Nil w w' := all_any h (by decide)
theorem al_run0 : Runs 0 2 4 (fresh 2) (.push0 7) [1, 2, 0, 7] (.over 1 0) := by
  refine Runs.step rfl ?_
  refine Runs.step rfl ?_
  refine Runs.step rfl ?_
  refine Runs.step rfl ?_
  exact Runs.over rfl
theorem al_run1 : Runs 0 2 4 [1, 2, 0, 7] (.push0 8) [1, 3, 8, 7] (.over 1 0) := by
  refine Runs.step rfl ?_
  refine Runs.step rfl ?_
  refine Runs.step rfl ?_
  refine Runs.step rfl ?_
  exact Runs.over rfl
theorem al_run2 : Runs 0 2 2 [1, 3, 8, 7] (.push0 9) [1, 3, 8, 7] (.over 2 0) := by
  refine Runs.step rfl ?_
  refine Runs.step rfl ?_
  exact Runs.over rfl
theorem al_run3 : Runs 0 2 4 [1, 3, 8, 7] (.st0) [2, 3, 8, 7] (.over 1 7) := by
  refine Runs.step rfl ?_
  refine Runs.step rfl ?_
  refine Runs.step rfl ?_
  refine Runs.step rfl ?_
  exact Runs.over rfl
theorem al_run4 : Runs 0 2 4 [2, 3, 8, 7] (.push0 9) [2, 4, 8, 9] (.over 1 0) := by
  refine Runs.step rfl ?_
  refine Runs.step rfl ?_
  refine Runs.step rfl ?_
  refine Runs.step rfl ?_
  exact Runs.over rfl
theorem al_run5 : Runs 0 2 4 [2, 4, 8, 9] (.pop0) [2, 3, 8, 9] (.over 1 9) := by
  refine Runs.step rfl ?_
  refine Runs.step rfl ?_
  refine Runs.step rfl ?_
  refine Runs.step rfl ?_
  exact Runs.over rfl
theorem al_run6 : Runs 0 2 6 [2, 3, 8, 9] (.pop0) [3, 3, 8, 9] (.over 1 8) := by
  refine Runs.step rfl ?_
  refine Runs.step rfl ?_
  refine Runs.step rfl ?_
  refine Runs.step rfl ?_
  refine Runs.step rfl ?_
  refine Runs.step rfl ?_
  exact Runs.over rfl
theorem al_run7 : Runs 0 2 4 [3, 3, 8, 9] (.pop0) [3, 3, 8, 9] (.over 4 0) := by
  refine Runs.step rfl ?_
  refine Runs.step rfl ?_
  refine Runs.step rfl ?_
  refine Runs.step rfl ?_
  exact Runs.over rfl
theorem al_run8 : Runs 0 2 2 [3, 3, 8, 9] (.st0) [3, 3, 8, 9] (.over 4 0) := by
  refine Runs.step rfl ?_
  refine Runs.step rfl ?_
  exact Runs.over rfl

set_option maxRecDepth 100000 in
set_option maxHeartbeats 8000000 in
theorem alive_any (w : World) : Calls Try.prog 7 #[] w fun e w' => e = .returned (.bool true) ∧ Only Nil w w' := by
  have nw := Lib.hid (new_any 4 w)
  have mk := Lib.hid (fun w1 m o => make_fresh w w1 2 (by decide) (by decide) m o)
  simp only [show (2 : Int) + ((2 : Nat) : Int) = 4 from rfl] at mk
  simp only [show ((2 : Nat) : Int) = 2 from rfl] at mk
  have al := Lib.hid (fun (w2 : World) (hb rb : Nat) (t : Int) (h : MemAt w2 hb rb (fresh 2) t) => all_four h)
  have sm := Lib.hid same_laid
  have p0 := Lib.hid (fun (w1 : World) (rg hb rb : Nat) (h : Lw w w1 rg hb rb 0 2 (fresh 2) (4 : Int)) => h.push 7 (by unfold In64; decide))
  have d0 := Lib.hid (fun (w1 : World) (ob rg hb rb : Nat) (h : Lw w w1 rg hb rb 0 2 (fresh 2) (4 : Int)) (q : Op1 w w1 ob rg hb rb (.push0 7)) => (h.done q al_run0 (by decide) (by decide)).mono (R' := fun e w' => e = .returned (.tuple #[.int .i64 1, .int .u64 0, .int .i64 4]) ∧ Lw w w' rg hb rb 0 2 [1, 2, 0, 7] 8) (fun e w' hh => ⟨hh.1, hh.2.1⟩))
  have p1 := Lib.hid (fun (w1 : World) (rg hb rb : Nat) (h : Lw w w1 rg hb rb 0 2 [1, 2, 0, 7] (8 : Int)) => h.push 8 (by unfold In64; decide))
  have d1 := Lib.hid (fun (w1 : World) (ob rg hb rb : Nat) (h : Lw w w1 rg hb rb 0 2 [1, 2, 0, 7] (8 : Int)) (q : Op1 w w1 ob rg hb rb (.push0 8)) => (h.done q al_run1 (by decide) (by decide)).mono (R' := fun e w' => e = .returned (.tuple #[.int .i64 1, .int .u64 0, .int .i64 4]) ∧ Lw w w' rg hb rb 0 2 [1, 3, 8, 7] 12) (fun e w' hh => ⟨hh.1, hh.2.1⟩))
  have p2 := Lib.hid (fun (w1 : World) (rg hb rb : Nat) (h : Lw w w1 rg hb rb 0 2 [1, 3, 8, 7] (12 : Int)) => h.push 9 (by unfold In64; decide))
  have d2 := Lib.hid (fun (w1 : World) (ob rg hb rb : Nat) (h : Lw w w1 rg hb rb 0 2 [1, 3, 8, 7] (12 : Int)) (q : Op1 w w1 ob rg hb rb (.push0 9)) => (h.done q al_run2 (by decide) (by decide)).mono (R' := fun e w' => e = .returned (.tuple #[.int .i64 2, .int .u64 0, .int .i64 2]) ∧ Lw w w' rg hb rb 0 2 [1, 3, 8, 7] 14) (fun e w' hh => ⟨hh.1, hh.2.1⟩))
  have p3 := Lib.hid (fun (w1 : World) (rg hb rb : Nat) (h : Lw w w1 rg hb rb 0 2 [1, 3, 8, 7] (14 : Int)) => h.steal)
  have d3 := Lib.hid (fun (w1 : World) (ob rg hb rb : Nat) (h : Lw w w1 rg hb rb 0 2 [1, 3, 8, 7] (14 : Int)) (q : Op1 w w1 ob rg hb rb (.st0)) => (h.done q al_run3 (by decide) (by decide)).mono (R' := fun e w' => e = .returned (.tuple #[.int .i64 1, .int .u64 7, .int .i64 4]) ∧ Lw w w' rg hb rb 0 2 [2, 3, 8, 7] 18) (fun e w' hh => ⟨hh.1, hh.2.1⟩))
  have p4 := Lib.hid (fun (w1 : World) (rg hb rb : Nat) (h : Lw w w1 rg hb rb 0 2 [2, 3, 8, 7] (18 : Int)) => h.push 9 (by unfold In64; decide))
  have d4 := Lib.hid (fun (w1 : World) (ob rg hb rb : Nat) (h : Lw w w1 rg hb rb 0 2 [2, 3, 8, 7] (18 : Int)) (q : Op1 w w1 ob rg hb rb (.push0 9)) => (h.done q al_run4 (by decide) (by decide)).mono (R' := fun e w' => e = .returned (.tuple #[.int .i64 1, .int .u64 0, .int .i64 4]) ∧ Lw w w' rg hb rb 0 2 [2, 4, 8, 9] 22) (fun e w' hh => ⟨hh.1, hh.2.1⟩))
  have p5 := Lib.hid (fun (w1 : World) (rg hb rb : Nat) (h : Lw w w1 rg hb rb 0 2 [2, 4, 8, 9] (22 : Int)) => h.pop)
  have d5 := Lib.hid (fun (w1 : World) (ob rg hb rb : Nat) (h : Lw w w1 rg hb rb 0 2 [2, 4, 8, 9] (22 : Int)) (q : Op1 w w1 ob rg hb rb (.pop0)) => (h.done q al_run5 (by decide) (by decide)).mono (R' := fun e w' => e = .returned (.tuple #[.int .i64 1, .int .u64 9, .int .i64 4]) ∧ Lw w w' rg hb rb 0 2 [2, 3, 8, 9] 26) (fun e w' hh => ⟨hh.1, hh.2.1⟩))
  have p6 := Lib.hid (fun (w1 : World) (rg hb rb : Nat) (h : Lw w w1 rg hb rb 0 2 [2, 3, 8, 9] (26 : Int)) => h.pop)
  have d6 := Lib.hid (fun (w1 : World) (ob rg hb rb : Nat) (h : Lw w w1 rg hb rb 0 2 [2, 3, 8, 9] (26 : Int)) (q : Op1 w w1 ob rg hb rb (.pop0)) => (h.done q al_run6 (by decide) (by decide)).mono (R' := fun e w' => e = .returned (.tuple #[.int .i64 1, .int .u64 8, .int .i64 6]) ∧ Lw w w' rg hb rb 0 2 [3, 3, 8, 9] 32) (fun e w' hh => ⟨hh.1, hh.2.1⟩))
  have p7 := Lib.hid (fun (w1 : World) (rg hb rb : Nat) (h : Lw w w1 rg hb rb 0 2 [3, 3, 8, 9] (32 : Int)) => h.pop)
  have d7 := Lib.hid (fun (w1 : World) (ob rg hb rb : Nat) (h : Lw w w1 rg hb rb 0 2 [3, 3, 8, 9] (32 : Int)) (q : Op1 w w1 ob rg hb rb (.pop0)) => (h.done q al_run7 (by decide) (by decide)).mono (R' := fun e w' => e = .returned (.tuple #[.int .i64 4, .int .u64 0, .int .i64 4]) ∧ Lw w w' rg hb rb 0 2 [3, 3, 8, 9] 36) (fun e w' hh => ⟨hh.1, hh.2.1⟩))
  have p8 := Lib.hid (fun (w1 : World) (rg hb rb : Nat) (h : Lw w w1 rg hb rb 0 2 [3, 3, 8, 9] (36 : Int)) => h.steal)
  have d8 := Lib.hid (fun (w1 : World) (ob rg hb rb : Nat) (h : Lw w w1 rg hb rb 0 2 [3, 3, 8, 9] (36 : Int)) (q : Op1 w w1 ob rg hb rb (.st0)) => (h.done q al_run8 (by decide) (by decide)).mono (R' := fun e w' => e = .returned (.tuple #[.int .i64 4, .int .u64 0, .int .i64 2]) ∧ Lw w w' rg hb rb 0 2 [3, 3, 8, 9] 38) (fun e w' hh => ⟨hh.1, hh.2.1⟩))
  go_enter Try.func7, Try.ntmps7
  go_wp2_with (first
    | (go_at_call 8; refine (nw.out).mono ?_; rintro e w1 ⟨rfl, m1, o1⟩)
    | (go_at_call 9; refine (mk.out _ m1 o1).mono ?_; rintro e w2 ⟨g, rfl, l2⟩)
    | (go_at_call 20; (with_reducible refine (al.out _ _ _ _ l2.rng.mem).mono ?_); rintro e w3 ⟨rfl, h3, z3, o3⟩; have l3 := l2.nil o3)
    | (go_at_call 19; refine (sm.out _ _ h3).mono ?_; rintro e x0 ⟨rfl, o4⟩; have h0 := l3.nil o4)
    | (go_at_call 26; (with_reducible refine (p0.out _ _ _ _ h0).mono ?_); rintro e y0 ⟨rfl, j0, q0, _, _⟩)
    | (go_at_call 25; (with_reducible refine (d0.out _ _ _ _ _ j0 q0).mono ?_); rintro e x1 ⟨rfl, h1⟩)
    | (go_at_call 26; (with_reducible refine (p1.out _ _ _ _ h1).mono ?_); rintro e y1 ⟨rfl, j1, q1, _, _⟩)
    | (go_at_call 25; (with_reducible refine (d1.out _ _ _ _ _ j1 q1).mono ?_); rintro e x2 ⟨rfl, h2⟩)
    | (go_at_call 26; (with_reducible refine (p2.out _ _ _ _ h2).mono ?_); rintro e y2 ⟨rfl, j2, q2, _, _⟩)
    | (go_at_call 25; (with_reducible refine (d2.out _ _ _ _ _ j2 q2).mono ?_); rintro e x3 ⟨rfl, h3⟩)
    | (go_at_call 28; (with_reducible refine (p3.out _ _ _ _ h3).mono ?_); rintro e y3 ⟨rfl, j3, q3, _, _⟩)
    | (go_at_call 25; (with_reducible refine (d3.out _ _ _ _ _ j3 q3).mono ?_); rintro e x4 ⟨rfl, h4⟩)
    | (go_at_call 26; (with_reducible refine (p4.out _ _ _ _ h4).mono ?_); rintro e y4 ⟨rfl, j4, q4, _, _⟩)
    | (go_at_call 25; (with_reducible refine (d4.out _ _ _ _ _ j4 q4).mono ?_); rintro e x5 ⟨rfl, h5⟩)
    | (go_at_call 27; (with_reducible refine (p5.out _ _ _ _ h5).mono ?_); rintro e y5 ⟨rfl, j5, q5, _, _⟩)
    | (go_at_call 25; (with_reducible refine (d5.out _ _ _ _ _ j5 q5).mono ?_); rintro e x6 ⟨rfl, h6⟩)
    | (go_at_call 27; (with_reducible refine (p6.out _ _ _ _ h6).mono ?_); rintro e y6 ⟨rfl, j6, q6, _, _⟩)
    | (go_at_call 25; (with_reducible refine (d6.out _ _ _ _ _ j6 q6).mono ?_); rintro e x7 ⟨rfl, h7⟩)
    | (go_at_call 27; (with_reducible refine (p7.out _ _ _ _ h7).mono ?_); rintro e y7 ⟨rfl, j7, q7, _, _⟩)
    | (go_at_call 25; (with_reducible refine (d7.out _ _ _ _ _ j7 q7).mono ?_); rintro e x8 ⟨rfl, h8⟩)
    | (go_at_call 28; (with_reducible refine (p8.out _ _ _ _ h8).mono ?_); rintro e y8 ⟨rfl, j8, q8, _, _⟩)
    | (go_at_call 25; (with_reducible refine (d8.out _ _ _ _ _ j8 q8).mono ?_); rintro e x9 ⟨rfl, h9⟩))
  go_ret
  exact ⟨rfl, h9.only⟩
end Go.Proofs.Ythebfnmihjbajaa.Dq
