/- The document's examples, done by the ring. -/
import Derived.Test.YtpnpbgcndlfobaaRingW
namespace Go.Proofs.Ytpnpbgcndlfobaa
open Go.RowKit

/-- What a law's walk carries along: a ring of its own, and nothing older has turned. -/
structure Lw (w0 w : World) (rg hb rb b c : Nat) (L : List Int) (t : Int) : Prop where
  rng : Rng w rg hb rb b c L t
  only : Only Nil w0 w
  g1 : w0.heap.size ≤ hb
  g2 : w0.heap.size ≤ rb
  g3 : w0.heap.size ≤ rg
  tt : t < 4611686018427000000
/-- An operation of it, at a block of its own. -/
structure Op1 (w0 w : World) (ob rg hb rb : Nat) (s : OS) : Prop where
  op : OpIn w ob rg s
  n1 : ¬ Blk hb rb ob
  n2 : ob ≠ rg
  g : w0.heap.size ≤ ob
  tk : s.tk

section
variable {w0 w w' : World} {ob rg hb rb b c n : Nat} {L L' : List Int} {t : Int} {s s' : OS}
theorem Lw.nil (h : Lw w0 w rg hb rb b c L t) (o : Only Nil w w') : Lw w0 w' rg hb rb b c L t := { h with rng := h.rng.nil o, only := h.only.trans o }
theorem Op1.nil (h : Op1 w0 w ob rg hb rb s) (o : Only Nil w w') : Op1 w0 w' ob rg hb rb s := { h with op := h.op.keep o (fun h => h) }
/-- Another operation's doing leaves it as it is. -/
theorem Op1.other (h : Op1 w0 w ob rg hb rb s) {ob' : Nat} (o : Only (OB hb rb ob') w w') (hne : ob ≠ ob') : Op1 w0 w' ob rg hb rb s := { h with op := h.op.keep o (fun hh => hh.elim h.n1 hne) }
theorem Lw.new (h : Lw w0 w rg hb rb b c L t) (q : OpIn w' w.heap.size rg s) (o : Only Nil w w') (k : s.tk) : Lw w0 w' rg hb rb b c L t ∧ Op1 w0 w' w.heap.size rg hb rb s :=
  ⟨h.nil o, ⟨q, fun hh => by have := h.rng.mem.lt_hb; have := h.rng.mem.lt_rb; rcases hh with e | e <;> omega, by have := h.rng.ring.lt; omega, h.only.size, k⟩⟩
theorem Lw.step (h : Lw w0 w rg hb rb b c L t) (q : Op1 w0 w ob rg hb rb s) (hn : Nums b L) (t2 : t + 1 < 4611686018427000000) :
    Calls Try.prog 18 #[.pointer (some ⟨ob, 0, none⟩)] w fun e w' =>
      e = .returned (.bool (stepS b c L s).isO) ∧ Lw w0 w' rg hb rb b c (stepL b c L s) (stepT s t) ∧ Op1 w0 w' ob rg hb rb (stepS b c L s) ∧ Only (OB hb rb ob) w w' := by
  refine (dstep_any s h.rng q.op q.n1 q.n2 q.tk hn (by omega)).mono ?_
  rintro e w1 ⟨rfl, Q, R, O⟩
  refine ⟨rfl, { h with rng := R, only := h.only.next O ?_, tt := ?_ }, { q with op := Q, tk := stepS_tk _ _ _ _ q.tk hn }, O⟩
  · intro i hi hlt
    have := h.g1; have := h.g2; have := q.g
    rcases hi with (e | e) | e <;> omega
  · unfold stepT; split
    · exact h.tt
    · exact t2
theorem Lw.done (h : Lw w0 w rg hb rb b c L t) (q : Op1 w0 w ob rg hb rb s) (hr : Runs b c n L s L' s') (hn : n < 100) (t2 : t + (n : Int) < 4611686018427000000) :
    Calls Try.prog 28 #[.pointer (some ⟨ob, 0, none⟩)] w fun e w' =>
      e = .returned (.tuple #[.int .i64 s'.o, .int .u64 s'.x, .int .i64 (n : Int)]) ∧ Lw w0 w' rg hb rb b c L' (t + (n : Int)) ∧ Op1 w0 w' ob rg hb rb s' ∧ Only (OB hb rb ob) w w' := by
  refine (done_any h.rng q.op q.n1 q.n2 q.tk hr hn (by have := h.tt; omega)).mono ?_
  rintro e w1 ⟨rfl, R, Q, O⟩
  refine ⟨rfl, { h with rng := R, only := h.only.next O ?_, tt := t2 }, { q with op := Q, tk := hr.tk q.tk }, O⟩
  intro i hi hlt
  have := h.g1; have := h.g2; have := q.g
  rcases hi with (e | e) | e <;> omega
theorem Lw.put (h : Lw w0 w rg hb rb b c L t) (v : Int) :
    Calls Try.prog 29 #[.pointer (some ⟨rg, 0, none⟩), .int .u64 v] w fun e w' => e = .returned (.pointer (some ⟨w.heap.size, 0, none⟩)) ∧ Lw w0 w' rg hb rb b c L t ∧ Op1 w0 w' w.heap.size rg hb rb (.put0 v) ∧ Only Nil w w' ∧ w.heap.size < w'.heap.size := by
  refine (dput_any w rg v).mono ?_
  rintro e w1 ⟨rfl, Q, O, Z⟩
  exact ⟨rfl, (h.new Q O trivial).1, (h.new Q O trivial).2, O, Z⟩
theorem Lw.take (h : Lw w0 w rg hb rb b c L t) :
    Calls Try.prog 33 #[.pointer (some ⟨rg, 0, none⟩)] w fun e w' => e = .returned (.pointer (some ⟨w.heap.size, 0, none⟩)) ∧ Lw w0 w' rg hb rb b c L t ∧ Op1 w0 w' w.heap.size rg hb rb .take0 ∧ Only Nil w w' ∧ w.heap.size < w'.heap.size := by
  refine (dtake_any w rg).mono ?_
  rintro e w1 ⟨rfl, Q, O, Z⟩
  exact ⟨rfl, (h.new Q O trivial).1, (h.new Q O trivial).2, O, Z⟩
theorem Lw.drain (h : Lw w0 w rg hb rb b c L t) :
    Calls Try.prog 32 #[.pointer (some ⟨rg, 0, none⟩)] w fun e w' => e = .returned (.pointer (some ⟨w.heap.size, 0, none⟩)) ∧ Lw w0 w' rg hb rb b c L t ∧ Op1 w0 w' w.heap.size rg hb rb .drain0 ∧ Only Nil w w' ∧ w.heap.size < w'.heap.size := by
  refine (ddrain_any w rg).mono ?_
  rintro e w1 ⟨rfl, Q, O, Z⟩
  exact ⟨rfl, (h.new Q O trivial).1, (h.new Q O trivial).2, O, Z⟩
theorem Lw.close (h : Lw w0 w rg hb rb b c L t) :
    Calls Try.prog 31 #[.pointer (some ⟨rg, 0, none⟩)] w fun e w' => e = .returned (.pointer (some ⟨w.heap.size, 0, none⟩)) ∧ Lw w0 w' rg hb rb b c L t ∧ Op1 w0 w' w.heap.size rg hb rb .close0 ∧ Only Nil w w' ∧ w.heap.size < w'.heap.size := by
  refine (dclose_any w rg).mono ?_
  rintro e w1 ⟨rfl, Q, O, Z⟩
  exact ⟨rfl, (h.new Q O trivial).1, (h.new Q O trivial).2, O, Z⟩
theorem Lw.look (h : Lw w0 w rg hb rb b c L t) :
    Calls Try.prog 34 #[.pointer (some ⟨rg, 0, none⟩)] w fun e w' => e = .returned (.pointer (some ⟨w.heap.size, 0, none⟩)) ∧ Lw w0 w' rg hb rb b c L t ∧ Op1 w0 w' w.heap.size rg hb rb .look0 ∧ Only Nil w w' ∧ w.heap.size < w'.heap.size := by
  refine (dlook_any w rg).mono ?_
  rintro e w1 ⟨rfl, Q, O, Z⟩
  exact ⟨rfl, (h.new Q O trivial).1, (h.new Q O trivial).2, O, Z⟩
end

theorem layL_zeros (c : Nat) : layL (zeros (2 + 2 * c)) 0 c = zeros (2 + 2 * c) := by
  have key : ∀ k L, L = zeros (2 + 2 * c) → layL L 0 k = zeros (2 + 2 * c) := by
    intro k
    induction k with
    | zero => intro L h; subst h; simp [layL, zeros]
    | succ k ih => intro L h; simp only [layL, ih L h]; simp [zeros]
  exact key c _ rfl

/-- A ring that was made over a memory of its own. -/
theorem Lw.fresh (w0 : World) {w1 w2 : World} {c g : Nat} (o1 : Only Nil w0 w1) (hg : w1.heap.size ≤ g) (R : Rng w2 g (w0.heap.size + 1) w0.heap.size 0 c (layL (zeros (2 + 2 * c)) 0 c) (0 + 2 + 2 * (c : Int))) (o2 : Only (Blk (w0.heap.size + 1) w0.heap.size) w1 w2) :
    Lw w0 w2 g (w0.heap.size + 1) w0.heap.size 0 c (zeros (2 + 2 * c)) (2 + 2 * (c : Int)) := by
  rw [layL_zeros] at R
  have e : (0 : Int) + 2 + 2 * (c : Int) = 2 + 2 * (c : Int) := by omega
  rw [e] at R
  refine ⟨R, o1.next o2 ?_, by omega, by omega, Nat.le_trans o1.size hg, ?_⟩
  · intro i hi hlt; rcases hi with e | e <;> omega
  · have := R.uc; omega

theorem make_fresh (w0 w1 : World) (c : Nat) (hc : 0 < c) (hc2 : c ≤ 64) (m : MemAt w1 (w0.heap.size + 1) w0.heap.size (zeros (2 + 2 * c)) 0) (o1 : Only Nil w0 w1) :
    Calls Try.prog 12 #[.pointer (some ⟨w0.heap.size + 1, 0, none⟩), .int .i64 0, .int .i64 (c : Int)] w1 fun e w2 => ∃ g,
      e = .returned (.tuple #[.pointer (some ⟨g, 0, none⟩), .int .i64 0]) ∧ Lw w0 w2 g (w0.heap.size + 1) w0.heap.size 0 c (zeros (2 + 2 * c)) (2 + 2 * (c : Int)) ∧ Only (Blk (w0.heap.size + 1) w0.heap.size) w1 w2 := by
  refine (make_yes (b := 0) m (by omega) (by omega) hc hc2 (by omega) (by rw [length_zeros]; omega) (by rw [length_zeros]; omega)).mono ?_
  rintro e w2 ⟨g, rfl, hg, R, o⟩
  exact ⟨g, rfl, Lw.fresh w0 o1 hg R o, o⟩

/-- All answers the cells; they are held against a row that the law lays. -/
theorem same_laid (w : World) (b : Nat) (hb : w.heap[b]? = some (.cells (u64s [0, 0, 0, 0, 0, 0]) 37 (0, 0))) :
    Calls Try.prog 22 #[.slice (some ⟨b, 0, none⟩) 6 6, .slice (some ⟨w.heap.size, 0, none⟩) 6 6] (w.alloc (.cells #[.int .u64 0, .int .u64 0, .int .u64 0, .int .u64 0, .int .u64 0, .int .u64 0] 37)) fun e w' => e = .returned (.bool true) ∧ Only Nil w w' := by
  refine (same_yes _ b w.heap.size [0, 0, 0, 0, 0, 0] ((Below.heap_alloc _ _ _ (lt_of_block hb)).trans hb) (heap_new w _) (by decide)).mono ?_
  rintro e w' ⟨rfl, o⟩
  exact ⟨rfl, ((Only.refl Nil w).alloc _).trans o⟩
theorem all_six {w : World} {hb rb : Nat} {t : Int} (h : MemAt w hb rb (zeros (2 + 2 * 2)) t) :
    Calls Try.prog 23 #[.pointer (some ⟨hb, 0, none⟩)] w fun e w' =>
      e = .returned (.slice (some ⟨w.heap.size, 0, none⟩) 6 6) ∧ w'.heap[w.heap.size]? = some (.cells (u64s [0, 0, 0, 0, 0, 0]) 37 (0, 0)) ∧ w.heap.size < w'.heap.size ∧ Only Nil w w' := all_any h (by decide)
theorem al_run0 : Runs 0 2 5 (zeros (2 + 2 * 2)) (.put0 7) [1, 0, 1, 7, 0, 0] (.over 1 0 0) := by
  refine Runs.step rfl (by unfold Nums; decide) ?_
  refine Runs.step rfl (by unfold Nums; decide) ?_
  refine Runs.step rfl (by unfold Nums; decide) ?_
  refine Runs.step rfl (by unfold Nums; decide) ?_
  refine Runs.step rfl (by unfold Nums; decide) ?_
  exact Runs.over rfl
theorem al_run1 : Runs 0 2 5 [1, 0, 1, 7, 0, 0] (.put0 8) [2, 0, 1, 7, 1, 8] (.over 1 0 1) := by
  refine Runs.step rfl (by unfold Nums; decide) ?_
  refine Runs.step rfl (by unfold Nums; decide) ?_
  refine Runs.step rfl (by unfold Nums; decide) ?_
  refine Runs.step rfl (by unfold Nums; decide) ?_
  refine Runs.step rfl (by unfold Nums; decide) ?_
  exact Runs.over rfl
theorem al_run2 : Runs 0 2 2 [2, 0, 1, 7, 1, 8] (.put0 9) [2, 0, 1, 7, 1, 8] (.over 2 0 0) := by
  refine Runs.step rfl (by unfold Nums; decide) ?_
  refine Runs.step rfl (by unfold Nums; decide) ?_
  exact Runs.over rfl
theorem al_run3 : Runs 0 2 5 [2, 0, 1, 7, 1, 8] .take0 [2, 1, 2, 7, 1, 8] (.over 1 7 0) := by
  refine Runs.step rfl (by unfold Nums; decide) ?_
  refine Runs.step rfl (by unfold Nums; decide) ?_
  refine Runs.step rfl (by unfold Nums; decide) ?_
  refine Runs.step rfl (by unfold Nums; decide) ?_
  refine Runs.step rfl (by unfold Nums; decide) ?_
  exact Runs.over rfl
theorem al_run4 : Runs 0 2 2 [2, 1, 2, 7, 1, 8] .close0 [9223372036854775810, 1, 2, 7, 1, 8] (.over 1 0 0) := by
  refine Runs.step rfl (by unfold Nums; decide) ?_
  refine Runs.step rfl (by unfold Nums; decide) ?_
  exact Runs.over rfl
theorem al_run5 : Runs 0 2 1 [9223372036854775810, 1, 2, 7, 1, 8] (.put0 1) [9223372036854775810, 1, 2, 7, 1, 8] (.over 3 0 0) := by
  refine Runs.step rfl (by unfold Nums; decide) ?_
  exact Runs.over rfl
theorem al_run6 : Runs 0 2 6 [9223372036854775810, 1, 2, 7, 1, 8] .drain0 [9223372036854775810, 2, 2, 7, 2, 8] (.over 1 8 0) := by
  refine Runs.step rfl (by unfold Nums; decide) ?_
  refine Runs.step rfl (by unfold Nums; decide) ?_
  refine Runs.step rfl (by unfold Nums; decide) ?_
  refine Runs.step rfl (by unfold Nums; decide) ?_
  refine Runs.step rfl (by unfold Nums; decide) ?_
  refine Runs.step rfl (by unfold Nums; decide) ?_
  exact Runs.over rfl
theorem al_run7 : Runs 0 2 2 [9223372036854775810, 2, 2, 7, 2, 8] .drain0 [9223372036854775810, 2, 2, 7, 2, 8] (.over 5 0 0) := by
  refine Runs.step rfl (by unfold Nums; decide) ?_
  refine Runs.step rfl (by unfold Nums; decide) ?_
  exact Runs.over rfl

set_option maxRecDepth 100000 in
set_option maxHeartbeats 8000000 in
theorem alive_any (w : World) : Calls Try.prog 10 #[] w fun e w' => e = .returned (.bool true) ∧ Only Nil w w' := by
  have nw := Lib.hid (new_any 6 w)
  have mk := Lib.hid (fun w1 m o => make_fresh w w1 2 (by decide) (by decide) m o)
  simp only [show (2 : Int) + 2 * ((2 : Nat) : Int) = 6 from rfl] at mk
  simp only [show ((2 : Nat) : Int) = 2 from rfl] at mk
  have al := Lib.hid (fun (w2 : World) (hb rb : Nat) (t : Int) (h : MemAt w2 hb rb (zeros (2 + 2 * 2)) t) => all_six h)
  have sm := Lib.hid same_laid
  have p0 := Lib.hid (fun (w1 : World) (rg hb rb : Nat) (h : Lw w w1 rg hb rb 0 2 (zeros (2 + 2 * 2)) (6 : Int)) => h.put 7)
  have d0 := Lib.hid (fun (w1 : World) (ob rg hb rb : Nat) (h : Lw w w1 rg hb rb 0 2 (zeros (2 + 2 * 2)) (6 : Int)) (q : Op1 w w1 ob rg hb rb (.put0 7)) => (h.done q al_run0 (by decide) (by decide)).mono (R' := fun e w' => e = .returned (.tuple #[.int .i64 1, .int .u64 0, .int .i64 5]) ∧ Lw w w' rg hb rb 0 2 [1, 0, 1, 7, 0, 0] 11) (fun e w' hh => ⟨hh.1, hh.2.1⟩))
  have p1 := Lib.hid (fun (w1 : World) (rg hb rb : Nat) (h : Lw w w1 rg hb rb 0 2 [1, 0, 1, 7, 0, 0] (11 : Int)) => h.put 8)
  have d1 := Lib.hid (fun (w1 : World) (ob rg hb rb : Nat) (h : Lw w w1 rg hb rb 0 2 [1, 0, 1, 7, 0, 0] (11 : Int)) (q : Op1 w w1 ob rg hb rb (.put0 8)) => (h.done q al_run1 (by decide) (by decide)).mono (R' := fun e w' => e = .returned (.tuple #[.int .i64 1, .int .u64 0, .int .i64 5]) ∧ Lw w w' rg hb rb 0 2 [2, 0, 1, 7, 1, 8] 16) (fun e w' hh => ⟨hh.1, hh.2.1⟩))
  have p2 := Lib.hid (fun (w1 : World) (rg hb rb : Nat) (h : Lw w w1 rg hb rb 0 2 [2, 0, 1, 7, 1, 8] (16 : Int)) => h.put 9)
  have d2 := Lib.hid (fun (w1 : World) (ob rg hb rb : Nat) (h : Lw w w1 rg hb rb 0 2 [2, 0, 1, 7, 1, 8] (16 : Int)) (q : Op1 w w1 ob rg hb rb (.put0 9)) => (h.done q al_run2 (by decide) (by decide)).mono (R' := fun e w' => e = .returned (.tuple #[.int .i64 2, .int .u64 0, .int .i64 2]) ∧ Lw w w' rg hb rb 0 2 [2, 0, 1, 7, 1, 8] 18) (fun e w' hh => ⟨hh.1, hh.2.1⟩))
  have p3 := Lib.hid (fun (w1 : World) (rg hb rb : Nat) (h : Lw w w1 rg hb rb 0 2 [2, 0, 1, 7, 1, 8] (18 : Int)) => h.take)
  have d3 := Lib.hid (fun (w1 : World) (ob rg hb rb : Nat) (h : Lw w w1 rg hb rb 0 2 [2, 0, 1, 7, 1, 8] (18 : Int)) (q : Op1 w w1 ob rg hb rb .take0) => (h.done q al_run3 (by decide) (by decide)).mono (R' := fun e w' => e = .returned (.tuple #[.int .i64 1, .int .u64 7, .int .i64 5]) ∧ Lw w w' rg hb rb 0 2 [2, 1, 2, 7, 1, 8] 23) (fun e w' hh => ⟨hh.1, hh.2.1⟩))
  have p4 := Lib.hid (fun (w1 : World) (rg hb rb : Nat) (h : Lw w w1 rg hb rb 0 2 [2, 1, 2, 7, 1, 8] (23 : Int)) => h.close)
  have d4 := Lib.hid (fun (w1 : World) (ob rg hb rb : Nat) (h : Lw w w1 rg hb rb 0 2 [2, 1, 2, 7, 1, 8] (23 : Int)) (q : Op1 w w1 ob rg hb rb .close0) => (h.done q al_run4 (by decide) (by decide)).mono (R' := fun e w' => e = .returned (.tuple #[.int .i64 1, .int .u64 0, .int .i64 2]) ∧ Lw w w' rg hb rb 0 2 [9223372036854775810, 1, 2, 7, 1, 8] 25) (fun e w' hh => ⟨hh.1, hh.2.1⟩))
  have p5 := Lib.hid (fun (w1 : World) (rg hb rb : Nat) (h : Lw w w1 rg hb rb 0 2 [9223372036854775810, 1, 2, 7, 1, 8] (25 : Int)) => h.put 1)
  have d5 := Lib.hid (fun (w1 : World) (ob rg hb rb : Nat) (h : Lw w w1 rg hb rb 0 2 [9223372036854775810, 1, 2, 7, 1, 8] (25 : Int)) (q : Op1 w w1 ob rg hb rb (.put0 1)) => (h.done q al_run5 (by decide) (by decide)).mono (R' := fun e w' => e = .returned (.tuple #[.int .i64 3, .int .u64 0, .int .i64 1]) ∧ Lw w w' rg hb rb 0 2 [9223372036854775810, 1, 2, 7, 1, 8] 26) (fun e w' hh => ⟨hh.1, hh.2.1⟩))
  have p6 := Lib.hid (fun (w1 : World) (rg hb rb : Nat) (h : Lw w w1 rg hb rb 0 2 [9223372036854775810, 1, 2, 7, 1, 8] (26 : Int)) => h.drain)
  have d6 := Lib.hid (fun (w1 : World) (ob rg hb rb : Nat) (h : Lw w w1 rg hb rb 0 2 [9223372036854775810, 1, 2, 7, 1, 8] (26 : Int)) (q : Op1 w w1 ob rg hb rb .drain0) => (h.done q al_run6 (by decide) (by decide)).mono (R' := fun e w' => e = .returned (.tuple #[.int .i64 1, .int .u64 8, .int .i64 6]) ∧ Lw w w' rg hb rb 0 2 [9223372036854775810, 2, 2, 7, 2, 8] 32) (fun e w' hh => ⟨hh.1, hh.2.1⟩))
  have p7 := Lib.hid (fun (w1 : World) (rg hb rb : Nat) (h : Lw w w1 rg hb rb 0 2 [9223372036854775810, 2, 2, 7, 2, 8] (32 : Int)) => h.drain)
  have d7 := Lib.hid (fun (w1 : World) (ob rg hb rb : Nat) (h : Lw w w1 rg hb rb 0 2 [9223372036854775810, 2, 2, 7, 2, 8] (32 : Int)) (q : Op1 w w1 ob rg hb rb .drain0) => (h.done q al_run7 (by decide) (by decide)).mono (R' := fun e w' => e = .returned (.tuple #[.int .i64 5, .int .u64 0, .int .i64 2]) ∧ Lw w w' rg hb rb 0 2 [9223372036854775810, 2, 2, 7, 2, 8] 34) (fun e w' hh => ⟨hh.1, hh.2.1⟩))
  go_enter Try.func10, Try.ntmps10
  go_wp2_with (first
    | (go_at_call 11; refine (nw.out).mono ?_; rintro e w1 ⟨rfl, m1, o1⟩)
    | (go_at_call 12; refine (mk.out _ m1 o1).mono ?_; rintro e w2 ⟨g, rfl, l2, o2⟩)
    | (go_at_call 23; (with_reducible refine (al.out _ _ _ _ l2.rng.mem).mono ?_); rintro e w3 ⟨rfl, h3, z3, o3⟩; have l3 := l2.nil o3)
    | (go_at_call 22; refine (sm.out _ _ h3).mono ?_; rintro e x0 ⟨rfl, o4⟩; have h0 := l3.nil o4)
    | (go_at_call 29; (with_reducible refine (p0.out _ _ _ _ h0).mono ?_); rintro e y0 ⟨rfl, j0, q0, _, _⟩)
    | (go_at_call 28; (with_reducible refine (d0.out _ _ _ _ _ j0 q0).mono ?_); rintro e x1 ⟨rfl, h1⟩)
    | (go_at_call 29; (with_reducible refine (p1.out _ _ _ _ h1).mono ?_); rintro e y1 ⟨rfl, j1, q1, _, _⟩)
    | (go_at_call 28; (with_reducible refine (d1.out _ _ _ _ _ j1 q1).mono ?_); rintro e x2 ⟨rfl, h2⟩)
    | (go_at_call 29; (with_reducible refine (p2.out _ _ _ _ h2).mono ?_); rintro e y2 ⟨rfl, j2, q2, _, _⟩)
    | (go_at_call 28; (with_reducible refine (d2.out _ _ _ _ _ j2 q2).mono ?_); rintro e x3 ⟨rfl, h3⟩)
    | (go_at_call 33; (with_reducible refine (p3.out _ _ _ _ h3).mono ?_); rintro e y3 ⟨rfl, j3, q3, _, _⟩)
    | (go_at_call 28; (with_reducible refine (d3.out _ _ _ _ _ j3 q3).mono ?_); rintro e x4 ⟨rfl, h4⟩)
    | (go_at_call 31; (with_reducible refine (p4.out _ _ _ _ h4).mono ?_); rintro e y4 ⟨rfl, j4, q4, _, _⟩)
    | (go_at_call 28; (with_reducible refine (d4.out _ _ _ _ _ j4 q4).mono ?_); rintro e x5 ⟨rfl, h5⟩)
    | (go_at_call 29; (with_reducible refine (p5.out _ _ _ _ h5).mono ?_); rintro e y5 ⟨rfl, j5, q5, _, _⟩)
    | (go_at_call 28; (with_reducible refine (d5.out _ _ _ _ _ j5 q5).mono ?_); rintro e x6 ⟨rfl, h6⟩)
    | (go_at_call 32; (with_reducible refine (p6.out _ _ _ _ h6).mono ?_); rintro e y6 ⟨rfl, j6, q6, _, _⟩)
    | (go_at_call 28; (with_reducible refine (d6.out _ _ _ _ _ j6 q6).mono ?_); rintro e x7 ⟨rfl, h7⟩)
    | (go_at_call 32; (with_reducible refine (p7.out _ _ _ _ h7).mono ?_); rintro e y7 ⟨rfl, j7, q7, _, _⟩)
    | (go_at_call 28; (with_reducible refine (d7.out _ _ _ _ _ j7 q7).mono ?_); rintro e x8 ⟨rfl, h8⟩))
  go_ret
  exact ⟨rfl, h8.only⟩
end Go.Proofs.Ytpnpbgcndlfobaa
