/- A gate that is alone: what it holds between operations. -/
import Derived.Test.YtokopocldicnmaaGtY
import Derived.Test.YtokopocldicnmaaRowC
namespace Go.Proofs.Ytokopocldicnmaa.Gt
open Go.RowKit

/-- The gate holds q, and nobody steps. -/
structure Rest (c : Nat) (R : Rg) (q : List Int) : Prop where
  pos : 0 < c
  tail : R.tail = R.head + q.length
  cap : q.length ≤ c
  full : ∀ i, i < q.length → R.turn ((R.head + i) % c) = 2 * ((R.head + i) / c) + 1 ∧ R.val ((R.head + i) % c) = q.getD i 0
  free : ∀ i, q.length ≤ i → i < c → R.turn ((R.head + i) % c) = 2 * ((R.head + i) / c)
theorem Rest.start {c : Nat} (hc : 0 < c) : Rest c ⟨0, 0, fun _ => 0, fun _ => 0⟩ [] :=
  ⟨hc, rfl, Nat.zero_le _, fun i h => by simp at h, fun i _ h => by
    show 0 = 2 * ((0 + i) / c)
    rw [Nat.zero_add, Nat.div_eq_of_lt h]⟩
section
variable {c : Nat} {R : Rg} {q : List Int} {x v : Int}
theorem Rest.at_tail (h : Rest c R q) (hq : q.length < c) : R.turn (R.tail % c) = 2 * (R.tail / c) := by
  have := h.free q.length (Nat.le_refl _) hq
  rwa [← h.tail] at this
theorem Rest.put (h : Rest c R q) (hq : q.length < c) (v : Int) : Rest c ⟨R.tail + 1, R.head, upd R.turn (R.tail % c) (2 * (R.tail / c) + 1), upd R.val (R.tail % c) v⟩ (q ++ [v]) := by
  have ht := h.tail
  refine ⟨h.pos, by show R.tail + 1 = _; simp; omega, by simp; omega, fun i hi => ?_, fun i hi hic => ?_⟩
  · simp at hi
    show upd R.turn (R.tail % c) _ ((R.head + i) % c) = _ ∧ upd R.val (R.tail % c) v ((R.head + i) % c) = _
    by_cases e : i = q.length
    · subst e
      rw [← ht, upd_same, upd_same]
      simp
    · have hne : (R.head + i) % c ≠ R.tail % c := fun g => by
        have := slot_inj (f := R.head) (c := c) (t := R.head + i) (u := R.tail) (by omega) (by omega) (by omega) (by omega) g
        omega
      rw [upd_other _ _ _ _ hne, upd_other _ _ _ _ hne]
      have := h.full i (by omega)
      refine ⟨this.1, ?_⟩
      rw [this.2]
      simp [List.getD_eq_getElem?_getD, List.getElem?_append_left (show i < q.length by omega)]
  · simp at hi
    show upd R.turn (R.tail % c) _ ((R.head + i) % c) = _
    have hne : (R.head + i) % c ≠ R.tail % c := fun g => by
      have := slot_inj (f := R.head) (c := c) (t := R.head + i) (u := R.tail) (by omega) (by omega) (by omega) (by omega) g
      omega
    rw [upd_other _ _ _ _ hne]
    exact h.free i (by omega) hic
theorem Rest.full_tail (h : Rest c R q) (hq : q.length = c) : R.turn (R.tail % c) < 2 * (R.tail / c) := by
  have h1 := h.full 0 (by have := h.pos; omega)
  obtain ⟨e1, e2⟩ := next_round (t := R.head) h.pos
  rw [h.tail, hq, e1, e2]
  have := h1.1
  simp only [Nat.add_zero] at this
  rw [this]; omega
theorem Rest.at_head (h : Rest c R (x :: q)) : R.turn (R.head % c) = 2 * (R.head / c) + 1 ∧ R.val (R.head % c) = x := by
  have := h.full 0 (by simp)
  simpa using this
theorem Rest.take (h : Rest c R (x :: q)) : Rest c ⟨R.tail, R.head + 1, upd R.turn (R.head % c) (2 * (R.head / c) + 2), R.val⟩ q := by
  have ht := h.tail
  have hcap := h.cap
  simp at ht hcap
  have hpos := h.pos
  have hne : ∀ i, i + 1 < c → (R.head + 1 + i) % c ≠ R.head % c := fun i hi g => by
    have := slot_inj (f := R.head) (c := c) (t := R.head + 1 + i) (u := R.head) (by omega) (by omega) (by omega) (by omega) g
    omega
  refine ⟨h.pos, by show R.tail = R.head + 1 + _; omega, by omega, fun i hi => ?_, fun i hi hic => ?_⟩
  · show upd R.turn (R.head % c) _ ((R.head + 1 + i) % c) = _ ∧ R.val ((R.head + 1 + i) % c) = _
    rw [upd_other _ _ _ _ (hne i (by omega))]
    have := h.full (i + 1) (by simp; omega)
    rw [show R.head + (i + 1) = R.head + 1 + i by omega] at this
    simpa using this
  · show upd R.turn (R.head % c) _ ((R.head + 1 + i) % c) = 2 * ((R.head + 1 + i) / c)
    by_cases e : i + 1 = c
    · obtain ⟨e1, e2⟩ := next_round (t := R.head) h.pos
      rw [show R.head + 1 + i = R.head + c by omega, e1, e2, upd_same]; omega
    · rw [upd_other _ _ _ _ (hne i (by omega))]
      have := h.free (i + 1) (by simp; omega) (by omega)
      rwa [show R.head + (i + 1) = R.head + 1 + i by omega] at this
theorem Rest.at_none (h : Rest c R []) : R.turn (R.head % c) < 2 * (R.head / c) + 1 := by
  have := h.free 0 (Nat.le_refl _) h.pos
  simp only [Nat.add_zero] at this
  omega
end
/-- The cells of a gate that holds q; n: no more were ever put. -/
def Gq (c : Nat) (L : List Int) (q : List Int) (n : Nat) : Prop := ∃ R, RgL c R L ∧ Rest c R q ∧ R.tail ≤ n ∧ n < 1000000000
section
variable {c n : Nat} {L : List Int} {q : List Int} {x v : Int}
theorem Gq.start (hc : 0 < c) : Gq c (zeros (2 + 2 * c)) [] 0 := ⟨_, RgL.fresh c, Rest.start hc, Nat.le_refl _, by omega⟩
theorem Gq.put (h : Gq c L q n) (hq : q.length < c) (v : Int) (hn : n + 1 < 1000000000) : ∃ L', Runs 0 c 5 L (.s0 (.put v)) L' (.over 1 0) ∧ Gq c L' (q ++ [v]) (n + 1) := by
  obtain ⟨R, hL, hR, ht, hb⟩ := h
  obtain ⟨L', r, hL'⟩ := run_on hL hR.pos (.put v) (by show R.tail < _; omega) (hR.at_tail hq)
  exact ⟨L', r, _, hL', hR.put hq v, by show R.tail + 1 ≤ _; omega, hn⟩
theorem Gq.full (h : Gq c L q n) (hq : q.length = c) (v : Int) : Runs 0 c 2 L (.s0 (.put v)) L (.over 2 0) := by
  obtain ⟨R, hL, hR, ht, hb⟩ := h
  exact run_early hL hR.pos (.put v) (by show R.tail < _; omega) (hR.full_tail hq)
theorem Gq.take (h : Gq c L (x :: q) n) : ∃ L', Runs 0 c 5 L (.s0 .take) L' (.over 1 x) ∧ Gq c L' q n := by
  obtain ⟨R, hL, hR, ht, hb⟩ := h
  have hh := hR.tail
  obtain ⟨L', r, hL'⟩ := run_on hL hR.pos .take (by show R.head < _; omega) hR.at_head.1
  refine ⟨L', ?_, _, hL', hR.take, by show R.tail ≤ _; omega, hb⟩
  have e : Dir.keeps (R.val (cntOf R .take % c)) .take = x := hR.at_head.2
  rwa [e] at r
theorem Gq.none (h : Gq c L [] n) : Runs 0 c 2 L (.s0 .take) L (.over 4 0) := by
  obtain ⟨R, hL, hR, ht, hb⟩ := h
  have hh := hR.tail
  exact run_early hL hR.pos .take (by show R.head < _; omega) hR.at_none
end
/-- What a law's walk carries along: a gate that is alone. -/
def Gb (w1 w : World) (g B c : Nat) (q : List Int) (n : Nat) (tm : Int) : Prop := ∃ L t, Lw w1 w g (B + 1) B 0 c L t ∧ Gq c L q n ∧ t ≤ tm
/-- With an operation that is begun. -/
def Gbo (w1 w : World) (g B c : Nat) (q : List Int) (n : Nat) (tm : Int) (ob : Nat) (s : OS) : Prop := ∃ L t, Lw w1 w g (B + 1) B 0 c L t ∧ Op1 w1 w ob g (B + 1) B s ∧ Gq c L q n ∧ t ≤ tm
section
variable {w1 w w' : World} {g B c n ob : Nat} {q : List Int} {tm x v : Int} {s : OS}
theorem Gb.only (h : Gb w1 w g B c q n tm) : Only Nil w1 w := by obtain ⟨L, t, l, _⟩ := h; exact l.only
theorem Gb.drewN (h : Gb w1 w g B c q n tm) (k : Nat) : Gb w1 (w.drewN k) g B c q n tm := by obtain ⟨L, t, l, h1, h2⟩ := h; exact ⟨L, t, l.nil ((Only.refl Nil w).drewN k), h1, h2⟩
theorem Gb.mono (h : Gb w1 w g B c q n tm) {n' : Nat} {tm' : Int} (h1 : n ≤ n') (h2 : n' < 1000000000) (h3 : tm ≤ tm') : Gb w1 w g B c q n' tm' := by
  obtain ⟨L, t, l, ⟨R, a1, a2, a3, a4⟩, ht⟩ := h
  exact ⟨L, t, l, ⟨R, a1, a2, by omega, h2⟩, by omega⟩
theorem Gb.put (h : Gb w1 w g B c q n tm) (v : Int) (hv : In64 v) :
    Calls Try.prog 26 #[.pointer (some ⟨g, 0, none⟩), .int .u64 v] w fun e w' => ∃ ob, e = .returned (.pointer (some ⟨ob, 0, none⟩)) ∧ Gbo w1 w' g B c q n tm ob (.s0 (.put v)) := by
  obtain ⟨L, t, l, a, ht⟩ := h
  refine (l.put v hv).mono ?_
  rintro e w' ⟨rfl, l', q', _, _⟩
  exact ⟨_, rfl, L, t, l', q', a, ht⟩
theorem Gb.take (h : Gb w1 w g B c q n tm) :
    Calls Try.prog 25 #[.pointer (some ⟨g, 0, none⟩)] w fun e w' => ∃ ob, e = .returned (.pointer (some ⟨ob, 0, none⟩)) ∧ Gbo w1 w' g B c q n tm ob (.s0 .take) := by
  obtain ⟨L, t, l, a, ht⟩ := h
  refine (l.take).mono ?_
  rintro e w' ⟨rfl, l', q', _, _⟩
  exact ⟨_, rfl, L, t, l', q', a, ht⟩
theorem Gbo.putted (h : Gbo w1 w g B c q n tm ob (.s0 (.put v))) (hq : q.length < c) (hn : n + 1 < 1000000000) (ht : tm < 1000000000) :
    Calls Try.prog 38 #[.pointer (some ⟨ob, 0, none⟩)] w fun e w' => e = .returned (.tuple #[.int .i64 1, .int .u64 0, .int .i64 5]) ∧ Gb w1 w' g B c (q ++ [v]) (n + 1) (tm + 5) := by
  obtain ⟨L, t, l, o, a, ht2⟩ := h
  obtain ⟨L', r, a'⟩ := a.put hq v hn
  refine (l.done o r (by decide) (by omega)).mono ?_
  rintro e w' ⟨rfl, l', _, _⟩
  exact ⟨rfl, L', _, l', a', by omega⟩
theorem Gbo.fulled (h : Gbo w1 w g B c q n tm ob (.s0 (.put v))) (hq : q.length = c) (ht : tm < 1000000000) :
    Calls Try.prog 38 #[.pointer (some ⟨ob, 0, none⟩)] w fun e w' => e = .returned (.tuple #[.int .i64 2, .int .u64 0, .int .i64 2]) ∧ Gb w1 w' g B c q n (tm + 5) := by
  obtain ⟨L, t, l, o, a, ht2⟩ := h
  refine (l.done o (a.full hq v) (by decide) (by omega)).mono ?_
  rintro e w' ⟨rfl, l', _, _⟩
  exact ⟨rfl, L, _, l', a, by omega⟩
theorem Gbo.taken (h : Gbo w1 w g B c (x :: q) n tm ob (.s0 .take)) (ht : tm < 1000000000) :
    Calls Try.prog 38 #[.pointer (some ⟨ob, 0, none⟩)] w fun e w' => e = .returned (.tuple #[.int .i64 1, .int .u64 x, .int .i64 5]) ∧ Gb w1 w' g B c q n (tm + 5) := by
  obtain ⟨L, t, l, o, a, ht2⟩ := h
  obtain ⟨L', r, a'⟩ := a.take
  refine (l.done o r (by decide) (by omega)).mono ?_
  rintro e w' ⟨rfl, l', _, _⟩
  exact ⟨rfl, L', _, l', a', by omega⟩
theorem Gbo.noned (h : Gbo w1 w g B c [] n tm ob (.s0 .take)) (ht : tm < 1000000000) :
    Calls Try.prog 38 #[.pointer (some ⟨ob, 0, none⟩)] w fun e w' => e = .returned (.tuple #[.int .i64 4, .int .u64 0, .int .i64 2]) ∧ Gb w1 w' g B c [] n (tm + 5) := by
  obtain ⟨L, t, l, o, a, ht2⟩ := h
  refine (l.done o a.none (by decide) (by omega)).mono ?_
  rintro e w' ⟨rfl, l', _, _⟩
  exact ⟨rfl, L, _, l', a, by omega⟩
end
/-- v + lo, .., v + hi - 1. -/
def qv (v : Int) (lo hi : Nat) : List Int := (List.range (hi - lo)).map fun j => IntKind.u64.wrap (v + ((lo + j : Nat) : Int))
theorem qv_length (v : Int) (lo hi : Nat) : (qv v lo hi).length = hi - lo := by simp [qv]
theorem qv_snoc (v : Int) (hi : Nat) : qv v 0 hi ++ [IntKind.u64.wrap (v + (hi : Int))] = qv v 0 (hi + 1) := by
  simp [qv, List.range_succ]
theorem qv_cons (v : Int) (lo hi : Nat) (h : lo < hi) : qv v lo hi = IntKind.u64.wrap (v + (lo : Int)) :: qv v (lo + 1) hi := by
  unfold qv
  rw [show hi - lo = (hi - (lo + 1)) + 1 by omega, List.range_succ_eq_map, List.map_cons, List.map_map]
  congr 1
  apply List.map_congr_left
  intro j _
  simp only [Function.comp]
  congr 2
  omega
theorem qv_nil (v : Int) (n : Nat) : qv v n n = [] := by simp [qv]
end Go.Proofs.Ytokopocldicnmaa.Gt
