/- A ring's cells, from cell 0 on, as a ring's numbers: each step of an operation is the plain machine's; whole runs of one that is alone. -/
import Derived.Test.YtpnpbgcndlfobaaRingW
import Derived.Test.YtpnpbgcndlfobaaRingD
namespace Go.Proofs.Ytpnpbgcndlfobaa
open Go.RowKit

theorem getD_set (L : List Int) (i j : Nat) (y : Int) (hi : i < L.length) : (L.set i y).getD j 0 = if i = j then y else L.getD j 0 := by
  simp only [List.getD_eq_getElem?_getD, List.getElem?_set]
  by_cases h : i = j
  · subst h; simp [hi]
  · simp [h]

/-- The cells L are those of the ring R of c slots; the tail bears x besides. -/
structure RgL (c : Nat) (x : Int) (R : Rg) (L : List Int) : Prop where
  len : L.length = 2 + 2 * c
  tail : L.getD 0 0 = (R.tail : Int) + x
  head : L.getD 1 0 = (R.head : Int)
  turn : ∀ k, k < c → L.getD (2 + 2 * k) 0 = (R.turn k : Int)
  val : ∀ k, k < c → L.getD (2 + 2 * k + 1) 0 = R.val k
section
variable {c : Nat} {x : Int} {R : Rg} {L : List Int}
theorem RgL.setTail (h : RgL c x R L) (y : Nat) (x' : Int) : RgL c x' { R with tail := y } (L.set 0 ((y : Int) + x')) := by
  have hl := h.len
  refine ⟨by simpa using h.len, ?_, ?_, ?_, ?_⟩
  · rw [getD_set _ _ _ _ (by omega), if_pos rfl]
  · rw [getD_set _ _ _ _ (by omega), if_neg (by omega)]; exact h.head
  · intro k hk; rw [getD_set _ _ _ _ (by omega), if_neg (by omega)]; exact h.turn k hk
  · intro k hk; rw [getD_set _ _ _ _ (by omega), if_neg (by omega)]; exact h.val k hk
theorem RgL.setHead (h : RgL c x R L) (y : Nat) : RgL c x { R with head := y } (L.set 1 (y : Int)) := by
  have hl := h.len
  by_cases hc : c = 0
  · refine ⟨by simpa using h.len, ?_, ?_, fun k hk => by omega, fun k hk => by omega⟩
    · rw [getD_set _ _ _ _ (by omega), if_neg (by omega)]; exact h.tail
    · rw [getD_set _ _ _ _ (by omega), if_pos rfl]
  refine ⟨by simpa using h.len, ?_, ?_, ?_, ?_⟩
  · rw [getD_set _ _ _ _ (by omega), if_neg (by omega)]; exact h.tail
  · rw [getD_set _ _ _ _ (by omega), if_pos rfl]
  · intro k hk; rw [getD_set _ _ _ _ (by omega), if_neg (by omega)]; exact h.turn k hk
  · intro k hk; rw [getD_set _ _ _ _ (by omega), if_neg (by omega)]; exact h.val k hk
theorem RgL.setTurn (h : RgL c x R L) (k y : Nat) (hk : k < c) : RgL c x { R with turn := upd R.turn k y } (L.set (2 + 2 * k) (y : Int)) := by
  have hl := h.len
  refine ⟨by simpa using h.len, ?_, ?_, ?_, ?_⟩
  · rw [getD_set _ _ _ _ (by omega), if_neg (by omega)]; exact h.tail
  · rw [getD_set _ _ _ _ (by omega), if_neg (by omega)]; exact h.head
  · intro j hj; rw [getD_set _ _ _ _ (by omega)]
    by_cases e : j = k
    · subst e; rw [if_pos rfl]; simp [upd]
    · rw [if_neg (by omega)]; simp only [upd, if_neg e]; exact h.turn j hj
  · intro j hj; rw [getD_set _ _ _ _ (by omega), if_neg (by omega)]; exact h.val j hj
theorem RgL.setVal (h : RgL c x R L) (k : Nat) (y : Int) (hk : k < c) : RgL c x { R with val := upd R.val k y } (L.set (2 + 2 * k + 1) y) := by
  have hl := h.len
  refine ⟨by simpa using h.len, ?_, ?_, ?_, ?_⟩
  · rw [getD_set _ _ _ _ (by omega), if_neg (by omega)]; exact h.tail
  · rw [getD_set _ _ _ _ (by omega), if_neg (by omega)]; exact h.head
  · intro j hj; rw [getD_set _ _ _ _ (by omega), if_neg (by omega)]; exact h.turn j hj
  · intro j hj; rw [getD_set _ _ _ _ (by omega)]
    by_cases e : j = k
    · subst e; rw [if_pos rfl]; simp [upd]
    · rw [if_neg (by omega)]; simp only [upd, if_neg e]; exact h.val j hj
theorem RgL.nums (h : RgL c x R L) (hx : x = 0 ∨ x = 9223372036854775808) (h1 : R.tail < 4611686018427387904) (h2 : R.head < 4611686018427387904) : Nums 0 L := by
  refine ⟨?_, ?_, ?_, ?_⟩
  · rw [h.tail]; omega
  · rw [h.tail]; omega
  · show 0 ≤ L.getD 1 0; rw [h.head]; omega
  · show L.getD 1 0 < _; rw [h.head]; omega
theorem RgL.fresh (c : Nat) : RgL c 0 ⟨0, 0, fun _ => 0, fun _ => 0⟩ (zeros (2 + 2 * c)) :=
  ⟨length_zeros _, getD_zeros _ _, getD_zeros _ _, fun _ _ => getD_zeros _ _, fun _ _ => getD_zeros _ _⟩

theorem turnAt0 (c t : Nat) : turnAt 0 c t = 2 + 2 * (t % c) := by unfold turnAt; omega

/-- A Put's, a Take's place, as an operation's. -/
def osP (v : Int) : PS → OS
  | .p0 => .put0 v
  | .p1 t => .put1 v t
  | .p2 t => .put2 v t
  | .p3 t => .put3 v t
  | .p4 t => .put4 v t
def osPR (v : Int) : PR → OS
  | .on s => osP v s
  | .full => .over 2 0 0
  | .done t => .over 1 0 t
def osT : TS → OS
  | .t0 => .take0
  | .t1 h => .turn false h
  | .t2 h => .val h
  | .t3 h v => .out h v
  | .t4 h v => .hd h v
def osTR : TR → OS
  | .on s => osT s
  | .none => .over 4 0 0
  | .done v => .over 1 v 0
theorem osP_isO (v : Int) (s : PS) : (osP v s).isO = false := by cases s <;> rfl
theorem osT_isO (s : TS) : (osT s).isO = false := by cases s <;> rfl

theorem link_put (h : RgL c 0 R L) (hc : 0 < c) (ht : R.tail < 4611686018427387904) (v : Int) (s : PS) :
    RgL c 0 (putStep c R v s).1 (stepL 0 c L (osP v s)) ∧ stepS 0 c L (osP v s) = osPR v (putStep c R v s).2 := by
  cases s with
  | p0 =>
    refine ⟨h, ?_⟩
    have e : L.getD 0 0 = (R.tail : Int) := by rw [h.tail]; omega
    show (if (9223372036854775808 : Int) ≤ L.getD 0 0 then OS.over 3 0 0 else OS.put1 v (L.getD 0 0).toNat) = _
    rw [e, if_neg (by omega)]
    rfl
  | p1 t =>
    have e : L.getD (turnAt 0 c t) 0 = (R.turn (t % c) : Int) := by rw [turnAt0]; exact h.turn _ (Nat.mod_lt _ hc)
    have e2 : stepS 0 c L (osP v (.p1 t)) = if (R.turn (t % c) : Int) < (waitAt c t : Int) then OS.over 2 0 0 else if (waitAt c t : Int) < (R.turn (t % c) : Int) then OS.put0 v else OS.put2 v t := by
      show (if L.getD (turnAt 0 c t) 0 < (waitAt c t : Int) then OS.over 2 0 0 else if (waitAt c t : Int) < L.getD (turnAt 0 c t) 0 then OS.put0 v else OS.put2 v t) = _
      rw [e]
    have hw : waitAt c t = 2 * (t / c) := rfl
    rw [e2, hw]
    simp only [putStep]
    by_cases h1 : 2 * (t / c) < R.turn (t % c)
    · rw [if_pos h1, if_neg (by omega), if_pos (by omega)]; exact ⟨h, rfl⟩
    · rw [if_neg h1]
      by_cases h2 : R.turn (t % c) < 2 * (t / c)
      · rw [if_pos h2, if_pos (by omega)]; exact ⟨h, rfl⟩
      · rw [if_neg h2, if_neg (by omega), if_neg (by omega)]; exact ⟨h, rfl⟩
  | p2 t =>
    have e : L.getD 0 0 = (R.tail : Int) := by rw [h.tail]; omega
    simp only [putStep]
    by_cases ht : R.tail = t
    · rw [if_pos ht]
      have hx : L.getD 0 0 = (t : Int) := by rw [e, ht]
      refine ⟨?_, if_neg (fun hz => absurd ((congrArg Prod.snd (if_pos hx)).symm.trans hz) (by decide : ¬ (1 : Int) = 0))⟩
      have e3 : stepL 0 c L (osP v (.p2 t)) = L.set 0 ((t : Int) + 1) := congrArg Prod.fst (if_pos hx)
      rw [e3]
      have := h.setTail (t + 1) 0
      rwa [show (((t + 1 : Nat) : Int) + 0) = (t : Int) + 1 by omega] at this
    · rw [if_neg ht]
      have hx : ¬ L.getD 0 0 = (t : Int) := by rw [e]; omega
      refine ⟨?_, if_pos (congrArg Prod.snd (if_neg hx))⟩
      have e3 : stepL 0 c L (osP v (.p2 t)) = L := congrArg Prod.fst (if_neg hx)
      rw [e3]; exact h
  | p3 t =>
    refine ⟨?_, rfl⟩
    show RgL c 0 { R with val := upd R.val (t % c) v } (L.set (turnAt 0 c t + 1) v)
    rw [turnAt0]
    exact h.setVal _ v (Nat.mod_lt _ hc)
  | p4 t =>
    refine ⟨?_, rfl⟩
    show RgL c 0 { R with turn := upd R.turn (t % c) (2 * (t / c) + 1) } (L.set (turnAt 0 c t) ((waitAt c t : Int) + 1))
    rw [turnAt0]
    have := h.setTurn (t % c) (2 * (t / c) + 1) (Nat.mod_lt _ hc)
    rwa [show ((2 * (t / c) + 1 : Nat) : Int) = (waitAt c t : Int) + 1 by unfold waitAt; omega] at this

theorem link_take (h : RgL c x R L) (hc : 0 < c) (s : TS) :
    RgL c x (takeStep c R s).1 (stepL 0 c L (osT s)) ∧ stepS 0 c L (osT s) = osTR (takeStep c R s).2 := by
  cases s with
  | t0 =>
    refine ⟨h, ?_⟩
    show OS.turn false (L.getD 1 0).toNat = _
    rw [h.head]; rfl
  | t1 t =>
    have e : L.getD (turnAt 0 c t) 0 = (R.turn (t % c) : Int) := by rw [turnAt0]; exact h.turn _ (Nat.mod_lt _ hc)
    have e2 : stepS 0 c L (osT (.t1 t)) = if (R.turn (t % c) : Int) ≠ (waitAt c t : Int) + 1 then OS.over 4 0 0 else OS.val t := by
      show (if L.getD (turnAt 0 c t) 0 ≠ (waitAt c t : Int) + 1 then OS.over 4 0 0 else OS.val t) = _
      rw [e]
    have hw : waitAt c t = 2 * (t / c) := rfl
    rw [e2, hw]
    simp only [takeStep]
    by_cases h1 : R.turn (t % c) = 2 * (t / c) + 1
    · rw [if_pos h1, if_neg (by omega)]; exact ⟨h, rfl⟩
    · rw [if_neg h1, if_pos (by omega)]; exact ⟨h, rfl⟩
  | t2 t =>
    have e : L.getD (turnAt 0 c t + 1) 0 = R.val (t % c) := by rw [turnAt0]; exact h.val _ (Nat.mod_lt _ hc)
    refine ⟨h, ?_⟩
    show OS.out t (L.getD (turnAt 0 c t + 1) 0) = _
    rw [e]; rfl
  | t3 t v =>
    refine ⟨?_, rfl⟩
    show RgL c x { R with turn := upd R.turn (t % c) (2 * (t / c) + 2) } (L.set (turnAt 0 c t) ((waitAt c t : Int) + 2))
    rw [turnAt0]
    have := h.setTurn (t % c) (2 * (t / c) + 2) (Nat.mod_lt _ hc)
    rwa [show ((2 * (t / c) + 2 : Nat) : Int) = (waitAt c t : Int) + 2 by unfold waitAt; omega] at this
  | t4 t v =>
    refine ⟨?_, rfl⟩
    show RgL c x { R with head := t + 1 } (L.set 1 ((t : Int) + 1))
    have := h.setHead (t + 1)
    rwa [show ((t + 1 : Nat) : Int) = (t : Int) + 1 by omega] at this

/-- A Put that is alone, and finds its slot waiting. -/
theorem run_put (h : RgL c 0 R L) (hc : 0 < c) (h1 : R.tail < 4611686018427387000) (h2 : R.head < 4611686018427387000) (v : Int) (e : R.turn (R.tail % c) = 2 * (R.tail / c)) :
    ∃ L', Runs 0 c 5 L (.put0 v) L' (.over 1 0 R.tail) ∧ RgL c 0 ⟨R.tail + 1, R.head, upd R.turn (R.tail % c) (2 * (R.tail / c) + 1), upd R.val (R.tail % c) v⟩ L' := by
  obtain ⟨a1, b1⟩ := link_put h hc (by omega) v .p0
  simp only [putStep, osPR] at a1 b1
  obtain ⟨a2, b2⟩ := link_put a1 hc (by omega) v (.p1 R.tail)
  simp only [putStep, e, Nat.lt_irrefl, if_false, osPR] at a2 b2
  obtain ⟨a3, b3⟩ := link_put a2 hc (by omega) v (.p2 R.tail)
  simp only [putStep, if_true, osPR] at a3 b3
  obtain ⟨a4, b4⟩ := link_put a3 hc (by simp only; omega) v (.p3 R.tail)
  simp only [putStep, osPR] at a4 b4
  obtain ⟨a5, b5⟩ := link_put a4 hc (by simp only; omega) v (.p4 R.tail)
  simp only [putStep, osPR] at a5 b5
  refine ⟨_, ?_, a5⟩
  refine Runs.step rfl (h.nums (.inl rfl) (by omega) (by omega)) ?_
  rw [show OS.put0 v = osP v .p0 from rfl, b1]
  refine Runs.step rfl (a1.nums (.inl rfl) (by omega) (by omega)) ?_
  rw [b2]
  refine Runs.step rfl (a2.nums (.inl rfl) (by omega) (by omega)) ?_
  rw [b3]
  refine Runs.step rfl (a3.nums (.inl rfl) (by simp only; omega) (by simp only; omega)) ?_
  rw [b4]
  refine Runs.step rfl (a4.nums (.inl rfl) (by simp only; omega) (by simp only; omega)) ?_
  rw [b5]
  exact Runs.over rfl
theorem run_full (h : RgL c 0 R L) (hc : 0 < c) (h1 : R.tail < 4611686018427387000) (h2 : R.head < 4611686018427387000) (v : Int) (e : R.turn (R.tail % c) < 2 * (R.tail / c)) :
    Runs 0 c 2 L (.put0 v) L (.over 2 0 0) := by
  obtain ⟨a1, b1⟩ := link_put h hc (by omega) v .p0
  simp only [putStep, osPR] at a1 b1
  obtain ⟨a2, b2⟩ := link_put a1 hc (by omega) v (.p1 R.tail)
  simp only [putStep, if_neg (show ¬ 2 * (R.tail / c) < R.turn (R.tail % c) by omega), if_pos e, osPR] at a2 b2
  refine Runs.step rfl (h.nums (.inl rfl) (by omega) (by omega)) ?_
  rw [show OS.put0 v = osP v .p0 from rfl, b1]
  refine Runs.step rfl (a1.nums (.inl rfl) (by omega) (by omega)) ?_
  rw [b2]
  exact Runs.over rfl
theorem run_late (h : RgL c 9223372036854775808 R L) (h1 : R.tail < 4611686018427387000) (h2 : R.head < 4611686018427387000) (v : Int) :
    Runs 0 c 1 L (.put0 v) L (.over 3 0 0) := by
  refine Runs.step rfl (h.nums (.inr rfl) (by omega) (by omega)) ?_
  have e : stepS 0 c L (.put0 v) = .over 3 0 0 := if_pos (by show (9223372036854775808 : Int) ≤ L.getD 0 0; rw [h.tail]; omega)
  rw [e]
  exact Runs.over rfl
theorem run_close (h : RgL c 0 R L) (h1 : R.tail < 4611686018427387000) (h2 : R.head < 4611686018427387000) :
    ∃ L', Runs 0 c 2 L .close0 L' (.over 1 0 0) ∧ RgL c 9223372036854775808 R L' := by
  have e0 : L.getD 0 0 = (R.tail : Int) := by rw [h.tail]; omega
  have e : stepS 0 c L .close0 = .close1 R.tail := by
    show (if (9223372036854775808 : Int) ≤ L.getD 0 0 then OS.over 1 0 0 else OS.close1 (L.getD 0 0).toNat) = _
    rw [e0, if_neg (by omega)]; rfl
  have e2 : stepS 0 c L (.close1 R.tail) = .over 1 0 0 := if_neg (fun hz => absurd ((congrArg Prod.snd (if_pos e0)).symm.trans hz) (by decide : ¬ (1 : Int) = 0))
  have e3 : stepL 0 c L (.close1 R.tail) = L.set 0 ((R.tail : Int) + 9223372036854775808) := congrArg Prod.fst (if_pos e0)
  refine ⟨L.set 0 ((R.tail : Int) + 9223372036854775808), ?_, h.setTail R.tail 9223372036854775808⟩
  refine Runs.step rfl (h.nums (.inl rfl) (by omega) (by omega)) ?_
  rw [e, show stepL 0 c L .close0 = L from rfl]
  refine Runs.step rfl (h.nums (.inl rfl) (by omega) (by omega)) ?_
  rw [e2, e3]
  exact Runs.over rfl
theorem run_close2 (h : RgL c 9223372036854775808 R L) (h1 : R.tail < 4611686018427387000) (h2 : R.head < 4611686018427387000) :
    Runs 0 c 1 L .close0 L (.over 1 0 0) := by
  refine Runs.step rfl (h.nums (.inr rfl) (by omega) (by omega)) ?_
  have e : stepS 0 c L .close0 = .over 1 0 0 := if_pos (by show (9223372036854775808 : Int) ≤ L.getD 0 0; rw [h.tail]; omega)
  rw [e]
  exact Runs.over rfl
theorem run_end (h : RgL c 9223372036854775808 R L) (h1 : R.tail < 4611686018427387000) (hh : R.tail = R.head) :
    Runs 0 c 2 L .drain0 L (.over 5 0 0) := by
  have e : stepS 0 c L .drain0 = .drain1 (R.head + 9223372036854775808) := by
    show OS.drain1 (L.getD 0 0).toNat = _
    rw [h.tail, hh]; congr 1
  have e2 : stepS 0 c L (.drain1 (R.head + 9223372036854775808)) = .over 5 0 0 := if_pos (by show ((R.head + 9223372036854775808 : Nat) : Int) = L.getD 1 0 + _; rw [h.head]; omega)
  refine Runs.step rfl (h.nums (.inr rfl) (by omega) (by omega)) ?_
  rw [e, show stepL 0 c L .drain0 = L from rfl]
  refine Runs.step rfl (h.nums (.inr rfl) (by omega) (by omega)) ?_
  rw [e2]
  exact Runs.over rfl
theorem run_none (h : RgL c x R L) (hc : 0 < c) (hx : x = 0 ∨ x = 9223372036854775808) (h1 : R.tail < 4611686018427387000) (h2 : R.head < 4611686018427387000) (e : R.turn (R.head % c) ≠ 2 * (R.head / c) + 1) :
    Runs 0 c 2 L .take0 L (.over 4 0 0) := by
  obtain ⟨a1, b1⟩ := link_take h hc .t0
  simp only [takeStep, osTR] at a1 b1
  obtain ⟨a2, b2⟩ := link_take a1 hc (.t1 R.head)
  simp only [takeStep, if_neg e, osTR] at a2 b2
  refine Runs.step rfl (h.nums hx (by omega) (by omega)) ?_
  rw [show OS.take0 = osT .t0 from rfl, b1]
  refine Runs.step rfl (a1.nums hx (by omega) (by omega)) ?_
  rw [b2]
  exact Runs.over rfl
theorem run_drain (h : RgL c x R L) (hc : 0 < c) (hx : x = 0 ∨ x = 9223372036854775808) (h1 : R.tail < 4611686018427387000) (h2 : R.head < 4611686018427387000) (hh : R.tail ≠ R.head) (e : R.turn (R.head % c) = 2 * (R.head / c) + 1) :
    ∃ L', Runs 0 c 6 L .drain0 L' (.over 1 (R.val (R.head % c)) 0) ∧ RgL c x { R with head := R.head + 1, turn := upd R.turn (R.head % c) (2 * (R.head / c) + 2) } L' := by
  have e0 : stepS 0 c L .drain0 = .drain1 (L.getD 0 0).toNat := rfl
  have e1 : stepS 0 c L (.drain1 (L.getD 0 0).toNat) = osT (.t1 R.head) := by
    show (if (((L.getD 0 0).toNat : Nat) : Int) = L.getD 1 0 + 9223372036854775808 then OS.over 5 0 0 else OS.turn false (L.getD 1 0).toNat) = _
    rw [h.head, h.tail, if_neg (by omega)]; rfl
  obtain ⟨a2, b2⟩ := link_take h hc (.t1 R.head)
  simp only [takeStep, if_pos e, osTR] at a2 b2
  obtain ⟨a3, b3⟩ := link_take a2 hc (.t2 R.head)
  simp only [takeStep, osTR] at a3 b3
  obtain ⟨a4, b4⟩ := link_take a3 hc (.t3 R.head (R.val (R.head % c)))
  simp only [takeStep, osTR] at a4 b4
  obtain ⟨a5, b5⟩ := link_take a4 hc (.t4 R.head (R.val (R.head % c)))
  simp only [takeStep, osTR] at a5 b5
  refine ⟨_, ?_, a5⟩
  refine Runs.step rfl (h.nums hx (by omega) (by omega)) ?_
  rw [e0, show stepL 0 c L .drain0 = L from rfl]
  refine Runs.step rfl (h.nums hx (by omega) (by omega)) ?_
  rw [e1, show stepL 0 c L (.drain1 (L.getD 0 0).toNat) = L from rfl]
  refine Runs.step rfl (h.nums hx (by omega) (by omega)) ?_
  rw [b2]
  refine Runs.step rfl (a2.nums hx (by omega) (by omega)) ?_
  rw [b3]
  refine Runs.step rfl (a3.nums hx (by omega) (by omega)) ?_
  rw [b4]
  refine Runs.step rfl (a4.nums hx (by simp only; omega) (by simp only; omega)) ?_
  rw [b5]
  exact Runs.over rfl
end
end Go.Proofs.Ytpnpbgcndlfobaa
