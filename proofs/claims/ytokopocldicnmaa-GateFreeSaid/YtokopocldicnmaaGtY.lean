/- A gate's cells, from cell 0 on, as a gate's numbers: each step of an operation is the plain machine's; whole runs of one that is alone. -/
import Derived.Test.YtokopocldicnmaaGtX
import Derived.Test.YtokopocldicnmaaRingA
namespace Go.Proofs.Ytokopocldicnmaa.Gt
open Go.RowKit

def Dir.ld : Dir → Nat
  | .put _ => 0
  | .take => 1
def cntOf (R : Rg) : Dir → Nat
  | .put _ => R.tail
  | .take => R.head
def drawOf (R : Rg) (y : Nat) : Dir → Rg
  | .put _ => { R with tail := y }
  | .take => { R with head := y }
/-- Where an operation stands that isn't over. -/
inductive GS where
  | q0 | q1 (t : Nat) | q2 (t : Nat) | q3 (t : Nat) | q4 (t : Nat) (x : Int)
/-- What a step brings: it goes on, or it is over. -/
inductive GR where
  | on (s : GS) | early | done (x : Int)
def valOf (c : Nat) (R : Rg) (t : Nat) : Dir → Rg × GR
  | .put v => ({ R with val := upd R.val (t % c) v }, .on (.q4 t 0))
  | .take => (R, .on (.q4 t (R.val (t % c))))
/-- A step. -/
def gstep (c : Nat) (R : Rg) (d : Dir) : GS → Rg × GR
  | .q0 => (R, .on (.q1 (cntOf R d)))
  | .q1 t => if 2 * (t / c) + d.ld < R.turn (t % c) then (R, .on .q0) else if R.turn (t % c) < 2 * (t / c) + d.ld then (R, .early) else (R, .on (.q2 t))
  | .q2 t => if cntOf R d = t then (drawOf R (t + 1) d, .on (.q3 t)) else (R, .on .q0)
  | .q3 t => valOf c R t d
  | .q4 t x => ({ R with turn := upd R.turn (t % c) (2 * (t / c) + d.ld + 1) }, .done x)
def os (d : Dir) : GS → OS
  | .q0 => .s0 d
  | .q1 t => .s1 d t
  | .q2 t => .s2 d t
  | .q3 t => .s3 d t
  | .q4 t x => .s4 d t x
def osR (d : Dir) : GR → OS
  | .on s => os d s
  | .early => .over d.early 0
  | .done x => .over 1 x
theorem os_isO (d : Dir) (s : GS) : (os d s).isO = false := by cases s <;> rfl
/-- Its ticket is no greater than n. -/
def GS.tk (n : Nat) : GS → Prop
  | .q0 => True
  | .q1 t => t ≤ n
  | .q2 t => t ≤ n
  | .q3 t => t ≤ n
  | .q4 t _ => t ≤ n

theorem ggetD_set (L : List Int) (i j : Nat) (y : Int) (hi : i < L.length) : (L.set i y).getD j 0 = if i = j then y else L.getD j 0 := by
  simp only [List.getD_eq_getElem?_getD, List.getElem?_set]
  by_cases h : i = j
  · subst h; simp [hi]
  · simp [h]

/-- The cells L are those of the gate R of c slots. -/
structure RgL (c : Nat) (R : Rg) (L : List Int) : Prop where
  len : L.length = 2 + 2 * c
  tail : L.getD 0 0 = (R.tail : Int)
  head : L.getD 1 0 = (R.head : Int)
  turn : ∀ k, k < c → L.getD (2 + 2 * k) 0 = (R.turn k : Int)
  val : ∀ k, k < c → L.getD (2 + 2 * k + 1) 0 = R.val k
section
variable {c : Nat} {R : Rg} {L : List Int}
theorem RgL.cnt (h : RgL c R L) (d : Dir) : L.getD (0 + d.cnt) 0 = (cntOf R d : Int) := by
  cases d
  · exact h.tail
  · exact h.head
theorem RgL.draw (h : RgL c R L) (d : Dir) (y : Nat) : RgL c (drawOf R y d) (L.set (0 + d.cnt) (y : Int)) := by
  have hl := h.len
  cases d with
  | put v =>
    refine ⟨by simpa using h.len, ?_, ?_, ?_, ?_⟩
    · show (L.set 0 (y : Int)).getD 0 0 = _; rw [ggetD_set _ _ _ _ (by omega), if_pos rfl]; rfl
    · show (L.set 0 (y : Int)).getD 1 0 = _; rw [ggetD_set _ _ _ _ (by omega), if_neg (by omega)]; exact h.head
    · intro k hk; show (L.set 0 (y : Int)).getD _ 0 = _; rw [ggetD_set _ _ _ _ (by omega), if_neg (by omega)]; exact h.turn k hk
    · intro k hk; show (L.set 0 (y : Int)).getD _ 0 = _; rw [ggetD_set _ _ _ _ (by omega), if_neg (by omega)]; exact h.val k hk
  | take =>
    refine ⟨by simpa using h.len, ?_, ?_, ?_, ?_⟩
    · show (L.set 1 (y : Int)).getD 0 0 = _; rw [ggetD_set _ _ _ _ (by omega), if_neg (by omega)]; exact h.tail
    · show (L.set 1 (y : Int)).getD 1 0 = _; rw [ggetD_set _ _ _ _ (by omega), if_pos rfl]; rfl
    · intro k hk; show (L.set 1 (y : Int)).getD _ 0 = _; rw [ggetD_set _ _ _ _ (by omega), if_neg (by omega)]; exact h.turn k hk
    · intro k hk; show (L.set 1 (y : Int)).getD _ 0 = _; rw [ggetD_set _ _ _ _ (by omega), if_neg (by omega)]; exact h.val k hk
theorem RgL.setTurn (h : RgL c R L) (k y : Nat) (hk : k < c) : RgL c { R with turn := upd R.turn k y } (L.set (2 + 2 * k) (y : Int)) := by
  have hl := h.len
  refine ⟨by simpa using h.len, ?_, ?_, ?_, ?_⟩
  · rw [ggetD_set _ _ _ _ (by omega), if_neg (by omega)]; exact h.tail
  · rw [ggetD_set _ _ _ _ (by omega), if_neg (by omega)]; exact h.head
  · intro j hj; rw [ggetD_set _ _ _ _ (by omega)]
    by_cases e : j = k
    · subst e; rw [if_pos rfl]; simp [upd]
    · rw [if_neg (by omega)]; simp only [upd, if_neg e]; exact h.turn j hj
  · intro j hj; rw [ggetD_set _ _ _ _ (by omega), if_neg (by omega)]; exact h.val j hj
theorem RgL.setVal (h : RgL c R L) (k : Nat) (y : Int) (hk : k < c) : RgL c { R with val := upd R.val k y } (L.set (2 + 2 * k + 1) y) := by
  have hl := h.len
  refine ⟨by simpa using h.len, ?_, ?_, ?_, ?_⟩
  · rw [ggetD_set _ _ _ _ (by omega), if_neg (by omega)]; exact h.tail
  · rw [ggetD_set _ _ _ _ (by omega), if_neg (by omega)]; exact h.head
  · intro j hj; rw [ggetD_set _ _ _ _ (by omega), if_neg (by omega)]; exact h.turn j hj
  · intro j hj; rw [ggetD_set _ _ _ _ (by omega)]
    by_cases e : j = k
    · subst e; rw [if_pos rfl]; simp [upd]
    · rw [if_neg (by omega)]; simp only [upd, if_neg e]; exact h.val j hj
theorem RgL.fresh (c : Nat) : RgL c ⟨0, 0, fun _ => 0, fun _ => 0⟩ (zeros (2 + 2 * c)) :=
  ⟨length_zeros _, getD_zeros _ _, getD_zeros _ _, fun _ _ => getD_zeros _ _, fun _ _ => getD_zeros _ _⟩

theorem turnAt0 (c t : Nat) : turnAt 0 c t = 2 + 2 * (t % c) := by unfold turnAt turnIn; simp
theorem due_nat (c t : Nat) (d : Dir) (ht : t < 4611686018427387904) : due c d.lead t = ((2 * (t / c) + d.ld : Nat) : Int) := by
  have h1 : ((t : Int) / (c : Int)) = ((t / c : Nat) : Int) := rfl
  have h2 := Nat.div_le_self t c
  have h3 : d.lead = (d.ld : Int) ∧ d.ld ≤ 1 := by cases d <;> simp [Dir.lead, Dir.ld]
  unfold due wt
  rw [h1, h3.1]
  simp only [IntKind.wrap_u64]
  omega
theorem up_nat (t : Nat) (ht : t < 4611686018427387904) : up (t : Int) = ((t + 1 : Nat) : Int) := by
  unfold up; rw [IntKind.wrap_u64]; omega
theorem up_due (c t : Nat) (d : Dir) (ht : t < 4611686018427387904) : up (due c d.lead t) = ((2 * (t / c) + d.ld + 1 : Nat) : Int) := by
  have h2 := Nat.div_le_self t c
  have h3 : d.ld ≤ 1 := by cases d <;> simp [Dir.ld]
  rw [due_nat c t d ht]; unfold up; rw [IntKind.wrap_u64]; omega

theorem link (h : RgL c R L) (hc : 0 < c) (d : Dir) (s : GS) (hs : s.tk 4611686018427387000) :
    RgL c (gstep c R d s).1 (stepL 0 c L (os d s)) ∧ stepS 0 c L (os d s) = osR d (gstep c R d s).2 := by
  cases s with
  | q0 =>
    refine ⟨h, ?_⟩
    show OS.s1 d (L.getD (0 + d.cnt) 0) = _
    rw [h.cnt d]; rfl
  | q1 t =>
    have ht : t < 4611686018427387904 := by have : t ≤ 4611686018427387000 := hs; omega
    have e : L.getD (turnAt 0 c t) 0 = (R.turn (t % c) : Int) := by rw [turnAt0]; exact h.turn _ (Nat.mod_lt _ hc)
    have e2 : stepS 0 c L (os d (.q1 t)) = if ((2 * (t / c) + d.ld : Nat) : Int) < (R.turn (t % c) : Int) then OS.s0 d else if (R.turn (t % c) : Int) < ((2 * (t / c) + d.ld : Nat) : Int) then OS.over d.early 0 else OS.s2 d t := by
      show (if due c d.lead t < L.getD (turnAt 0 c t) 0 then OS.s0 d else if L.getD (turnAt 0 c t) 0 < due c d.lead t then OS.over d.early 0 else OS.s2 d t) = _
      rw [e, due_nat c t d ht]
    rw [e2]
    simp only [gstep]
    by_cases h1 : 2 * (t / c) + d.ld < R.turn (t % c)
    · rw [if_pos h1, if_pos (by omega)]; exact ⟨h, rfl⟩
    · rw [if_neg h1]
      by_cases h2 : R.turn (t % c) < 2 * (t / c) + d.ld
      · rw [if_pos h2, if_neg (by omega), if_pos (by omega)]; exact ⟨h, rfl⟩
      · rw [if_neg h2, if_neg (by omega), if_neg (by omega)]; exact ⟨h, rfl⟩
  | q2 t =>
    have ht : t < 4611686018427387904 := by have : t ≤ 4611686018427387000 := hs; omega
    have e := h.cnt d
    simp only [gstep]
    by_cases h1 : cntOf R d = t
    · rw [if_pos h1]
      have hx : L.getD (0 + d.cnt) 0 = (t : Int) := by rw [e, h1]
      refine ⟨?_, if_neg (fun hz => absurd ((congrArg Prod.snd (if_pos hx)).symm.trans hz) (by decide : ¬ (1 : Int) = 0))⟩
      have e3 : stepL 0 c L (os d (.q2 t)) = L.set (0 + d.cnt) (up t) := congrArg Prod.fst (if_pos hx)
      rw [e3, up_nat t ht]
      exact h.draw d (t + 1)
    · rw [if_neg h1]
      have hx : ¬ L.getD (0 + d.cnt) 0 = (t : Int) := by rw [e]; omega
      refine ⟨?_, if_pos (congrArg Prod.snd (if_neg hx))⟩
      have e3 : stepL 0 c L (os d (.q2 t)) = L := congrArg Prod.fst (if_neg hx)
      rw [e3]; exact h
  | q3 t =>
    cases d with
    | put v =>
      refine ⟨?_, rfl⟩
      show RgL c { R with val := upd R.val (t % c) v } (L.set (turnAt 0 c t + 1) v)
      rw [turnAt0]
      exact h.setVal _ v (Nat.mod_lt _ hc)
    | take =>
      have e : L.getD (turnAt 0 c t + 1) 0 = R.val (t % c) := by rw [turnAt0]; exact h.val _ (Nat.mod_lt _ hc)
      refine ⟨h, ?_⟩
      show OS.s4 .take t (L.getD (turnAt 0 c t + 1) 0) = _
      rw [e]; rfl
  | q4 t x =>
    have ht : t < 4611686018427387904 := by have : t ≤ 4611686018427387000 := hs; omega
    refine ⟨?_, rfl⟩
    show RgL c { R with turn := upd R.turn (t % c) (2 * (t / c) + d.ld + 1) } (L.set (turnAt 0 c t) (up (due c d.lead t)))
    rw [turnAt0, up_due c t d ht]
    exact h.setTurn (t % c) _ (Nat.mod_lt _ hc)

/-- One that is alone, and finds its slot there. -/
theorem run_on (h : RgL c R L) (hc : 0 < c) (d : Dir) (ht : cntOf R d < 4611686018427380000) (e : R.turn (cntOf R d % c) = 2 * (cntOf R d / c) + d.ld) :
    ∃ L', Runs 0 c 5 L (.s0 d) L' (.over 1 (d.keeps (R.val (cntOf R d % c)))) ∧
      RgL c { (match d with | .put v => { drawOf R (cntOf R d + 1) d with val := upd R.val (cntOf R d % c) v } | .take => drawOf R (cntOf R d + 1) d) with turn := upd R.turn (cntOf R d % c) (2 * (cntOf R d / c) + d.ld + 1) } L' := by
  obtain ⟨a1, b1⟩ := link h hc d .q0 trivial
  simp only [gstep, osR] at a1 b1
  obtain ⟨a2, b2⟩ := link a1 hc d (.q1 (cntOf R d)) (by show cntOf R d ≤ _; omega)
  simp only [gstep, e, Nat.lt_irrefl, if_false, osR] at a2 b2
  obtain ⟨a3, b3⟩ := link a2 hc d (.q2 (cntOf R d)) (by show cntOf R d ≤ _; omega)
  simp only [gstep, if_true, osR] at a3 b3
  obtain ⟨a4, b4⟩ := link a3 hc d (.q3 (cntOf R d)) (by show cntOf R d ≤ _; omega)
  cases d with
  | put v =>
    simp only [gstep, valOf, osR] at a4 b4
    obtain ⟨a5, b5⟩ := link a4 hc (.put v) (.q4 (cntOf R (.put v)) 0) (by show cntOf R (.put v) ≤ _; omega)
    simp only [gstep, osR] at a5 b5
    refine ⟨_, ?_, a5⟩
    refine Runs.step rfl ?_
    rw [show OS.s0 (.put v) = os (.put v) .q0 from rfl, b1]
    refine Runs.step rfl ?_
    rw [b2]
    refine Runs.step rfl ?_
    rw [b3]
    refine Runs.step rfl ?_
    rw [b4]
    refine Runs.step rfl ?_
    rw [b5]
    exact Runs.over rfl
  | take =>
    simp only [gstep, valOf, osR] at a4 b4
    rw [show (drawOf R (cntOf R .take + 1) .take).val = R.val from rfl] at b4
    obtain ⟨a5, b5⟩ := link a4 hc .take (.q4 (cntOf R .take) (R.val (cntOf R .take % c))) (by show cntOf R .take ≤ _; omega)
    simp only [gstep, osR] at a5 b5
    refine ⟨_, ?_, a5⟩
    refine Runs.step rfl ?_
    rw [show OS.s0 .take = os .take .q0 from rfl, b1]
    refine Runs.step rfl ?_
    rw [b2]
    refine Runs.step rfl ?_
    rw [b3]
    refine Runs.step rfl ?_
    rw [b4]
    refine Runs.step rfl ?_
    rw [b5]
    exact Runs.over rfl
theorem run_early (h : RgL c R L) (hc : 0 < c) (d : Dir) (ht : cntOf R d < 4611686018427380000) (e : R.turn (cntOf R d % c) < 2 * (cntOf R d / c) + d.ld) :
    Runs 0 c 2 L (.s0 d) L (.over d.early 0) := by
  obtain ⟨a1, b1⟩ := link h hc d .q0 trivial
  simp only [gstep, osR] at a1 b1
  obtain ⟨a2, b2⟩ := link a1 hc d (.q1 (cntOf R d)) (by show cntOf R d ≤ _; omega)
  simp only [gstep, if_neg (show ¬ 2 * (cntOf R d / c) + d.ld < R.turn (cntOf R d % c) by omega), if_pos e, osR] at a2 b2
  refine Runs.step rfl ?_
  rw [show OS.s0 d = os d .q0 from rfl, b1]
  refine Runs.step rfl ?_
  rw [b2]
  exact Runs.over rfl
end
end Go.Proofs.Ytokopocldicnmaa.Gt
