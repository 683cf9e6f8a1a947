/- A gate's operations as lists of accesses, and what each answers. (Plain words.) -/
import Derived.Test.YtokopocldicnmaaAccE
namespace Go.Proofs.Ytokopocldicnmaa.Gt
open Go.RowKit

/-- One more, in 64 bits; the turn at which a ticket's slot is there; the cell of its slot. -/
def up (x : Int) : Int := IntKind.u64.wrap (x + 1)
def wt (c : Nat) (x : Int) : Int := IntKind.u64.wrap (2 * (x / (c : Int)))
def due (c : Nat) (l x : Int) : Int := IntKind.u64.wrap (wt c x + l)
def turnIn (c : Nat) (x : Int) : Nat := 2 + 2 * (x.toNat % c)
def turnAt (b c : Nat) (x : Int) : Nat := b + turnIn c x
theorem turnIn_lt (c : Nat) (x : Int) (hc : 0 < c) : turnIn c x + 1 < 2 + 2 * c := by
  have := Nat.mod_lt x.toNat hc
  unfold turnIn; omega
theorem turnAt_lt (b c : Nat) (x : Int) (hc : 0 < c) : turnAt b c x + 1 < b + 2 + 2 * c := by
  have := turnIn_lt c x hc
  unfold turnAt; omega
theorem up_in (x : Int) : 0 ≤ up x ∧ up x < 18446744073709551616 := by unfold up; rw [IntKind.wrap_u64]; omega
theorem wt_in (c : Nat) (x : Int) : 0 ≤ wt c x ∧ wt c x < 18446744073709551616 := by unfold wt; rw [IntKind.wrap_u64]; omega
theorem due_in (c : Nat) (l x : Int) : 0 ≤ due c l x ∧ due c l x < 18446744073709551616 := by unfold due; rw [IntKind.wrap_u64]; omega

/-- Which way an operation goes: in, or out. -/
inductive Dir where
  | put (v : Int) | take
def Dir.cnt : Dir → Nat
  | .put _ => 0
  | .take => 1
def Dir.lead : Dir → Int
  | .put _ => 0
  | .take => 1
def Dir.early : Dir → Nat
  | .put _ => 2
  | .take => 4
/-- What it keeps of the answer at its value. -/
def Dir.keeps (a : Int) : Dir → Int
  | .put _ => 0
  | .take => a
/-- Where an operation stands. -/
inductive OS where
  | s0 (d : Dir) | s1 (d : Dir) (t : Int) | s2 (d : Dir) (t : Int) | s3 (d : Dir) (t : Int) | s4 (d : Dir) (t x : Int)
  | over (o : Nat) (x : Int)

/-- The access at the value. -/
def valAcc (b c : Nat) (t : Int) : Dir → Acc
  | .put v => .store (turnAt b c t + 1) v
  | .take => .load (turnAt b c t + 1)
/-- The next access. -/
def acc (b c : Nat) : OS → Acc
  | .s0 d => .load (b + d.cnt)
  | .s1 _ t => .load (turnAt b c t)
  | .s2 d t => .swap (b + d.cnt) t (up t)
  | .s3 d t => valAcc b c t d
  | .s4 d t _ => .store (turnAt b c t) (up (due c d.lead t))
  | .over _ _ => .none

/-- What its answer makes of it. -/
def res (c : Nat) (a : Int) : OS → OS
  | .s0 d => .s1 d a
  | .s1 d t => if due c d.lead t < a then .s0 d else if a < due c d.lead t then .over d.early 0 else .s2 d t
  | .s2 d t => if a = 0 then .s0 d else .s3 d t
  | .s3 d t => .s4 d t (d.keeps a)
  | .s4 _ _ x => .over 1 x
  | .over o x => .over o x

def OS.isOver : OS → Prop
  | .over _ _ => True
  | _ => False
def OS.isO : OS → Bool
  | .over _ _ => true
  | _ => false
theorem OS.isO_over (s : OS) : s.isO = true ↔ s.isOver := by cases s <;> simp [OS.isO, OS.isOver]
/-- What it tells: its outcome, its value. -/
def OS.o : OS → Int
  | .over o _ => (o : Int)
  | _ => 0
def OS.x : OS → Int
  | .over _ x => x
  | _ => 0
/-- Where one of a kind begins. -/
def begin (kind : Nat) (v : Int) : OS := if kind = 1 then .s0 (.put v) else .s0 .take
/-- What the document wants of one that stands so. -/
def wantOf (b c : Nat) : OS → Value
  | .over o x => .agg #[.bool true, .int .i64 0, .int .i64 0, .int .u64 0, .int .u64 0, .int .i64 (o : Int), .int .u64 x, .int .u64 0]
  | s => accWant (acc b c s)
theorem wantOf_acc (b c : Nat) (s : OS) (h : ¬ s.isOver) : wantOf b c s = accWant (acc b c s) := by
  cases s <;> first | rfl | exact (h trivial).elim
theorem wantOf_over (b c : Nat) (s : OS) (h : s.isOver) : ∃ (x5 x6 x7 : Int), wantOf b c s = .agg #[.bool true, .int .i64 0, .int .i64 0, .int .u64 0, .int .u64 0, .int .i64 x5, .int .u64 x6, .int .u64 x7] := by
  cases s <;> first | exact h.elim | exact ⟨_, _, _, rfl⟩

/-- One step: where it stands then; what the cells hold; how many accesses there were. -/
def stepS (b c : Nat) (L : List Int) (s : OS) : OS := res c (doAcc L (acc b c s)).2 s
def stepL (b c : Nat) (L : List Int) (s : OS) : List Int := (doAcc L (acc b c s)).1
def stepT (s : OS) (t : Int) : Int := if s.isO then t else t + 1
theorem stepL_length (b c : Nat) (L : List Int) (s : OS) : (stepL b c L s).length = L.length := doAcc_length _ _

/-- Every cell is a number of 64 bits. -/
def U64s (L : List Int) : Prop := ∀ i, 0 ≤ L.getD i 0 ∧ L.getD i 0 < 18446744073709551616
theorem U64s.set {L : List Int} (h : U64s L) (i : Nat) {x : Int} (x0 : 0 ≤ x) (x1 : x < 18446744073709551616) : U64s (L.set i x) := by
  intro j
  have hj := h j
  simp only [List.getD_eq_getElem?_getD, List.getElem?_set] at hj ⊢
  split
  · split
    · simp [x0, x1]
    · simp
  · exact hj
/-- So are the numbers that it keeps. -/
def In64 (x : Int) : Prop := 0 ≤ x ∧ x < 18446744073709551616
def Dir.ok : Dir → Prop
  | .put v => In64 v
  | .take => True
def OS.ok : OS → Prop
  | .s0 d => d.ok
  | .s1 d t => d.ok ∧ In64 t
  | .s2 d t => d.ok ∧ In64 t
  | .s3 d t => d.ok ∧ In64 t
  | .s4 d t x => d.ok ∧ In64 t ∧ In64 x
  | .over o x => 1 ≤ o ∧ In64 x
theorem isO_ne (s : OS) (h : s.ok) : (s.o != 0) = s.isO := by
  cases s <;> simp only [OS.o, OS.isO] <;> try rfl
  simp only [OS.ok] at h
  simp; omega
theorem ite_ok {p : Prop} [Decidable p] {x y : OS} (h1 : x.ok) (h2 : y.ok) : (if p then x else y).ok := by
  by_cases h : p
  · rw [if_pos h]; exact h1
  · rw [if_neg h]; exact h2
theorem in64_0 : In64 0 := by unfold In64; omega
theorem early_pos (d : Dir) : 1 ≤ d.early := by cases d <;> simp [Dir.early]
theorem keeps_in (d : Dir) {a : Int} (u : In64 a) : In64 (d.keeps a) := match d with | .put _ => in64_0 | .take => u
theorem res_ok (c : Nat) (a : Int) (s : OS) (h : s.ok) (u : In64 a) : (res c a s).ok := by
  cases s <;> simp only [res] <;> simp only [OS.ok] at h
  · exact ⟨h, u⟩
  · exact ite_ok h.1 (ite_ok ⟨early_pos _, in64_0⟩ h)
  · exact ite_ok h.1 h
  · exact ⟨h.1, h.2, keeps_in _ u⟩
  · exact ⟨by omega, h.2.2⟩
  · exact h
theorem ans_in (b c : Nat) {L : List Int} (s : OS) (hu : U64s L) : In64 (doAcc L (acc b c s)).2 := by
  cases s with
  | s0 d => exact hu _
  | s1 d t => exact hu _
  | s2 d t => simp only [acc, doAcc]; split <;> simp [In64]
  | s3 d t => exact (match d with | .put _ => in64_0 | .take => hu _)
  | s4 d t x => exact in64_0
  | over o x => exact in64_0
theorem stepS_ok (b c : Nat) {L : List Int} (s : OS) (h : s.ok) (hu : U64s L) : (stepS b c L s).ok := res_ok c _ s h (ans_in b c s hu)
theorem stepL_ok (b c : Nat) {L : List Int} (s : OS) (h : s.ok) (hu : U64s L) : U64s (stepL b c L s) := by
  cases s with
  | s0 d => exact hu
  | s1 d t => exact hu
  | s2 d t =>
    simp only [stepL, acc, doAcc]
    split
    · exact hu.set _ (up_in _).1 (up_in _).2
    · exact hu
  | s3 d t => cases d with
    | put v => exact hu.set _ h.1.1 h.1.2
    | take => exact hu
  | s4 d t x => exact hu.set _ (up_in _).1 (up_in _).2
  | over o x => exact hu
theorem cnt_lt (d : Dir) : d.cnt < 2 := by cases d <;> simp [Dir.cnt]
theorem acc_inn (b c : Nat) (s : OS) (hc : 0 < c) (n : Nat) (h : b + 2 + 2 * c ≤ n) (ho : ¬ s.isOver) : (acc b c s).inn n := by
  cases s with
  | s0 d => have := cnt_lt d; simp only [acc, Acc.inn]; omega
  | s1 d t => have := turnAt_lt b c t hc; simp only [acc, Acc.inn]; omega
  | s2 d t => have := cnt_lt d; simp only [acc, Acc.inn]; omega
  | s3 d t => have := turnAt_lt b c t hc; cases d <;> simp only [acc, valAcc, Acc.inn] <;> omega
  | s4 d t x => have := turnAt_lt b c t hc; simp only [acc, Acc.inn]; omega
  | over o x => exact ho trivial

/-- Where it stands behind these answers. -/
def runL (c : Nat) (s : OS) (log : List Int) : OS := log.foldl (fun s a => res c a s) s
theorem runL_over (c o : Nat) (x : Int) : ∀ log, runL c (.over o x) log = .over o x
  | [] => rfl
  | a :: l => by show runL c (res c a (.over o x)) l = _; exact runL_over c o x l
theorem runL_snoc (c : Nat) (s : OS) (log : List Int) (a : Int) : runL c s (log ++ [a]) = res c a (runL c s log) := by simp [runL]
/-- What an access may answer one that stands so. -/
def Fit (s : OS) (a : Int) : Prop :=
  0 ≤ a ∧ a < 18446744073709551616 ∧ match s with
    | .s2 _ _ => a = 0 ∨ a = 1
    | .over _ _ => False
    | _ => True
/-- All that it was answered. -/
def Fits (c : Nat) (s : OS) (log : List Int) : Prop := ∀ i, i < log.length → Fit (runL c s (log.take i)) (log.getD i 0)
theorem fits_nil (c : Nat) (s : OS) : Fits c s [] := fun i hi => by simp at hi
theorem fits_snoc {c : Nat} {s : OS} {log : List Int} {a : Int} (hf : Fits c s log) (h : Fit (runL c s log) a) : Fits c s (log ++ [a]) := by
  intro i hi
  rcases Nat.lt_or_ge i log.length with l | l
  · have e1 : (log ++ [a]).take i = log.take i := List.take_append_of_le_length (by omega)
    have e2 : (log ++ [a]).getD i 0 = log.getD i 0 := by simp [List.getD, List.getElem?_append_left l]
    rw [e1, e2]; exact hf i l
  · have e : i = log.length := by simp at hi; omega
    subst e
    simpa using h
theorem fit_acc {b c : Nat} {L : List Int} (s : OS) (ho : ¬ s.isOver) (hu : U64s L) : Fit s (doAcc L (acc b c s)).2 := by
  cases s with
  | s0 d => exact ⟨(hu _).1, (hu _).2, trivial⟩
  | s1 d t => exact ⟨(hu _).1, (hu _).2, trivial⟩
  | s2 d t => simp only [acc, doAcc, Fit]; split <;> simp
  | s3 d t => exact (match d with | .put _ => ⟨by show (0:Int) ≤ 0; omega, by show (0:Int) < _; omega, trivial⟩ | .take => ⟨(hu _).1, (hu _).2, trivial⟩)
  | s4 d t x => exact ⟨by show (0:Int) ≤ 0; omega, by show (0:Int) < _; omega, trivial⟩
  | over o x => exact (ho trivial).elim
end Go.Proofs.Ytokopocldicnmaa.Gt
