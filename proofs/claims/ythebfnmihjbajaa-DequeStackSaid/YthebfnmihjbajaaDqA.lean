/- A deque's operations as lists of accesses, and what each answers. (Plain words.) -/
import Derived.Test.YthebfnmihjbajaaAccE
namespace Go.Proofs.Ythebfnmihjbajaa.Dq
open Go.RowKit

/-- One more, one less, in 64 bits; the cell of a number's slot. -/
def up (x : Int) : Int := IntKind.u64.wrap (x + 1)
def dn (x : Int) : Int := IntKind.u64.wrap (x - 1)
def dif (x y : Int) : Int := IntKind.u64.wrap (x - y)
def slotAt (b c : Nat) (x : Int) : Nat := b + (2 + x.toNat % c)
theorem slotAt_lt (b c : Nat) (x : Int) (hc : 0 < c) : slotAt b c x < b + 2 + c := by
  have := Nat.mod_lt x.toNat hc
  unfold slotAt; omega
theorem up_in (x : Int) : 0 ≤ up x ∧ up x < 18446744073709551616 := by unfold up; rw [IntKind.wrap_u64]; omega
theorem dn_in (x : Int) : 0 ≤ dn x ∧ dn x < 18446744073709551616 := by unfold dn; rw [IntKind.wrap_u64]; omega
theorem up_dn (x : Int) (h : 0 ≤ x ∧ x < 18446744073709551616) : up (dn x) = x := by unfold up dn; simp only [IntKind.wrap_u64]; omega

/-- Where an operation stands. -/
inductive OS where
  | push0 (v : Int) | push1 (v x : Int) | push2 (v x : Int) | push3 (x : Int)
  | pop0 | pop1 (x : Int) | pop2 (x : Int) | popN (x : Int) | popS (x : Int) | popF (x : Int) | popR (x v : Int) | popW (x v : Int)
  | st0 | st1 (t : Int) | st2 (t : Int) | st3 (t v : Int)
  | over (o : Nat) (x : Int)

/-- The next access. -/
def acc (b c : Nat) : OS → Acc
  | .push0 _ => .load (b + 1)
  | .push1 _ _ => .load b
  | .push2 v x => .store (slotAt b c x) v
  | .push3 x => .store (b + 1) (up x)
  | .pop0 => .load (b + 1)
  | .pop1 x => .store (b + 1) (dn x)
  | .pop2 _ => .load b
  | .popN x => .store (b + 1) x
  | .popS x => .load (slotAt b c (dn x))
  | .popF x => .load (slotAt b c (dn x))
  | .popR x _ => .swap b (dn x) (up (dn x))
  | .popW x _ => .store (b + 1) x
  | .st0 => .load b
  | .st1 _ => .load (b + 1)
  | .st2 t => .load (slotAt b c t)
  | .st3 t _ => .swap b t (up t)
  | .over _ _ => .none

/-- What its answer makes of it. -/
def res (c : Nat) (a : Int) : OS → OS
  | .push0 v => .push1 v a
  | .push1 v x => if (c : Int) ≤ dif x a then .over 2 0 else .push2 v x
  | .push2 _ x => .push3 x
  | .push3 _ => .over 1 0
  | .pop0 => .pop1 a
  | .pop1 x => .pop2 x
  | .pop2 x => if dn x < a then .popN x else if a < dn x then .popS x else .popF x
  | .popN _ => .over 4 0
  | .popS _ => .over 1 a
  | .popF x => .popR x a
  | .popR x v => if a = 0 then .popN x else .popW x v
  | .popW _ v => .over 1 v
  | .st0 => .st1 a
  | .st1 t => if a ≤ t then .over 4 0 else .st2 t
  | .st2 t => .st3 t a
  | .st3 _ v => if a = 0 then .over 6 0 else .over 1 v
  | .over o x => .over o x

def OS.isOver : OS → Prop
  | .over _ _ => True
  | _ => False
def OS.isO : OS → Bool
  | .over _ _ => true
  | _ => false
theorem OS.isO_over (s : OS) : s.isO = true ↔ s.isOver := by cases s <;> simp [OS.isO, OS.isOver]
/-- What it tells: its outcome, its value. -/
def OS.o : OS → Int
  | .over o _ => (o : Int)
  | _ => 0
def OS.x : OS → Int
  | .over _ x => x
  | _ => 0
/-- Where one of a kind begins. -/
def begin (kind : Nat) (v : Int) : OS := if kind = 1 then .push0 v else if kind = 2 then .pop0 else .st0
/-- What the document wants of one that stands so. -/
def wantOf (b c : Nat) : OS → Value
  | .over o x => .agg #[.bool true, .int .i64 0, .int .i64 0, .int .u64 0, .int .u64 0, .int .i64 (o : Int), .int .u64 x, .int .u64 0]
  | s => accWant (acc b c s)
theorem wantOf_acc (b c : Nat) (s : OS) (h : ¬ s.isOver) : wantOf b c s = accWant (acc b c s) := by
  cases s <;> first | rfl | exact (h trivial).elim
theorem wantOf_over (b c : Nat) (s : OS) (h : s.isOver) : ∃ (x5 x6 x7 : Int), wantOf b c s = .agg #[.bool true, .int .i64 0, .int .i64 0, .int .u64 0, .int .u64 0, .int .i64 x5, .int .u64 x6, .int .u64 x7] := by
  cases s <;> first | exact h.elim | exact ⟨_, _, _, rfl⟩

/-- One step: where it stands then; what the cells hold; how many accesses there were. -/
def stepS (b c : Nat) (L : List Int) (s : OS) : OS := res c (doAcc L (acc b c s)).2 s
def stepL (b c : Nat) (L : List Int) (s : OS) : List Int := (doAcc L (acc b c s)).1
def stepT (s : OS) (t : Int) : Int := if s.isO then t else t + 1
theorem stepL_length (b c : Nat) (L : List Int) (s : OS) : (stepL b c L s).length = L.length := doAcc_length _ _

/-- Every cell is a number of 64 bits. -/
def U64s (L : List Int) : Prop := ∀ i, 0 ≤ L.getD i 0 ∧ L.getD i 0 < 18446744073709551616
theorem U64s.set {L : List Int} (h : U64s L) (i : Nat) {x : Int} (x0 : 0 ≤ x) (x1 : x < 18446744073709551616) : U64s (L.set i x) := by
  intro j
  have hj := h j
  simp only [List.getD_eq_getElem?_getD, List.getElem?_set] at hj ⊢
  split
  · split
    · simp [x0, x1]
    · simp
  · exact hj
/-- So are the numbers that it keeps. -/
def In64 (x : Int) : Prop := 0 ≤ x ∧ x < 18446744073709551616
def OS.ok : OS → Prop
  | .push0 v => In64 v
  | .push1 v x => In64 v ∧ In64 x
  | .push2 v x => In64 v ∧ In64 x
  | .push3 x => In64 x
  | .pop1 x => In64 x
  | .pop2 x => In64 x
  | .popN x => In64 x
  | .popS x => In64 x
  | .popF x => In64 x
  | .popR x v => In64 x ∧ In64 v
  | .popW x v => In64 x ∧ In64 v
  | .st1 t => In64 t
  | .st2 t => In64 t
  | .st3 t v => In64 t ∧ In64 v
  | .over o x => 1 ≤ o ∧ In64 x
  | _ => True
theorem isO_ne (s : OS) (h : s.ok) : (s.o != 0) = s.isO := by
  cases s <;> simp only [OS.o, OS.isO] <;> try rfl
  simp only [OS.ok] at h
  simp; omega
theorem ite_ok {p : Prop} [Decidable p] {x y : OS} (h1 : x.ok) (h2 : y.ok) : (if p then x else y).ok := by
  by_cases h : p
  · rw [if_pos h]; exact h1
  · rw [if_neg h]; exact h2
theorem res_ok (c : Nat) (a : Int) (s : OS) (h : s.ok) (u : In64 a) : (res c a s).ok := by
  cases s <;> simp only [res] <;> simp only [OS.ok] at h
  all_goals repeat' first | (refine ite_ok ?_ ?_)
  all_goals simp only [OS.ok, In64] at *
  all_goals omega
theorem ans_in (b c : Nat) {L : List Int} (s : OS) (hu : U64s L) : In64 (doAcc L (acc b c s)).2 := by
  cases s <;> simp only [acc, doAcc] <;> first | exact hu _ | (split <;> simp [In64]) | simp [In64]
theorem stepS_ok (b c : Nat) {L : List Int} (s : OS) (h : s.ok) (hu : U64s L) : (stepS b c L s).ok := res_ok c _ s h (ans_in b c s hu)
theorem stepL_ok (b c : Nat) {L : List Int} (s : OS) (h : s.ok) (hu : U64s L) : U64s (stepL b c L s) := by
  have h1 := up_in
  have h2 := dn_in
  cases s <;> simp only [stepL, acc, doAcc] <;> simp only [OS.ok, In64] at h
  all_goals first
    | exact hu
    | exact hu.set _ (h1 _).1 (h1 _).2
    | exact hu.set _ (h2 _).1 (h2 _).2
    | exact hu.set _ (by omega) (by omega)
    | (split
       · exact hu.set _ (h1 _).1 (h1 _).2
       · exact hu)
theorem acc_inn (b c : Nat) (s : OS) (hc : 0 < c) (n : Nat) (h : b + 2 + c ≤ n) (ho : ¬ s.isOver) : (acc b c s).inn n := by
  have ht : ∀ t, slotAt b c t < n := fun t => by have := slotAt_lt b c t hc; omega
  cases s <;> simp only [acc, Acc.inn] <;> first | omega | exact ho trivial | exact ht _

/-- Where it stands behind these answers. -/
def runL (c : Nat) (s : OS) (log : List Int) : OS := log.foldl (fun s a => res c a s) s
theorem runL_over (c o : Nat) (x : Int) : ∀ log, runL c (.over o x) log = .over o x
  | [] => rfl
  | a :: l => by show runL c (res c a (.over o x)) l = _; exact runL_over c o x l
theorem runL_snoc (c : Nat) (s : OS) (log : List Int) (a : Int) : runL c s (log ++ [a]) = res c a (runL c s log) := by simp [runL]
/-- What an access may answer one that stands so. -/
def Fit (s : OS) (a : Int) : Prop :=
  0 ≤ a ∧ a < 18446744073709551616 ∧ match s with
    | .popR _ _ => a = 0 ∨ a = 1
    | .st3 _ _ => a = 0 ∨ a = 1
    | .over _ _ => False
    | _ => True
/-- All that it was answered. -/
def Fits (c : Nat) (s : OS) (log : List Int) : Prop := ∀ i, i < log.length → Fit (runL c s (log.take i)) (log.getD i 0)
theorem fits_nil (c : Nat) (s : OS) : Fits c s [] := fun i hi => by simp at hi
theorem fits_snoc {c : Nat} {s : OS} {log : List Int} {a : Int} (hf : Fits c s log) (h : Fit (runL c s log) a) : Fits c s (log ++ [a]) := by
  intro i hi
  rcases Nat.lt_or_ge i log.length with l | l
  · have e1 : (log ++ [a]).take i = log.take i := List.take_append_of_le_length (by omega)
    have e2 : (log ++ [a]).getD i 0 = log.getD i 0 := by simp [List.getD, List.getElem?_append_left l]
    rw [e1, e2]; exact hf i l
  · have e : i = log.length := by simp at hi; omega
    subst e
    simpa using h
theorem fit_acc {b c : Nat} {L : List Int} (s : OS) (ho : ¬ s.isOver) (hu : U64s L) : Fit s (doAcc L (acc b c s)).2 := by
  cases s <;> simp only [acc, doAcc, Fit]
  all_goals first
    | exact ⟨(hu _).1, (hu _).2, trivial⟩
    | exact ⟨by omega, by omega, trivial⟩
    | exact (ho trivial).elim
    | (split <;> simp)
end Go.Proofs.Ythebfnmihjbajaa.Dq
