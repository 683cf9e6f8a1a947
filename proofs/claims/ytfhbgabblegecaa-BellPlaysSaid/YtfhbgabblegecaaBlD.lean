/- A bell's operations as the document goes through them: from the beginning, with what they were answered. (Plain words.) -/
import Derived.Test.YtfhbgabblegecaaBlX
import Derived.Test.YtfhbgabblegecaaMemR
namespace Go.Proofs.Ytfhbgabblegecaa.Bl
open Go.RowKit

/-- Where one of a kind begins. -/
def begin (n kind : Nat) (v : Int) (x : Nat) : OS := if kind = 1 then bgn .sleep n v x else if kind = 2 then bgn .up n v x else if kind = 3 then bgn .poll n v x else .look 0
def OS.isOver : OS → Prop
  | .over _ _ => True
  | _ => False
theorem OS.isO_over (s : OS) : s.isO = true ↔ s.isOver := by cases s <;> simp [OS.isO, OS.isOver]
/-- What the document says of one that is over beside its outcome. -/
def OS.val : OS → Int
  | .over o x => if o = 7 then x else 0
  | _ => 0
/-- What the document wants of one that stands so. -/
def wantOf (b : Nat) : OS → Value
  | .over o x => .agg #[.bool true, .int .i64 0, .int .i64 0, .int .u64 0, .int .u64 0, .int .i64 (o : Int), .int .u64 (if o = 7 then x else 0), .int .u64 0]
  | s => accWant (acc b s)
theorem wantOf_acc (b : Nat) (s : OS) (h : ¬ s.isOver) : wantOf b s = accWant (acc b s) := by
  cases s <;> first | rfl | exact (h trivial).elim
theorem wantOf_over (b : Nat) (s : OS) (h : s.isOver) : ∃ (x5 x6 x7 : Int), wantOf b s = .agg #[.bool true, .int .i64 0, .int .i64 0, .int .u64 0, .int .u64 0, .int .i64 x5, .int .u64 x6, .int .u64 x7] := by
  cases s <;> first | exact h.elim | exact ⟨_, _, _, rfl⟩
theorem wantOf_agg (b : Nat) (s : OS) : ∃ (x0 : Bool) (x1 x2 x3 x4 x5 x6 x7 : Int), wantOf b s = .agg #[.bool x0, .int .i64 x1, .int .i64 x2, .int .u64 x3, .int .u64 x4, .int .i64 x5, .int .u64 x6, .int .u64 x7] := by
  have h : ∀ a, ∃ (x0 : Bool) (x1 x2 x3 x4 x5 x6 x7 : Int), accWant a = .agg #[.bool x0, .int .i64 x1, .int .i64 x2, .int .u64 x3, .int .u64 x4, .int .i64 x5, .int .u64 x6, .int .u64 x7] := by
    intro a
    cases a <;> exact ⟨_, _, _, _, _, _, _, _, rfl⟩
  cases s <;> first | exact ⟨_, _, _, _, _, _, _, _, rfl⟩ | (simp only [wantOf]; exact h _)

/-- Every cell is a number of 64 bits. -/
def U64s (L : List Int) : Prop := ∀ i, 0 ≤ L.getD i 0 ∧ L.getD i 0 < 18446744073709551616
theorem U64s.set {L : List Int} (h : U64s L) (i : Nat) {x : Int} (x0 : 0 ≤ x) (x1 : x < 18446744073709551616) : U64s (L.set i x) := by
  intro j
  have hj := h j
  simp only [List.getD_eq_getElem?_getD, List.getElem?_set] at hj ⊢
  split
  · split
    · simp [x0, x1]
    · simp
  · exact hj
def In64 (x : Int) : Prop := 0 ≤ x ∧ x < 18446744073709551616
theorem stepL_ok (b : Nat) {L : List Int} (s : OS) (hu : U64s L) : U64s (stepL b L s) := by
  cases s with
  | one k v cb cw => cases k <;> simp only [stepL, acc, Kd.acc, doAcc] <;> first | exact hu | exact hu.set _ (by decide) (by decide)
  | look v => exact hu
  | rouse v =>
    simp only [stepL, acc, doAcc]; split
    · exact hu.set _ (by decide) (by decide)
    · exact hu
  | over o x => exact hu
theorem zeros_ok (n : Nat) : U64s (zeros n) := fun i => by rw [getD_zeros]; decide
theorem acc_inn (b n : Nat) (s : OS) (m : Nat) (h : b + n ≤ m) (hok : s.ok n) (ho : ¬ s.isOver) : (acc b s).inn m := by
  cases s with
  | one k v cb cw => have hv : v < n := hok; cases k <;> simp only [acc, Kd.acc, Acc.inn] <;> omega
  | look v => have hv : v < n := hok; simp only [acc, Acc.inn]; omega
  | rouse v => have hv : v < n := hok; simp only [acc, Acc.inn]; omega
  | over o x => exact (ho trivial).elim

/-- Where it stands behind these answers. -/
def runL (n : Nat) (s : OS) (log : List Int) : OS := log.foldl (fun s a => res n a s) s
theorem runL_over (n o : Nat) (x : Int) : ∀ log, runL n (.over o x) log = .over o x
  | [] => rfl
  | a :: l => by show runL n (res n a (.over o x)) l = _; exact runL_over n o x l
theorem runL_snoc (n : Nat) (s : OS) (log : List Int) (a : Int) : runL n s (log ++ [a]) = res n a (runL n s log) := by simp [runL]
theorem runL_take (n : Nat) (s : OS) (log : List Int) (k : Nat) (hk : k < log.length) : runL n s (log.take (k + 1)) = res n (log.getD k 0) (runL n s (log.take k)) := by
  rw [List.take_succ_eq_append_getElem hk, runL_snoc]
  simp [List.getD_eq_getElem?_getD, hk]
theorem runL_all (n : Nat) (s : OS) (log : List Int) (k : Nat) (hk : k = log.length) : runL n s log = runL n s (log.take k) := by rw [hk, List.take_length]
theorem runL_done (n : Nat) (s : OS) (log : List Int) (k : Nat) {o : Nat} {x : Int} (h : runL n s (log.take k) = .over o x) : runL n s log = .over o x := by
  have : runL n s log = runL n (runL n s (log.take k)) (log.drop k) := by unfold runL; rw [← List.foldl_append, List.take_append_drop]
  rw [this, h, runL_over]
theorem res_ok (n : Nat) (a : Int) (s : OS) (h : s.ok n) : (res n a s).ok n := by
  cases s with
  | one k v cb cw => cases k <;> simp only [res, Kd.out] <;> (try split) <;> first | (show 1 ≤ 1; omega) | (show 1 ≤ 4; omega)
  | look v =>
    simp only [res]; split
    · exact h
    · exact on_ok n v h
  | rouse v =>
    simp only [res]; split
    · exact on_ok n v h
    · show 1 ≤ 7; omega
  | over o x => exact h
/-- What an access may answer one that stands so. -/
def Fit (s : OS) (a : Int) : Prop :=
  0 ≤ a ∧ a < 18446744073709551616 ∧ match s with
    | .rouse _ => a = 0 ∨ a = 1
    | .over _ _ => False
    | _ => True
/-- All that it was answered. -/
def Fits (n : Nat) (s : OS) (log : List Int) : Prop := ∀ i, i < log.length → Fit (runL n s (log.take i)) (log.getD i 0)
theorem fits_nil (n : Nat) (s : OS) : Fits n s [] := fun i hi => by simp at hi
theorem fits_snoc {n : Nat} {s : OS} {log : List Int} {a : Int} (hf : Fits n s log) (h : Fit (runL n s log) a) : Fits n s (log ++ [a]) := by
  intro i hi
  rcases Nat.lt_or_ge i log.length with l | l
  · have e1 : (log ++ [a]).take i = log.take i := List.take_append_of_le_length (by omega)
    have e2 : (log ++ [a]).getD i 0 = log.getD i 0 := by simp [List.getD, List.getElem?_append_left l]
    rw [e1, e2]; exact hf i l
  · have e : i = log.length := by simp at hi; omega
    subst e
    simpa using h
theorem fit_acc {b : Nat} {L : List Int} (s : OS) (ho : ¬ s.isOver) (hu : U64s L) : Fit s (doAcc L (acc b s)).2 := by
  cases s with
  | one k v cb cw => cases k <;> simp only [acc, Kd.acc, doAcc, Fit] <;> first | exact ⟨by omega, by omega, trivial⟩ | exact ⟨(hu _).1, (hu _).2, trivial⟩
  | look v => exact ⟨(hu _).1, (hu _).2, trivial⟩
  | rouse v => simp only [acc, doAcc, Fit]; split <;> simp
  | over o x => exact (ho trivial).elim
def LogOk (log : List Int) : Prop := ∀ i, i < log.length → 0 ≤ log.getD i 0 ∧ log.getD i 0 < 18446744073709551616
theorem Fits.logOk {n : Nat} {s : OS} {log : List Int} (hf : Fits n s log) : LogOk log := fun i hi => ⟨(hf i hi).1, (hf i hi).2.1⟩
theorem Fits.live {n : Nat} {s : OS} {log : List Int} (hf : Fits n s log) (k : Nat) (hk : k < log.length) : ¬ (runL n s (log.take k)).isOver := fun h => by
  have := (hf k hk).2.2
  generalize runL n s (log.take k) = s' at h this
  cases s' <;> first | exact h.elim | exact this
/-- A worker's own operation, gone through. -/
theorem run_one (n : Nat) (k : Kd) (v x y : Nat) (log : List Int) (hf : Fits n (.one k v x y) log) : (log = [] ∧ runL n (.one k v x y) log = .one k v x y) ∨ ∃ a, log = [a] ∧ runL n (.one k v x y) log = .over (k.out a) (-1) := by
  cases log with
  | nil => exact .inl ⟨rfl, rfl⟩
  | cons a l =>
    cases l with
    | nil => exact .inr ⟨a, rfl, rfl⟩
    | cons a2 l => exact absurd trivial (hf.live 1 (by simp))
theorem run_out (n o : Nat) (x : Int) (log : List Int) (hf : Fits n (.over o x) log) : log = [] := by
  cases log with
  | nil => rfl
  | cons a l => exact absurd trivial (hf.live 0 (by simp))
theorem begin_ok {n kind : Nat} {v : Int} {x : Nat} (hn : 0 < n) : (begin n kind v x).ok n := by
  unfold begin; split
  · exact bgn_ok _ _ _ _
  · split
    · exact bgn_ok _ _ _ _
    · split
      · exact bgn_ok _ _ _ _
      · exact hn
theorem begin_apart (n kind : Nat) (v : Int) (x : Nat) (S : Nat → Prop) (h0 : ¬ S x) (h1 : ¬ S (x + 1)) : (begin n kind v x).apart S := by
  unfold begin; split
  · exact bgn_apart _ _ _ _ _ h0 h1
  · split
    · exact bgn_apart _ _ _ _ _ h0 h1
    · split
      · exact bgn_apart _ _ _ _ _ h0 h1
      · trivial
theorem res_apart (n : Nat) (a : Int) (s : OS) (S : Nat → Prop) (h : s.apart S) : (res n a s).apart S := by
  cases s with
  | one k v cb cw => trivial
  | look v =>
    simp only [res]; split
    · trivial
    · exact on_apart n v S
  | rouse v =>
    simp only [res]; split
    · exact on_apart n v S
    · trivial
  | over o x => exact h
theorem runL_apart (n : Nat) (s : OS) (S : Nat → Prop) (h : s.apart S) (log : List Int) : (runL n s log).apart S := by
  induction log generalizing s with
  | nil => exact h
  | cons a l ih => exact ih _ (res_apart n a s S h)
theorem runL_ok (n : Nat) (s : OS) (h : s.ok n) (log : List Int) : (runL n s log).ok n := by
  induction log generalizing s with
  | nil => exact h
  | cons a l ih => exact ih _ (res_ok n a s h)
end Go.Proofs.Ytfhbgabblegecaa.Bl
