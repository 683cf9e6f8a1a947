/- WheelOnTime: plain words. -/
import Derived.Test.YtpmgmdlfnlmieaaWhL
namespace Go.Proofs.Ytpmgmdlfnlmieaa.Wh
open Go.RowKit Go.Proofs.Ytpmgmdlfnlmieaa

/-- The first m timers: timer i is due D i behind A. -/
def LT (A : Nat) (D : Nat → Nat) (m : Nat) : List Tm := (List.range m).map fun i => ⟨i, A + D i, i⟩
theorem LT_succ (A : Nat) (D : Nat → Nat) (m : Nat) : LT A D (m + 1) = LT A D m ++ [⟨m, A + D m, m⟩] := by simp [LT, List.range_succ]
theorem LT_len (A : Nat) (D : Nat → Nat) (m : Nat) : (LT A D m).length = m := by simp [LT]
theorem LT_id (A : Nat) (D : Nat → Nat) (m : Nat) : ∀ t ∈ LT A D m, t.id ≠ m := by
  intro t ht
  simp only [LT, List.mem_map, List.mem_range] at ht
  obtain ⟨i, hi, rfl⟩ := ht
  show i ≠ m
  omega
/-- Who is left behind m ticks. -/
def LF (A : Nat) (D : Nat → Nat) (n m : Nat) : List Tm := (LT A D n).filter fun t => decide (A + m < t.due)
theorem LF_zero (A : Nat) (D : Nat → Nat) (n : Nat) (h : ∀ i, 1 ≤ D i) : LF A D n 0 = LT A D n := by
  unfold LF
  rw [List.filter_eq_self]
  intro t ht
  simp only [LT, List.mem_map, List.mem_range] at ht
  obtain ⟨i, hi, rfl⟩ := ht
  have := h i
  simp; omega
theorem LF_next (A : Nat) (D : Nat → Nat) (n m : Nat) : (LF A D n m).filter (fun t => !(t.due == A + m + 1)) = LF A D n (m + 1) := by
  unfold LF
  rw [List.filter_filter]
  refine filter_ext fun t _ => ?_
  rw [Bool.eq_iff_iff]
  simp
  omega
theorem LF_end (A : Nat) (D : Nat → Nat) (n m : Nat) (h : ∀ i, i < n → D i ≤ m) : LF A D n m = [] := by
  unfold LF
  rw [List.filter_eq_nil_iff]
  intro t ht
  simp only [LT, List.mem_map, List.mem_range] at ht
  obtain ⟨i, hi, rfl⟩ := ht
  have := h i hi
  simp; omega
theorem count_range (k : Nat) (P : Nat → Bool) : ∀ n, (List.range n).countP (fun i => i == k && P i) = if k < n ∧ P k = true then 1 else 0 := by
  intro n
  induction n with
  | zero => simp
  | succ n ih =>
    rw [List.range_succ, List.countP_append, ih]
    by_cases e : n = k
    · subst e
      cases h : P n <;> simp [h]
    · have e1 : (n == k) = false := beq_eq_false_iff_ne.2 e
      have e2 : (k < n + 1) = (k < n) := by rw [eq_iff_iff]; omega
      simp [e1, e2]
/-- How often the tick m + 1 tells timer k. -/
theorem told_count (A : Nat) (D : Nat → Nat) (n m k : Nat) (hk : k < n) : ((LF A D n m).filter fun t => t.due == A + m + 1).countP (fun t => t.id == k) = if D k = m + 1 then 1 else 0 := by
  unfold LF LT
  rw [List.countP_filter, List.countP_filter, List.countP_map]
  have e : (List.range n).countP ((fun a : Tm => (a.id == k && a.due == A + m + 1) && decide (A + m < a.due)) ∘ fun i => ⟨i, A + D i, i⟩) = (List.range n).countP (fun i => i == k && decide (D i = m + 1)) := by
    refine List.countP_congr fun i _ => ?_
    simp
    omega
  rw [e, count_range]
  simp [hk]
/-- The greatest of the first m delays. -/
def mx (D : Nat → Nat) : Nat → Nat
  | 0 => 0
  | m + 1 => max (mx D m) (D m)
theorem mx_ge (D : Nat → Nat) : ∀ m i, i < m → D i ≤ mx D m := by
  intro m
  induction m with
  | zero => intro i hi; omega
  | succ m ih =>
    intro i hi
    simp only [mx]
    by_cases e : i = m
    · subst e; omega
    · have := ih i (by omega); omega
theorem mx_le (D : Nat → Nat) (h : ∀ i, D i ≤ 4095) : ∀ m, mx D m ≤ 4095 := by
  intro m
  induction m with
  | zero => simp [mx]
  | succ m ih => have := h m; simp only [mx]; omega
/-- How many of the first j are timer k. -/
def tc (M : List Tm) (k j : Nat) : Nat := (M.take j).countP fun t => t.id == k
theorem tc_step (M : List Tm) (k j : Nat) (hj : j < M.length) : tc M k (j + 1) = if (M.getD j default).id = k then tc M k j + 1 else tc M k j := by
  unfold tc
  rw [List.take_succ_eq_append_getElem hj, List.countP_append]
  have e : M.getD j default = M[j] := by simp [hj]
  rw [e]
  by_cases h : M[j].id = k <;> simp [h]
theorem tc_le (M : List Tm) (k j : Nat) : tc M k j ≤ j := by
  unfold tc
  exact Nat.le_trans List.countP_le_length (List.length_take_le _ _)
end Go.Proofs.Ytpmgmdlfnlmieaa.Wh
