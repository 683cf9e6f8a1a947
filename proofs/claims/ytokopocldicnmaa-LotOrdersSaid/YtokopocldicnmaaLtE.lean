/- lot: plain words of orders and ranks. -/
import Derived.Test.YtokopocldicnmaaLtD
namespace Go.Proofs.Ytokopocldicnmaa.Lt
open Go.RowKit Go.Proofs.Ytokopocldicnmaa

theorem fac_pos (k : Nat) : 0 < fac k := by
  induction k with
  | zero => decide
  | succ k ih => rw [fac_succ]; exact Nat.mul_pos (by omega) ih
theorem ord_mod : ∀ (k d : Nat) (L : List Nat), ord k (d % fac k) L = ord k d L := by
  intro k
  induction k with
  | zero => intro d L; rfl
  | succ k ih =>
    intro d L
    have e1 : d % fac (k + 1) % (k + 1) = d % (k + 1) := by rw [fac_succ]; exact Nat.mod_mul_right_mod d (k + 1) (fac k)
    have e2 : d % fac (k + 1) / (k + 1) = d / (k + 1) % fac k := by rw [fac_succ]; exact Nat.mod_mul_right_div_self d (k + 1) (fac k)
    simp only [ord, e1, e2, ih]
theorem idx_at : ∀ (L : List Nat) (i : Nat), L.Nodup → i < L.length → L.idxOf (L.getD i 0) = i := by
  intro L
  induction L with
  | nil => intro i _ h; simp at h
  | cons y L ih =>
    intro i hn hi
    rw [List.nodup_cons] at hn
    cases i with
    | zero => simp
    | succ i =>
      have hi' : i < L.length := by simpa using hi
      have hne : (y == L.getD i 0) = false := by
        simp only [beq_eq_false_iff_ne, ne_eq]
        intro e
        exact hn.1 (by rw [e]; simp [List.getD_eq_getElem?_getD, List.getElem?_eq_getElem hi'])
      have e : (y :: L).getD (i + 1) 0 = L.getD i 0 := by simp
      rw [e, List.idxOf_cons, hne]
      simp only [cond_false, ih i hn.2 hi']
theorem rk_ord : ∀ (k d : Nat) (L : List Nat) (a q : Nat), L.Nodup → L.length = k → rk (ord k d L) L a q = some (a + q * (d % fac k)) := by
  intro k
  induction k with
  | zero => intro d L a q _ _; simp [ord, rk, fac, Nat.mod_one]
  | succ k ih =>
    intro d L a q hn hl
    have hp : d % (k + 1) < L.length := by rw [hl]; exact Nat.mod_lt _ (by omega)
    have hm : L.getD (d % (k + 1)) 0 ∈ L := by simp [List.getD_eq_getElem?_getD, List.getElem?_eq_getElem hp]
    simp only [ord, rk]
    rw [if_pos hm, idx_at L _ hn hp, ih _ _ _ _ (hn.sublist (List.eraseIdx_sublist _ _)) (by rw [List.length_eraseIdx, if_pos hp]; omega), hl]
    congr 1
    have : d % fac (k + 1) = d % (k + 1) + (k + 1) * (d / (k + 1) % fac k) := by rw [fac_succ]; exact Nat.mod_mul
    rw [this, Nat.mul_add q (d % (k + 1)), ← Nat.mul_assoc, ← Nat.add_assoc]
theorem upTo_nodup (n s : Nat) : (upTo n s).Nodup := (List.nodup_range).sublist List.filter_sublist
theorem upTo_mem (n s x : Nat) : x ∈ upTo n s ↔ x < n ∧ x ≠ s := by simp [upTo]
theorem ord_mem : ∀ (k d : Nat) (L : List Nat), L.length = k → ∀ x, x ∈ ord k d L → x ∈ L := by
  intro k
  induction k with
  | zero => intro d L _ x h; simp [ord] at h
  | succ k ih =>
    intro d L hl x h
    have hp : d % (k + 1) < L.length := by rw [hl]; exact Nat.mod_lt _ (by omega)
    simp only [ord, List.mem_cons] at h
    rcases h with rfl | h
    · simp [List.getD_eq_getElem?_getD, List.getElem?_eq_getElem hp]
    · exact List.mem_of_mem_eraseIdx (ih _ _ (by rw [List.length_eraseIdx, if_pos hp]; omega) x h)
theorem erase_at_nodup : ∀ (L : List Nat) (i : Nat), L.Nodup → i < L.length → L.getD i 0 ∉ L.eraseIdx i := by
  intro L
  induction L with
  | nil => intro i _ h; simp at h
  | cons y L ih =>
    intro i hn hi
    rw [List.nodup_cons] at hn
    cases i with
    | zero => simpa using hn.1
    | succ i =>
      have hi' : i < L.length := by simpa using hi
      have e : (y :: L).getD (i + 1) 0 = L.getD i 0 := by simp
      rw [e]
      simp only [List.eraseIdx_cons_succ, List.mem_cons, not_or]
      refine ⟨fun e2 => hn.1 (by rw [← e2]; simp [List.getD_eq_getElem?_getD, List.getElem?_eq_getElem hi']), ih i hn.2 hi'⟩
theorem ord_nodup : ∀ (k d : Nat) (L : List Nat), L.Nodup → L.length = k → (ord k d L).Nodup := by
  intro k
  induction k with
  | zero => intro d L _ _; simp [ord]
  | succ k ih =>
    intro d L hn hl
    have hp : d % (k + 1) < L.length := by rw [hl]; exact Nat.mod_lt _ (by omega)
    have hl' : (L.eraseIdx (d % (k + 1))).length = k := by rw [List.length_eraseIdx, if_pos hp]; omega
    simp only [ord, List.nodup_cons]
    exact ⟨fun h => erase_at_nodup L _ hn hp (ord_mem _ _ _ hl' _ h), ih _ _ (hn.sublist (List.eraseIdx_sublist _ _)) hl'⟩
theorem ord_first (k d : Nat) (L : List Nat) (hd : d < k) : (ord k d L).getD 0 0 = L.getD d 0 := by
  cases k with
  | zero => omega
  | succ k => simp [ord, Nat.mod_eq_of_lt hd]
theorem upTo_get (n s : Nat) : ∀ i, i < (upTo n s).length → (upTo n s).getD i 0 = if i < s then i else i + 1 := by
  induction n with
  | zero => intro i h; simp [upTo] at h
  | succ n ih =>
    intro i hi
    rw [upTo_succ] at hi ⊢
    by_cases e : n = s
    · rw [if_pos e] at hi ⊢; exact ih i hi
    · rw [if_neg e] at hi ⊢
      rcases Nat.lt_or_ge i (upTo n s).length with h | h
      · rw [← ih i h]; simp [List.getD_eq_getElem?_getD, List.getElem?_append_left h]
      · have hl := upTo_length n s
        have hi2 : i = (upTo n s).length := by simp at hi; omega
        rw [List.getD_eq_getElem?_getD, List.getElem?_append_right h, hi2]
        simp only [Nat.sub_self, List.getElem?_cons_zero, Option.getD_some]
        split at hl <;> split <;> omega
end Go.Proofs.Ytokopocldicnmaa.Lt
