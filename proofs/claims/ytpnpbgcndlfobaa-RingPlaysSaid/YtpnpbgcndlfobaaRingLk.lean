/- Plain words for RingPlays: an access of an operation that is not over lies in the cells; its answer fits; bounds that one step keeps. -/
import Derived.Test.YtpnpbgcndlfobaaRingZ
import Derived.Test.YtpnpbgcndlfobaaRingT
namespace Go.Proofs.Ytpnpbgcndlfobaa

theorem runL_snoc (c : Nat) (s : OS) (log : List Int) (a : Int) : runL c s (log ++ [a]) = res c a (runL c s log) := by simp [runL]
theorem acc_inn (b c : Nat) (s : OS) (hc : 0 < c) (n : Nat) (h : b + 2 + 2 * c ≤ n) (ho : ¬ s.isOver) : (acc b c s).inn n := by
  have ht : ∀ t, turnAt b c t + 1 < n := fun t => by have := Nat.mod_lt t hc; unfold turnAt; omega
  cases s <;> simp only [acc, Acc.inn] <;> first | omega | exact ho trivial | exact ht _ | exact Nat.lt_of_succ_lt (ht _)
theorem fits_nil (c : Nat) (s : OS) : Fits c s [] := fun i hi => by simp at hi
theorem fits_snoc {c : Nat} {s : OS} {log : List Int} {a : Int} (hf : Fits c s log) (h : Fit (runL c s log) a) : Fits c s (log ++ [a]) := by
  intro i hi
  rcases Nat.lt_or_ge i log.length with l | l
  · have e1 : (log ++ [a]).take i = log.take i := List.take_append_of_le_length (by omega)
    have e2 : (log ++ [a]).getD i 0 = log.getD i 0 := by simp [List.getD, List.getElem?_append_left l]
    rw [e1, e2]; exact hf i l
  · have e : i = log.length := by simp at hi; omega
    subst e
    simpa using h
/-- Every cell is a uint64. -/
def U64s (L : List Int) : Prop := ∀ i, 0 ≤ L.getD i 0 ∧ L.getD i 0 < 18446744073709551616
theorem fit_acc {b c : Nat} {L : List Int} (s : OS) (hn : Nums b L) (hu : U64s L) : Fit s (doAcc L (acc b c s)).2 := by
  obtain ⟨a1, a2, a3, a4⟩ := hn
  cases s <;> simp only [acc, doAcc, Fit]
  all_goals first
    | exact ⟨(hu _).1, (hu _).2, trivial⟩
    | exact ⟨(hu _).1, (hu _).2, a4⟩
    | exact ⟨by omega, by omega, trivial⟩
    | (split <;> simp)
theorem U64s.set {L : List Int} (h : U64s L) (i : Nat) {x : Int} (x0 : 0 ≤ x) (x1 : x < 18446744073709551616) : U64s (L.set i x) := by
  intro j
  have hj := h j
  simp only [List.getD_eq_getElem?_getD, List.getElem?_set] at hj ⊢
  split
  · split
    · simp [x0, x1]
    · simp
  · exact hj

/-- Tickets, head and tail are at most k (a tail that is shut apart). -/
def OS.le (k : Nat) : OS → Prop
  | .put0 v => 0 ≤ v ∧ v < 18446744073709551616
  | .put1 v t => (0 ≤ v ∧ v < 18446744073709551616) ∧ t ≤ k
  | .put2 v t => (0 ≤ v ∧ v < 18446744073709551616) ∧ t ≤ k
  | .put3 v t => (0 ≤ v ∧ v < 18446744073709551616) ∧ t ≤ k
  | .put4 v t => (0 ≤ v ∧ v < 18446744073709551616) ∧ t ≤ k
  | .turn _ t => t ≤ k
  | .val t => t ≤ k
  | .out t x => t ≤ k ∧ 0 ≤ x ∧ x < 18446744073709551616
  | .hd t x => t ≤ k ∧ 0 ≤ x ∧ x < 18446744073709551616
  | .close1 t => t ≤ k
  | .over o _ _ => 1 ≤ o
  | _ => True
def NumsK (b k : Nat) (L : List Int) : Prop := 0 ≤ L.getD b 0 ∧ (L.getD b 0 ≤ (k : Int) ∨ (9223372036854775808 : Int) ≤ L.getD b 0) ∧ 0 ≤ L.getD (b + 1) 0 ∧ L.getD (b + 1) 0 ≤ (k : Int)
theorem OS.le.tk {k : Nat} {s : OS} (h : s.le k) (hk : k < 4611686018427387904) : s.tk := by
  cases s <;> simp only [OS.le, OS.tk] at h ⊢ <;> omega
theorem OS.le.mono {k m : Nat} {s : OS} (h : s.le k) (hk : k ≤ m) : s.le m := by
  cases s <;> simp only [OS.le] at h ⊢ <;> omega
theorem NumsK.nums {b k : Nat} {L : List Int} (h : NumsK b k L) (hk : k < 4611686018427387904) : Nums b L := by
  unfold NumsK at h; unfold Nums; omega
theorem getD_set_neP {L : List Int} {i j : Nat} (h : i ≠ j) (x : Int) : (L.set i x).getD j 0 = L.getD j 0 := by
  simp [List.getD_eq_getElem?_getD, List.getElem?_set_ne h]
theorem getD_set_eqP {L : List Int} {i : Nat} (h : i < L.length) (x : Int) : (L.set i x).getD i 0 = x := by
  simp [List.getD_eq_getElem?_getD, h]
theorem NumsK.mono {b k : Nat} {L : List Int} (h : NumsK b k L) : NumsK b (k + 1) L := by
  unfold NumsK at h ⊢; omega
theorem NumsK.other {b k : Nat} {L : List Int} (h : NumsK b k L) (i : Nat) (hi : b + 2 ≤ i) (x : Int) : NumsK b (k + 1) (L.set i x) := by
  have h' := h.mono
  unfold NumsK at h' ⊢
  rw [getD_set_neP (by omega), getD_set_neP (by omega)]
  exact h'
theorem waitAt_le2 (c t : Nat) : waitAt c t ≤ 2 * t := by
  unfold waitAt
  have := Nat.div_le_self t c
  omega
theorem ite_le {k : Nat} {p : Prop} [Decidable p] {x y : OS} (h1 : p → x.le k) (h2 : ¬ p → y.le k) : (if p then x else y).le k := by
  by_cases h : p
  · rw [if_pos h]; exact h1 h
  · rw [if_neg h]; exact h2 h
theorem res_le (c k : Nat) (a : Int) (s : OS) (h : s.le k) (u : 0 ≤ a ∧ a < 18446744073709551616) (ha : (match s with
    | .put0 _ => a ≤ (k : Int) ∨ (9223372036854775808 : Int) ≤ a
    | .close0 => a ≤ (k : Int) ∨ (9223372036854775808 : Int) ≤ a
    | .take0 => a ≤ (k : Int)
    | .look0 => a ≤ (k : Int)
    | .drain1 _ => a ≤ (k : Int)
    | _ => True)) : (res c a s).le (k + 1) := by
  cases s <;> simp only [res] <;> simp only [OS.le] at h <;> dsimp only at ha
  all_goals repeat' first | (refine ite_le (fun _ => ?_) (fun _ => ?_))
  all_goals simp only [OS.le]
  all_goals omega
theorem stepS_le {b c k : Nat} {L : List Int} (s : OS) (h : s.le k) (hn : NumsK b k L) (hu : U64s L) : (stepS b c L s).le (k + 1) := by
  obtain ⟨a1, a2, a3, a4⟩ := hn
  refine res_le c k _ s h ?_ ?_
  · cases s <;> simp only [acc, doAcc]
    all_goals first
      | exact hu _
      | (split <;> simp)
      | simp
  · cases s <;> simp only [acc, doAcc] <;> first | trivial | exact a2 | exact a4
theorem stepL_keeps {b c k : Nat} {L : List Int} (s : OS) (h : s.le k) (hn : NumsK b k L) (hu : U64s L) (hL : b + 2 + 2 * c ≤ L.length) (hk : k < 1000000000) : NumsK b (k + 1) (stepL b c L s) ∧ U64s (stepL b c L s) := by
  have ht : ∀ t, b + 2 ≤ turnAt b c t := fun t => by unfold turnAt; omega
  have hm := hn.mono
  have hw := fun t => waitAt_le2 c t
  cases s <;> simp only [stepL, acc, doAcc] <;> simp only [OS.le] at h
  all_goals try exact ⟨hm, hu⟩
  case put2 v t =>
    split
    · refine ⟨?_, hu.set _ (by omega) (by omega)⟩
      obtain ⟨a1, a2, a3, a4⟩ := hn
      unfold NumsK
      rw [getD_set_eqP (by omega), getD_set_neP (by omega)]
      omega
    · exact ⟨hm, hu⟩
  case put3 v t => exact ⟨hn.other _ (by have := ht t; omega) _, hu.set _ h.1.1 h.1.2⟩
  case put4 v t => exact ⟨hn.other _ (ht t) _, hu.set _ (by omega) (by have := hw t; omega)⟩
  case out t x => exact ⟨hn.other _ (ht t) _, hu.set _ (by omega) (by have := hw t; omega)⟩
  case hd t x =>
    refine ⟨?_, hu.set _ (by omega) (by omega)⟩
    obtain ⟨a1, a2, a3, a4⟩ := hn
    unfold NumsK
    rw [getD_set_neP (by omega), getD_set_eqP (by omega)]
    omega
  case close1 t =>
    split
    · refine ⟨?_, hu.set _ (by omega) (by omega)⟩
      obtain ⟨a1, a2, a3, a4⟩ := hn
      unfold NumsK
      rw [getD_set_eqP (by omega), getD_set_neP (by omega)]
      omega
    · exact ⟨hm, hu⟩
end Go.Proofs.Ytpnpbgcndlfobaa
