/- PostAsks: what the cells hold, and how the Asks stand. -/
import Derived.Test.YtmkcmncbiancgaaPoR
namespace Go.Proofs.Ytmkcmncbiancgaa.Po
open Go.RowKit Go.Proofs.Ytmkcmncbiancgaa

def aA (bx mg ng hb rb : Nat) : BA := ⟨bx, mg, ng, hb, rb, 0, 2, 8⟩
def aL0 : List Int := playL (zeros 26) 0 2 8
/-- Who is let through: k accesses behind its swap. -/
def aW (A : BA) (v : Int) : Nat → List Int × PS
  | 0 => (aL0.set 1 1, .put true (.put0 v))
  | k + 1 => (pstepL A (aW A v k).1 (aW A v k).2, pstepS A (aW A v k).1 (aW A v k).2)
section
variable (bx mg ng hb rb : Nat) (v : Int)
theorem aW_nums (k : Nat) (hk : k < 8) : PNums (aA bx mg ng hb rb) (aW (aA bx mg ng hb rb) v k).1 ∧ (aW (aA bx mg ng hb rb) v k).1.getD 1 0 = 1 := by
  match k, hk with
  | 0, _ => exact ⟨of_decide_eq_true (by kernel_rfl), by kernel_rfl⟩
  | 1, _ => exact ⟨of_decide_eq_true (by kernel_rfl), by kernel_rfl⟩
  | 2, _ => exact ⟨of_decide_eq_true (by kernel_rfl), by kernel_rfl⟩
  | 3, _ => exact ⟨of_decide_eq_true (by kernel_rfl), by kernel_rfl⟩
  | 4, _ => exact ⟨of_decide_eq_true (by kernel_rfl), by kernel_rfl⟩
  | 5, _ => exact ⟨of_decide_eq_true (by kernel_rfl), by kernel_rfl⟩
  | 6, _ => exact ⟨of_decide_eq_true (by kernel_rfl), by kernel_rfl⟩
  | 7, _ => exact ⟨of_decide_eq_true (by kernel_rfl), by kernel_rfl⟩
  | k + 8, h => omega
theorem aW_7 : (aW (aA bx mg ng hb rb) v 7).2 = .over 7 0 := by kernel_rfl
theorem aW_stay (k : Nat) : aW (aA bx mg ng hb rb) v (7 + k) = aW (aA bx mg ng hb rb) v 7 := by
  induction k with
  | zero => rfl
  | succ k ih =>
    show (pstepL _ (aW _ v (7 + k)).1 (aW _ v (7 + k)).2, pstepS _ (aW _ v (7 + k)).1 (aW _ v (7 + k)).2) = _
    have e := aW_7 bx mg ng hb rb v
    rw [ih]
    generalize aW (aA bx mg ng hb rb) v 7 = z at e ⊢
    obtain ⟨z1, z2⟩ := z
    have e : z2 = .over 7 0 := e
    subst e
    rfl
theorem aW_any (k : Nat) : PNums (aA bx mg ng hb rb) (aW (aA bx mg ng hb rb) v k).1 ∧ (aW (aA bx mg ng hb rb) v k).1.getD 1 0 = 1 := by
  by_cases hk : k < 8
  · exact aW_nums bx mg ng hb rb v k hk
  · obtain ⟨j, rfl⟩ : ∃ j, k = 7 + j := ⟨k - 7, by omega⟩
    rw [aW_stay]
    exact aW_nums bx mg ng hb rb v 7 (by decide)
theorem aW_ok (k : Nat) : (aW (aA bx mg ng hb rb) v k).2.ok := by
  induction k with
  | zero => exact ⟨rfl, trivial⟩
  | succ k ih => exact pstepS_ok _ _ _ ih (aW_any bx mg ng hb rb v k).1
/-- The Note of who was let through, and one more. -/
theorem a_note : ∃ LN LM, PRuns (aA bx mg ng hb rb) 5 (aW (aA bx mg ng hb rb) v 7).1 (.whole true .take0) LN (.over 1 v) ∧ PRuns (aA bx mg ng hb rb) 2 LN (.whole true .take0) LM (.over 4 0) :=
  ⟨nxt (aA bx mg ng hb rb) 5 (aW (aA bx mg ng hb rb) v 7).1 (.whole true .take0), nxt (aA bx mg ng hb rb) 2 (nxt (aA bx mg ng hb rb) 5 (aW (aA bx mg ng hb rb) v 7).1 (.whole true .take0)) (.whole true .take0), prun_of (by kernel_rfl), prun_of (by kernel_rfl)⟩
theorem aL0_nums : PNums (aA bx mg ng hb rb) aL0 := of_decide_eq_true (by kernel_rfl)
end
def vI (i : Nat) : Int := 100 + (i : Int)
/-- How the Asks stand, r i steps of the i-th one behind. -/
def AInv (A : BA) (n : Nat) (r : Nat → Nat) (L : List Int) (st : Nat → PS) : Prop :=
  (L = aL0 ∧ ∀ i, i < n → r i = 0 ∧ st i = .ask (vI i)) ∨
  ∃ u, u < n ∧ 1 ≤ r u ∧ L = (aW A (vI u) (r u - 1)).1 ∧ st u = (aW A (vI u) (r u - 1)).2 ∧ ∀ i, i < n → i ≠ u → (r i = 0 ∧ st i = .ask (vI i)) ∨ (1 ≤ r i ∧ st i = .over 4 0)
section
variable {bx mg ng hb rb n : Nat} {r : Nat → Nat} {L : List Int} {st : Nat → PS}
theorem AInv.facts (h : AInv (aA bx mg ng hb rb) n r L st) {p : Nat} (hp : p < n) : (st p).ok ∧ PNums (aA bx mg ng hb rb) L := by
  rcases h with ⟨rfl, h⟩ | ⟨u, hu, r1, rfl, h1, h2⟩
  · exact ⟨by rw [(h p hp).2]; trivial, aL0_nums bx mg ng hb rb⟩
  · refine ⟨?_, (aW_any bx mg ng hb rb (vI u) (r u - 1)).1⟩
    by_cases e : p = u
    · subst e; rw [h1]; exact aW_ok bx mg ng hb rb _ _
    · rcases h2 p hp e with z | z
      · rw [z.2]; trivial
      · rw [z.2]; exact (by decide : 1 ≤ 4)
theorem AInv.step (h : AInv (aA bx mg ng hb rb) n r L st) {p : Nat} (hp : p < n) : AInv (aA bx mg ng hb rb) n (upd r p (r p + 1)) (pstepL (aA bx mg ng hb rb) L (st p)) (upd st p (pstepS (aA bx mg ng hb rb) L (st p))) := by
  rcases h with ⟨rfl, h⟩ | ⟨u, hu, r1, rfl, h1, h2⟩
  · right
    refine ⟨p, hp, by rw [upd_same]; omega, ?_, ?_, fun i hi hne => ?_⟩
    · rw [upd_same, (h p hp).1, (h p hp).2]; rfl
    · rw [upd_same, upd_same, (h p hp).1, (h p hp).2]; rfl
    · rw [upd_other _ _ _ _ hne, upd_other _ _ _ _ hne]; exact .inl (h i hi)
  · right
    by_cases e : p = u
    · subst e
      refine ⟨p, hp, by rw [upd_same]; omega, ?_, ?_, fun i hi hne => ?_⟩
      · rw [upd_same, h1]
        obtain ⟨k, hk⟩ : ∃ k, r p = k + 1 := ⟨r p - 1, by omega⟩
        rw [hk]; rfl
      · rw [upd_same, upd_same, h1]
        obtain ⟨k, hk⟩ : ∃ k, r p = k + 1 := ⟨r p - 1, by omega⟩
        rw [hk]; rfl
      · rw [upd_other _ _ _ _ hne, upd_other _ _ _ _ hne]; exact h2 i hi hne
    · have e2 : ¬ u = p := fun z => e z.symm
      have g1 := (aW_any bx mg ng hb rb (vI u) (r u - 1)).2
      rcases h2 p hp e with z | z
      · have q : doAcc (aW (aA bx mg ng hb rb) (vI u) (r u - 1)).1 (.swap (0 + 1) 0 1) = ((aW (aA bx mg ng hb rb) (vI u) (r u - 1)).1, 0) := swap_no (by rw [g1]; decide)
        have qL : pstepL (aA bx mg ng hb rb) (aW (aA bx mg ng hb rb) (vI u) (r u - 1)).1 (st p) = (aW (aA bx mg ng hb rb) (vI u) (r u - 1)).1 := by rw [z.2]; exact congrArg Prod.fst q
        have qS : pstepS (aA bx mg ng hb rb) (aW (aA bx mg ng hb rb) (vI u) (r u - 1)).1 (st p) = .over 4 0 := by rw [z.2]; exact if_pos (congrArg Prod.snd q)
        rw [qL, qS]
        refine ⟨u, hu, by rw [upd_other _ _ _ _ e2]; exact r1, by rw [upd_other _ _ _ _ e2], by rw [upd_other _ _ _ _ e2, upd_other _ _ _ _ e2]; exact h1, fun i hi hne => ?_⟩
        by_cases e3 : i = p
        · subst e3; rw [upd_same, upd_same]; exact .inr ⟨by omega, rfl⟩
        · rw [upd_other _ _ _ _ e3, upd_other _ _ _ _ e3]; exact h2 i hi hne
      · have qL : pstepL (aA bx mg ng hb rb) (aW (aA bx mg ng hb rb) (vI u) (r u - 1)).1 (st p) = (aW (aA bx mg ng hb rb) (vI u) (r u - 1)).1 := by rw [z.2]; rfl
        have qS : pstepS (aA bx mg ng hb rb) (aW (aA bx mg ng hb rb) (vI u) (r u - 1)).1 (st p) = .over 4 0 := by rw [z.2]; rfl
        rw [qL, qS]
        refine ⟨u, hu, by rw [upd_other _ _ _ _ e2]; exact r1, by rw [upd_other _ _ _ _ e2], by rw [upd_other _ _ _ _ e2, upd_other _ _ _ _ e2]; exact h1, fun i hi hne => ?_⟩
        by_cases e3 : i = p
        · subst e3; rw [upd_same, upd_same]; exact .inr ⟨by omega, rfl⟩
        · rw [upd_other _ _ _ _ e3, upd_other _ _ _ _ e3]; exact h2 i hi hne
/-- Where each has made enough steps: just one is through. -/
theorem AInv.fin (h : AInv (aA bx mg ng hb rb) n r L st) (hn : 0 < n) (hr : ∀ i, i < n → 8 ≤ r i) : ∃ u, u < n ∧ L = (aW (aA bx mg ng hb rb) (vI u) 7).1 ∧ ∀ i, i < n → st i = if i = u then .over 7 0 else .over 4 0 := by
  rcases h with ⟨rfl, h⟩ | ⟨u, hu, r1, rfl, h1, h2⟩
  · have := (h 0 hn).1; have := hr 0 hn; omega
  · obtain ⟨k, hk⟩ : ∃ k, r u - 1 = 7 + k := ⟨r u - 8, by have := hr u hu; omega⟩
    refine ⟨u, hu, by rw [hk, aW_stay], fun i hi => ?_⟩
    by_cases e : i = u
    · subst e; rw [if_pos rfl, h1, hk, aW_stay, aW_7]
    · rw [if_neg e]
      rcases h2 i hi e with z | z
      · have := hr i hi; omega
      · exact z.2
end
/-- How often the i-th has had its turn at X, of those behind m. -/
def turns (n m i X : Nat) : Nat := (X + n - 1 - i) / n - (m + n - 1 - i) / n
theorem turns_le (n m i X : Nat) (hX : X ≤ m) : turns n m i X = 0 := by
  unfold turns
  have := Nat.div_le_div_right (c := n) (show X + n - 1 - i ≤ m + n - 1 - i by omega)
  omega
theorem turns_on (n m i X : Nat) (hn : 0 < n) (hn6 : n ≤ 6) (hi : i < n) (hX : m ≤ X) : turns n m i (X + 1) = turns n m i X + (if i = X % n then 1 else 0) := by
  unfold turns
  rcases (show n = 1 ∨ n = 2 ∨ n = 3 ∨ n = 4 ∨ n = 5 ∨ n = 6 by omega) with rfl | rfl | rfl | rfl | rfl | rfl <;> split <;> omega
theorem turns_end (n m i : Nat) (hn : 0 < n) (hn6 : n ≤ 6) (hi : i < n) : turns n m i (m + 20 * n) = 20 := by
  unfold turns
  rcases (show n = 1 ∨ n = 2 ∨ n = 3 ∨ n = 4 ∨ n = 5 ∨ n = 6 by omega) with rfl | rfl | rfl | rfl | rfl | rfl <;> omega
end Go.Proofs.Ytmkcmncbiancgaa.Po
