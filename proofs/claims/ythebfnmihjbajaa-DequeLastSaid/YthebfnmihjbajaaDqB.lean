/- A deque's steps, one equation each. (Plain words.) -/
import Derived.Test.YthebfnmihjbajaaDqA
namespace Go.Proofs.Ythebfnmihjbajaa.Dq

theorem gset_ne {L : List Int} {i j : Nat} (h : i ≠ j) (x : Int) : (L.set i x).getD j 0 = L.getD j 0 := by
  simp [List.getD_eq_getElem?_getD, List.getElem?_set_ne h]
theorem gset_eq {L : List Int} {i : Nat} (h : i < L.length) (x : Int) : (L.set i x).getD i 0 = x := by
  simp [List.getD_eq_getElem?_getD, h]

section
variable (b c : Nat) (L : List Int) (v x t : Int)
theorem S_push0 : stepS b c L (.push0 v) = .push1 v (L.getD (b + 1) 0) := rfl
theorem S_push1 : stepS b c L (.push1 v x) = if (c : Int) ≤ dif x (L.getD b 0) then .over 2 0 else .push2 v x := rfl
theorem S_push2 : stepS b c L (.push2 v x) = .push3 x := rfl
theorem S_push3 : stepS b c L (.push3 x) = .over 1 0 := rfl
theorem S_pop0 : stepS b c L .pop0 = .pop1 (L.getD (b + 1) 0) := rfl
theorem S_pop1 : stepS b c L (.pop1 x) = .pop2 x := rfl
theorem S_pop2 : stepS b c L (.pop2 x) = if dn x < L.getD b 0 then .popN x else if L.getD b 0 < dn x then .popS x else .popF x := rfl
theorem S_popN : stepS b c L (.popN x) = .over 4 0 := rfl
theorem S_popS : stepS b c L (.popS x) = .over 1 (L.getD (slotAt b c (dn x)) 0) := rfl
theorem S_popF : stepS b c L (.popF x) = .popR x (L.getD (slotAt b c (dn x)) 0) := rfl
theorem S_popR : stepS b c L (.popR x v) = if L.getD b 0 = dn x then .popW x v else .popN x := by
  simp only [stepS, acc, doAcc]
  by_cases h : L.getD b 0 = dn x
  · rw [if_pos h, if_pos h]; rfl
  · rw [if_neg h, if_neg h]; rfl
theorem S_popW : stepS b c L (.popW x v) = .over 1 v := rfl
theorem S_st0 : stepS b c L .st0 = .st1 (L.getD b 0) := rfl
theorem S_st1 : stepS b c L (.st1 t) = if L.getD (b + 1) 0 ≤ t then .over 4 0 else .st2 t := rfl
theorem S_st2 : stepS b c L (.st2 t) = .st3 t (L.getD (slotAt b c t) 0) := rfl
theorem S_st3 : stepS b c L (.st3 t v) = if L.getD b 0 = t then .over 1 v else .over 6 0 := by
  simp only [stepS, acc, doAcc]
  by_cases h : L.getD b 0 = t
  · rw [if_pos h, if_pos h]; rfl
  · rw [if_neg h, if_neg h]; rfl
theorem L_push2 : stepL b c L (.push2 v x) = L.set (slotAt b c x) v := rfl
theorem L_push3 : stepL b c L (.push3 x) = L.set (b + 1) (up x) := rfl
theorem L_pop1 : stepL b c L (.pop1 x) = L.set (b + 1) (dn x) := rfl
theorem L_popN : stepL b c L (.popN x) = L.set (b + 1) x := rfl
theorem L_popW : stepL b c L (.popW x v) = L.set (b + 1) x := rfl
theorem L_popR : stepL b c L (.popR x v) = if L.getD b 0 = dn x then L.set b (up (dn x)) else L := by
  simp only [stepL, acc, doAcc]
  by_cases h : L.getD b 0 = dn x
  · rw [if_pos h, if_pos h]
  · rw [if_neg h, if_neg h]
theorem L_st3 : stepL b c L (.st3 t v) = if L.getD b 0 = t then L.set b (up t) else L := by
  simp only [stepL, acc, doAcc]
  by_cases h : L.getD b 0 = t
  · rw [if_pos h, if_pos h]
  · rw [if_neg h, if_neg h]
theorem L_same (s : OS) (h : match s with | .push2 _ _ => False | .push3 _ => False | .pop1 _ => False | .popN _ => False | .popW _ _ => False | .popR _ _ => False | .st3 _ _ => False | _ => True) : stepL b c L s = L := by
  cases s <;> first | exact h.elim | rfl
end
end Go.Proofs.Ythebfnmihjbajaa.Dq
