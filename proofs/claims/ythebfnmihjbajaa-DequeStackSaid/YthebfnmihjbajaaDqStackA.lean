/- A deque without thieves is a stack, in plain words. -/
import Derived.Test.YthebfnmihjbajaaDqX
import Derived.Test.YthebfnmihjbajaaDqB
namespace Go.Proofs.Ythebfnmihjbajaa.Dq

theorem up_of {x : Int} (h0 : 0 ≤ x) (h1 : x < 4611686018427387904) : up x = x + 1 := by unfold up; rw [IntKind.wrap_u64]; omega
theorem dn_of {x : Int} (h0 : 1 ≤ x) (h1 : x < 4611686018427387904) : dn x = x - 1 := by unfold dn; rw [IntKind.wrap_u64]; omega
theorem dif_of {x y : Int} (h0 : y ≤ x) (h1 : x - y < 4611686018427387904) : dif x y = x - y := by unfold dif; rw [IntKind.wrap_u64]; omega
theorem mod_ne {c t u : Nat} (h : t < u) (h2 : u < t + c) : t % c ≠ u % c := by
  intro e
  have h5 := Nat.div_add_mod t c
  have h6 := Nat.div_add_mod u c
  rcases Nat.lt_or_ge (t / c) (u / c) with h7 | h7
  · have : c * (t / c + 1) ≤ c * (u / c) := Nat.mul_le_mul_left c h7
    rw [Nat.mul_add] at this
    omega
  · have : c * (u / c) ≤ c * (t / c) := Nat.mul_le_mul_left c h7
    omega
theorem slot_nat (c n : Nat) : slotAt 0 c (n : Int) = 2 + n % c := by unfold slotAt; simp
theorem slot_of {c : Nat} {x : Int} {n : Nat} (h : x = (n : Int)) : slotAt 0 c x = 2 + n % c := by subst h; exact slot_nat c n

/-- The stack st lies in the cells L; T is the top, where thieves would steal; N bounds the bottom. -/
structure Stk (c : Nat) (L st : List Int) (T N : Nat) : Prop where
  pos : 0 < c
  len : L.length = 2 + c
  top : L.getD 0 0 = (T : Int)
  bot : L.getD 1 0 = ((T + st.length : Nat) : Int)
  one : 1 ≤ T
  lim : T + st.length ≤ N
  big : N < 1000000000
  room : st.length ≤ c
  val : ∀ j, j < st.length → L.getD (2 + (T + j) % c) 0 = st.getD j 0

theorem Stk.fresh (c : Nat) (hc : 0 < c) : Stk c (Dq.fresh c) [] 1 1 := by
  have e1 : (Dq.fresh c).getD 1 0 = 1 ∧ (Dq.fresh c).getD 0 0 = 1 := by
    unfold Dq.fresh
    have key : ∀ k, (layL (zeros (2 + c)) 0 k).getD 1 0 = 1 ∧ (layL (zeros (2 + c)) 0 k).getD 0 0 = 1 := by
      intro k
      induction k with
      | zero =>
        simp only [layL]
        rw [gset_eq (by rw [List.length_set, length_zeros]; omega), gset_ne (by decide), gset_eq (by rw [length_zeros]; omega)]
        exact ⟨rfl, rfl⟩
      | succ k ih =>
        simp only [layL]
        rw [gset_ne (by omega), gset_ne (by omega)]
        exact ih
    exact key c
  exact ⟨hc, length_fresh c, e1.2, e1.1, Nat.le_refl _, Nat.le_refl _, by decide, Nat.zero_le _, fun j hj => by simp at hj⟩

section
variable {c T N : Nat} {L st : List Int} {v : Int}
theorem Stk.cell {j : Nat} (h : Stk c L st T N) : 2 + j % c < L.length := by
  have := Nat.mod_lt j h.pos
  have := h.len
  omega
theorem Stk.push (h : Stk c L st T N) (v : Int) (hr : st.length < c) (hN : N + 1 < 1000000000) : ∃ L', Runs 0 c 4 L (.push0 v) L' (.over 1 0) ∧ Stk c L' (st ++ [v]) T (N + 1) := by
  have hb := h.bot
  have hl := h.lim
  have hd : dif ((T + st.length : Nat) : Int) (T : Int) = (st.length : Int) := by rw [dif_of (by omega) (by omega)]; omega
  have hs : slotAt 0 c ((T + st.length : Nat) : Int) = 2 + (T + st.length) % c := slot_nat _ _
  have hu : up ((T + st.length : Nat) : Int) = ((T + st.length + 1 : Nat) : Int) := by rw [up_of (by omega) (by omega)]; omega
  refine ⟨(L.set (2 + (T + st.length) % c) v).set 1 ((T + st.length + 1 : Nat) : Int), ?_, ?_⟩
  · refine Runs.step rfl ?_
    rw [S_push0, Nat.zero_add, hb, show stepL 0 c L (.push0 v) = L from rfl]
    refine Runs.step rfl ?_
    rw [S_push1, h.top, hd, if_neg (by omega), show stepL 0 c L (.push1 v ((T + st.length : Nat) : Int)) = L from rfl]
    refine Runs.step rfl ?_
    rw [S_push2, L_push2, hs]
    refine Runs.step rfl ?_
    rw [S_push3, L_push3, hu]
    exact Runs.over rfl
  · refine ⟨h.pos, by simp [h.len], ?_, ?_, h.one, by simp; omega, hN, by simp; omega, ?_⟩
    · rw [gset_ne (by decide), gset_ne (by omega)]; exact h.top
    · rw [gset_eq (by rw [List.length_set]; have := h.len; omega)]; simp; omega
    · intro j hj
      have hj' : j < st.length + 1 := by simpa using hj
      rw [gset_ne (by omega)]
      by_cases e : j = st.length
      · subst e
        rw [gset_eq h.cell]; simp
      · have := mod_ne (c := c) (t := T + j) (u := T + st.length) (by omega) (by omega)
        rw [gset_ne (by omega), h.val j (by omega)]
        simp [List.getD_eq_getElem?_getD, List.getElem?_append_left (show j < st.length by omega)]
theorem Stk.full (h : Stk c L st T N) (v : Int) (hr : st.length = c) : Runs 0 c 2 L (.push0 v) L (.over 2 0) := by
  have hb := h.bot
  have hl := h.lim
  have hB := h.big
  have hd : dif ((T + st.length : Nat) : Int) (T : Int) = (st.length : Int) := by rw [dif_of (by omega) (by omega)]; omega
  refine Runs.step rfl ?_
  rw [S_push0, Nat.zero_add, hb, show stepL 0 c L (.push0 v) = L from rfl]
  refine Runs.step rfl ?_
  rw [S_push1, h.top, hd, if_pos (by omega), show stepL 0 c L (.push1 v ((T + st.length : Nat) : Int)) = L from rfl]
  exact Runs.over rfl
/-- A Pop of nothing. -/
theorem Stk.none (h : Stk c L [] T N) : ∃ L', Runs 0 c 4 L .pop0 L' (.over 4 0) ∧ Stk c L' [] T N := by
  have hb : L.getD 1 0 = (T : Int) := h.bot
  have hl : T ≤ N := h.lim
  have ho := h.one
  have hB := h.big
  have hd : dn (T : Int) = (T : Int) - 1 := dn_of (by omega) (by omega)
  refine ⟨(L.set 1 ((T : Int) - 1)).set 1 (T : Int), ?_, ?_⟩
  · refine Runs.step rfl ?_
    rw [S_pop0, Nat.zero_add, hb, show stepL 0 c L .pop0 = L from rfl]
    refine Runs.step rfl ?_
    rw [S_pop1, L_pop1, hd]
    refine Runs.step rfl ?_
    rw [S_pop2, Nat.zero_add, gset_ne (by decide), h.top, hd, if_pos (by omega), show stepL 0 c (L.set 1 ((T : Int) - 1)) (.pop2 (T : Int)) = L.set 1 ((T : Int) - 1) from rfl]
    exact Runs.step rfl (Runs.over rfl)
  · refine ⟨h.pos, by simp [h.len], ?_, ?_, h.one, h.lim, h.big, h.room, fun j hj => by simp at hj⟩
    · rw [gset_ne (by decide), gset_ne (by decide)]; exact h.top
    · rw [gset_eq (by rw [List.length_set]; have := h.len; omega)]; simp
/-- A Pop of the last one that is in. -/
theorem Stk.pop (h : Stk c L (st ++ [v]) T N) : ∃ n L' T', n < 100 ∧ Runs 0 c n L .pop0 L' (.over 1 v) ∧ Stk c L' st T' N := by
  have hb : L.getD 1 0 = ((T + st.length + 1 : Nat) : Int) := by rw [h.bot]; simp; omega
  have hl : T + st.length + 1 ≤ N := by have := h.lim; simp at this; omega
  have ho := h.one
  have hB := h.big
  have hd : dn ((T + st.length + 1 : Nat) : Int) = ((T + st.length : Nat) : Int) := by rw [dn_of (by omega) (by omega)]; omega
  have hs : slotAt 0 c ((T + st.length : Nat) : Int) = 2 + (T + st.length) % c := slot_nat _ _
  have hv : L.getD (2 + (T + st.length) % c) 0 = v := by rw [h.val st.length (by simp)]; simp
  have hlen := h.len
  have hroom : st.length + 1 ≤ c := by have := h.room; simp at this; omega
  have hv' : ∀ x, (L.set 1 x).getD (2 + (T + st.length) % c) 0 = v := fun x => by rw [gset_ne (by omega)]; exact hv
  by_cases h0 : st.length = 0
  · obtain rfl : st = [] := List.eq_nil_of_length_eq_zero h0
    simp only [List.length_nil, Nat.add_zero] at *
    have hu : up (T : Int) = ((T + 1 : Nat) : Int) := by rw [up_of (by omega) (by omega)]; omega
    refine ⟨6, ((L.set 1 (T : Int)).set 0 ((T + 1 : Nat) : Int)).set 1 ((T + 1 : Nat) : Int), T + 1, by decide, ?_, ?_⟩
    · refine Runs.step rfl ?_
      rw [S_pop0, Nat.zero_add, hb, show stepL 0 c L .pop0 = L from rfl]
      refine Runs.step rfl ?_
      rw [S_pop1, L_pop1, hd]
      refine Runs.step rfl ?_
      rw [S_pop2, Nat.zero_add, gset_ne (by decide), h.top, hd, if_neg (by omega), if_neg (by omega), show stepL 0 c (L.set 1 (T : Int)) (.pop2 ((T + 1 : Nat) : Int)) = L.set 1 (T : Int) from rfl]
      refine Runs.step rfl ?_
      rw [S_popF, hd, hs, hv', show stepL 0 c (L.set 1 (T : Int)) (.popF ((T + 1 : Nat) : Int)) = L.set 1 (T : Int) from rfl]
      refine Runs.step rfl ?_
      rw [S_popR, L_popR, gset_ne (by decide), h.top, hd, if_pos rfl, if_pos rfl, hu]
      exact Runs.step rfl (Runs.over rfl)
    · refine ⟨h.pos, by simp [hlen], ?_, ?_, by omega, by simpa using hl, h.big, by simp, fun j hj => by simp at hj⟩
      · rw [gset_ne (by decide), gset_eq (by rw [List.length_set]; omega)]
      · rw [gset_eq (by rw [List.length_set, List.length_set]; omega)]; simp
  · refine ⟨4, L.set 1 ((T + st.length : Nat) : Int), T, by decide, ?_, ?_⟩
    · refine Runs.step rfl ?_
      rw [S_pop0, Nat.zero_add, hb, show stepL 0 c L .pop0 = L from rfl]
      refine Runs.step rfl ?_
      rw [S_pop1, L_pop1, hd]
      refine Runs.step rfl ?_
      rw [S_pop2, Nat.zero_add, gset_ne (by decide), h.top, hd, if_neg (by omega), if_pos (by omega), show stepL 0 c (L.set 1 ((T + st.length : Nat) : Int)) (.pop2 ((T + st.length + 1 : Nat) : Int)) = L.set 1 ((T + st.length : Nat) : Int) from rfl]
      refine Runs.step rfl ?_
      rw [S_popS, hd, hs, hv']
      exact Runs.over rfl
    · refine ⟨h.pos, by simp [hlen], ?_, ?_, h.one, by omega, h.big, by omega, ?_⟩
      · rw [gset_ne (by decide)]; exact h.top
      · rw [gset_eq (by omega)]
      · intro j hj
        rw [gset_ne (by omega), h.val j (by simp; omega)]
        simp [List.getD_eq_getElem?_getD, List.getElem?_append_left hj]
end
end Go.Proofs.Ythebfnmihjbajaa.Dq
