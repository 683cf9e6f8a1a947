/- mercy: ticks in plain words: a rising row, how many lie above one, what an insertion comes to, what all that was given has to do with what is kept. -/
import Derived.Test.YteafdhpnkgebnaaOnA
import Derived.Maps.OwnOps
import Derived.Maps.OwnSet
namespace Go.Proofs.Yteafdhpnkgebnaa.Me
open Go.RowKit Go.Proofs.Yteafdhpnkgebnaa

def iv (L : List Int) : List Value := L.map (Value.int .i64)
theorem iv_length (L : List Int) : (iv L).length = L.length := by simp [iv]
theorem iv_append (L M : List Int) : iv (L ++ M) = iv L ++ iv M := by simp [iv]
theorem iv_take (L : List Int) (k : Nat) : (iv L).take k = iv (L.take k) := by simp [iv]
theorem iv_drop (L : List Int) (k : Nat) : (iv L).drop k = iv (L.drop k) := by simp [iv]
theorem iv_one (L : List Int) : ∀ v ∈ iv L, v.oneCell' = true := by intro v hv; simp [iv] at hv; obtain ⟨x, _, rfl⟩ := hv; rfl
theorem iv_get (L : List Int) (j : Nat) (hj : j < L.length) : (iv L)[j]? = some (.int .i64 (L.getD j 0)) := by simp [iv, List.getD, hj]
def ins (L : List Int) (i : Nat) (t : Int) : List Int := L.take i ++ t :: L.drop i
theorem length_ins (L : List Int) (i : Nat) (t : Int) : (ins L i t).length = L.length + 1 := by simp [ins]; omega
theorem iv_ins (L : List Int) (i : Nat) (t : Int) : iv (ins L i t) = iv (L.take i) ++ ([.int .i64 t] ++ iv (L.drop i)) := by simp [ins, iv]
theorem iv_erase (L : List Int) (i : Nat) : iv (L.eraseIdx i) = iv (L.take i) ++ iv (L.drop (i + 1)) := by rw [List.eraseIdx_eq_take_drop_succ, iv_append]

/-- How many lie above T. -/
def gt (L : List Int) (T : Int) : Nat := (L.filter fun t => decide (T < t)).length
theorem gt_nil (T : Int) : gt [] T = 0 := rfl
theorem gt_append (L M : List Int) (T : Int) : gt (L ++ M) T = gt L T + gt M T := by simp [gt]
theorem gt_cons (t : Int) (L : List Int) (T : Int) : gt (t :: L) T = (if T < t then 1 else 0) + gt L T := by
  unfold gt
  by_cases h : T < t
  · simp [h]; omega
  · simp [h]
theorem gt_le (L : List Int) (T : Int) : gt L T ≤ L.length := List.length_filter_le _ _
theorem gt_snoc (L : List Int) (t T : Int) : gt (L ++ [t]) T = gt L T + (if T < t then 1 else 0) := by rw [gt_append, gt_cons, gt_nil]; omega
theorem gt_ins (L : List Int) (i : Nat) (t T : Int) : gt (ins L i t) T = gt L T + (if T < t then 1 else 0) := by
  have h : gt L T = gt (L.take i) T + gt (L.drop i) T := by rw [← gt_append, List.take_append_drop]
  rw [h]
  unfold ins
  rw [gt_append, gt_cons]; omega
theorem gt_all {L : List Int} {T : Int} (h : ∀ x ∈ L, T < x) : gt L T = L.length := by
  unfold gt
  rw [List.filter_eq_self.2 (fun x hx => by simpa using h x hx)]
theorem gt_none {L : List Int} {T : Int} (h : ∀ x ∈ L, ¬ T < x) : gt L T = 0 := by
  unfold gt
  rw [List.length_eq_zero_iff, List.filter_eq_nil_iff]
  intro x hx
  simpa using h x hx
theorem gt_mono (L : List Int) {T U : Int} (h : T ≤ U) : gt L U ≤ gt L T := by
  induction L with
  | nil => simp [gt]
  | cons t L ih => rw [gt_cons, gt_cons]; split <;> split <;> omega

/-- A rising row. -/
def Up (L : List Int) : Prop := L.Pairwise (· ≤ ·)
/-- Ahead of i all are low, from there on none is. -/
def Parts (L : List Int) (i : Nat) (low : Int → Prop) : Prop := i ≤ L.length ∧ (∀ j, j < i → low (L.getD j 0)) ∧ ∀ j, i ≤ j → j < L.length → ¬ low (L.getD j 0)
theorem Parts.take {L : List Int} {i : Nat} {low : Int → Prop} (h : Parts L i low) : ∀ x ∈ L.take i, low x := by
  intro x hx
  obtain ⟨j, hj, rfl⟩ := List.getElem_of_mem hx
  have hj' : j < i ∧ j < L.length := by simp at hj; omega
  have := h.2.1 j hj'.1
  rw [List.getElem_take]
  simpa [List.getD, hj'.2] using this
theorem Parts.drop {L : List Int} {i : Nat} {low : Int → Prop} (h : Parts L i low) : ∀ x ∈ L.drop i, ¬ low x := by
  intro x hx
  obtain ⟨j, hj, rfl⟩ := List.getElem_of_mem hx
  have hj' : i + j < L.length := by simp at hj; omega
  have := h.2.2 (i + j) (by omega) hj'
  rw [List.getElem_drop]
  simpa [List.getD, hj'] using this
theorem gt_parts {L : List Int} {i : Nat} {T : Int} (h : Parts L i (fun t => ¬ T < t)) : gt L T = L.length - i := by
  have e : gt L T = gt (L.take i) T + gt (L.drop i) T := by rw [← gt_append, List.take_append_drop]
  rw [e, gt_none h.take, gt_all (fun x hx => by have := h.drop x hx; omega)]
  simp
theorem Up.low {L : List Int} (h : Up L) {j k : Nat} (hjk : j ≤ k) (hk : k < L.length) : L.getD j 0 ≤ L.getD k 0 := by
  rcases Nat.lt_or_ge j k with h1 | h1
  · have := List.pairwise_iff_getElem.1 h j k (by omega) hk h1
    simpa [List.getD, hk, show j < L.length by omega] using this
  · obtain rfl : j = k := by omega
    exact Int.le_refl _
theorem Up.ins {L : List Int} {i : Nat} {t : Int} (h : Up L) (hp : Parts L i (fun x => x < t)) : Up (ins L i t) := by
  unfold Up Me.ins
  have h' : (L.take i ++ L.drop i).Pairwise (· ≤ ·) := by rw [List.take_append_drop]; exact h
  rw [List.pairwise_append] at h' ⊢
  obtain ⟨h1, h2, h3⟩ := h'
  refine ⟨h1, List.pairwise_cons.2 ⟨fun x hx => ?_, h2⟩, fun x hx y hy => ?_⟩
  · have := hp.drop x hx; omega
  · rcases List.mem_cons.1 hy with rfl | hy
    · have := hp.take x hx; omega
    · exact h3 x hx y hy

/-- Behind an Ask that gives one. -/
def askL (n : Nat) (L : List Int) (i : Nat) (t : Int) : List Int := if n < L.length + 1 then (ins L i t).eraseIdx 0 else ins L i t
def tick (now : Int) : Int := min (max now 0) 1099511627776
theorem tick_in (now : Int) : 0 ≤ tick now ∧ tick now ≤ 1099511627776 := by unfold tick; omega
/-- What is kept, of all that were given. -/
structure Rel (n : Nat) (A L : List Int) : Prop where
  up : Up L
  few : L.length ≤ n
  fit : ∀ x ∈ L, 0 ≤ x ∧ x ≤ 1099511627776
  cnt : ∀ T, gt L T = min n (gt A T)
theorem Rel.start (n : Nat) : Rel n [] [] := ⟨List.Pairwise.nil, Nat.zero_le _, fun x hx => by simp at hx, fun T => by simp [gt_nil]⟩
theorem mem_ins {L : List Int} {i : Nat} {t x : Int} (h : x ∈ ins L i t) : x ∈ L ∨ x = t := by
  unfold ins at h
  rcases List.mem_append.1 h with h | h
  · exact .inl (List.mem_of_mem_take h)
  · rcases List.mem_cons.1 h with h | h
    · exact .inr h
    · exact .inl (List.mem_of_mem_drop h)
theorem Rel.ask {n : Nat} {A L : List Int} (h : Rel n A L) {i : Nat} {t : Int} (ht : 0 ≤ t ∧ t ≤ 1099511627776) (hp : Parts L i (fun x => x < t)) : Rel n (A ++ [t]) (askL n L i t) := by
  have hu := h.up.ins hp
  have hm : ∀ x ∈ ins L i t, 0 ≤ x ∧ x ≤ 1099511627776 := fun x hx => by
    rcases mem_ins hx with hx | rfl
    · exact h.fit x hx
    · exact ht
  have hl := length_ins L i t
  have few := h.few
  unfold askL
  split
  · rename_i hn
    cases e : ins L i t with
    | nil => rw [e] at hl; simp at hl
    | cons m R =>
      rw [List.eraseIdx_cons_zero]
      rw [e] at hu hm hl
      simp only [List.length_cons] at hl
      refine ⟨(List.pairwise_cons.1 hu).2, by omega, fun x hx => hm x (List.mem_cons_of_mem _ hx), fun T => ?_⟩
      have h1 := gt_ins L i t T
      rw [e, gt_cons] at h1
      rw [gt_snoc]
      have h2 := h.cnt T
      have h3 := gt_le L T
      have h4 := gt_le R T
      by_cases hT : T < m
      · have h5 : gt R T = R.length := gt_all (fun x hx => by have := (List.pairwise_cons.1 hu).1 x hx; omega)
        rw [if_pos hT] at h1
        by_cases hTt : T < t
        · rw [if_pos hTt] at h1 ⊢; omega
        · rw [if_neg hTt] at h1 ⊢; omega
      · rw [if_neg hT] at h1
        by_cases hTt : T < t
        · rw [if_pos hTt] at h1 ⊢; omega
        · rw [if_neg hTt] at h1 ⊢; omega
  · rename_i hn
    refine ⟨hu, by omega, hm, fun T => ?_⟩
    rw [gt_ins, gt_snoc, h.cnt]
    have h3 := gt_le L T
    have h2 := h.cnt T
    split <;> omega
/-- How many are left. -/
def left (n : Nat) (win : Int) (A : List Int) (now : Int) : Nat := n - gt A (tick now - win)
theorem Rel.left {n : Nat} {A L : List Int} (h : Rel n A L) {i : Nat} {T : Int} (hp : Parts L i (fun x => ¬ T < x)) : (n : Int) - (L.length : Int) + (i : Int) = ((n - gt A T : Nat) : Int) := by
  have h1 := gt_parts hp
  have h2 := h.cnt T
  have h3 := hp.1
  have h4 := h.few
  omega
/-- The window's numbers as New makes them. -/
def kn (limit : Int) : Nat := (min (max limit 0) 100).toNat
def kw (within : Int) : Int := min (max within 1) 4095
theorem kn_eq (r : Int) : (kn r : Int) = min (max r 0) 100 := by unfold kn; omega
theorem kn_le (r : Int) : kn r ≤ 100 := by unfold kn; omega
theorem kw_in (r : Int) : 1 ≤ kw r ∧ kw r ≤ 4095 := by unfold kw; omega
end Go.Proofs.Yteafdhpnkgebnaa.Me
