/- Rows of regions, as plain lists: what lies where, where there is room, what is put in and taken out. -/
import Derived.Test.YtgpagfgedimjeaaRows
import Derived.WalkKit
namespace Go.Proofs.Ytgpagfgedimjeaa

abbrev Reg := Nat × Nat

/-- The regions' cells, as values. -/
def regs (L : List Reg) : List Value := L.flatMap fun r => [Value.int .i64 (r.1 : Int), Value.int .i64 (r.2 : Int)]
theorem regs_nil : regs [] = [] := rfl
theorem regs_cons (r : Reg) (L : List Reg) : regs (r :: L) = Value.int .i64 (r.1 : Int) :: Value.int .i64 (r.2 : Int) :: regs L := by simp [regs]
theorem regs_append (A B : List Reg) : regs (A ++ B) = regs A ++ regs B := by simp [regs]
theorem regs_length : ∀ L : List Reg, (regs L).length = L.length * 2
  | [] => rfl
  | r :: L => by rw [regs_cons]; simp [regs_length L]; omega
theorem regs_take : ∀ (L : List Reg) (i : Nat), (regs L).take (i * 2) = regs (L.take i)
  | [], i => by simp [regs]
  | r :: L, 0 => by simp [regs]
  | r :: L, i + 1 => by
    rw [regs_cons, show (i + 1) * 2 = i * 2 + 1 + 1 by omega, List.take_succ_cons, List.take_succ_cons, regs_take L i, List.take_succ_cons, regs_cons]
theorem regs_drop : ∀ (L : List Reg) (i : Nat), (regs L).drop (i * 2) = regs (L.drop i)
  | [], i => by simp [regs]
  | r :: L, 0 => by simp
  | r :: L, i + 1 => by
    rw [regs_cons, show (i + 1) * 2 = i * 2 + 1 + 1 by omega, List.drop_succ_cons, List.drop_succ_cons, regs_drop L i, List.drop_succ_cons]
theorem regs_one (L : List Reg) : ∀ u ∈ regs L, u.oneCell' = true := by
  intro u hu
  simp only [regs, List.mem_flatMap] at hu
  obtain ⟨r, _, hr⟩ := hu
  simp at hr
  rcases hr with rfl | rfl <;> rfl

/-- The i-th region. -/
def regAt (L : List Reg) (i : Nat) : Reg := L.getD i (0, 0)
theorem regAt_get (L : List Reg) (i : Nat) (hi : i < L.length) : L[i]? = some (regAt L i) := by simp [regAt, hi]
theorem regs_get (L : List Reg) : ∀ (i : Nat), i < L.length → (regs L)[i * 2]? = some (.int .i64 ((regAt L i).1 : Int)) ∧ (regs L)[i * 2 + 1]? = some (.int .i64 ((regAt L i).2 : Int)) := by
  induction L with
  | nil => intro i hi; simp at hi
  | cons r L ih =>
    intro i hi
    rw [regs_cons]
    cases i with
    | zero => simp [regAt]
    | succ i =>
      have := ih i (by simpa using hi)
      rw [show (i + 1) * 2 = i * 2 + 1 + 1 by omega]
      simp only [List.getElem?_cons_succ]
      exact this
theorem regAt_append_left (A B : List Reg) (i : Nat) (h : i < A.length) : regAt (A ++ B) i = regAt A i := by
  simp [regAt, List.getD_eq_getElem?_getD, List.getElem?_append_left h]
theorem regAt_append_right (A B : List Reg) (i : Nat) (h : A.length ≤ i) : regAt (A ++ B) i = regAt B (i - A.length) := by
  simp [regAt, List.getD_eq_getElem?_getD, List.getElem?_append_right h]
theorem regAt_take (L : List Reg) (n i : Nat) (h : i < n) : regAt (L.take n) i = regAt L i := by
  simp [regAt, List.getD_eq_getElem?_getD, h]
theorem regAt_drop (L : List Reg) (n i : Nat) : regAt (L.drop n) i = regAt L (n + i) := by
  simp [regAt, List.getD_eq_getElem?_getD]
theorem regAt_cons_zero (r : Reg) (L : List Reg) : regAt (r :: L) 0 = r := rfl
theorem regAt_cons_succ (r : Reg) (L : List Reg) (i : Nat) : regAt (r :: L) (i + 1) = regAt L i := rfl

/-- Where the region ahead of the i-th ends. -/
def endAt (L : List Reg) : Nat → Nat
  | 0 => 0
  | i + 1 => (regAt L i).1 + (regAt L i).2
theorem endAt_zero (L : List Reg) : endAt L 0 = 0 := rfl
theorem endAt_succ (L : List Reg) (i : Nat) : endAt L (i + 1) = (regAt L i).1 + (regAt L i).2 := rfl

/-- The regions of an area of n cells: by their first cells, apart, within. -/
structure Ok (n : Nat) (L : List Reg) : Prop where
  pos : ∀ i, i < L.length → 1 ≤ (regAt L i).2
  ord : ∀ i, i < L.length → endAt L i ≤ (regAt L i).1
  fin : endAt L L.length ≤ n

theorem ok_nil (n : Nat) : Ok n [] := ⟨fun i h => by simp at h, fun i h => by simp at h, by simp [endAt]⟩

/-- What stands ahead of a region ends ahead of it. -/
theorem Ok.le {n : Nat} {L : List Reg} (h : Ok n L) : ∀ (j i : Nat), i ≤ j → j ≤ L.length → endAt L i ≤ endAt L j
  | 0, i, hi, _ => by rw [Nat.le_zero.1 hi]; exact Nat.le_refl _
  | j + 1, i, hi, hj => by
    by_cases e : i = j + 1
    · rw [e]; exact Nat.le_refl _
    · have := h.le j i (by omega) (by omega)
      have o := h.ord j (by omega)
      simp only [endAt_succ]
      omega
theorem Ok.end_le {n : Nat} {L : List Reg} (h : Ok n L) (i : Nat) (hi : i ≤ L.length) : endAt L i ≤ n := Nat.le_trans (h.le _ _ hi (Nat.le_refl _)) h.fin
theorem Ok.reg_le {n : Nat} {L : List Reg} (h : Ok n L) (i : Nat) (hi : i < L.length) : (regAt L i).1 + (regAt L i).2 ≤ n := h.end_le (i + 1) hi
theorem Ok.lt {n : Nat} {L : List Reg} (h : Ok n L) (i j : Nat) (hij : i < j) (hj : j < L.length) : (regAt L i).1 < (regAt L j).1 := by
  have a := h.le j (i + 1) hij (by omega)
  have b := h.ord j hj
  have c := h.pos i (by omega)
  simp only [endAt_succ] at a
  omega
theorem Ok.inj {n : Nat} {L : List Reg} (h : Ok n L) (i j : Nat) (hi : i < L.length) (hj : j < L.length) (e : (regAt L i).1 = (regAt L j).1) : i = j := by
  rcases Nat.lt_trichotomy i j with g | g | g
  · have := h.lt i j g hj; omega
  · exact g
  · have := h.lt j i g hi; omega

/-- How many cells the regions have. -/
def total (L : List Reg) : Nat := (L.map (·.2)).sum
theorem total_take_succ (L : List Reg) (i : Nat) (hi : i < L.length) : total (L.take (i + 1)) = total (L.take i) + (regAt L i).2 := by
  simp [total, List.take_add_one, regAt_get L i hi]
theorem Ok.total_le {n : Nat} {L : List Reg} (h : Ok n L) : ∀ (i : Nat), i ≤ L.length → total (L.take i) ≤ endAt L i
  | 0, _ => by simp [total]
  | i + 1, hi => by
    have := h.total_le i (by omega)
    have o := h.ord i (by omega)
    rw [total_take_succ _ _ (by omega)]
    simp only [endAt_succ]
    omega
theorem Ok.total_le_n {n : Nat} {L : List Reg} (h : Ok n L) : total L ≤ n := by
  have := h.total_le L.length (Nat.le_refl _)
  rw [List.take_length] at this
  exact Nat.le_trans this h.fin
theorem Ok.length_le_total {n : Nat} {L : List Reg} (h : Ok n L) : ∀ (i : Nat), i ≤ L.length → i ≤ total (L.take i)
  | 0, _ => Nat.zero_le _
  | i + 1, hi => by
    have := h.length_le_total i (by omega)
    have := h.pos i (by omega)
    rw [total_take_succ _ _ (by omega)]
    omega
theorem Ok.length_le {n : Nat} {L : List Reg} (h : Ok n L) : L.length ≤ n := by
  have := h.length_le_total L.length (Nat.le_refl _)
  rw [List.take_length] at this
  exact Nat.le_trans this h.total_le_n

/-- A region more, as the i-th. -/
def ins (L : List Reg) (i : Nat) (r : Reg) : List Reg := L.take i ++ r :: L.drop i
/-- Without the i-th. -/
def del (L : List Reg) (i : Nat) : List Reg := L.take i ++ L.drop (i + 1)
theorem length_ins (L : List Reg) (i : Nat) (r : Reg) : (ins L i r).length = L.length + 1 := by simp [ins]; omega
theorem length_del (L : List Reg) (i : Nat) (h : i < L.length) : (del L i).length = L.length - 1 := by simp [del]; omega
theorem total_append (A B : List Reg) : total (A ++ B) = total A + total B := by simp [total]
theorem total_cons (r : Reg) (B : List Reg) : total (r :: B) = r.2 + total B := by simp [total]
theorem total_ins (L : List Reg) (i : Nat) (r : Reg) : total (ins L i r) = total L + r.2 := by
  have : total L = total (L.take i) + total (L.drop i) := by rw [← total_append, List.take_append_drop]
  rw [ins, total_append, total_cons]; omega
theorem drop_at (L : List Reg) (i : Nat) (h : i < L.length) : L.drop i = regAt L i :: L.drop (i + 1) := by
  rw [List.drop_eq_getElem_cons h]; simp [regAt, h]
theorem total_del (L : List Reg) (i : Nat) (h : i < L.length) : total (del L i) + (regAt L i).2 = total L := by
  have : total L = total (L.take i) + total (L.drop i) := by rw [← total_append, List.take_append_drop]
  rw [del, total_append, this, drop_at L i h, total_cons]; omega
theorem regAt_ins_lt (L : List Reg) (i : Nat) (r : Reg) (j : Nat) (hi : i ≤ L.length) (h : j < i) : regAt (ins L i r) j = regAt L j := by
  rw [ins, regAt_append_left _ _ _ (by simp; omega), regAt_take _ _ _ h]
theorem regAt_ins_eq (L : List Reg) (i : Nat) (r : Reg) (hi : i ≤ L.length) : regAt (ins L i r) i = r := by
  rw [ins, regAt_append_right _ _ _ (by simp; omega), show i - (L.take i).length = 0 by simp; omega, regAt_cons_zero]
theorem regAt_ins_gt (L : List Reg) (i : Nat) (r : Reg) (j : Nat) (hi : i ≤ L.length) (h : i ≤ j) : regAt (ins L i r) (j + 1) = regAt L j := by
  rw [ins, regAt_append_right _ _ _ (by simp; omega), show j + 1 - (L.take i).length = (j - i) + 1 by simp; omega, regAt_cons_succ, regAt_drop, show i + (j - i) = j by omega]
theorem regAt_del_lt (L : List Reg) (i j : Nat) (hi : i < L.length) (h : j < i) : regAt (del L i) j = regAt L j := by
  rw [del, regAt_append_left _ _ _ (by simp; omega), regAt_take _ _ _ h]
theorem regAt_del_ge (L : List Reg) (i j : Nat) (hi : i < L.length) (h : i ≤ j) : regAt (del L i) j = regAt L (j + 1) := by
  rw [del, regAt_append_right _ _ _ (by simp; omega), regAt_drop]
  congr 1
  simp; omega

/-- Up to where the i-th gap goes. -/
def bnd (L : List Reg) (n i : Nat) : Nat := if i < L.length then (regAt L i).1 else n
theorem bnd_lt {L : List Reg} {n i : Nat} (h : i < L.length) : bnd L n i = (regAt L i).1 := by simp [bnd, h]
theorem bnd_end {L : List Reg} {n : Nat} : bnd L n L.length = n := by simp [bnd]
/-- k cells go into the i-th gap. -/
def Fits (L : List Reg) (n : Nat) (k : Int) (i : Nat) : Prop := k ≤ (bnd L n i : Int) - (endAt L i : Int)

theorem Ok.ins {n : Nat} {L : List Reg} (h : Ok n L) (i k : Nat) (hi : i ≤ L.length) (hk : 1 ≤ k) (hf : Fits L n k i) : Ok n (ins L i (endAt L i, k)) := by
  unfold Fits at hf
  have hl : (Proofs.Ytgpagfgedimjeaa.ins L i (endAt L i, k)).length = L.length + 1 := length_ins _ _ _
  have e1 : ∀ j, j ≤ i → endAt (Proofs.Ytgpagfgedimjeaa.ins L i (endAt L i, k)) j = endAt L j := by
    intro j hj
    cases j with
    | zero => rfl
    | succ j => simp only [endAt_succ]; rw [regAt_ins_lt _ _ _ _ hi (by omega)]
  have e2 : endAt (Proofs.Ytgpagfgedimjeaa.ins L i (endAt L i, k)) (i + 1) = endAt L i + k := by
    simp only [endAt_succ]; rw [regAt_ins_eq _ _ _ hi]
  have e3 : ∀ j, i < j → endAt (Proofs.Ytgpagfgedimjeaa.ins L i (endAt L i, k)) (j + 1) = endAt L j := by
    intro j hj
    cases j with
    | zero => omega
    | succ j => simp only [endAt_succ]; rw [regAt_ins_gt _ _ _ _ hi (by omega)]
  refine ⟨?_, ?_, ?_⟩
  · intro j hj
    rw [hl] at hj
    rcases Nat.lt_trichotomy j i with g | g | g
    · rw [regAt_ins_lt _ _ _ _ hi g]; exact h.pos j (by omega)
    · rw [g, regAt_ins_eq _ _ _ hi]; exact hk
    · obtain ⟨j, rfl⟩ : ∃ q, j = q + 1 := ⟨j - 1, by omega⟩
      rw [regAt_ins_gt _ _ _ _ hi (by omega)]; exact h.pos j (by omega)
  · intro j hj
    rw [hl] at hj
    rcases Nat.lt_trichotomy j i with g | g | g
    · rw [regAt_ins_lt _ _ _ _ hi g, e1 _ (by omega)]; exact h.ord j (by omega)
    · rw [g, regAt_ins_eq _ _ _ hi, e1 _ (Nat.le_refl _)]; exact Nat.le_refl _
    · obtain ⟨j, rfl⟩ : ∃ q, j = q + 1 := ⟨j - 1, by omega⟩
      rw [regAt_ins_gt _ _ _ _ hi (by omega)]
      by_cases q : j = i
      · rw [q, e2]
        rw [bnd_lt (by omega)] at hf
        omega
      · rw [e3 _ (by omega)]; exact h.ord j (by omega)
  · rw [hl]
    by_cases q : i = L.length
    · rw [← q, e2]
      rw [q, bnd_end] at hf
      rw [q]
      omega
    · rw [e3 _ (by omega)]; exact h.fin

theorem Ok.del {n : Nat} {L : List Reg} (h : Ok n L) (i : Nat) (hi : i < L.length) : Ok n (del L i) := by
  have hl : (Proofs.Ytgpagfgedimjeaa.del L i).length = L.length - 1 := length_del _ _ hi
  have e1 : ∀ j, j ≤ i → endAt (Proofs.Ytgpagfgedimjeaa.del L i) j = endAt L j := by
    intro j hj
    cases j with
    | zero => rfl
    | succ j => simp only [endAt_succ]; rw [regAt_del_lt _ _ _ hi (by omega)]
  have e3 : ∀ j, i < j → endAt (Proofs.Ytgpagfgedimjeaa.del L i) j = endAt L (j + 1) := by
    intro j hj
    cases j with
    | zero => omega
    | succ j => simp only [endAt_succ]; rw [regAt_del_ge _ _ _ hi (by omega)]
  refine ⟨?_, ?_, ?_⟩
  · intro j hj
    rw [hl] at hj
    by_cases g : j < i
    · rw [regAt_del_lt _ _ _ hi g]; exact h.pos j (by omega)
    · rw [regAt_del_ge _ _ _ hi (by omega)]; exact h.pos _ (by omega)
  · intro j hj
    rw [hl] at hj
    by_cases g : j < i
    · rw [regAt_del_lt _ _ _ hi g, e1 _ (by omega)]; exact h.ord j (by omega)
    · rw [regAt_del_ge _ _ _ hi (by omega)]
      by_cases q : j = i
      · rw [q, e1 _ (Nat.le_refl _)]
        have a := h.le (i + 1) i (by omega) (by omega)
        have b := h.ord (i + 1) (by omega)
        omega
      · rw [e3 _ (by omega)]; exact h.ord _ (by omega)
  · rw [hl]
    by_cases q : i < L.length - 1
    · rw [e3 _ q, show L.length - 1 + 1 = L.length by omega]; exact h.fin
    · rw [e1 _ (by omega)]; exact h.end_le _ (by omega)

/-- There is a first gap, or none. -/
theorem first_fit (L : List Reg) (n : Nat) (k : Int) : (∃ i, i ≤ L.length ∧ Fits L n k i ∧ ∀ j, j < i → ¬ Fits L n k j) ∨ (∀ i, i ≤ L.length → ¬ Fits L n k i) := by
  have key : ∀ m, (∃ i, i < m ∧ Fits L n k i ∧ ∀ j, j < i → ¬ Fits L n k j) ∨ (∀ i, i < m → ¬ Fits L n k i) := by
    intro m
    induction m with
    | zero => exact .inr fun i hi => by omega
    | succ m ih =>
      rcases ih with ⟨i, hi, h⟩ | h
      · exact .inl ⟨i, by omega, h⟩
      · by_cases hm : Fits L n k m
        · exact .inl ⟨m, by omega, hm, h⟩
        · exact .inr fun i hi => by
            by_cases e : i = m
            · rw [e]; exact hm
            · exact h i (by omega)
  rcases key (L.length + 1) with ⟨i, hi, h⟩ | h
  · exact .inl ⟨i, by omega, h⟩
  · exact .inr fun i hi => h i (by omega)

/-- A region that begins at b, or none. -/
theorem has_base (L : List Reg) (b : Int) : (∃ i, i < L.length ∧ ((regAt L i).1 : Int) = b) ∨ (∀ i, i < L.length → ((regAt L i).1 : Int) ≠ b) := by
  by_cases h : ∃ i, i < L.length ∧ ((regAt L i).1 : Int) = b
  · exact .inl h
  · exact .inr fun i hi e => h ⟨i, hi, e⟩
end Go.Proofs.Ytgpagfgedimjeaa
