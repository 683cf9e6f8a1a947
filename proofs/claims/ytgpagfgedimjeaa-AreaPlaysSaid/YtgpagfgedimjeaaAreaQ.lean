/- Whose each cell is: the regions, cell by cell. -/
import Derived.Test.YtgpagfgedimjeaaAreaP
namespace Go.Proofs.Ytgpagfgedimjeaa

/-- Cell c lies in region r. -/
def InR (r : Reg) (c : Nat) : Prop := r.1 ≤ c ∧ c < r.1 + r.2
instance (r : Reg) (c : Nat) : Decidable (InR r c) := by unfold InR; infer_instance

/-- At which cell c's region begins; -1: it is free. -/
def own : List Reg → Nat → Int
  | [], _ => -1
  | r :: L, c => if InR r c then (r.1 : Int) else own L c

theorem own_cases : ∀ (L : List Reg) (c : Nat), (∃ i, i < L.length ∧ InR (regAt L i) c ∧ own L c = ((regAt L i).1 : Int)) ∨ ((∀ i, i < L.length → ¬ InR (regAt L i) c) ∧ own L c = -1)
  | [], c => .inr ⟨fun i h => by simp at h, rfl⟩
  | r :: L, c => by
    by_cases h : InR r c
    · exact .inl ⟨0, by simp, h, by simp [own, h, regAt]⟩
    · rcases own_cases L c with ⟨i, h1, h2, h3⟩ | ⟨h1, h2⟩
      · exact .inl ⟨i + 1, by simpa using h1, h2, by simp only [own, h, if_false]; exact h3⟩
      · refine .inr ⟨fun i hi => ?_, by simp only [own, h, if_false]; exact h2⟩
        cases i with
        | zero => exact h
        | succ i => exact h1 i (by simpa using hi)

theorem Ok.apart {n : Nat} {L : List Reg} (ok : Ok n L) (i j c : Nat) (hi : i < L.length) (hj : j < L.length) (h1 : InR (regAt L i) c) (h2 : InR (regAt L j) c) : i = j := by
  have key : ∀ a b, a < b → b < L.length → (regAt L a).1 + (regAt L a).2 ≤ (regAt L b).1 := fun a b hab hb => by
    have p := ok.le b (a + 1) hab (by omega)
    have q := ok.ord b hb
    rw [endAt_succ] at p
    omega
  unfold InR at h1 h2
  rcases Nat.lt_trichotomy i j with g | g | g
  · have := key i j g hj; omega
  · exact g
  · have := key j i g hi; omega
theorem Ok.own_in {n : Nat} {L : List Reg} (ok : Ok n L) (i c : Nat) (hi : i < L.length) (h : InR (regAt L i) c) : own L c = ((regAt L i).1 : Int) := by
  rcases own_cases L c with ⟨j, h1, h2, h3⟩ | ⟨h1, _⟩
  · have := ok.apart i j c hi h1 h h2
    rw [this]; exact h3
  · exact absurd h (h1 i hi)
theorem own_out {L : List Reg} (c : Nat) (h : ∀ i, i < L.length → ¬ InR (regAt L i) c) : own L c = -1 := by
  rcases own_cases L c with ⟨j, h1, h2, _⟩ | ⟨_, h2⟩
  · exact absurd h2 (h j h1)
  · exact h2
/-- A cell that is not free lies in a region; where its region begins. -/
theorem own_nonneg {L : List Reg} (c : Nat) (h : 0 ≤ own L c) : ∃ i, i < L.length ∧ InR (regAt L i) c ∧ own L c = ((regAt L i).1 : Int) := by
  rcases own_cases L c with h1 | ⟨_, h2⟩
  · exact h1
  · omega
theorem own_range (L : List Reg) (c : Nat) : -1 ≤ own L c ∧ own L c ≤ (c : Int) := by
  rcases own_cases L c with ⟨i, _, h2, h3⟩ | ⟨_, h2⟩
  · unfold InR at h2; omega
  · omega

theorem own_ins_at {n : Nat} {L : List Reg} (ok : Ok n L) (i k : Nat) (hi : i ≤ L.length) (hk : 1 ≤ k) (hf : Fits L n k i) (c : Nat) :
    own (ins L i (endAt L i, k)) c = if endAt L i ≤ c ∧ c < endAt L i + k then (endAt L i : Int) else own L c := by
  have ok' := ok.ins i k hi hk hf
  have hl := length_ins L i (endAt L i, k)
  have he := regAt_ins_eq L i (endAt L i, k) hi
  by_cases h : endAt L i ≤ c ∧ c < endAt L i + k
  · rw [if_pos h, ok'.own_in i c (by omega) (by rw [he]; exact h), he]
  · rw [if_neg h]
    rcases own_cases L c with ⟨j, h1, h2, h3⟩ | ⟨h1, h2⟩
    · rw [h3]
      by_cases hj : j < i
      · have e := regAt_ins_lt L i (endAt L i, k) j hi hj
        rw [ok'.own_in j c (by omega) (by rw [e]; exact h2), e]
      · have e := regAt_ins_gt L i (endAt L i, k) j hi (by omega)
        rw [ok'.own_in (j + 1) c (by omega) (by rw [e]; exact h2), e]
    · rw [h2]
      refine own_out c fun j hj => ?_
      rw [hl] at hj
      rcases Nat.lt_trichotomy j i with g | g | g
      · rw [regAt_ins_lt _ _ _ _ hi g]; exact h1 j (by omega)
      · rw [g, he]; exact h
      · obtain ⟨j, rfl⟩ : ∃ q, j = q + 1 := ⟨j - 1, by omega⟩
        rw [regAt_ins_gt _ _ _ _ hi (by omega)]; exact h1 j (by omega)

theorem own_del_at {n : Nat} {L : List Reg} (ok : Ok n L) (i : Nat) (hi : i < L.length) (c : Nat) :
    own (del L i) c = if InR (regAt L i) c then -1 else own L c := by
  have ok' := ok.del i hi
  have hl := length_del L i hi
  by_cases h : InR (regAt L i) c
  · rw [if_pos h]
    refine own_out c fun j hj => ?_
    rw [hl] at hj
    intro h2
    by_cases hj2 : j < i
    · rw [regAt_del_lt _ _ _ hi hj2] at h2
      have := ok.apart i j c hi (by omega) h h2; omega
    · rw [regAt_del_ge _ _ _ hi (by omega)] at h2
      have := ok.apart i (j + 1) c hi (by omega) h h2; omega
  · rw [if_neg h]
    rcases own_cases L c with ⟨j, h1, h2, h3⟩ | ⟨h1, h2⟩
    · rw [h3]
      rcases Nat.lt_trichotomy j i with g | g | g
      · have e := regAt_del_lt L i j hi g
        rw [ok'.own_in j c (by omega) (by rw [e]; exact h2), e]
      · rw [g] at h2; exact absurd h2 h
      · obtain ⟨j, rfl⟩ : ∃ q, j = q + 1 := ⟨j - 1, by omega⟩
        have e := regAt_del_ge L i j hi (by omega)
        rw [ok'.own_in j c (by omega) (by rw [e]; exact h2), e]
    · rw [h2]
      refine own_out c fun j hj => ?_
      rw [hl] at hj
      by_cases hj2 : j < i
      · rw [regAt_del_lt _ _ _ hi hj2]; exact h1 j (by omega)
      · rw [regAt_del_ge _ _ _ hi (by omega)]; exact h1 _ (by omega)

/-- The document's cells. -/
def cellsOf (L : List Reg) (n : Nat) : List Int := (List.range n).map (own L)
theorem length_cellsOf (L : List Reg) (n : Nat) : (cellsOf L n).length = n := by simp [cellsOf]
theorem getD_cellsOf (L : List Reg) (n c : Nat) (hc : c < n) : (cellsOf L n).getD c 0 = own L c := by simp [cellsOf, hc]
theorem cellsOf_nil (n : Nat) : cellsOf [] n = List.replicate n (-1) := by
  apply List.ext_getElem?
  intro j
  simp [cellsOf, own, List.getElem?_replicate]
  by_cases h : j < n <;> simp [h]

/-- So many cells from b on, written over by v. -/
def fillO (O : List Int) (b k : Nat) (v : Int) : List Int := (List.range O.length).map fun c => if b ≤ c ∧ c < b + k then v else O.getD c 0
theorem length_fillO (O : List Int) (b k : Nat) (v : Int) : (fillO O b k v).length = O.length := by simp [fillO]
theorem fillO_zero (O : List Int) (b : Nat) (v : Int) : fillO O b 0 v = O := by
  apply List.ext_getElem
  · simp [fillO]
  · intro j h1 h2
    simp only [fillO, List.getElem_map, List.getElem_range]
    rw [if_neg (by omega)]
    simp [h2]
theorem getD_fillO (O : List Int) (b k : Nat) (v : Int) (c : Nat) (hc : c < O.length) : (fillO O b k v).getD c 0 = if b ≤ c ∧ c < b + k then v else O.getD c 0 := by
  simp [fillO, hc]
theorem fillO_set (O : List Int) (b k : Nat) (v : Int) (_h : b + k < O.length) : (fillO O b k v).set (b + k) v = fillO O b (k + 1) v := by
  apply List.ext_getElem
  · simp [fillO]
  · intro j h1 h2
    simp only [List.getElem_set, fillO, List.getElem_map, List.getElem_range]
    by_cases e : b + k = j
    · rw [if_pos e, if_pos (by omega)]
    · rw [if_neg e]
      by_cases g : b ≤ j ∧ j < b + k
      · rw [if_pos g, if_pos (by omega)]
      · rw [if_neg g, if_neg (by omega)]

theorem cells_ins {n : Nat} {L : List Reg} (ok : Ok n L) (i k : Nat) (hi : i ≤ L.length) (hk : 1 ≤ k) (hf : Fits L n k i) :
    fillO (cellsOf L n) (endAt L i) k (endAt L i : Int) = cellsOf (ins L i (endAt L i, k)) n := by
  apply List.ext_getElem
  · simp [fillO, cellsOf]
  · intro j h1 h2
    have hj : j < n := by simpa [cellsOf] using h2
    simp only [fillO, cellsOf, List.getElem_map, List.getElem_range]
    rw [own_ins_at ok i k hi hk hf]
    by_cases h : endAt L i ≤ j ∧ j < endAt L i + k
    · rw [if_pos h, if_pos h]
    · rw [if_neg h, if_neg h]; exact getD_cellsOf L n j hj
theorem cells_del {n : Nat} {L : List Reg} (ok : Ok n L) (i : Nat) (hi : i < L.length) :
    fillO (cellsOf L n) (regAt L i).1 (regAt L i).2 (-1) = cellsOf (del L i) n := by
  apply List.ext_getElem
  · simp [fillO, cellsOf]
  · intro j h1 h2
    have hj : j < n := by simpa [cellsOf] using h2
    simp only [fillO, cellsOf, List.getElem_map, List.getElem_range]
    rw [own_del_at ok i hi]
    by_cases h : (regAt L i).1 ≤ j ∧ j < (regAt L i).1 + (regAt L i).2
    · rw [if_pos h, if_pos (show InR (regAt L i) j from h)]
    · rw [if_neg h, if_neg (show ¬ InR (regAt L i) j from h)]; exact getD_cellsOf L n j hj

/-- k cells from b on are free. -/
def Room (O : List Int) (b : Nat) (k : Int) : Prop := k ≤ (O.length : Int) - (b : Int) ∧ ∀ i : Nat, (i : Int) < k → O.getD (b + i) 0 < 0

theorem room_at {n : Nat} {L : List Reg} (ok : Ok n L) (k : Nat) (i : Nat) (hi : i ≤ L.length) (hf : Fits L n k i) : Room (cellsOf L n) (endAt L i) k := by
  have hb : bnd L n i ≤ n := by
    by_cases h : i < L.length
    · rw [bnd_lt h]; have := ok.reg_le i h; omega
    · rw [show i = L.length by omega, bnd_end]; exact Nat.le_refl _
  unfold Fits at hf
  refine ⟨by rw [length_cellsOf]; omega, fun j hj => ?_⟩
  rw [getD_cellsOf _ _ _ (by omega)]
  rw [own_out]
  · omega
  · intro t ht h
    unfold InR at h
    by_cases g : t < i
    · have := ok.le i (t + 1) g hi
      rw [endAt_succ] at this
      omega
    · have hil : i < L.length := by omega
      rw [bnd_lt hil] at hf
      have : (regAt L i).1 ≤ (regAt L t).1 := by
        by_cases e : i = t
        · rw [e]; exact Nat.le_refl _
        · have := ok.lt i t (by omega) ht; omega
      omega

theorem no_room {n : Nat} {L : List Reg} (ok : Ok n L) (k : Int) (c : Nat) (hk : 1 ≤ k)
    (h : ∃ t, t < L.length ∧ ((regAt L t).1 : Int) < (c : Int) + k ∧ (c : Int) < ((regAt L t).1 : Int) + ((regAt L t).2 : Int)) : ¬ Room (cellsOf L n) c k := by
  rintro ⟨h1, h2⟩
  obtain ⟨t, ht, g1, g2⟩ := h
  rw [length_cellsOf] at h1
  have hp := ok.pos t ht
  have hx : ∃ x : Nat, c ≤ x ∧ (x : Int) < (c : Int) + k ∧ InR (regAt L t) x := by
    by_cases e : c ≤ (regAt L t).1
    · exact ⟨(regAt L t).1, e, g1, by unfold InR; omega⟩
    · exact ⟨c, Nat.le_refl _, by omega, by unfold InR; omega⟩
  obtain ⟨x, x1, x2, x3⟩ := hx
  have := h2 (x - c) (by omega)
  rw [show c + (x - c) = x by omega, getD_cellsOf _ _ _ (by omega), ok.own_in t x ht x3] at this
  omega
end Go.Proofs.Ytgpagfgedimjeaa
