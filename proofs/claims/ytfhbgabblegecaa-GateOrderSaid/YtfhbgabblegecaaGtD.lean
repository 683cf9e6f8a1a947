/- What a crowd at a gate has put and taken, in plain words: by tickets. -/
import Derived.Test.YtfhbgabblegecaaGtF
namespace Go.Proofs.Ytfhbgabblegecaa.Gt

/-- The k-th number of the p-th who puts. -/
def num (p k : Nat) : Int := (p : Int) * 4294967296 + (k : Int)
theorem num_inj {p q k l : Nat} (hk : k < 4294967296) (hl : l < 4294967296) (h : num p k = num q l) : p = q ∧ k = l := by unfold num at h; omega
/-- Is a ticket held by one who goes that way? -/
def heldP (P : Nat → Option (Dir × GS)) (t : Nat) : Prop := ∃ p v s, P p = some (.put v, s) ∧ holds s t
def heldT (P : Nat → Option (Dir × GS)) (t : Nat) : Prop := ∃ p s, P p = some (.take, s) ∧ holds s t

/-- The logs: it, the tickets of what went in, in order; tk, those of what each has taken. -/
structure GL (R : Rg) (P : Nat → Option (Dir × GS)) (vo : Nat → Int) (nx : Nat → Nat) (it : List Nat) (tk : Nat → List Nat) (ins : Nat → List Int) : Prop where
  ht : R.head ≤ R.tail
  dP : ∀ p d s, p < 2 → P p = some (d, s) → d = .put (num p (nx p))
  dT : ∀ p d s, 2 ≤ p → P p = some (d, s) → d = .take
  dom : ∀ p, 4 ≤ p → P p = none
  hP : ∀ t, heldP P t → t < R.tail
  hT : ∀ t, heldT P t → t < R.head
  in_ : ins 0 = it.map vo
  itN : it.Nodup
  itM : ∀ t, t ∈ it ↔ t < R.tail ∧ ¬ heldP P t
  tv : ∀ q, q < 2 → ins (q + 1) = (tk q).map vo
  tI : ∀ q, q < 2 → (tk q).Pairwise (· < ·)
  tH : ∀ q d s t, q < 2 → P (q + 2) = some (d, s) → holds s t → ∀ u, u ∈ tk q → u < t
  tM : ∀ t, (t < R.head ∧ ¬ heldT P t) ↔ ∃ q, q < 2 ∧ t ∈ tk q
  tD : ∀ t, t ∈ tk 0 → t ∈ tk 1 → False
  vn : ∀ t, t < R.tail → ∃ p k, p < 2 ∧ 1 ≤ k ∧ k ≤ nx p ∧ vo t = num p k
  vi : ∀ t u p k l, t < u → u < R.tail → p < 2 → k ≤ nx p → l ≤ nx p → vo t = num p k → vo u = num p l → k < l
  vf : ∀ p d s, p < 2 → P p = some (d, s) → (∀ t, ¬ holds s t) → ∀ t k, t < R.tail → k ≤ nx p → vo t = num p k → k < nx p
  nb : ∀ p, nx p < 4294967296

section
variable {R : Rg} {P : Nat → Option (Dir × GS)} {vo : Nat → Int} {nx : Nat → Nat} {it : List Nat} {tk : Nat → List Nat} {ins : Nat → List Int} {p : Nat} {d : Dir} {s : GS}
/-- The ticket that one holds. -/
def hold1 (o : Option (Dir × GS)) (t : Nat) : Prop := ∃ d s, o = some (d, s) ∧ holds s t
theorem heldP_same {o : Option (Dir × GS)} (h1 : ∀ v s t, P p = some (.put v, s) → holds s t → ∃ v' s', o = some (.put v', s') ∧ holds s' t) (h2 : ∀ v s t, o = some (.put v, s) → holds s t → ∃ v' s', P p = some (.put v', s') ∧ holds s' t) (t : Nat) : heldP (upd P p o) t ↔ heldP P t := by
  constructor
  · rintro ⟨q, v, s, e, a⟩
    by_cases g : q = p
    · subst g; rw [upd_same] at e; obtain ⟨v', s', e', a'⟩ := h2 v s t e a; exact ⟨q, v', s', e', a'⟩
    · rw [upd_other _ _ _ _ g] at e; exact ⟨q, v, s, e, a⟩
  · rintro ⟨q, v, s, e, a⟩
    by_cases g : q = p
    · subst g; obtain ⟨v', s', e', a'⟩ := h1 v s t e a; exact ⟨q, v', s', by rw [upd_same]; exact e', a'⟩
    · exact ⟨q, v, s, by rw [upd_other _ _ _ _ g]; exact e, a⟩
theorem heldT_same {o : Option (Dir × GS)} (h1 : ∀ s t, P p = some (.take, s) → holds s t → ∃ s', o = some (.take, s') ∧ holds s' t) (h2 : ∀ s t, o = some (.take, s) → holds s t → ∃ s', P p = some (.take, s') ∧ holds s' t) (t : Nat) : heldT (upd P p o) t ↔ heldT P t := by
  constructor
  · rintro ⟨q, s, e, a⟩
    by_cases g : q = p
    · subst g; rw [upd_same] at e; obtain ⟨s', e', a'⟩ := h2 s t e a; exact ⟨q, s', e', a'⟩
    · rw [upd_other _ _ _ _ g] at e; exact ⟨q, s, e, a⟩
  · rintro ⟨q, s, e, a⟩
    by_cases g : q = p
    · subst g; obtain ⟨s', e', a'⟩ := h1 s t e a; exact ⟨q, s', by rw [upd_same]; exact e', a'⟩
    · exact ⟨q, s, by rw [upd_other _ _ _ _ g]; exact e, a⟩

/-- One who steps and holds what it held. -/
theorem GL.same (h : GL R P vo nx it tk ins) {R' : Rg} (hr : R'.tail = R.tail) (hh : R'.head = R.head) (hp : P p = some (d, s)) (o : Option (Dir × GS))
    (ho : ∀ d' s', o = some (d', s') → d' = d) (h1 : ∀ t, holds s t → ∃ s', o = some (d, s') ∧ holds s' t) (h2 : ∀ d' s' t, o = some (d', s') → holds s' t → holds s t) (hp4 : p < 4) : GL R' (upd P p o) vo nx it tk ins := by
  have eP : ∀ t, heldP (upd P p o) t ↔ heldP P t := fun t => heldP_same
    (fun v s2 t e a => by rw [hp] at e; cases e; obtain ⟨s', e', a'⟩ := h1 t a; exact ⟨v, s', e', a'⟩)
    (fun v s2 t e a => by have := ho _ _ e; subst this; exact ⟨v, s, hp, h2 _ _ t e a⟩) t
  have eT : ∀ t, heldT (upd P p o) t ↔ heldT P t := fun t => heldT_same
    (fun s2 t e a => by rw [hp] at e; cases e; obtain ⟨s', e', a'⟩ := h1 t a; exact ⟨s', e', a'⟩)
    (fun s2 t e a => by have := ho _ _ e; subst this; exact ⟨s, hp, h2 _ _ t e a⟩) t
  have back : ∀ q d' s', upd P p o q = some (d', s') → ∃ s2, P q = some (d', s2) ∧ ∀ t, holds s' t → holds s2 t := fun q d' s' e => by
    by_cases g : q = p
    · subst g; rw [upd_same] at e; have := ho _ _ e; subst this; exact ⟨s, hp, fun t a => h2 _ _ t e a⟩
    · rw [upd_other _ _ _ _ g] at e; exact ⟨s', e, fun t a => a⟩
  refine ⟨by have := h.ht; omega, fun q d' s' hq e => ?_, fun q d' s' hq e => ?_, fun q hq => ?_, fun t a => by rw [hr]; exact h.hP t ((eP t).1 a), fun t a => by rw [hh]; exact h.hT t ((eT t).1 a), h.in_, h.itN, fun t => by rw [hr, eP t]; exact h.itM t, h.tv, h.tI, fun q d' s' t hq e a => ?_, fun t => by rw [hh, eT t]; exact h.tM t, h.tD, fun t a => h.vn t (by omega), fun t u p k l a1 a2 => h.vi t u p k l a1 (by omega), fun q d' s' hq e hn t k a1 => ?_, h.nb⟩
  · obtain ⟨s2, e2, _⟩ := back q d' s' e; exact h.dP q d' s2 hq e2
  · obtain ⟨s2, e2, _⟩ := back q d' s' e; exact h.dT q d' s2 hq e2
  · rw [upd_other _ _ _ _ (by omega)]; exact h.dom q hq
  · obtain ⟨s2, e2, b⟩ := back _ d' s' e; exact h.tH q d' s2 t hq e2 (b t a)
  · by_cases g : q = p
    · subst g; rw [upd_same] at e
      have := ho _ _ e; subst this
      refine h.vf q d' s hq hp (fun u a => ?_) t k (by omega)
      obtain ⟨s3, e3, a3⟩ := h1 u a
      rw [e] at e3; cases e3; exact hn u a3
    · rw [upd_other _ _ _ _ g] at e; exact h.vf q d' s' hq e hn t k (by omega)
/-- One is begun. -/
theorem GL.beginT (h : GL R P vo nx it tk ins) (hp : P p = none) (h2 : 2 ≤ p) (h4 : p < 4) : GL R (upd P p (some (.take, .q0))) vo nx it tk ins := by
  have eP : ∀ t, heldP (upd P p (some (.take, .q0))) t ↔ heldP P t := fun t => heldP_same (fun v s t e => by rw [hp] at e; cases e) (fun v s t e => by cases e) t
  have eT : ∀ t, heldT (upd P p (some (.take, .q0))) t ↔ heldT P t := fun t => heldT_same (fun s t e => by rw [hp] at e; cases e) (fun s t e a => by cases e; exact a.elim) t
  refine ⟨h.ht, fun q d' s' hq e => ?_, fun q d' s' hq e => ?_, fun q hq => ?_, fun t a => h.hP t ((eP t).1 a), fun t a => h.hT t ((eT t).1 a), h.in_, h.itN, fun t => by rw [eP t]; exact h.itM t, h.tv, h.tI, fun q d' s' t hq e a => ?_, fun t => by rw [eT t]; exact h.tM t, h.tD, h.vn, h.vi, fun q d' s' hq e hn => ?_, h.nb⟩
  · rw [upd_other _ _ _ _ (by omega)] at e; exact h.dP q d' s' hq e
  · by_cases g : q = p
    · subst g; rw [upd_same] at e; cases e; rfl
    · rw [upd_other _ _ _ _ g] at e; exact h.dT q d' s' hq e
  · rw [upd_other _ _ _ _ (by omega)]; exact h.dom q hq
  · by_cases g : q + 2 = p
    · subst g; rw [upd_same] at e; cases e; exact a.elim
    · rw [upd_other _ _ _ _ g] at e; exact h.tH q d' s' t hq e a
  · rw [upd_other _ _ _ _ (by omega)] at e; exact h.vf q d' s' hq e hn
theorem GL.beginP (h : GL R P vo nx it tk ins) (hp : P p = none) (h2 : p < 2) (hb : nx p + 1 < 4294967296) : GL R (upd P p (some (.put (num p (nx p + 1)), .q0))) vo (upd nx p (nx p + 1)) it tk ins := by
  have eP : ∀ t, heldP (upd P p (some (.put (num p (nx p + 1)), .q0))) t ↔ heldP P t := fun t => heldP_same (fun v s t e => by rw [hp] at e; cases e) (fun v s t e a => by cases e; exact a.elim) t
  have eT : ∀ t, heldT (upd P p (some (.put (num p (nx p + 1)), .q0))) t ↔ heldT P t := fun t => heldT_same (fun s t e => by rw [hp] at e; cases e) (fun s t e => by cases e) t
  have le : ∀ q, nx q ≤ upd nx p (nx p + 1) q := fun q => by
    by_cases g : q = p
    · subst g; rw [upd_same]; omega
    · rw [upd_other _ _ _ _ g]; exact Nat.le_refl _
  have num_le : ∀ t q k, t < R.tail → q < 2 → k ≤ upd nx p (nx p + 1) q → vo t = num q k → k ≤ nx q := fun t q k ht hq hk e => by
    obtain ⟨q', k', hq', h1, hk', e'⟩ := h.vn t ht
    have := num_inj (p := q) (q := q') (k := k) (l := k') (by have := h.nb q; by_cases g : q = p
                                                              · subst g; rw [upd_same] at hk; omega
                                                              · rw [upd_other _ _ _ _ g] at hk; omega) (by have := h.nb q'; omega) (e.symm.trans e')
    obtain ⟨rfl, rfl⟩ := this
    exact hk'
  refine ⟨h.ht, fun q d' s' hq e => ?_, fun q d' s' hq e => ?_, fun q hq => ?_, fun t a => h.hP t ((eP t).1 a), fun t a => h.hT t ((eT t).1 a), h.in_, h.itN, fun t => by rw [eP t]; exact h.itM t, h.tv, h.tI, fun q d' s' t hq e a => ?_, fun t => by rw [eT t]; exact h.tM t, h.tD, fun t ht => ?_, fun t u q k l a1 a2 hq hk hl e1 e2 => ?_, fun q d' s' hq e hn t k a1 hk e1 => ?_, fun q => ?_⟩
  · by_cases g : q = p
    · subst g; rw [upd_same] at e ⊢; cases e; rfl
    · rw [upd_other _ _ _ _ g] at e ⊢; exact h.dP q d' s' hq e
  · rw [upd_other _ _ _ _ (by omega)] at e; exact h.dT q d' s' hq e
  · rw [upd_other _ _ _ _ (by omega)]; exact h.dom q hq
  · rw [upd_other _ _ _ _ (by omega)] at e; exact h.tH q d' s' t hq e a
  · obtain ⟨q, k, h1, h2, h3, h4⟩ := h.vn t ht; exact ⟨q, k, h1, h2, Nat.le_trans h3 (le q), h4⟩
  · exact h.vi t u q k l a1 a2 hq (num_le t q k (by omega) hq hk e1) (num_le u q l a2 hq hl e2) e1 e2
  · have hk' := num_le t q k a1 hq hk e1
    by_cases g : q = p
    · subst g; rw [upd_same]; omega
    · rw [upd_other _ _ _ _ g] at e ⊢; exact h.vf q d' s' hq e hn t k a1 hk' e1
  · by_cases g : q = p
    · subst g; rw [upd_same]; exact hb
    · rw [upd_other _ _ _ _ g]; exact h.nb q
/-- Who puts draws. -/
theorem GL.drawP (h : GL R P vo nx it tk ins) (hp : P p = some (.put (num p (nx p)), .q2 R.tail)) (h2 : p < 2) (h1 : 1 ≤ nx p) : GL { R with tail := R.tail + 1 } (upd P p (some (.put (num p (nx p)), .q3 R.tail))) (upd vo R.tail (num p (nx p))) nx it tk ins := by
  have eT : ∀ t, heldT (upd P p (some (.put (num p (nx p)), .q3 R.tail))) t ↔ heldT P t := fun t => heldT_same (fun s t e => by rw [hp] at e; cases e) (fun s t e => by cases e) t
  have eP : ∀ t, heldP (upd P p (some (.put (num p (nx p)), .q3 R.tail))) t ↔ (heldP P t ∨ t = R.tail) := fun t => by
    constructor
    · rintro ⟨q, v, s, e, a⟩
      by_cases g : q = p
      · subst g; rw [upd_same] at e; cases e; exact .inr a
      · rw [upd_other _ _ _ _ g] at e; exact .inl ⟨q, v, s, e, a⟩
    · rintro (⟨q, v, s, e, a⟩ | rfl)
      · by_cases g : q = p
        · subst g; rw [hp] at e; cases e; exact a.elim
        · exact ⟨q, v, s, by rw [upd_other _ _ _ _ g]; exact e, a⟩
      · exact ⟨p, _, _, upd_same _ _ _, rfl⟩
  have vs : ∀ t, t < R.tail → upd vo R.tail (num p (nx p)) t = vo t := fun t ht => upd_other _ _ _ _ (by omega)
  have mapv : ∀ l : List Nat, (∀ t, t ∈ l → t < R.tail) → l.map (upd vo R.tail (num p (nx p))) = l.map vo := fun l hl => List.map_congr_left (fun t ht => vs t (hl t ht))
  have back : ∀ q d' s', q ≠ p → upd P p (some (.put (num p (nx p)), .q3 R.tail)) q = some (d', s') → P q = some (d', s') := fun q d' s' g e => by rwa [upd_other _ _ _ _ g] at e
  refine ⟨by have := h.ht; show R.head ≤ R.tail + 1; omega, fun q d' s' hq e => ?_, fun q d' s' hq e => ?_, fun q hq => ?_, fun t a => ?_, fun t a => h.hT t ((eT t).1 a), ?_, h.itN, fun t => ?_, fun q hq => ?_, h.tI, fun q d' s' t hq e a => ?_, fun t => by rw [eT t]; exact h.tM t, h.tD, fun t ht => ?_, fun t u q k l a1 a2 hq hk hl e1 e2 => ?_, fun q d' s' hq e hn t k a1 hk e1 => ?_, h.nb⟩
  · by_cases g : q = p
    · subst g; rw [upd_same] at e; cases e; rfl
    · exact h.dP q d' s' hq (back q d' s' g e)
  · exact h.dT q d' s' hq (back q d' s' (by omega) e)
  · rw [upd_other _ _ _ _ (by omega)]; exact h.dom q hq
  · show t < R.tail + 1
    rcases (eP t).1 a with b | b
    · have := h.hP t b; omega
    · omega
  · rw [h.in_, mapv it (fun t ht => ((h.itM t).1 ht).1)]
  · rw [h.itM t, eP t]
    show _ ↔ t < R.tail + 1 ∧ _
    constructor
    · rintro ⟨a, b⟩; exact ⟨by omega, fun z => z.elim b (fun z => by omega)⟩
    · rintro ⟨a, b⟩
      have : t ≠ R.tail := fun z => b (.inr z)
      exact ⟨by omega, fun z => b (.inl z)⟩
  · rw [h.tv q hq, mapv (tk q) (fun t ht => by have := ((h.tM t).2 ⟨q, hq, ht⟩).1; have := h.ht; omega)]
  · exact h.tH q d' s' t hq (back _ d' s' (by omega) e) a
  · have ht' : t < R.tail + 1 := ht
    by_cases g : t = R.tail
    · subst g; exact ⟨p, nx p, h2, h1, Nat.le_refl _, upd_same _ _ _⟩
    · rw [vs t (by omega)]; exact h.vn t (by omega)
  · have a2' : u < R.tail + 1 := a2
    rw [vs t (by omega)] at e1
    by_cases g : u = R.tail
    · subst g; rw [upd_same] at e2
      have := num_inj (h.nb p) (by have := h.nb q; omega) e2
      obtain ⟨rfl, rfl⟩ := this
      exact h.vf p _ _ h2 hp (fun t a => a) t k (by omega) hk e1
    · rw [vs u (by omega)] at e2; exact h.vi t u q k l a1 (by omega) hq hk hl e1 e2
  · have a1' : t < R.tail + 1 := a1
    by_cases g : q = p
    · subst g; rw [upd_same] at e; cases e; exact absurd rfl (hn R.tail)
    · by_cases g2 : t = R.tail
      · subst g2; rw [upd_same] at e1
        exact absurd (num_inj (h.nb p) (by have := h.nb q; omega) e1).1.symm g
      · rw [vs t (by omega)] at e1; exact h.vf q d' s' hq (back q d' s' g e) hn t k (by omega) hk e1
/-- Who takes draws. -/
theorem GL.drawT (h : GL R P vo nx it tk ins) (hp : P p = some (.take, .q2 R.head)) (h2 : 2 ≤ p) (h4 : p < 4) (hlt : R.head < R.tail) : GL { R with head := R.head + 1 } (upd P p (some (.take, .q3 R.head))) vo nx it tk ins := by
  have eP : ∀ t, heldP (upd P p (some (.take, .q3 R.head))) t ↔ heldP P t := fun t => heldP_same (fun v s t e => by rw [hp] at e; cases e) (fun v s t e => by cases e) t
  have eT : ∀ t, heldT (upd P p (some (.take, .q3 R.head))) t ↔ (heldT P t ∨ t = R.head) := fun t => by
    constructor
    · rintro ⟨q, s, e, a⟩
      by_cases g : q = p
      · subst g; rw [upd_same] at e; cases e; exact .inr a
      · rw [upd_other _ _ _ _ g] at e; exact .inl ⟨q, s, e, a⟩
    · rintro (⟨q, s, e, a⟩ | rfl)
      · by_cases g : q = p
        · subst g; rw [hp] at e; cases e; exact a.elim
        · exact ⟨q, s, by rw [upd_other _ _ _ _ g]; exact e, a⟩
      · exact ⟨p, _, upd_same _ _ _, rfl⟩
  have back : ∀ q d' s', q ≠ p → upd P p (some (.take, .q3 R.head)) q = some (d', s') → P q = some (d', s') := fun q d' s' g e => by rwa [upd_other _ _ _ _ g] at e
  refine ⟨by show R.head + 1 ≤ R.tail; omega, fun q d' s' hq e => h.dP q d' s' hq (back q d' s' (by omega) e), fun q d' s' hq e => ?_, fun q hq => ?_, fun t a => h.hP t ((eP t).1 a), fun t a => ?_, h.in_, h.itN, fun t => by rw [eP t]; exact h.itM t, h.tv, h.tI, fun q d' s' t hq e a u hu => ?_, fun t => ?_, h.tD, h.vn, h.vi, fun q d' s' hq e hn => h.vf q d' s' hq (back q d' s' (by omega) e) hn, h.nb⟩
  · by_cases g : q = p
    · subst g; rw [upd_same] at e; cases e; rfl
    · exact h.dT q d' s' hq (back q d' s' g e)
  · rw [upd_other _ _ _ _ (by omega)]; exact h.dom q hq
  · show t < R.head + 1
    rcases (eT t).1 a with b | b
    · have := h.hT t b; omega
    · omega
  · by_cases g : q + 2 = p
    · subst g; rw [upd_same] at e; cases e
      have a' : t = R.head := a
      have := ((h.tM u).2 ⟨q, hq, hu⟩).1
      omega
    · exact h.tH q d' s' t hq (back _ d' s' g e) a u hu
  · rw [← h.tM t, eT t]
    show (t < R.head + 1 ∧ _) ↔ _
    constructor
    · rintro ⟨a, b⟩
      have : t ≠ R.head := fun z => b (.inr z)
      exact ⟨by omega, fun z => b (.inl z)⟩
    · rintro ⟨a, b⟩; exact ⟨by omega, fun z => z.elim b (fun z => by omega)⟩
/-- A Put is done. -/
theorem GL.doneP (h : GL R P vo nx it tk ins) {R' : Rg} (hr : R'.tail = R.tail) (hh : R'.head = R.head) {t : Nat} {x v : Int} (hp : P p = some (.put v, .q4 t x)) (h4 : p < 4) (hv : vo t = v)
    (sole : ∀ q e s', P q = some (.put e, s') → holds s' t → q = p) : GL R' (upd P p none) vo nx (it ++ [t]) tk (upd ins 0 (ins 0 ++ [v])) := by
  have eT : ∀ u, heldT (upd P p none) u ↔ heldT P u := fun u => heldT_same (fun s t e => by rw [hp] at e; cases e) (fun s t e => by cases e) u
  have held : heldP P t := ⟨p, v, _, hp, rfl⟩
  have eP : ∀ u, heldP (upd P p none) u ↔ (heldP P u ∧ u ≠ t) := fun u => by
    constructor
    · rintro ⟨q, w, s, e, a⟩
      by_cases g : q = p
      · subst g; rw [upd_same] at e; cases e
      · rw [upd_other _ _ _ _ g] at e; exact ⟨⟨q, w, s, e, a⟩, fun z => g (sole q w s e (z ▸ a))⟩
    · rintro ⟨⟨q, w, s, e, a⟩, hne⟩
      by_cases g : q = p
      · subst g; rw [hp] at e; cases e; exact absurd a hne
      · exact ⟨q, w, s, by rw [upd_other _ _ _ _ g]; exact e, a⟩
  have back : ∀ q d' s', upd P p none q = some (d', s') → P q = some (d', s') := fun q d' s' e => by
    by_cases g : q = p
    · subst g; rw [upd_same] at e; cases e
    · rwa [upd_other _ _ _ _ g] at e
  refine ⟨by have := h.ht; omega, fun q d' s' hq e => h.dP q d' s' hq (back q d' s' e), fun q d' s' hq e => h.dT q d' s' hq (back q d' s' e), fun q hq => ?_, fun u a => by rw [hr]; exact h.hP u ((eP u).1 a).1, fun u a => by rw [hh]; exact h.hT u ((eT u).1 a), ?_, ?_, fun u => ?_, fun q hq => by rw [upd_other _ _ _ _ (by omega)]; exact h.tv q hq, h.tI, fun q d' s' u hq e => h.tH q d' s' u hq (back _ d' s' e), fun u => by rw [hh, eT u]; exact h.tM u, h.tD, fun u a => h.vn u (by omega), fun a b q k l a1 a2 => h.vi a b q k l a1 (by omega), fun q d' s' hq e hn u k a1 => h.vf q d' s' hq (back q d' s' e) hn u k (by omega), h.nb⟩
  · rw [upd_other _ _ _ _ (by omega)]; exact h.dom q hq
  · rw [upd_same, h.in_]; simp [hv]
  · rw [List.nodup_append]
    refine ⟨h.itN, by simp, fun a ha b hb => ?_⟩
    simp at hb; subst hb
    intro z; subst z
    exact ((h.itM _).1 ha).2 held
  · rw [List.mem_append, h.itM u, eP u, hr]
    simp only [List.mem_singleton]
    constructor
    · rintro (⟨a, b⟩ | rfl)
      · exact ⟨a, fun z => b z.1⟩
      · exact ⟨h.hP _ held, fun z => z.2 rfl⟩
    · rintro ⟨a, b⟩
      by_cases g : u = t
      · exact .inr g
      · exact .inl ⟨a, fun z => b ⟨z, g⟩⟩
/-- A Take is done. -/
theorem GL.doneT (h : GL R P vo nx it tk ins) {R' : Rg} (hr : R'.tail = R.tail) (hh : R'.head = R.head) {t q : Nat} {x : Int} (hp : P (q + 2) = some (.take, .q4 t x)) (hq2 : q < 2) (hv : x = vo t)
    (sole : ∀ r s', P r = some (.take, s') → holds s' t → r = q + 2) : GL R' (upd P (q + 2) none) vo nx it (upd tk q (tk q ++ [t])) (upd ins (q + 1) (ins (q + 1) ++ [x])) := by
  have eP : ∀ u, heldP (upd P (q + 2) none) u ↔ heldP P u := fun u => heldP_same (fun v s t e => by rw [hp] at e; cases e) (fun v s t e => by cases e) u
  have held : heldT P t := ⟨q + 2, _, hp, rfl⟩
  have eT : ∀ u, heldT (upd P (q + 2) none) u ↔ (heldT P u ∧ u ≠ t) := fun u => by
    constructor
    · rintro ⟨r, s, e, a⟩
      by_cases g : r = q + 2
      · subst g; rw [upd_same] at e; cases e
      · rw [upd_other _ _ _ _ g] at e; exact ⟨⟨r, s, e, a⟩, fun z => g (sole r s e (z ▸ a))⟩
    · rintro ⟨⟨r, s, e, a⟩, hne⟩
      by_cases g : r = q + 2
      · subst g; rw [hp] at e; cases e; exact absurd a hne
      · exact ⟨r, s, by rw [upd_other _ _ _ _ g]; exact e, a⟩
  have back : ∀ r d' s', upd P (q + 2) none r = some (d', s') → P r = some (d', s') := fun r d' s' e => by
    by_cases g : r = q + 2
    · subst g; rw [upd_same] at e; cases e
    · rwa [upd_other _ _ _ _ g] at e
  have tin : ¬ ∃ r, r < 2 ∧ t ∈ tk r := fun z => ((h.tM t).2 z).2 held
  refine ⟨by have := h.ht; omega, fun r d' s' hr' e => h.dP r d' s' hr' (back r d' s' e), fun r d' s' hr' e => h.dT r d' s' hr' (back r d' s' e), fun r hr' => ?_, fun u a => by rw [hr]; exact h.hP u ((eP u).1 a), fun u a => by rw [hh]; exact h.hT u ((eT u).1 a).1, ?_, h.itN, fun u => by rw [hr, eP u]; exact h.itM u, fun r hr' => ?_, fun r hr' => ?_, fun r d' s' u hr' e a => ?_, fun u => ?_, fun u => ?_, fun u a => h.vn u (by omega), fun a b r k l a1 a2 => h.vi a b r k l a1 (by omega), fun r d' s' hr' e hn u k a1 => h.vf r d' s' hr' (back r d' s' e) hn u k (by omega), h.nb⟩
  · rw [upd_other _ _ _ _ (by omega)]; exact h.dom r hr'
  · rw [upd_other _ _ _ _ (by omega)]; exact h.in_
  · by_cases g : r = q
    · subst g; rw [upd_same, upd_same, h.tv r hr']; simp [hv]
    · rw [upd_other _ _ _ _ (by omega), upd_other _ _ _ _ g]; exact h.tv r hr'
  · by_cases g : r = q
    · subst g; rw [upd_same, List.pairwise_append]
      exact ⟨h.tI r hr', by simp, fun a ha b hb => by simp at hb; subst hb; exact h.tH r _ _ _ hr' hp rfl a ha⟩
    · rw [upd_other _ _ _ _ g]; exact h.tI r hr'
  · have e' := back _ d' s' e
    by_cases g : r = q
    · subst g; rw [upd_same] at e; cases e
    · rw [upd_other _ _ _ _ g]; exact h.tH r d' s' u hr' e' a
  · rw [hh, eT u]
    constructor
    · rintro ⟨a, b⟩
      by_cases g : u = t
      · subst g; exact ⟨q, hq2, by rw [upd_same]; simp⟩
      · obtain ⟨r, h1, h2⟩ := (h.tM u).1 ⟨a, fun z => b ⟨z, g⟩⟩
        by_cases g2 : r = q
        · subst g2; exact ⟨r, h1, by rw [upd_same]; simp [h2]⟩
        · exact ⟨r, h1, by rw [upd_other _ _ _ _ g2]; exact h2⟩
    · rintro ⟨r, h1, h2⟩
      by_cases g2 : r = q
      · subst g2; rw [upd_same] at h2
        rcases List.mem_append.1 h2 with h3 | h3
        · obtain ⟨a, b⟩ := (h.tM u).2 ⟨r, h1, h3⟩; exact ⟨a, fun z => b z.1⟩
        · simp at h3; subst h3; exact ⟨h.hT _ held, fun z => z.2 rfl⟩
      · rw [upd_other _ _ _ _ g2] at h2
        obtain ⟨a, b⟩ := (h.tM u).2 ⟨r, h1, h2⟩; exact ⟨a, fun z => b z.1⟩
  · have mem : ∀ r, r < 2 → u ∈ upd tk q (tk q ++ [t]) r → (u ∈ tk r ∨ (r = q ∧ u = t)) := fun r _ hm => by
      by_cases g : r = q
      · subst g; rw [upd_same] at hm
        rcases List.mem_append.1 hm with h3 | h3
        · exact .inl h3
        · simp at h3; exact .inr ⟨rfl, h3⟩
      · rw [upd_other _ _ _ _ g] at hm; exact .inl hm
    intro m0 m1
    rcases mem 0 (by omega) m0 with a0 | ⟨b0, c0⟩ <;> rcases mem 1 (by omega) m1 with a1 | ⟨b1, c1⟩
    · exact h.tD u a0 a1
    · exact tin ⟨0, by omega, c1 ▸ a0⟩
    · exact tin ⟨1, by omega, c0 ▸ a1⟩
    · omega
theorem GL.start (h0 : R.head = 0) (h1 : R.tail = 0) (vo : Nat → Int) : GL R (fun _ => none) vo (fun _ => 0) [] (fun _ => []) (fun _ => []) :=
  ⟨by omega, fun p d s _ e => (by cases e), fun p d s _ e => (by cases e), fun _ _ => rfl, fun t ⟨p, v, s, e, _⟩ => (by cases e), fun t ⟨p, s, e, _⟩ => (by cases e), rfl, by simp, fun t => by simp; omega, fun _ _ => rfl, fun _ _ => by simp, fun q d s t _ e => (by cases e), fun t => ⟨fun z => by omega, fun ⟨q, _, z⟩ => by simp at z⟩, fun t z => by simp at z, fun t z => by omega, fun t u p k l _ z => by omega, fun p d s _ e => (by cases e), fun _ => by decide⟩
end
end Go.Proofs.Ytfhbgabblegecaa.Gt
