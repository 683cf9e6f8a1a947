/- A gate as a machine of steps: what stays true, whoever steps. (Plain words.) -/
import Derived.Test.YtokopocldicnmaaGtY
namespace Go.Proofs.Ytokopocldicnmaa.Gt

/-- Of two tickets of one slot the later one is of a later round. -/
theorem same_slot {c t u : Nat} (e : t % c = u % c) (h : t < u) : t / c < u / c := by
  rcases Nat.lt_or_ge (t / c) (u / c) with g | g
  · exact g
  · have h1 := Nat.div_add_mod t c
    have h2 := Nat.div_add_mod u c
    have := Nat.mul_le_mul_left c g
    omega
theorem slot_round {c t u : Nat} (e : t % c = u % c) (h : t / c = u / c) : t = u := by
  have h1 := Nat.div_add_mod t c
  have h2 := Nat.div_add_mod u c
  rw [h, e] at h1; omega
/-- Which ticket it holds. -/
def holds : GS → Nat → Prop
  | .q3 t, u => u = t
  | .q4 t _, u => u = t
  | _, _ => False
def inV (vo : Nat → Int) (t : Nat) : Dir → Prop
  | .put v => vo t = v
  | .take => True
def valV (c : Nat) (R : Rg) (vo : Nat → Int) (t : Nat) (x : Int) : Dir → Prop
  | .put v => R.val (t % c) = v ∧ x = 0
  | .take => x = vo t
/-- What is known of an operation that isn't over. -/
def OI (c : Nat) (R : Rg) (vo : Nat → Int) (d : Dir) : GS → Prop
  | .q0 => True
  | .q1 t => t ≤ cntOf R d
  | .q2 t => t ≤ cntOf R d ∧ (t = cntOf R d → R.turn (t % c) = 2 * (t / c) + d.ld)
  | .q3 t => t < cntOf R d ∧ R.turn (t % c) = 2 * (t / c) + d.ld ∧ inV vo t d
  | .q4 t x => t < cntOf R d ∧ R.turn (t % c) = 2 * (t / c) + d.ld ∧ inV vo t d ∧ valV c R vo t x d
/-- The whole: the gate, those who are under way; vo: each ticket's value. -/
structure GI (c : Nat) (R : Rg) (P : Nat → Option (Dir × GS)) (vo : Nat → Int) : Prop where
  pos : 0 < c
  ht : R.head ≤ R.tail
  i1 : ∀ t, t < R.tail → 2 * (t / c) ≤ R.turn (t % c)
  i2 : ∀ t, R.head ≤ t → R.turn (t % c) ≤ 2 * (t / c) + 1
  i3 : ∀ t, R.tail ≤ t → R.turn (t % c) ≤ 2 * (t / c)
  i4 : ∀ t, t < R.head → 2 * (t / c) + 1 ≤ R.turn (t % c)
  val : ∀ t, t < R.tail → R.turn (t % c) = 2 * (t / c) + 1 → R.val (t % c) = vo t
  op : ∀ p d s, P p = some (d, s) → OI c R vo d s
  sole : ∀ p q d e s s' t, P p = some (d, s) → P q = some (e, s') → holds s t → holds s' t → d.ld = e.ld → p = q
  pend : ∀ t, t < R.tail → R.turn (t % c) = 2 * (t / c) → ∃ p v s, P p = some (.put v, s) ∧ holds s t
  pendT : ∀ t, t < R.head → R.turn (t % c) = 2 * (t / c) + 1 → ∃ p s, P p = some (.take, s) ∧ holds s t

section
variable {c : Nat} {R : Rg} {P : Nat → Option (Dir × GS)} {vo : Nat → Int} {p : Nat} {d : Dir} {s : GS}
theorem OI.held (h : OI c R vo d s) {t : Nat} (a : holds s t) : t < cntOf R d ∧ R.turn (t % c) = 2 * (t / c) + d.ld := by
  cases s with
  | q3 u => rw [show t = u from a]; exact ⟨h.1, h.2.1⟩
  | q4 u x => rw [show t = u from a]; exact ⟨h.1, h.2.1⟩
  | _ => exact a.elim
/-- What is known stays, where the counters rise and the slots that it speaks of stay. -/
theorem OI.keep (h : OI c R vo d s) {R' : Rg} {vo' : Nat → Int} (hc : cntOf R d ≤ cntOf R' d) (hq : ∀ t, t = cntOf R' d → s = .q2 t → cntOf R d = cntOf R' d ∧ R'.turn (t % c) = R.turn (t % c))
    (ht : ∀ t, holds s t → R'.turn (t % c) = R.turn (t % c)) (hv : ∀ t, t < R.tail → vo' t = vo t) (hx : ∀ t, holds s t → R'.val (t % c) = R.val (t % c)) (hle : R.head ≤ R.tail) : OI c R' vo' d s := by
  have hlt : ∀ t, t < cntOf R d → t < R.tail := fun t h => by cases d with
    | put v => exact h
    | take => exact Nat.lt_of_lt_of_le h hle
  have hin : ∀ t, t < cntOf R d → inV vo t d → inV vo' t d := fun t h1 h2 => by cases d with
    | put v => exact (hv t (hlt t h1)).trans h2
    | take => trivial
  cases s with
  | q0 => trivial
  | q1 t => exact Nat.le_trans h hc
  | q2 t => exact ⟨Nat.le_trans h.1 hc, fun e => by obtain ⟨a, b⟩ := hq t e rfl; rw [b]; exact h.2 (e.trans a.symm)⟩
  | q3 t => exact ⟨Nat.lt_of_lt_of_le h.1 hc, (ht t rfl).trans h.2.1, hin t h.1 h.2.2⟩
  | q4 t x => exact ⟨Nat.lt_of_lt_of_le h.1 hc, (ht t rfl).trans h.2.1, hin t h.1 h.2.2.1, by cases d with
      | put v => exact ⟨(hx t rfl).trans h.2.2.2.1, h.2.2.2.2⟩
      | take => exact (show x = vo t from h.2.2.2).trans (hv t (hlt t h.1)).symm⟩

/-- One that holds nothing goes on to what holds nothing, or is over. -/
theorem GI.move (h : GI c R P vo) (hn : ∀ d s, P p = some (d, s) → ∀ t, ¬ holds s t) (o : Option (Dir × GS)) (ho : ∀ d s, o = some (d, s) → (∀ t, ¬ holds s t) ∧ OI c R vo d s) : GI c R (upd P p o) vo := by
  refine { h with op := fun q d1 s1 hq => ?_, sole := fun q q' d1 d2 s1 s2 t hq hq' a b e => ?_, pend := fun t h1 h2 => ?_, pendT := fun t h1 h2 => ?_ }
  · by_cases g : q = p
    · subst g; rw [upd_same] at hq; exact (ho _ _ hq).2
    · rw [upd_other _ _ _ _ g] at hq; exact h.op q d1 s1 hq
  · by_cases g : q = p
    · subst g; rw [upd_same] at hq; exact absurd a ((ho _ _ hq).1 t)
    · by_cases g' : q' = p
      · subst g'; rw [upd_same] at hq'; exact absurd b ((ho _ _ hq').1 t)
      · rw [upd_other _ _ _ _ g] at hq; rw [upd_other _ _ _ _ g'] at hq'; exact h.sole q q' d1 d2 s1 s2 t hq hq' a b e
  · obtain ⟨q, v, s1, hq, a⟩ := h.pend t h1 h2
    have g : q ≠ p := fun e => by subst e; exact hn _ _ hq t a
    exact ⟨q, v, s1, by rw [upd_other _ _ _ _ g]; exact hq, a⟩
  · obtain ⟨q, s1, hq, a⟩ := h.pendT t h1 h2
    have g : q ≠ p := fun e => by subst e; exact hn _ _ hq t a
    exact ⟨q, s1, by rw [upd_other _ _ _ _ g]; exact hq, a⟩
/-- Who finds the turn ahead was passed. -/
theorem GI.passed (h : GI c R P vo) {t : Nat} (ht : t ≤ cntOf R d) (hx : 2 * (t / c) + d.ld < R.turn (t % c)) : t < cntOf R d := by
  rcases Nat.lt_or_ge t (cntOf R d) with g | g
  · exact g
  · cases d with
    | put v => have h1 : R.turn (t % c) ≤ 2 * (t / c) := h.i3 t g; have h2 : 2 * (t / c) + 0 < R.turn (t % c) := hx; omega
    | take => have h1 : R.turn (t % c) ≤ 2 * (t / c) + 1 := h.i2 t g; have h2 : 2 * (t / c) + 1 < R.turn (t % c) := hx; omega

/-- A Put draws its ticket. -/
theorem GI.drawP (h : GI c R P vo) {v : Int} (hp : P p = some (.put v, .q2 R.tail)) : GI c { R with tail := R.tail + 1 } (upd P p (some (.put v, .q3 R.tail))) (upd vo R.tail v) := by
  have hT : R.turn (R.tail % c) = 2 * (R.tail / c) := (h.op p _ _ hp).2 rfl
  have hvo : ∀ t, t < R.tail → upd vo R.tail v t = vo t := fun t ht => upd_other _ _ _ _ (by omega)
  have hlt : ∀ q v s t, P q = some (.put v, s) → holds s t → t < R.tail := fun q v s t hq a => ((h.op q _ _ hq).held a).1
  refine ⟨h.pos, by show R.head ≤ R.tail + 1; have := h.ht; omega, fun t ht => ?_, h.i2, fun t ht => ?_, h.i4, fun t ht hx => ?_, fun q d1 s1 hq => ?_, fun q q' d1 d2 s1 s2 t hq hq' a b e => ?_, fun t h1 h2 => ?_, fun t h1 h2 => ?_⟩
  · have ht' : t < R.tail + 1 := ht
    by_cases e : t = R.tail
    · show _ ≤ R.turn (t % c); rw [e, hT]; omega
    · exact h.i1 t (by omega)
  · have ht' : R.tail + 1 ≤ t := ht
    exact h.i3 t (by omega)
  · have ht' : t < R.tail + 1 := ht
    by_cases e : t = R.tail
    · have hx' : R.turn (t % c) = 2 * (t / c) + 1 := hx
      rw [e, hT] at hx'; omega
    · rw [hvo t (by omega)]; exact h.val t (by omega) hx
  · by_cases g : q = p
    · subst g; rw [upd_same] at hq; cases hq
      exact ⟨Nat.lt_succ_self _, hT, upd_same _ _ _⟩
    · rw [upd_other _ _ _ _ g] at hq
      refine (h.op q d1 s1 hq).keep ?_ (fun t e1 e2 => ?_) (fun _ _ => rfl) hvo (fun _ _ => rfl) h.ht
      · cases d1 with
        | put v => exact Nat.le_succ _
        | take => exact Nat.le_refl _
      · cases d1 with
        | put v1 =>
          subst e2
          have h1 : t ≤ R.tail := (h.op q (.put v1) (.q2 t) hq).1
          have h2 : t = R.tail + 1 := e1
          omega
        | take => exact ⟨rfl, rfl⟩
  · by_cases g : q = p
    · by_cases g' : q' = p
      · rw [g, g']
      · subst g; rw [upd_same] at hq; cases hq
        rw [upd_other _ _ _ _ g'] at hq'
        cases d2 with
        | put v2 => have := hlt _ _ _ _ hq' b; have a' : t = R.tail := a; omega
        | take => cases e
    · rw [upd_other _ _ _ _ g] at hq
      by_cases g' : q' = p
      · subst g'; rw [upd_same] at hq'; cases hq'
        cases d1 with
        | put v2 => have := hlt _ _ _ _ hq a; have b' : t = R.tail := b; omega
        | take => cases e
      · rw [upd_other _ _ _ _ g'] at hq'; exact h.sole q q' d1 d2 s1 s2 t hq hq' a b e
  · by_cases e : t = R.tail
    · exact ⟨p, v, _, upd_same _ _ _, e⟩
    · have h1' : t < R.tail + 1 := h1
      obtain ⟨q, v1, s1, hq, a⟩ := h.pend t (by omega) h2
      have g : q ≠ p := fun e => by rw [e, hp] at hq; cases hq; exact a
      exact ⟨q, v1, s1, by rw [upd_other _ _ _ _ g]; exact hq, a⟩
  · obtain ⟨q, s1, hq, a⟩ := h.pendT t h1 h2
    have g : q ≠ p := fun e => by rw [e, hp] at hq; cases hq
    exact ⟨q, s1, by rw [upd_other _ _ _ _ g]; exact hq, a⟩
/-- A Take draws its ticket. -/
theorem GI.drawT (h : GI c R P vo) (hp : P p = some (.take, .q2 R.head)) : GI c { R with head := R.head + 1 } (upd P p (some (.take, .q3 R.head))) vo := by
  have hT : R.turn (R.head % c) = 2 * (R.head / c) + 1 := (h.op p _ _ hp).2 rfl
  have hlt' : R.head < R.tail := by
    rcases Nat.lt_or_ge R.head R.tail with g | g
    · exact g
    · have := h.i3 R.head g; omega
  have hlt : ∀ q s t, P q = some (.take, s) → holds s t → t < R.head := fun q s t hq a => ((h.op q _ _ hq).held a).1
  refine ⟨h.pos, hlt', h.i1, fun t ht => ?_, h.i3, fun t ht => ?_, h.val, fun q d1 s1 hq => ?_, fun q q' d1 d2 s1 s2 t hq hq' a b e => ?_, fun t h1 h2 => ?_, fun t h1 h2 => ?_⟩
  · have ht' : R.head + 1 ≤ t := ht
    exact h.i2 t (by omega)
  · have ht' : t < R.head + 1 := ht
    by_cases e : t = R.head
    · show _ ≤ R.turn (t % c); rw [e, hT]; omega
    · exact h.i4 t (by omega)
  · by_cases g : q = p
    · subst g; rw [upd_same] at hq; cases hq
      exact ⟨Nat.lt_succ_self _, hT, trivial⟩
    · rw [upd_other _ _ _ _ g] at hq
      refine (h.op q d1 s1 hq).keep ?_ (fun t e1 e2 => ?_) (fun _ _ => rfl) (fun _ _ => rfl) (fun _ _ => rfl) h.ht
      · cases d1 with
        | put v => exact Nat.le_refl _
        | take => exact Nat.le_succ _
      · cases d1 with
        | put v1 => exact ⟨rfl, rfl⟩
        | take =>
          subst e2
          have h1 : t ≤ R.head := (h.op q .take (.q2 t) hq).1
          have h2 : t = R.head + 1 := e1
          omega
  · by_cases g : q = p
    · by_cases g' : q' = p
      · rw [g, g']
      · subst g; rw [upd_same] at hq; cases hq
        rw [upd_other _ _ _ _ g'] at hq'
        cases d2 with
        | put v2 => cases e
        | take => have := hlt _ _ _ hq' b; have a' : t = R.head := a; omega
    · rw [upd_other _ _ _ _ g] at hq
      by_cases g' : q' = p
      · subst g'; rw [upd_same] at hq'; cases hq'
        cases d1 with
        | put v2 => cases e
        | take => have := hlt _ _ _ hq a; have b' : t = R.head := b; omega
      · rw [upd_other _ _ _ _ g'] at hq'; exact h.sole q q' d1 d2 s1 s2 t hq hq' a b e
  · obtain ⟨q, v1, s1, hq, a⟩ := h.pend t h1 h2
    have g : q ≠ p := fun e => by rw [e, hp] at hq; cases hq
    exact ⟨q, v1, s1, by rw [upd_other _ _ _ _ g]; exact hq, a⟩
  · by_cases e : t = R.head
    · exact ⟨p, _, upd_same _ _ _, e⟩
    · have h1' : t < R.head + 1 := h1
      obtain ⟨q, s1, hq, a⟩ := h.pendT t (by omega) h2
      have g : q ≠ p := fun e => by rw [e, hp] at hq; cases hq; exact a
      exact ⟨q, s1, by rw [upd_other _ _ _ _ g]; exact hq, a⟩

/-- One that holds a ticket goes on, holding it; only its slot's value may turn. -/
theorem GI.onward (h : GI c R P vo) {t : Nat} {s' : GS} {vl : Nat → Int} (hp : P p = some (d, s)) (hs : ∀ u, holds s u ↔ u = t) (hs' : ∀ u, holds s' u ↔ u = t)
    (hv : ∀ u, u % c ≠ t % c → vl (u % c) = R.val (u % c)) (hw : d = .take → vl = R.val) (hnew : OI c { R with val := vl } vo d s') : GI c { R with val := vl } (upd P p (some (d, s'))) vo := by
  have ht := (h.op p d s hp).held ((hs t).2 rfl)
  have hsame : ∀ (q : Nat) (d1 : Dir) (s1 : GS), q ≠ p → P q = some (d1, s1) → ∀ u, holds s1 u → d1 = .take ∨ vl (u % c) = R.val (u % c) := fun q d1 s1 hne hq u a => by
    cases d1 with
    | take => exact .inl rfl
    | put v1 =>
      right
      cases d with
      | take => rw [hw rfl]
      | put v =>
        refine hv u (fun e => ?_)
        have h1 := ((h.op q _ _ hq).held a).2
        have h2 : R.turn (t % c) = 2 * (t / c) + 0 := ht.2
        have h3 : R.turn (u % c) = 2 * (u / c) + 0 := h1
        rw [e] at h3
        have : u = t := slot_round e (by omega)
        subst this
        exact hne (h.sole q p _ _ _ _ u hq hp a ((hs u).2 rfl) rfl)
  refine ⟨h.pos, h.ht, h.i1, h.i2, h.i3, h.i4, fun u h1 h2 => ?_, fun q d1 s1 hq => ?_, fun q q' d1 d2 s1 s2 u hq hq' a b e => ?_, fun u h1 h2 => ?_, fun u h1 h2 => ?_⟩
  · show vl (u % c) = vo u
    by_cases e : u % c = t % c
    · cases d with
      | take => rw [hw rfl]; exact h.val u h1 h2
      | put v =>
        have h3 : R.turn (t % c) = 2 * (t / c) + 0 := ht.2
        have h4 : R.turn (u % c) = 2 * (u / c) + 1 := h2
        rw [e] at h4; omega
    · rw [hv u e]; exact h.val u h1 h2
  · by_cases g : q = p
    · subst g; rw [upd_same] at hq; cases hq; exact hnew
    · rw [upd_other _ _ _ _ g] at hq
      have k := h.op q d1 s1 hq
      have kk := hsame q d1 s1 g hq
      cases s1 with
      | q0 => trivial
      | q1 u => exact k
      | q2 u => exact k
      | q3 u => exact k
      | q4 u x =>
        refine ⟨k.1, k.2.1, k.2.2.1, ?_⟩
        cases d1 with
        | take => exact k.2.2.2
        | put v1 => exact ⟨((kk u rfl).resolve_left (fun e => by cases e)).trans k.2.2.2.1, k.2.2.2.2⟩
  · have tr : ∀ q d1 s1, upd P p (some (d, s')) q = some (d1, s1) → holds s1 u → ∃ s3, P q = some (d1, s3) ∧ holds s3 u := fun q d1 s1 hq a => by
      by_cases g : q = p
      · subst g; rw [upd_same] at hq; cases hq; exact ⟨s, hp, (hs u).2 ((hs' u).1 a)⟩
      · rw [upd_other _ _ _ _ g] at hq; exact ⟨s1, hq, a⟩
    obtain ⟨s3, h3, a3⟩ := tr q d1 s1 hq a
    obtain ⟨s4, h4, a4⟩ := tr q' d2 s2 hq' b
    exact h.sole q q' d1 d2 s3 s4 u h3 h4 a3 a4 e
  · obtain ⟨q, v1, s1, hq, a⟩ := h.pend u h1 h2
    by_cases g : q = p
    · subst g; rw [hp] at hq; cases hq
      exact ⟨q, v1, s', upd_same _ _ _, (hs' u).2 ((hs u).1 a)⟩
    · exact ⟨q, v1, s1, by rw [upd_other _ _ _ _ g]; exact hq, a⟩
  · obtain ⟨q, s1, hq, a⟩ := h.pendT u h1 h2
    by_cases g : q = p
    · subst g; rw [hp] at hq; cases hq
      exact ⟨q, s', upd_same _ _ _, (hs' u).2 ((hs u).1 a)⟩
    · exact ⟨q, s1, by rw [upd_other _ _ _ _ g]; exact hq, a⟩

/-- The slot is handed on. -/
theorem GI.hand (h : GI c R P vo) {t : Nat} {x : Int} (hp : P p = some (d, .q4 t x)) : GI c { R with turn := upd R.turn (t % c) (2 * (t / c) + d.ld + 1) } (upd P p none) vo := by
  obtain ⟨ht, hT, hin, hvl⟩ := h.op p d _ hp
  have hd : d.ld = 0 ∨ d.ld = 1 := by cases d <;> simp [Dir.ld]
  have htl : t < R.tail := by cases d with
    | put v => exact ht
    | take => exact Nat.lt_of_lt_of_le ht h.ht
  -- the turn of a ticket's slot, before and behind
  have tn : ∀ u, u % c ≠ t % c → upd R.turn (t % c) (2 * (t / c) + d.ld + 1) (u % c) = R.turn (u % c) := fun u e => upd_other _ _ _ _ e
  have te : ∀ u, u % c = t % c → upd R.turn (t % c) (2 * (t / c) + d.ld + 1) (u % c) = 2 * (t / c) + d.ld + 1 ∧ R.turn (u % c) = 2 * (t / c) + d.ld := fun u e => by rw [e, upd_same]; exact ⟨rfl, hT⟩
  refine ⟨h.pos, h.ht, fun u hu => ?_, fun u hu => ?_, fun u hu => ?_, fun u hu => ?_, fun u hu hx => ?_, fun q d1 s1 hq => ?_, fun q q' d1 d2 s1 s2 u hq hq' a b e => ?_, fun u h1 h2 => ?_, fun u h1 h2 => ?_⟩
  · show _ ≤ upd R.turn (t % c) _ (u % c)
    by_cases e : u % c = t % c
    · obtain ⟨a, b⟩ := te u e; have := h.i1 u hu; rw [a]; omega
    · rw [tn u e]; exact h.i1 u hu
  · show upd R.turn (t % c) _ (u % c) ≤ _
    by_cases e : u % c = t % c
    · obtain ⟨a, b⟩ := te u e
      have h1 := h.i2 u hu
      rw [a]
      cases d with
      | put v => have : R.turn (u % c) = 2 * (t / c) + 0 := b; show 2 * (t / c) + 0 + 1 ≤ _; omega
      | take =>
        have hu' : R.head ≤ u := hu
        have ht' : t < R.head := ht
        have := same_slot e.symm (show t < u by omega)
        show 2 * (t / c) + 1 + 1 ≤ _; omega
    · rw [tn u e]; exact h.i2 u hu
  · show upd R.turn (t % c) _ (u % c) ≤ _
    by_cases e : u % c = t % c
    · obtain ⟨a, b⟩ := te u e
      have hu' : R.tail ≤ u := hu
      have := same_slot e.symm (show t < u by omega)
      rw [a]; omega
    · rw [tn u e]; exact h.i3 u hu
  · show _ ≤ upd R.turn (t % c) _ (u % c)
    by_cases e : u % c = t % c
    · obtain ⟨a, b⟩ := te u e; have := h.i4 u hu; rw [a]; omega
    · rw [tn u e]; exact h.i4 u hu
  · show R.val (u % c) = vo u
    by_cases e : u % c = t % c
    · obtain ⟨a, b⟩ := te u e
      have hx' : upd R.turn (t % c) (2 * (t / c) + d.ld + 1) (u % c) = 2 * (u / c) + 1 := hx
      rw [a] at hx'
      cases d with
      | put v =>
        have h1 : 2 * (t / c) + 0 + 1 = 2 * (u / c) + 1 := hx'
        have : u = t := slot_round e (by omega)
        subst this
        exact (show R.val (u % c) = v from hvl.1).trans (show vo u = v from hin).symm
      | take => have h1 : 2 * (t / c) + 1 + 1 = 2 * (u / c) + 1 := hx'; omega
    · exact h.val u hu (by have hx' : upd R.turn (t % c) (2 * (t / c) + d.ld + 1) (u % c) = 2 * (u / c) + 1 := hx; rwa [tn u e] at hx')
  · by_cases g : q = p
    · subst g; rw [upd_same] at hq; cases hq
    · rw [upd_other _ _ _ _ g] at hq
      have k := h.op q d1 s1 hq
      refine k.keep (by cases d1 <;> exact Nat.le_refl _) (fun u e1 e2 => ⟨by cases d1 <;> rfl, ?_⟩) (fun u a => ?_) (fun _ _ => rfl) (fun _ _ => rfl) h.ht
      · -- q2 u at the counter: its slot isn't t's
        subst e2
        have e1' : u = cntOf R d1 := by cases d1 <;> exact e1
        have h1 := k.2 e1'
        refine tn u (fun e => ?_)
        obtain ⟨_, b⟩ := te u e
        rw [b] at h1
        cases d1 with
        | put v1 =>
          have e3 : u = R.tail := e1'
          have h2 : 2 * (t / c) + d.ld = 2 * (u / c) + 0 := h1
          have := same_slot e.symm (show t < u by omega)
          omega
        | take =>
          have e3 : u = R.head := e1'
          have h2 : 2 * (t / c) + d.ld = 2 * (u / c) + 1 := h1
          cases d with
          | put v => have h4 : 2 * (t / c) + 0 = 2 * (u / c) + 1 := h2; omega
          | take =>
            have h4 : 2 * (t / c) + 1 = 2 * (u / c) + 1 := h2
            have ht' : t < R.head := ht
            have := slot_round e (by omega)
            omega
      · -- another one's ticket isn't in t's slot
        have h1 := (k.held a).2
        refine tn u (fun e => ?_)
        obtain ⟨_, b⟩ := te u e
        rw [b] at h1
        have e4 : d.ld = d1.ld := by
          have : d1.ld = 0 ∨ d1.ld = 1 := by cases d1 <;> simp [Dir.ld]
          omega
        have := slot_round e (by omega)
        subst this
        exact g (h.sole q p _ _ _ _ u hq hp a rfl e4.symm)
  · by_cases g : q = p
    · subst g; rw [upd_same] at hq; cases hq
    · by_cases g' : q' = p
      · subst g'; rw [upd_same] at hq'; cases hq'
      · rw [upd_other _ _ _ _ g] at hq; rw [upd_other _ _ _ _ g'] at hq'; exact h.sole q q' d1 d2 s1 s2 u hq hq' a b e
  · have h2' : upd R.turn (t % c) (2 * (t / c) + d.ld + 1) (u % c) = 2 * (u / c) := h2
    have hne : u % c ≠ t % c := fun e => by
      obtain ⟨a, b⟩ := te u e
      rw [a] at h2'
      have h3 := h.i1 u h1
      rw [b] at h3
      omega
    rw [tn u hne] at h2'
    obtain ⟨q, v1, s1, hq, a⟩ := h.pend u h1 h2'
    have g : q ≠ p := fun e => by rw [e, hp] at hq; cases hq; exact hne (by rw [show u = t from a])
    exact ⟨q, v1, s1, by rw [upd_other _ _ _ _ g]; exact hq, a⟩
  · have h2' : upd R.turn (t % c) (2 * (t / c) + d.ld + 1) (u % c) = 2 * (u / c) + 1 := h2
    have hne : u % c ≠ t % c := fun e => by
      obtain ⟨a, b⟩ := te u e
      rw [a] at h2'
      have h3 := h.i4 u h1
      rw [b] at h3
      omega
    rw [tn u hne] at h2'
    obtain ⟨q, s1, hq, a⟩ := h.pendT u h1 h2'
    have g : q ≠ p := fun e => by rw [e, hp] at hq; cases hq; exact hne (by rw [show u = t from a])
    exact ⟨q, s1, by rw [upd_other _ _ _ _ g]; exact hq, a⟩

/-- What a step makes of the one that steps, and of the tickets' values. -/
def nxt (d : Dir) : GR → Option (Dir × GS)
  | .on s => some (d, s)
  | _ => none
def voN (R : Rg) (vo : Nat → Int) : Dir → GS → Nat → Int
  | .put v, .q2 t => if R.tail = t then upd vo t v else vo
  | _, _ => vo
/-- ONE STEP. -/
theorem GI.step (h : GI c R P vo) (hp : P p = some (d, s)) : GI c (gstep c R d s).1 (upd P p (nxt d (gstep c R d s).2)) (voN R vo d s) := by
  have hq := h.op p d s hp
  have none_held : ∀ {s : GS}, P p = some (d, s) → (∀ t, ¬ holds s t) → ∀ d' s', P p = some (d', s') → ∀ t, ¬ holds s' t := fun h1 h2 d' s' h3 => by
    rw [h1] at h3; cases h3; exact h2
  cases s with
  | q0 =>
    have e : voN R vo d .q0 = vo := by cases d <;> rfl
    rw [e]
    exact h.move (none_held hp (fun _ a => a)) _ (fun d' s' e => by cases e; exact ⟨fun _ a => a, Nat.le_refl _⟩)
  | q1 t =>
    have e : voN R vo d (.q1 t) = vo := by cases d <;> rfl
    rw [e]
    simp only [gstep]
    by_cases h1 : 2 * (t / c) + d.ld < R.turn (t % c)
    · rw [if_pos h1]
      exact h.move (none_held hp (fun _ a => a)) _ (fun d' s' e => by cases e; exact ⟨fun _ a => a, trivial⟩)
    · rw [if_neg h1]
      by_cases h2 : R.turn (t % c) < 2 * (t / c) + d.ld
      · rw [if_pos h2]
        exact h.move (none_held hp (fun _ a => a)) _ (fun d' s' e => by cases e)
      · rw [if_neg h2]
        exact h.move (none_held hp (fun _ a => a)) _ (fun d' s' e => by cases e; exact ⟨fun _ a => a, hq, fun _ => by omega⟩)
  | q2 t =>
    simp only [gstep]
    by_cases h1 : cntOf R d = t
    · rw [if_pos h1]
      subst h1
      cases d with
      | put v =>
        have e : voN R vo (.put v) (.q2 (cntOf R (.put v))) = upd vo R.tail v := if_pos rfl
        rw [e]; exact h.drawP hp
      | take => exact h.drawT hp
    · rw [if_neg h1]
      have e : voN R vo d (.q2 t) = vo := by cases d with
        | put v => exact if_neg h1
        | take => rfl
      rw [e]
      exact h.move (none_held hp (fun _ a => a)) _ (fun d' s' e => by cases e; exact ⟨fun _ a => a, trivial⟩)
  | q3 t =>
    have e : voN R vo d (.q3 t) = vo := by cases d <;> rfl
    rw [e]
    cases d with
    | put v =>
      refine h.onward (t := t) (s' := .q4 t 0) hp (fun _ => Iff.rfl) (fun _ => Iff.rfl) (fun u hu => upd_other _ _ _ _ hu) (fun e => by cases e) ?_
      exact ⟨hq.1, hq.2.1, hq.2.2, upd_same _ _ _, rfl⟩
    | take =>
      refine h.onward (t := t) (s' := .q4 t (R.val (t % c))) (vl := R.val) hp (fun _ => Iff.rfl) (fun _ => Iff.rfl) (fun u hu => rfl) (fun _ => rfl) ?_
      exact ⟨hq.1, hq.2.1, trivial, h.val t (Nat.lt_of_lt_of_le hq.1 h.ht) hq.2.1⟩
  | q4 t x =>
    have e : voN R vo d (.q4 t x) = vo := by cases d <;> rfl
    rw [e]
    exact h.hand hp
/-- The beginning: a gate that holds what lies from ticket 0 on. -/
theorem GI.start {q : List Int} (h0 : 0 < c) (hh : R.head = 0) (_ht : R.tail ≤ c) (hf : ∀ t, t < R.tail → R.turn (t % c) = 2 * (t / c) + 1 ∧ R.val (t % c) = q.getD t 0) (hg : ∀ t, R.tail ≤ t → t < c → R.turn (t % c) = 2 * (t / c))
    (hP : ∀ p d s, P p = some (d, s) → s = .q0) : GI c R P (fun t => q.getD t 0) := by
  have base : ∀ t, R.turn (t % c) ≤ 1 := fun t => by
    have hm := Nat.mod_lt t h0
    have e := Nat.mod_eq_of_lt hm
    rcases Nat.lt_or_ge (t % c) R.tail with g | g
    · have := (hf _ g).1; rw [e, Nat.div_eq_of_lt hm] at this; omega
    · have := hg _ g hm; rw [e, Nat.div_eq_of_lt hm] at this; omega
  have far : ∀ t, c ≤ t → 1 ≤ t / c := fun t h => Nat.div_pos h h0
  have nh : ∀ p d s t, P p = some (d, s) → ¬ holds s t := fun p d s t h a => by rw [hP p d s h] at a; exact a
  refine ⟨h0, by omega, fun t h => by have := (hf t h).1; omega, fun t _ => ?_, fun t h => ?_, fun t h => by omega, fun t h _ => (hf t h).2, fun p d s h => ?_, fun p q d e s s' t h h' a _ _ => absurd a (nh _ _ _ _ h), fun t h h' => ?_, fun t h => by omega⟩
  · have := base t; omega
  · rcases Nat.lt_or_ge t c with g | g
    · have := hg t h g; omega
    · have := base t; have := far t g; omega
  · rw [hP p d s h]; trivial
  · have := (hf t h).1; omega
end
end Go.Proofs.Ytokopocldicnmaa.Gt
