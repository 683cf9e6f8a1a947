/- A crowd at a gate, in plain words: one step of one of the four, begun or not. -/
import Derived.Test.YtfhbgabblegecaaGtD
namespace Go.Proofs.Ytfhbgabblegecaa.Gt

structure CS (c : Nat) (R : Rg) (P : Nat → Option (Dir × GS)) (vo : Nat → Int) (nx : Nat → Nat) (it : List Nat) (tk : Nat → List Nat) (ins : Nat → List Int) : Prop where
  gi : GI c R P vo
  gl : GL R P vo nx it tk ins
  n1 : ∀ p d s, p < 2 → P p = some (d, s) → 1 ≤ nx p

section
variable {c : Nat} {R : Rg} {P : Nat → Option (Dir × GS)} {vo : Nat → Int} {nx : Nat → Nat} {it : List Nat} {tk : Nat → List Nat} {ins : Nat → List Int} {p : Nat} {d : Dir} {s : GS}

theorem CS.n1_keep (h : CS c R P vo nx it tk ins) (hp : P p = some (d, s)) (o : Option (Dir × GS)) : ∀ q d' s', q < 2 → upd P p o q = some (d', s') → 1 ≤ nx q := fun q d' s' hq e => by
  by_cases g : q = p
  · subst g; exact h.n1 q d s hq hp
  · rw [upd_other _ _ _ _ g] at e; exact h.n1 q d' s' hq e
/-- What is noted of who is done. -/
def insN (ins : Nat → List Int) (nx : Nat → Nat) (p : Nat) (x : Int) : Nat → List Int := if p < 2 then upd ins 0 (ins 0 ++ [num p (nx p)]) else upd ins (p - 1) (ins (p - 1) ++ [x])
theorem CS.step (h : CS c R P vo nx it tk ins) (hp : P p = some (d, s)) (h4 : p < 4) :
    ∃ it' tk', CS c (gstep c R d s).1 (upd P p (nxt d (gstep c R d s).2)) (voN R vo d s) nx it' tk' (match (gstep c R d s).2 with | .done x => insN ins nx p x | _ => ins) := by
  have G := h.gi.step hp
  have hq := h.gi.op p d s hp
  have N := fun o => h.n1_keep hp o
  have Q := h.gl
  have plain : ∀ s', (∀ t, holds s t ↔ holds s' t) → ∀ R', R'.tail = R.tail → R'.head = R.head → GL R' (upd P p (some (d, s'))) vo nx it tk ins := fun s' hh R' e1 e2 =>
    Q.same e1 e2 hp (some (d, s')) (fun d' s2 e => by cases e; rfl) (fun t a => ⟨s', rfl, (hh t).1 a⟩) (fun d' s2 t e a => by cases e; exact (hh t).2 a) h4
  cases s with
  | q0 =>
    have e : voN R vo d .q0 = vo := by cases d <;> rfl
    rw [e] at G ⊢
    exact ⟨it, tk, G, plain (.q1 (cntOf R d)) (fun _ => Iff.rfl) R rfl rfl, N _⟩
  | q1 t =>
    have e : voN R vo d (.q1 t) = vo := by cases d <;> rfl
    rw [e] at G ⊢
    simp only [gstep] at G ⊢
    by_cases h1 : 2 * (t / c) + d.ld < R.turn (t % c)
    · rw [if_pos h1] at G ⊢
      exact ⟨it, tk, G, plain .q0 (fun _ => Iff.rfl) R rfl rfl, N _⟩
    · rw [if_neg h1] at G ⊢
      by_cases h2 : R.turn (t % c) < 2 * (t / c) + d.ld
      · rw [if_pos h2] at G ⊢
        exact ⟨it, tk, G, Q.same rfl rfl hp none (fun d' s' e => by cases e) (fun t a => a.elim) (fun d' s' t e => by cases e) h4, N _⟩
      · rw [if_neg h2] at G ⊢
        exact ⟨it, tk, G, plain (.q2 t) (fun _ => Iff.rfl) R rfl rfl, N _⟩
  | q2 t =>
    simp only [gstep] at G ⊢
    by_cases h1 : cntOf R d = t
    · rw [if_pos h1] at G ⊢
      subst h1
      cases d with
      | put v =>
        have e : voN R vo (.put v) (.q2 (cntOf R (.put v))) = upd vo R.tail v := if_pos rfl
        rw [e] at G ⊢
        have hp2 : p < 2 := by
          rcases Nat.lt_or_ge p 2 with g | g
          · exact g
          · have := Q.dT p _ _ g hp; cases this
        have hv : v = num p (nx p) := by have := Q.dP p _ _ hp2 hp; injection this
        subst hv
        exact ⟨it, tk, G, Q.drawP hp hp2 (h.n1 p _ _ hp2 hp), N _⟩
      | take =>
        have e : voN R vo .take (.q2 (cntOf R .take)) = vo := rfl
        rw [e] at G ⊢
        have hp2 : 2 ≤ p := by
          rcases Nat.lt_or_ge p 2 with g | g
          · have := Q.dP p _ _ g hp; cases this
          · exact g
        refine ⟨it, tk, G, Q.drawT hp hp2 h4 ?_, N _⟩
        have ht := hq.2 rfl
        have e3 : cntOf R .take = R.head := rfl
        rw [e3] at ht
        rcases Nat.lt_or_ge R.head R.tail with g | g
        · exact g
        · have := h.gi.i3 R.head g; have e4 : Dir.ld .take = 1 := rfl; omega
    · rw [if_neg h1] at G ⊢
      have e : voN R vo d (.q2 t) = vo := by cases d with
        | put v => exact if_neg h1
        | take => rfl
      rw [e] at G ⊢
      exact ⟨it, tk, G, plain .q0 (fun _ => Iff.rfl) R rfl rfl, N _⟩
  | q3 t =>
    have e : voN R vo d (.q3 t) = vo := by cases d <;> rfl
    rw [e] at G ⊢
    cases d with
    | put v => exact ⟨it, tk, G, plain (.q4 t 0) (fun _ => Iff.rfl) _ rfl rfl, N _⟩
    | take => exact ⟨it, tk, G, plain (.q4 t (R.val (t % c))) (fun _ => Iff.rfl) _ rfl rfl, N _⟩
  | q4 t x =>
    have e : voN R vo d (.q4 t x) = vo := by cases d <;> rfl
    rw [e] at G ⊢
    cases d with
    | put v =>
      have hp2 : p < 2 := by
        rcases Nat.lt_or_ge p 2 with g | g
        · exact g
        · have := Q.dT p _ _ g hp; cases this
      have hv : v = num p (nx p) := by have := Q.dP p _ _ hp2 hp; injection this
      subst hv
      have k := Q.doneP (R' := (gstep c R (.put (num p (nx p))) (.q4 t x)).1) rfl rfl hp h4 hq.2.2.1 (fun q e' s' hq' a => (h.gi.sole q p _ _ s' _ t hq' hp a rfl rfl))
      have ei : insN ins nx p x = upd ins 0 (ins 0 ++ [num p (nx p)]) := if_pos hp2
      refine ⟨it ++ [t], tk, G, ?_, N _⟩
      show GL _ _ _ _ _ _ (insN ins nx p x)
      rw [ei]; exact k
    | take =>
      have hp2 : 2 ≤ p := by
        rcases Nat.lt_or_ge p 2 with g | g
        · have := Q.dP p _ _ g hp; cases this
        · exact g
      obtain ⟨q, rfl⟩ : ∃ q, p = q + 2 := ⟨p - 2, by omega⟩
      have k := Q.doneT (R' := (gstep c R .take (.q4 t x)).1) rfl rfl hp (by omega) hq.2.2.2 (fun r s' hr a => (h.gi.sole r (q + 2) _ _ s' _ t hr hp a rfl rfl))
      have ei : insN ins nx (q + 2) x = upd ins (q + 1) (ins (q + 1) ++ [x]) := if_neg (by omega)
      refine ⟨it, upd tk q (tk q ++ [t]), G, ?_, N _⟩
      show GL _ _ _ _ _ _ (insN ins nx (q + 2) x)
      rw [ei]; exact k
theorem CS.begin (h : CS c R P vo nx it tk ins) (hp : P p = none) (h4 : p < 4) (hb : nx p + 1 < 4294967296) :
    CS c R (upd P p (some (if p < 2 then .put (num p (nx p + 1)) else .take, .q0))) vo (if p < 2 then upd nx p (nx p + 1) else nx) it tk ins := by
  have G : ∀ d, GI c R (upd P p (some (d, .q0))) vo := fun d => h.gi.move (fun d' s' e => by rw [hp] at e; cases e) _ (fun d' s' e => by cases e; exact ⟨fun _ a => a, trivial⟩)
  by_cases g : p < 2
  · rw [if_pos g, if_pos g]
    refine ⟨G _, h.gl.beginP hp g hb, fun q d s hq e => ?_⟩
    by_cases g2 : q = p
    · subst g2; rw [upd_same]; omega
    · rw [upd_other _ _ _ _ g2] at e ⊢; exact h.n1 q d s hq e
  · rw [if_neg g, if_neg g]
    refine ⟨G _, h.gl.beginT hp (by omega) h4, fun q d s hq e => ?_⟩
    rw [upd_other _ _ _ _ (by omega)] at e; exact h.n1 q d s hq e

/-- Is it under way, and has drawn no ticket? -/
def und : Option (Dir × GS) → Bool
  | some (_, .q3 _) => false
  | some (_, .q4 _ _) => false
  | some _ => true
  | none => false
/-- How many steps it still makes at most, if none is begun. -/
def rk (R : Rg) (U : Nat) : Option (Dir × GS) → Nat
  | none => 0
  | some (_, .q0) => 3 * U + 2
  | some (d, .q1 t) => if t = cntOf R d then 3 * U + 1 else 3 * U + 4
  | some (d, .q2 t) => if t = cntOf R d then 3 * U else 3 * U + 3
  | some (_, .q3 _) => 2
  | some (_, .q4 _ _) => 1
def U4 (P : Nat → Option (Dir × GS)) : Nat := cntN 4 (fun p => und (P p))
theorem U4_le (P : Nat → Option (Dir × GS)) : U4 P ≤ 4 := cntN_le _ _
theorem U4_same {P : Nat → Option (Dir × GS)} {o : Option (Dir × GS)} (h : und o = und (P p)) : U4 (upd P p o) = U4 P := cntN_congr 4 (fun q _ => by
  by_cases g : q = p
  · subst g; rw [upd_same, h]
  · rw [upd_other _ _ _ _ g])
theorem U4_less {P : Nat → Option (Dir × GS)} {o : Option (Dir × GS)} (h4 : p < 4) (h : und o = false) (h2 : und (P p) = true) : U4 P = U4 (upd P p o) + 1 :=
  cntN_more (p := p) (f := fun q => und (upd P p o q)) (g := fun q => und (P q)) (by simp only [upd_same]; exact h) h2 (fun q hq => by simp only [upd_other _ _ _ _ hq]) 4 h4
theorem rk_le (R : Rg) (P : Nat → Option (Dir × GS)) (o : Option (Dir × GS)) : rk R (U4 P) o ≤ 16 := by
  have := U4_le P
  rcases o with _ | ⟨d, s⟩
  · simp [rk]
  · cases s <;> simp only [rk] <;> (try split) <;> omega
theorem rk_mono {R : Rg} {U V : Nat} (h : U ≤ V) (o : Option (Dir × GS)) : rk R U o ≤ rk R V o := by
  rcases o with _ | ⟨d, s⟩
  · exact Nat.le_refl _
  · cases s <;> simp only [rk] <;> (try split) <;> omega
/-- Where a ticket was drawn, the others' ranks don't rise. -/
theorem rk_draw {R R' : Rg} {U : Nat} (o : Option (Dir × GS)) : rk R' U o ≤ rk R (U + 1) o := by
  rcases o with _ | ⟨d, s⟩
  · exact Nat.le_refl _
  · cases s <;> simp only [rk] <;> (try split) <;> (try split) <;> omega
/-- A step lessens one's own rank, and raises nobody's. -/
theorem CS.rank (h : CS c R P vo nx it tk ins) (hp : P p = some (d, s)) (h4 : p < 4) :
    rk (gstep c R d s).1 (U4 (upd P p (nxt d (gstep c R d s).2))) (nxt d (gstep c R d s).2) ≤ rk R (U4 P) (P p) - 1 ∧
    ∀ q, q ≠ p → rk (gstep c R d s).1 (U4 (upd P p (nxt d (gstep c R d s).2))) (upd P p (nxt d (gstep c R d s).2) q) ≤ rk R (U4 P) (P q) := by
  have hq := h.gi.op p d s hp
  have oth : ∀ (o : Option (Dir × GS)) q, q ≠ p → upd P p o q = P q := fun o q g => upd_other _ _ _ _ g
  rw [hp]
  cases s with
  | q0 =>
    have e : U4 (upd P p (some (d, .q1 (cntOf R d)))) = U4 P := U4_same (by rw [hp]; rfl)
    simp only [gstep, nxt]
    rw [e]
    exact ⟨by simp only [rk, if_true]; omega, fun q g => by rw [oth _ q g]; exact Nat.le_refl _⟩
  | q1 t =>
    simp only [gstep]
    by_cases h1 : 2 * (t / c) + d.ld < R.turn (t % c)
    · rw [if_pos h1]
      have e : U4 (upd P p (some (d, .q0))) = U4 P := U4_same (by rw [hp]; rfl)
      simp only [nxt]
      rw [e]
      have hlt := h.gi.passed (d := d) hq h1
      exact ⟨by simp only [rk]; rw [if_neg (by omega)]; omega, fun q g => by rw [oth _ q g]; exact Nat.le_refl _⟩
    · rw [if_neg h1]
      by_cases h2 : R.turn (t % c) < 2 * (t / c) + d.ld
      · rw [if_pos h2]
        have e : U4 P = U4 (upd P p none) + 1 := U4_less h4 rfl (by rw [hp]; rfl)
        simp only [nxt]
        exact ⟨by simp [rk], fun q g => by rw [oth _ q g]; exact rk_mono (by omega) _⟩
      · rw [if_neg h2]
        have e : U4 (upd P p (some (d, .q2 t))) = U4 P := U4_same (by rw [hp]; rfl)
        simp only [nxt]
        rw [e]
        exact ⟨by simp only [rk]; split <;> omega, fun q g => by rw [oth _ q g]; exact Nat.le_refl _⟩
  | q2 t =>
    simp only [gstep]
    by_cases h1 : cntOf R d = t
    · rw [if_pos h1]
      have e : U4 P = U4 (upd P p (some (d, .q3 t))) + 1 := U4_less h4 rfl (by rw [hp]; rfl)
      simp only [nxt]
      exact ⟨by simp only [rk]; rw [if_pos h1.symm]; omega, fun q g => by rw [oth _ q g, e]; exact rk_draw _⟩
    · rw [if_neg h1]
      have e : U4 (upd P p (some (d, .q0))) = U4 P := U4_same (by rw [hp]; rfl)
      simp only [nxt]
      rw [e]
      exact ⟨by simp only [rk]; rw [if_neg (fun z => h1 z.symm)]; omega, fun q g => by rw [oth _ q g]; exact Nat.le_refl _⟩
  | q3 t =>
    have hc : (gstep c R d (.q3 t)).1.tail = R.tail ∧ (gstep c R d (.q3 t)).1.head = R.head := by cases d <;> exact ⟨rfl, rfl⟩
    have hcnt : ∀ d', cntOf (gstep c R d (.q3 t)).1 d' = cntOf R d' := fun d' => by cases d' <;> simp [cntOf, hc.1, hc.2]
    have same : ∀ U o, rk (gstep c R d (.q3 t)).1 U o = rk R U o := fun U o => by
      rcases o with _ | ⟨d', s'⟩
      · rfl
      · cases s' <;> simp only [rk, hcnt]
    obtain ⟨x, ex⟩ : ∃ x, (gstep c R d (.q3 t)).2 = .on (.q4 t x) := by cases d <;> exact ⟨_, rfl⟩
    rw [ex]
    simp only [nxt]
    have e : U4 (upd P p (some (d, .q4 t x))) = U4 P := U4_same (by rw [hp]; rfl)
    rw [e]
    exact ⟨by rw [same]; simp [rk], fun q g => by rw [oth _ q g, same]; exact Nat.le_refl _⟩
  | q4 t x =>
    have e : U4 (upd P p none) = U4 P := U4_same (by rw [hp]; rfl)
    have same : ∀ U o, rk (gstep c R d (.q4 t x)).1 U o = rk R U o := fun U o => by
      rcases o with _ | ⟨d', s'⟩
      · rfl
      · cases s' <;> cases d' <;> rfl
    show rk _ (U4 (upd P p none)) none ≤ _ ∧ ∀ q, q ≠ p → rk _ (U4 (upd P p none)) (upd P p none q) ≤ _
    rw [e]
    exact ⟨by simp [rk], fun q g => by rw [oth _ q g, same]; exact Nat.le_refl _⟩

/-- What is left, while one alone takes: five steps a ticket. -/
def left2 (R : Rg) : Option (Dir × GS) → Nat
  | none => 5 * (R.tail - R.head)
  | some (_, .q0) => 5 * (R.tail - R.head)
  | some (_, .q1 _) => 5 * (R.tail - R.head) - 1
  | some (_, .q2 _) => 5 * (R.tail - R.head) - 2
  | some (_, .q3 _) => 5 * (R.tail - R.head) + 2
  | some (_, .q4 _ _) => 5 * (R.tail - R.head) + 1
/-- Only the third one is under way, and its look is fresh. -/
def Alone (R : Rg) (P : Nat → Option (Dir × GS)) : Prop := (∀ q, q ≠ 2 → P q = none) ∧ ∀ d t, (P 2 = some (d, .q1 t) ∨ P 2 = some (d, .q2 t)) → t = R.head
theorem CS.full (h : CS c R P vo nx it tk ins) (ha : ∀ q, q < 2 → P q = none) (t : Nat) (ht : t < R.tail) : 2 * (t / c) + 1 ≤ R.turn (t % c) := by
  have i1 := h.gi.i1 t ht
  by_cases g : R.turn (t % c) = 2 * (t / c)
  · obtain ⟨q, v, s, e, _⟩ := h.gi.pend t ht g
    have : q < 2 := by
      rcases Nat.lt_or_ge q 2 with g | g
      · exact g
      · have := h.gl.dT q _ _ g e; cases this
    rw [ha q this] at e; cases e
  · omega
/-- Where nobody puts, no more are in the gate than it has slots. -/
theorem CS.span (h : CS c R P vo nx it tk ins) (ha : ∀ q, q < 2 → P q = none) : R.tail - R.head ≤ c := by
  have hc := h.gi.pos
  apply Classical.byContradiction; intro g
  have h1 := h.full ha (R.head + c) (by omega)
  have h2 := h.gi.i2 R.head (Nat.le_refl _)
  rw [Nat.add_mod_right, Nat.add_div_right _ hc] at h1
  omega
/-- One who takes alone: what is left falls, or there is nothing. -/
theorem CS.alone (h : CS c R P vo nx it tk ins) (ha : Alone R P) (hp : P 2 = some (d, s)) :
    Alone (gstep c R d s).1 (upd P 2 (nxt d (gstep c R d s).2)) ∧ left2 (gstep c R d s).1 (nxt d (gstep c R d s).2) ≤ left2 R (some (d, s)) - 1 := by
  obtain ⟨a1, a2⟩ := ha
  have hd : d = .take := h.gl.dT 2 d s (by omega) hp
  subst hd
  have hht := h.gi.ht
  have oth : ∀ (o : Option (Dir × GS)) q, q ≠ 2 → upd P 2 o q = none := fun o q g => by rw [upd_other _ _ _ _ g]; exact a1 q g
  have put0 : ∀ q, q < 2 → P q = none := fun q hq => a1 q (by omega)
  have el : Dir.ld .take = 1 := rfl
  cases s with
  | q0 =>
    refine ⟨⟨oth _, fun d t e => ?_⟩, ?_⟩
    · rw [upd_same] at e; rcases e with e | e <;> cases e; rfl
    · show 5 * (R.tail - R.head) - 1 ≤ 5 * (R.tail - R.head) - 1; exact Nat.le_refl _
  | q1 t =>
    have ht : t = R.head := a2 _ t (.inl hp)
    subst ht
    simp only [gstep]
    have i2 := h.gi.i2 R.head (Nat.le_refl _)
    rw [if_neg (by omega)]
    rcases Nat.lt_or_ge R.head R.tail with g | g
    · have := h.full put0 R.head g
      rw [if_neg (by omega)]
      refine ⟨⟨oth _, fun d t e => ?_⟩, ?_⟩
      · rw [upd_same] at e; simp only [nxt] at e; rcases e with e | e <;> cases e; rfl
      · simp only [nxt, left2]; omega
    · have i3 := h.gi.i3 R.head g
      rw [if_pos (by omega)]
      refine ⟨⟨oth _, fun d t e => ?_⟩, ?_⟩
      · rw [upd_same] at e; simp only [nxt] at e; rcases e with e | e <;> cases e
      · simp only [nxt, left2]; omega
  | q2 t =>
    have ht : t = R.head := a2 _ t (.inr hp)
    subst ht
    have hq := (h.gi.op 2 _ _ hp).2 rfl
    simp only [gstep]
    rw [if_pos (show cntOf R .take = R.head from rfl)]
    have g : R.head < R.tail := by
      rcases Nat.lt_or_ge R.head R.tail with g | g
      · exact g
      · have := h.gi.i3 R.head g; have e3 : cntOf R .take = R.head := rfl; omega
    refine ⟨⟨oth _, fun d t e => ?_⟩, ?_⟩
    · rw [upd_same] at e; simp only [nxt] at e; rcases e with e | e <;> cases e
    · simp only [nxt, left2, drawOf]; omega
  | q3 t =>
    refine ⟨⟨oth _, fun d t e => ?_⟩, ?_⟩
    · rw [upd_same] at e; simp only [nxt, gstep, valOf] at e; rcases e with e | e <;> cases e
    · show 5 * (R.tail - R.head) + 1 ≤ 5 * (R.tail - R.head) + 2 - 1; omega
  | q4 t x =>
    refine ⟨⟨oth _, fun d t e => ?_⟩, ?_⟩
    · rw [upd_same] at e; simp only [nxt, gstep] at e; rcases e with e | e <;> cases e
    · show 5 * (R.tail - R.head) ≤ 5 * (R.tail - R.head) + 1 - 1; omega
end
end Go.Proofs.Ytfhbgabblegecaa.Gt
