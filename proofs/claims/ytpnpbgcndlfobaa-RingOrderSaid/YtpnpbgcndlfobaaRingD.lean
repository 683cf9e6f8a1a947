/- k Puts that are begun at once: each draws one ticket, and is over within 3k + 2 steps of its own. (Of no program.) -/
import Derived.Test.YtpnpbgcndlfobaaRingC
namespace Go.Proofs.Ytpnpbgcndlfobaa

/-- It has drawn its ticket. -/
def drawn : Option (PS × Int) → Bool
  | none => true
  | some (.p3 _, _) => true
  | some (.p4 _, _) => true
  | some _ => false
def drawnN (n : Nat) (P : Nat → Option (PS × Int)) : Nat := ((List.range n).filter fun p => drawn (P p)).length
theorem drawnN_succ (n : Nat) (P : Nat → Option (PS × Int)) : drawnN (n + 1) P = drawnN n P + if drawn (P n) = true then 1 else 0 := by
  simp only [drawnN, List.range_succ, List.filter_append, List.length_append]
  cases h : drawn (P n) <;> simp [h]
theorem drawnN_le (n : Nat) (P : Nat → Option (PS × Int)) : drawnN n P ≤ n := by
  have := List.length_filter_le (fun p => drawn (P p)) (List.range n)
  simpa [drawnN] using this
theorem drawnN_lt {P : Nat → Option (PS × Int)} {p : Nat} (h : drawn (P p) = false) : ∀ n, p < n → drawnN n P < n
  | 0, hp => by omega
  | n + 1, hp => by
    rw [drawnN_succ]
    by_cases e : p = n
    · subst e; rw [h]; have := drawnN_le p P; simp; omega
    · have := drawnN_lt h n (by omega); split <;> omega
theorem drawnN_same {P : Nat → Option (PS × Int)} {p : Nat} {o : Option (PS × Int)} (h : drawn o = drawn (P p)) : ∀ n, drawnN n (upd P p o) = drawnN n P
  | 0 => rfl
  | n + 1 => by
    rw [drawnN_succ, drawnN_succ, drawnN_same h n]
    by_cases e : n = p
    · rw [e, upd_same, h]
    · rw [upd_other _ _ _ _ e]
theorem drawnN_more {P : Nat → Option (PS × Int)} {p : Nat} {o : Option (PS × Int)} (h : drawn (P p) = false) (ho : drawn o = true) : ∀ n, p < n → drawnN n (upd P p o) = drawnN n P + 1
  | 0, hp => by omega
  | n + 1, hp => by
    rw [drawnN_succ, drawnN_succ]
    by_cases e : n = p
    · have h2 : drawnN n (upd P p o) = drawnN n P := by
        have key : ∀ m, m ≤ n → drawnN m (upd P p o) = drawnN m P := by
          intro m
          induction m with
          | zero => intro _; rfl
          | succ m ih => intro hm; rw [drawnN_succ, drawnN_succ, ih (by omega), upd_other _ _ _ _ (by omega)]
        exact key n (Nat.le_refl _)
      rw [h2, e, upd_same, h, ho]; simp
    · rw [drawnN_more h ho n (by omega), upd_other _ _ _ _ e]; omega

/-- How many steps it has made at most, where it stands. -/
def SB (R : Rg) (st : Nat) : PS → Prop
  | .p0 => st ≤ 3 * R.tail
  | .p1 t => st ≤ 3 * t + 1
  | .p2 t => st ≤ 3 * t + 2
  | .p3 t => st ≤ 3 * t + 3
  | .p4 t => st ≤ 3 * t + 4

/-- n Puts that were begun at once, of a ring of 8 slots: P: those that aren't over; D: the tickets of those that are; st: the steps of each. -/
def FInv (n : Nat) (R : Rg) (P : Nat → Option (PS × Int)) (D : Nat → Nat) (st : Nat → Nat) : Prop :=
  ∃ wr vo, Sys 8 R P none 0 wr vo (fun x => x.toNat) (fun _ => True) ∧ (∀ p, p < n → ∀ s v, P p = some (s, v) → SB R (st p) s) ∧
    (∀ p, p < n → P p = none → D p < R.tail ∧ wr (D p) = true ∧ st p ≤ 3 * D p + 5) ∧ (∀ p q, p < n → q < n → P p = none → P q = none → D p = D q → p = q) ∧
    drawnN n P = R.tail

theorem FInv.start (n : Nat) (P : Nat → Option (PS × Int)) (hP : ∀ p, p < n → P p = some (.p0, (p : Int))) (hQ : ∀ p, n ≤ p → P p = none) : FInv n ⟨0, 0, fun _ => 0, fun _ => 0⟩ P (fun _ => 0) (fun _ => 0) := by
  have hs : ∀ q s v, P q = some (s, v) → s = .p0 ∧ v = (q : Int) := fun q s v h => by
    rcases Nat.lt_or_ge q n with g | g
    · rw [hP q g] at h; simp at h; exact ⟨h.1.symm, h.2.symm⟩
    · rw [hQ q g] at h; simp at h
  refine ⟨fun _ => false, fun _ => 0, ⟨⟨by decide, Nat.le_refl _, by show 0 ≤ 0 + 8; omega, fun t h1 h2 => ?_, fun t h => by simp at h, fun t h => by omega, fun t _ h => by simp at h⟩,
    fun q s v h => ?_, fun q q' s s' v v' t h h' a b => ?_, fun t h1 h2 => by have : t < 0 := h2; omega, fun t h => by have : t < 0 := h; omega, fun q s v t h a => ?_, rfl⟩, fun p hp s v h => ?_, fun p hp h => ?_, fun p q hp hq h => ?_, ?_⟩
  · rw [Nat.div_eq_of_lt (by omega : t < 8)]; rfl
  · obtain ⟨rfl, rfl⟩ := hs q s v h
    exact ⟨trivial, by simp, trivial⟩
  · rw [(hs q s v h).1] at a; exact a.elim
  · rw [(hs q s v h).1] at a; exact a.elim
  · rw [(hs p s v h).1]; exact Nat.zero_le _
  · rw [hP p hp] at h; simp at h
  · rw [hP p hp] at h; simp at h
  · have : ∀ m, m ≤ n → drawnN m P = 0 := by
      intro m
      induction m with
      | zero => intro _; rfl
      | succ m ih => intro hm; rw [drawnN_succ, ih (by omega), hP m (by omega)]; rfl
    exact this n (Nat.le_refl _)

section
variable {n : Nat} {R : Rg} {P : Nat → Option (PS × Int)} {D st : Nat → Nat}

/-- A step of one that isn't over. -/
theorem FInv.step (hn : n ≤ 8) (F : FInv n R P D st) {p : Nat} (hp : p < n) {s : PS} {v : Int} (hs : P p = some (s, v)) :
    match putStep 8 R v s with
    | (R', .on s') => FInv n R' (upd P p (some (s', v))) D (upd st p (st p + 1))
    | (_, .full) => False
    | (R', .done t) => FInv n R' (upd P p none) (upd D p t) (upd st p (st p + 1)) := by
  obtain ⟨wr, vo, S, hSB, hD, hDD, hcnt⟩ := F
  have hb := hSB p hp s v hs
  have hI := (S.put p s v hs).1
  have st_ne : ∀ q, q ≠ p → upd st p (st p + 1) q = st q := fun q h => upd_other _ _ _ _ h
  -- the common frame: the ring's tail as it was
  have keep : ∀ (R' : Rg) (wr' : Nat → Bool) (vo' : Nat → Int) (s' : PS), R'.tail = R.tail → (∀ t, wr t = true → wr' t = true) → Sys 8 R' (upd P p (some (s', v))) none 0 wr' vo' (fun x => x.toNat) (fun _ => True) → drawn (some (s', v)) = drawn (P p) → SB R (st p + 1) s' →
      FInv n R' (upd P p (some (s', v))) D (upd st p (st p + 1)) := by
    intro R' wr' vo' s' hR hw S' hd hb'
    have SBeq : ∀ x s1, SB R x s1 → SB R' x s1 := fun x s1 h => by cases s1 <;> simpa [SB, hR] using h
    refine ⟨wr', vo', S', fun q hq s1 v1 h => ?_, fun q hq h => ?_, fun q q' hq hq' h h' e => ?_, ?_⟩
    · by_cases e : q = p
      · subst e; rw [upd_same] at h; simp at h; obtain ⟨rfl, rfl⟩ := h; rw [upd_same]; exact SBeq _ _ hb'
      · rw [upd_other _ _ _ _ e] at h; rw [st_ne q e]; exact SBeq _ _ (hSB q hq s1 v1 h)
    · by_cases e : q = p
      · subst e; rw [upd_same] at h; simp at h
      · rw [upd_other _ _ _ _ e] at h; rw [st_ne q e, hR]
        obtain ⟨a, b, c⟩ := hD q hq h
        exact ⟨a, hw _ b, c⟩
    · by_cases e1 : q = p
      · subst e1; rw [upd_same] at h; simp at h
      · by_cases e2 : q' = p
        · subst e2; rw [upd_same] at h'; simp at h'
        · rw [upd_other _ _ _ _ e1] at h; rw [upd_other _ _ _ _ e2] at h'; exact hDD q q' hq hq' h h' e
    · rw [drawnN_same hd, hR]; exact hcnt
  cases s with
  | p0 => exact keep R wr vo (.p1 R.tail) rfl (fun _ h => h) (S.p0 hs) (by rw [hs]; rfl) (by simp only [SB] at hb ⊢; omega)
  | p1 t =>
    have ht : t ≤ R.tail := hI
    have hlt : R.tail < n := by rw [← hcnt]; exact drawnN_lt (by rw [hs]; rfl) n hp
    have htn : t < 8 := by omega
    have hturn := S.ring.turn t (Nat.zero_le _) (by omega)
    simp only [putStep]
    by_cases g1 : 2 * (t / 8) < R.turn (t % 8)
    · rw [if_pos g1]
      have hw : wr t = true := by
        cases h : wr t with
        | true => rfl
        | false => rw [h] at hturn; simp at hturn; omega
      have := S.ring.wrlt t hw
      exact keep R wr vo .p0 rfl (fun _ h => h) (S.back hs (fun _ h => h)) (by rw [hs]; rfl) (by simp only [SB] at hb ⊢; omega)
    · rw [if_neg g1]
      by_cases g2 : R.turn (t % 8) < 2 * (t / 8)
      · rw [hturn] at g2; omega
      · rw [if_neg g2]
        exact keep R wr vo (.p2 t) rfl (fun _ h => h) (S.p1 hs (by omega)) (by rw [hs]; rfl) (by simp only [SB] at hb ⊢; omega)
  | p2 t =>
    have ht : t ≤ R.tail := hI.1
    simp only [putStep]
    by_cases g : R.tail = t
    · subst g
      rw [if_pos rfl]
      have hwt : ∀ u, wr u = true → u < R.tail := S.ring.wrlt
      refine ⟨wr, upd vo R.tail v, S.p2 hs, fun q hq s1 v1 h => ?_, fun q hq h => ?_, fun q q' hq hq' h h' e => ?_, ?_⟩
      · by_cases e : q = p
        · subst e; rw [upd_same] at h; simp at h; obtain ⟨rfl, rfl⟩ := h; rw [upd_same]; simp only [SB] at hb ⊢; omega
        · rw [upd_other _ _ _ _ e] at h; rw [st_ne q e]
          have := hSB q hq s1 v1 h
          cases s1 <;> simp only [SB] at this ⊢ <;> omega
      · by_cases e : q = p
        · subst e; rw [upd_same] at h; simp at h
        · rw [upd_other _ _ _ _ e] at h; rw [st_ne q e]
          obtain ⟨a, b, c⟩ := hD q hq h
          exact ⟨Nat.lt_succ_of_lt a, b, c⟩
      · by_cases e1 : q = p
        · subst e1; rw [upd_same] at h; simp at h
        · by_cases e2 : q' = p
          · subst e2; rw [upd_same] at h'; simp at h'
          · rw [upd_other _ _ _ _ e1] at h; rw [upd_other _ _ _ _ e2] at h'; exact hDD q q' hq hq' h h' e
      · show drawnN n _ = R.tail + 1
        rw [drawnN_more (by rw [hs]; rfl) rfl n hp, hcnt]
    · rw [if_neg g]
      exact keep R wr vo .p0 rfl (fun _ h => h) (S.back hs (fun _ h => h)) (by rw [hs]; rfl) (by simp only [SB] at hb ⊢; omega)
  | p3 t => exact keep _ wr vo (.p4 t) rfl (fun _ h => h) (S.p3 hs) (by rw [hs]; rfl) (by simp only [SB] at hb ⊢; omega)
  | p4 t =>
    obtain ⟨_, ht2, ht3, _, _⟩ : 0 ≤ t ∧ t < R.tail ∧ wr t = false ∧ vo t = v ∧ R.val (t % 8) = v := hI
    refine ⟨upd wr t true, vo, S.p4 hs, fun q hq s1 v1 h => ?_, fun q hq h => ?_, fun q q' hq hq' h h' e => ?_, ?_⟩
    · by_cases e : q = p
      · subst e; rw [upd_same] at h; simp at h
      · rw [upd_other _ _ _ _ e] at h; rw [st_ne q e]; exact hSB q hq s1 v1 h
    · by_cases e : q = p
      · subst e; rw [upd_same, upd_same, upd_same]; exact ⟨ht2, rfl, by simp only [SB] at hb; omega⟩
      · rw [upd_other _ _ _ _ e] at h; rw [upd_other _ _ _ _ e, st_ne q e]
        obtain ⟨a, b, c⟩ := hD q hq h
        refine ⟨a, ?_, c⟩
        by_cases g : D q = t
        · rw [g, upd_same]
        · rw [upd_other _ _ _ _ g]; exact b
    · by_cases e1 : q = p
      · by_cases e2 : q' = p
        · rw [e1, e2]
        · exfalso
          subst e1; rw [upd_same, upd_other _ _ _ _ e2] at e; rw [upd_other _ _ _ _ e2] at h'
          have := (hD q' hq' h').2.1
          rw [← e, ht3] at this; simp at this
      · by_cases e2 : q' = p
        · exfalso
          subst e2; rw [upd_same, upd_other _ _ _ _ e1] at e; rw [upd_other _ _ _ _ e1] at h
          have := (hD q hq h).2.1
          rw [e, ht3] at this; simp at this
        · rw [upd_other _ _ _ _ e1] at h; rw [upd_other _ _ _ _ e2] at h'; rw [upd_other _ _ _ _ e1, upd_other _ _ _ _ e2] at e; exact hDD q q' hq hq' h h' e
    · rw [drawnN_same (by rw [hs]; rfl)]; exact hcnt

/-- No Put has made more than 3n + 2 steps. -/
theorem FInv.steps (F : FInv n R P D st) (p : Nat) (hp : p < n) : st p ≤ 3 * n + 2 := by
  obtain ⟨wr, vo, S, hSB, hD, _, hcnt⟩ := F
  have hle : R.tail ≤ n := by rw [← hcnt]; exact drawnN_le n P
  cases h : P p with
  | none =>
    obtain ⟨a, _, c⟩ := hD p hp h
    omega
  | some x =>
    obtain ⟨s, v⟩ := x
    have hb := hSB p hp s v h
    have hI := (S.put p s v h).1
    cases s with
    | p0 => simp only [SB] at hb; omega
    | p1 t =>
      have hlt : R.tail < n := by rw [← hcnt]; exact drawnN_lt (by rw [h]; rfl) n hp
      have : t ≤ R.tail := hI
      simp only [SB] at hb; omega
    | p2 t =>
      have hlt : R.tail < n := by rw [← hcnt]; exact drawnN_lt (by rw [h]; rfl) n hp
      have : t ≤ R.tail := hI.1
      simp only [SB] at hb; omega
    | p3 t => have := hI.2.1; simp only [SB] at hb; omega
    | p4 t => have := hI.2.1; simp only [SB] at hb; omega
theorem FInv.ticket (F : FInv n R P D st) (p : Nat) (hp : p < n) (h : P p = none) : D p < n := by
  obtain ⟨wr, vo, S, _, hD, _, hcnt⟩ := F
  have hle : R.tail ≤ n := by rw [← hcnt]; exact drawnN_le n P
  have := (hD p hp h).1
  omega
theorem FInv.unlike (F : FInv n R P D st) (p q : Nat) (hp : p < n) (hq : q < n) (h : P p = none) (h' : P q = none) (e : D p = D q) : p = q := by
  obtain ⟨_, _, _, _, _, hDD, _⟩ := F
  exact hDD p q hp hq h h' e
end
end Go.Proofs.Ytpnpbgcndlfobaa
