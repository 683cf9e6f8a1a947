/- Operations of a gate that are begun at once: how many steps each makes. (Plain words.) -/
import Derived.Test.YtokopocldicnmaaGtS
namespace Go.Proofs.Ytokopocldicnmaa.Gt

def cntN : Nat → (Nat → Bool) → Nat
  | 0, _ => 0
  | n + 1, f => cntN n f + if f n = true then 1 else 0
theorem cntN_le (f : Nat → Bool) : ∀ n, cntN n f ≤ n
  | 0 => Nat.le_refl _
  | n + 1 => by have := cntN_le f n; unfold cntN; split <;> omega
theorem cntN_lt {f : Nat → Bool} {p : Nat} (h : f p = false) : ∀ n, p < n → cntN n f < n
  | 0, hp => by omega
  | n + 1, hp => by
    unfold cntN
    by_cases e : p = n
    · subst e; have := cntN_le f p; rw [h]; simp; omega
    · have := cntN_lt h n (by omega); split <;> omega
theorem cntN_congr {f g : Nat → Bool} : ∀ n, (∀ p, p < n → f p = g p) → cntN n f = cntN n g
  | 0, _ => rfl
  | n + 1, h => by unfold cntN; rw [cntN_congr n (fun p hp => h p (by omega)), h n (Nat.lt_succ_self n)]
theorem cntN_more {f g : Nat → Bool} {p : Nat} (hf : f p = false) (hg : g p = true) (hne : ∀ q, q ≠ p → g q = f q) : ∀ n, p < n → cntN n g = cntN n f + 1
  | 0, hp => by omega
  | n + 1, hp => by
    unfold cntN
    by_cases e : p = n
    · subst e
      rw [cntN_congr (f := g) (g := f) p (fun q hq => hne q (by omega)), hf, hg]; simp
    · rw [cntN_more hf hg hne n (by omega), hne n (fun h => e h.symm)]; omega

def drawnS : GS → Bool
  | .q3 _ => true
  | .q4 _ _ => true
  | _ => false
/-- How many steps it has made at most, where it stands; b: the counter when all began. -/
def SB (b cn st : Nat) : GS → Prop
  | .q0 => b ≤ cn ∧ st + 3 * b ≤ 3 * cn
  | .q1 t => b ≤ t ∧ st + 3 * b ≤ 3 * t + 1
  | .q2 t => b ≤ t ∧ st + 3 * b ≤ 3 * t + 2
  | .q3 t => b ≤ t ∧ st + 3 * b ≤ 3 * t + 3
  | .q4 t _ => b ≤ t ∧ st + 3 * b ≤ 3 * t + 4
def baseOf (T0 H0 : Nat) : Dir → Nat
  | .put _ => T0
  | .take => H0
def isT : Dir → Bool
  | .put _ => false
  | .take => true
def GF (n T0 H0 : Nat) (R : Rg) (P : Nat → Option (Dir × GS)) (st : Nat → Nat) (dk dr : Nat → Bool) (vo : Nat → Int) : Prop :=
  GI 8 R P vo ∧ (∀ p d s, P p = some (d, s) → p < n → dk p = isT d ∧ dr p = drawnS s ∧ SB (baseOf T0 H0 d) (cntOf R d) (st p) s) ∧
  (∀ p, p < n → P p = none → st p ≤ 3 * n + 2) ∧ R.tail = T0 + cntN n (fun p => dr p && !dk p) ∧ R.head = H0 + cntN n (fun p => dr p && dk p)
section
variable {n T0 H0 : Nat} {R : Rg} {P : Nat → Option (Dir × GS)} {st : Nat → Nat} {dk dr : Nat → Bool} {vo : Nat → Int} {p : Nat} {d : Dir} {s : GS}
theorem GF.cnt_le (F : GF n T0 H0 R P st dk dr vo) (d : Dir) : baseOf T0 H0 d ≤ cntOf R d ∧ cntOf R d ≤ baseOf T0 H0 d + n := by
  obtain ⟨_, _, _, h1, h2⟩ := F
  cases d with
  | put v => have := cntN_le (fun p => dr p && !dk p) n; show T0 ≤ R.tail ∧ R.tail ≤ T0 + n; omega
  | take => have := cntN_le (fun p => dr p && dk p) n; show H0 ≤ R.head ∧ R.head ≤ H0 + n; omega
/-- Who has no ticket is one of those who don't count. -/
theorem GF.cnt_lt (F : GF n T0 H0 R P st dk dr vo) (hp : p < n) (hs : P p = some (d, s)) (hd : drawnS s = false) : cntOf R d < baseOf T0 H0 d + n := by
  obtain ⟨_, hk, _, h1, h2⟩ := F
  obtain ⟨k1, k2, _⟩ := hk p d s hs hp
  cases d with
  | put v => have := cntN_lt (f := fun p => dr p && !dk p) (p := p) (by simp [k2, hd]) n hp; show R.tail < T0 + n; omega
  | take => have := cntN_lt (f := fun p => dr p && dk p) (p := p) (by simp [k2, hd]) n hp; show R.head < H0 + n; omega
theorem GF.steps (F : GF n T0 H0 R P st dk dr vo) (hp : p < n) : st p ≤ 3 * n + 2 := by
  rcases h : P p with _ | ⟨d, s⟩
  · exact F.2.2.1 p hp h
  · obtain ⟨_, _, hb⟩ := F.2.1 p d s h hp
    have hI := F.1.op p d s h
    have hc := F.cnt_le d
    cases s with
    | q0 => have hl := F.cnt_lt hp h rfl; simp only [SB] at hb; omega
    | q1 t => have hl := F.cnt_lt hp h rfl; have h1 : t ≤ cntOf R d := hI; simp only [SB] at hb; omega
    | q2 t => have hl := F.cnt_lt hp h rfl; have h1 : t ≤ cntOf R d := hI.1; simp only [SB] at hb; omega
    | q3 t => have h1 : t < cntOf R d := hI.1; simp only [SB] at hb; omega
    | q4 t x => have h1 : t < cntOf R d := hI.1; simp only [SB] at hb; omega
/-- A step of one that isn't over. -/
theorem GF.step (F : GF n T0 H0 R P st dk dr vo) (hp : p < n) (hs : P p = some (d, s)) :
    ∃ dr' vo', GF n T0 H0 (gstep 8 R d s).1 (upd P p (nxt d (gstep 8 R d s).2)) (upd st p (st p + 1)) dk dr' vo' := by
  have G := F.1.step hs
  have hI := F.1.op p d s hs
  have hc := F.cnt_le d
  obtain ⟨k1, k2, hb⟩ := F.2.1 p d s hs hp
  -- where the counters stay
  have stay : ∀ (R' : Rg) (o : Option (Dir × GS)), R'.tail = R.tail → R'.head = R.head → GI 8 R' (upd P p o) (voN R vo d s) →
      (∀ d' s', o = some (d', s') → isT d' = isT d ∧ drawnS s' = drawnS s ∧ SB (baseOf T0 H0 d') (cntOf R d') (st p + 1) s') → (o = none → st p + 1 ≤ 3 * n + 2) →
      GF n T0 H0 R' (upd P p o) (upd st p (st p + 1)) dk dr (voN R vo d s) := by
    intro R' o e1 e2 G' ho hn
    have ec : ∀ d, cntOf R' d = cntOf R d := fun d => match d with | .put _ => e1 | .take => e2
    refine ⟨G', fun q d1 s1 hq hqn => ?_, fun q hqn hq => ?_, by rw [e1]; exact F.2.2.2.1, by rw [e2]; exact F.2.2.2.2⟩
    · rw [ec]
      by_cases g : q = p
      · subst g; rw [upd_same] at hq; rw [upd_same]
        obtain ⟨a, b, c⟩ := ho _ _ hq
        exact ⟨by rw [k1, a], by rw [k2, b], c⟩
      · rw [upd_other _ _ _ _ g] at hq; rw [upd_other _ _ _ _ g]; exact F.2.1 q d1 s1 hq hqn
    · by_cases g : q = p
      · subst g; rw [upd_same] at hq; rw [upd_same]; exact hn hq
      · rw [upd_other _ _ _ _ g] at hq; rw [upd_other _ _ _ _ g]; exact F.2.2.1 q hqn hq
  have st3 := F.steps hp
  cases s with
  | q0 =>
    refine ⟨dr, _, stay R _ rfl rfl G (fun d' s' e => ?_) (fun e => by cases e)⟩
    cases e
    exact ⟨rfl, rfl, by simp only [SB] at hb ⊢; omega⟩
  | q1 t =>
    have ht : t ≤ cntOf R d := hI
    have hl := F.cnt_lt hp hs rfl
    simp only [gstep] at G ⊢
    by_cases h1 : 2 * (t / 8) + d.ld < R.turn (t % 8)
    · rw [if_pos h1] at G ⊢
      have hlt := F.1.passed ht h1
      refine ⟨dr, _, stay R _ rfl rfl G (fun d' s' e => ?_) (fun e => by cases e)⟩
      cases e
      exact ⟨rfl, rfl, by simp only [SB] at hb ⊢; omega⟩
    · rw [if_neg h1] at G ⊢
      by_cases h2 : R.turn (t % 8) < 2 * (t / 8) + d.ld
      · rw [if_pos h2] at G ⊢
        refine ⟨dr, _, stay R _ rfl rfl G (fun d' s' e => by cases e) (fun _ => ?_)⟩
        simp only [SB] at hb; omega
      · rw [if_neg h2] at G ⊢
        refine ⟨dr, _, stay R _ rfl rfl G (fun d' s' e => ?_) (fun e => by cases e)⟩
        cases e
        exact ⟨rfl, rfl, by simp only [SB] at hb ⊢; omega⟩
  | q2 t =>
    have ht : t ≤ cntOf R d := hI.1
    simp only [gstep] at G ⊢
    by_cases h1 : cntOf R d = t
    · rw [if_pos h1] at G ⊢
      subst h1
      have far : ∀ q d1 s1 (R' : Rg), q ≠ p → P q = some (d1, s1) → q < n → cntOf R d1 ≤ cntOf R' d1 → SB (baseOf T0 H0 d1) (cntOf R' d1) (st q) s1 := fun q d1 s1 R' g hq hqn hle => by
        have := (F.2.1 q d1 s1 hq hqn).2.2
        cases s1 <;> simp only [SB] at this ⊢ <;> omega
      have main : ∀ (R' : Rg), (∀ d1, cntOf R d1 ≤ cntOf R' d1) → GI 8 R' (upd P p (some (d, .q3 (cntOf R d)))) (voN R vo d (.q2 (cntOf R d))) →
          R'.tail = T0 + cntN n (fun q => upd dr p true q && !dk q) → R'.head = H0 + cntN n (fun q => upd dr p true q && dk q) →
          GF n T0 H0 R' (upd P p (some (d, .q3 (cntOf R d)))) (upd st p (st p + 1)) dk (upd dr p true) (voN R vo d (.q2 (cntOf R d))) := by
        intro R' hle G' e1 e2
        refine ⟨G', fun q d1 s1 hq hqn => ?_, fun q hqn hq => ?_, e1, e2⟩
        · by_cases g : q = p
          · subst g; rw [upd_same] at hq; cases hq
            rw [upd_same, upd_same]
            exact ⟨k1, rfl, by simp only [SB] at hb ⊢; omega⟩
          · rw [upd_other _ _ _ _ g] at hq; rw [upd_other _ _ _ _ g, upd_other _ _ _ _ g]
            exact ⟨(F.2.1 q d1 s1 hq hqn).1, (F.2.1 q d1 s1 hq hqn).2.1, far q d1 s1 R' g hq hqn (hle d1)⟩
        · by_cases g : q = p
          · subst g; rw [upd_same] at hq; cases hq
          · rw [upd_other _ _ _ _ g] at hq; rw [upd_other _ _ _ _ g]; exact F.2.2.1 q hqn hq
      cases d with
      | put v =>
        refine ⟨_, _, main _ (fun d1 => match d1 with | .put _ => Nat.le_succ _ | .take => Nat.le_refl _) G ?_ ?_⟩
        · show R.tail + 1 = _
          rw [cntN_more (f := fun q => dr q && !dk q) (p := p) (by simp [k2, drawnS]) (by simp [upd_same, k1, isT]) (fun q hq => by simp [upd_other _ _ _ _ hq]) n hp]
          have := F.2.2.2.1; omega
        · show R.head = _
          rw [cntN_congr (g := fun q => dr q && dk q) n (fun q _ => by
            by_cases g : q = p
            · subst g; simp [k1, isT]
            · simp [upd_other _ _ _ _ g])]
          exact F.2.2.2.2
      | take =>
        refine ⟨_, _, main _ (fun d1 => match d1 with | .put _ => Nat.le_refl _ | .take => Nat.le_succ _) G ?_ ?_⟩
        · show R.tail = _
          rw [cntN_congr (g := fun q => dr q && !dk q) n (fun q _ => by
            by_cases g : q = p
            · subst g; simp [k1, isT]
            · simp [upd_other _ _ _ _ g])]
          exact F.2.2.2.1
        · show R.head + 1 = _
          rw [cntN_more (f := fun q => dr q && dk q) (p := p) (by simp [k2, drawnS]) (by simp [upd_same, k1, isT]) (fun q hq => by simp [upd_other _ _ _ _ hq]) n hp]
          have := F.2.2.2.2; omega
    · rw [if_neg h1] at G ⊢
      refine ⟨dr, _, stay R _ rfl rfl G (fun d' s' e => ?_) (fun e => by cases e)⟩
      cases e
      exact ⟨rfl, rfl, by simp only [SB] at hb ⊢; omega⟩
  | q3 t =>
    cases d with
    | put v =>
      refine ⟨dr, _, stay _ _ rfl rfl G (fun d' s' e => ?_) (fun e => by cases e)⟩
      cases e
      exact ⟨rfl, rfl, by simp only [SB] at hb ⊢; omega⟩
    | take =>
      refine ⟨dr, _, stay _ _ rfl rfl G (fun d' s' e => ?_) (fun e => by cases e)⟩
      cases e
      exact ⟨rfl, rfl, by simp only [SB] at hb ⊢; omega⟩
  | q4 t x =>
    have ht : t < cntOf R d := hI.1
    refine ⟨dr, _, stay _ _ rfl rfl G (fun d' s' e => by cases e) (fun _ => ?_)⟩
    simp only [SB] at hb; omega
theorem GF.start (G : GI 8 R P vo) (hP : ∀ p, p < n → ∃ d, P p = some (d, .q0)) : ∃ dk, GF n R.tail R.head R P (fun _ => 0) dk (fun _ => false) vo := by
  have z : ∀ f : Nat → Bool, (∀ p, f p = false) → ∀ n, cntN n f = 0 := fun f hf n => by
    induction n with
    | zero => rfl
    | succ n ih => unfold cntN; rw [ih, hf n]; rfl
  refine ⟨fun p => match P p with | some (d, _) => isT d | none => false, G, fun p d s hq hp => ?_, fun p hp hq => ?_, ?_, ?_⟩
  · obtain ⟨d', e⟩ := hP p hp
    rw [e] at hq; cases hq
    exact ⟨by simp [e], rfl, by cases d <;> exact ⟨Nat.le_refl _, by simp [baseOf, cntOf]⟩⟩
  · obtain ⟨d', e⟩ := hP p hp
    rw [e] at hq; cases hq
  · rw [z _ (fun _ => by simp)]; rfl
  · rw [z _ (fun _ => by simp)]; rfl
end

theorem mod_next {n : Nat} (hn : 0 < n) (i : Nat) : (i + 1) % n = if i % n + 1 = n then 0 else i % n + 1 := by
  have h := Nat.div_add_mod i n
  have hr := Nat.mod_lt i hn
  by_cases e : i % n + 1 = n
  · rw [if_pos e]
    have : i + 1 = n * (i / n + 1) := by rw [Nat.mul_add]; omega
    rw [this, Nat.mul_mod_right]
  · rw [if_neg e]
    have : i + 1 = n * (i / n) + (i % n + 1) := by omega
    rw [this, Nat.mul_add_mod, Nat.mod_eq_of_lt (by omega)]
/-- How far it is to p's next turn. -/
def dist (n i p : Nat) : Nat := if i % n ≤ p then p - i % n else p + n - i % n
theorem dist_lt {n i p : Nat} (hp : p < n) : dist n i p < n := by
  have := Nat.mod_lt i (show 0 < n by omega)
  unfold dist; split <;> omega
theorem dist_own {n i : Nat} : dist n i (i % n) = 0 := by unfold dist; rw [if_pos (Nat.le_refl _)]; omega
theorem dist_next {n i p : Nat} (hp : p < n) (h : p ≠ i % n) : dist n (i + 1) p + 1 = dist n i p := by
  have hr := Nat.mod_lt i (show 0 < n by omega)
  unfold dist
  rw [mod_next (by omega)]
  generalize i % n = r at *
  by_cases e : r + 1 = n
  · rw [if_pos e, if_pos (by omega), if_neg (by omega)]; omega
  · rw [if_neg e]
    by_cases g : r ≤ p
    · rw [if_pos g, if_pos (by omega)]; omega
    · rw [if_neg g, if_neg (by omega)]; omega

/-- Whoever isn't over has made a step at each of its turns behind the picks. -/
def Turns (n len i : Nat) (P : Nat → Option (Dir × GS)) (st : Nat → Nat) : Prop := ∀ p, p < n → P p ≠ none → i - len + dist n i p ≤ n * st p + (n - 1)
theorem Turns.start (n len : Nat) (P : Nat → Option (Dir × GS)) (st : Nat → Nat) : Turns n len 0 P st := fun p hp _ => by
  have := dist_lt (i := 0) hp
  omega
theorem Turns.next {n len i p : Nat} {P P' : Nat → Option (Dir × GS)} {st st' : Nat → Nat} (h : Turns n len i P st) (hp : p < n) (hpick : i < len ∨ p = i % n)
    (ho : ∀ q, q ≠ p → P' q = P q ∧ st' q = st q) (hs : P' p = none ∨ (P p ≠ none ∧ st' p = st p + 1)) : Turns n len (i + 1) P' st' := by
  intro q hq hn
  have d1 := dist_lt (i := i) hq
  have d2 := dist_lt (i := i + 1) hq
  by_cases e : q = p
  · subst e
    rcases hs with hs | ⟨h1, h2⟩
    · exact absurd hs hn
    · have := h q hq h1
      rw [h2, Nat.mul_succ]
      rcases hpick with g | g
      · omega
      · have : dist n i q = 0 := by rw [g]; exact dist_own
        omega
  · obtain ⟨h1, h2⟩ := ho q e
    rw [h1] at hn
    have := h q hq hn
    rw [h2]
    rcases hpick with g | g
    · omega
    · have := dist_next (n := n) (i := i) hq (fun hh => e (hh.trans g.symm))
      omega
theorem Turns.over {n len T0 H0 : Nat} {R : Rg} {P : Nat → Option (Dir × GS)} {st : Nat → Nat} {dk dr : Nat → Bool} {vo : Nat → Int} (h : Turns n len (len + 40 * n) P st) (hn : n ≤ 8) (F : GF n T0 H0 R P st dk dr vo) (p : Nat) (hp : p < n) : P p = none := by
  rcases hP : P p with _ | x
  · rfl
  · have := h p hp (by rw [hP]; simp)
    have h2 := F.steps hp
    have h3 : n * st p ≤ n * 26 := Nat.mul_le_mul_left n (by omega)
    omega
end Go.Proofs.Ytokopocldicnmaa.Gt
