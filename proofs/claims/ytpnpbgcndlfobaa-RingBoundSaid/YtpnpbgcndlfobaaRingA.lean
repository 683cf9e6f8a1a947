/- A ring as a machine of steps, in plain words: what Put and Take do, step by step, and what stays true whatever is mixed. (Of no program.) -/
import Derived.Test.YtpnpbgcndlfobaaAccE
namespace Go.Proofs.Ytpnpbgcndlfobaa

/-- A ring's numbers: the tail, the head, each slot's turn and value. -/
structure Rg where
  tail : Nat
  head : Nat
  turn : Nat → Nat
  val : Nat → Int

/-- Where a Put stands that isn't over. -/
inductive PS where
  | p0 | p1 (t : Nat) | p2 (t : Nat) | p3 (t : Nat) | p4 (t : Nat)
/-- Where a Take stands that isn't over. -/
inductive TS where
  | t0 | t1 (h : Nat) | t2 (h : Nat) | t3 (h : Nat) (v : Int) | t4 (h : Nat) (v : Int)

/-- What a step brings: it goes on, or it is over. -/
inductive PR where
  | on (s : PS) | full | done (t : Nat)
inductive TR where
  | on (s : TS) | none | done (v : Int)

/-- A step of a Put of v (of a ring that nobody closes). -/
def putStep (c : Nat) (R : Rg) (v : Int) : PS → Rg × PR
  | .p0 => (R, .on (.p1 R.tail))
  | .p1 t => if 2 * (t / c) < R.turn (t % c) then (R, .on .p0) else if R.turn (t % c) < 2 * (t / c) then (R, .full) else (R, .on (.p2 t))
  | .p2 t => if R.tail = t then ({ R with tail := t + 1 }, .on (.p3 t)) else (R, .on .p0)
  | .p3 t => ({ R with val := upd R.val (t % c) v }, .on (.p4 t))
  | .p4 t => ({ R with turn := upd R.turn (t % c) (2 * (t / c) + 1) }, .done t)
/-- A step of a Take. -/
def takeStep (c : Nat) (R : Rg) : TS → Rg × TR
  | .t0 => (R, .on (.t1 R.head))
  | .t1 h => if R.turn (h % c) = 2 * (h / c) + 1 then (R, .on (.t2 h)) else (R, .none)
  | .t2 h => (R, .on (.t3 h (R.val (h % c))))
  | .t3 h v => ({ R with turn := upd R.turn (h % c) (2 * (h / c) + 2) }, .on (.t4 h v))
  | .t4 h v => ({ R with head := h + 1 }, .done v)

/-- The ring as it is between steps: f tickets are freed; of the others those are written that wr names; vo: each ticket's value. -/
structure RInv (c : Nat) (R : Rg) (f : Nat) (wr : Nat → Bool) (vo : Nat → Int) : Prop where
  pos : 0 < c
  le : f ≤ R.tail
  cap : R.tail ≤ f + c
  turn : ∀ t, f ≤ t → t < f + c → R.turn (t % c) = 2 * (t / c) + if wr t then 1 else 0
  wrlt : ∀ t, wr t = true → t < R.tail
  old : ∀ t, t < f → wr t = true
  val : ∀ t, f ≤ t → wr t = true → R.val (t % c) = vo t

/-- Two tickets of one window lie in one slot only if they are one. -/
theorem slot_inj {c f t u : Nat} (h1 : f ≤ t) (h2 : t < f + c) (h3 : f ≤ u) (h4 : u < f + c) (e : t % c = u % c) : t = u := by
  have key : ∀ a b : Nat, a < b → b < a + c → a % c ≠ b % c := by
    intro a b hab hb e
    have h5 := Nat.div_add_mod a c
    have h6 := Nat.div_add_mod b c
    have h7 : a / c < b / c ∨ b / c ≤ a / c := Nat.lt_or_ge _ _
    rcases h7 with h7 | h7
    · have : c * (a / c + 1) ≤ c * (b / c) := Nat.mul_le_mul_left c h7
      rw [Nat.mul_add] at this
      omega
    · have : c * (b / c) ≤ c * (a / c) := Nat.mul_le_mul_left c h7
      omega
  rcases Nat.lt_trichotomy t u with g | g | g
  · exact absurd e (key t u g (by omega))
  · exact g
  · exact absurd e.symm (key u t g (by omega))

theorem next_round {c t : Nat} (hc : 0 < c) : (t + c) / c = t / c + 1 ∧ (t + c) % c = t % c := ⟨Nat.add_div_right t hc, Nat.add_mod_right t c⟩

/-- The turn of a ticket's slot, as one reads it who has loaded the tail. -/
theorem RInv.fits {c : Nat} {R : Rg} {f : Nat} {wr : Nat → Bool} {vo : Nat → Int} (I : RInv c R f wr vo) (t : Nat) (ht : t ≤ R.tail) (e : R.turn (t % c) = 2 * (t / c)) : f ≤ t ∧ t < f + c := by
  have hc := I.pos
  rcases Nat.lt_or_ge t f with g | g
  · exfalso
    have hm := Nat.div_add_mod (f - t + (c - 1)) c
    have hr := Nat.mod_lt (f - t + (c - 1)) hc
    generalize (f - t + (c - 1)) / c = m at hm
    have h1 : f ≤ t + c * m := by omega
    have h2 : t + c * m < f + c := by omega
    have e1 : (t + c * m) % c = t % c := Nat.add_mul_mod_self_left t c m
    have e2 : (t + c * m) / c = t / c + m := Nat.add_mul_div_left t m hc
    have hm1 : 1 ≤ m := by
      rcases Nat.eq_zero_or_pos m with h | h
      · subst h; omega
      · exact h
    have := I.turn (t + c * m) h1 h2
    rw [e1, e2, e] at this
    split at this <;> omega
  · refine ⟨g, ?_⟩
    rcases Nat.lt_or_ge t (f + c) with h | h
    · exact h
    · exfalso
      have ht2 : t = f + c := by have := I.cap; omega
      subst ht2
      obtain ⟨e1, e2⟩ := next_round (t := f) hc
      have := I.turn f (Nat.le_refl _) (by omega)
      rw [e1, e2, this] at e
      split at e <;> omega

/-- What is known of a Put of v that isn't over. -/
def PInv (R : Rg) (f c : Nat) (wr : Nat → Bool) (vo : Nat → Int) (v : Int) : PS → Prop
  | .p0 => True
  | .p1 t => t ≤ R.tail
  | .p2 t => t ≤ R.tail ∧ t < f + c
  | .p3 t => f ≤ t ∧ t < R.tail ∧ wr t = false ∧ vo t = v
  | .p4 t => f ≤ t ∧ t < R.tail ∧ wr t = false ∧ vo t = v ∧ R.val (t % c) = v
/-- Which ticket it holds. -/
def holds : PS → Nat → Prop
  | .p3 t, u => u = t
  | .p4 t, u => u = t
  | _, _ => False
/-- What is known of a Take that isn't over; f: how many tickets are freed. -/
def TInv (R : Rg) (f : Nat) (wr : Nat → Bool) (vo : Nat → Int) : TS → Prop
  | .t0 => f = R.head
  | .t1 h => f = R.head ∧ h = R.head
  | .t2 h => f = R.head ∧ h = R.head ∧ wr h = true
  | .t3 h v => f = R.head ∧ h = R.head ∧ wr h = true ∧ v = vo h
  | .t4 h v => f = R.head + 1 ∧ h = R.head ∧ v = vo h

/-- The whole: a ring, those who put, him who takes. pid: who has put a value. -/
structure Sys (c : Nat) (R : Rg) (P : Nat → Option (PS × Int)) (T : Option TS) (f : Nat) (wr : Nat → Bool) (vo : Nat → Int) (pid : Int → Nat) (Q : Int → Prop) : Prop where
  ring : RInv c R f wr vo
  put : ∀ p s v, P p = some (s, v) → PInv R f c wr vo v s ∧ pid v = p ∧ Q v
  sole : ∀ p q s s' v v' t, P p = some (s, v) → P q = some (s', v') → holds s t → holds s' t → p = q
  pend : ∀ t, f ≤ t → t < R.tail → wr t = false → ∃ p s v, P p = some (s, v) ∧ holds s t
  good : ∀ t, t < R.tail → Q (vo t)
  last : ∀ p s v t, P p = some (s, v) → holds s t → ∀ u, t < u → u < R.tail → pid (vo u) ≠ p
  take : match T with
    | none => f = R.head
    | some s => TInv R f wr vo s

/-- What p has put that is in, in order. -/
def insOf (R : Rg) (wr : Nat → Bool) (vo : Nat → Int) (pid : Int → Nat) (p : Nat) : List Int := (((List.range R.tail).filter wr).map vo).filter fun x => decide (pid x = p)
/-- How many were ever in. -/
def wcount (R : Rg) (wr : Nat → Bool) : Nat := ((List.range R.tail).filter wr).length
/-- What was taken, in order. -/
def takenOf (R : Rg) (vo : Nat → Int) : List Int := (List.range R.head).map vo

section
variable {c : Nat} {R : Rg} {P : Nat → Option (PS × Int)} {T : Option TS} {f : Nat} {wr : Nat → Bool} {vo : Nat → Int} {pid : Int → Nat} {Q : Int → Prop} {p : Nat} {v : Int}

/-- A Put that is begun. -/
theorem Sys.begin (S : Sys c R P T f wr vo pid Q) (hp : P p = none) (hv : pid v = p) (hq : Q v) : Sys c R (upd P p (some (.p0, v))) T f wr vo pid Q := by
  refine ⟨S.ring, fun q s v' h => ?_, fun q q' s s' v v' t h h' a b => ?_, fun t h1 h2 h3 => ?_, S.good, fun q s v t h a => ?_, S.take⟩
  · by_cases e : q = p
    · subst e; rw [upd_same] at h; simp at h; obtain ⟨rfl, rfl⟩ := h; exact ⟨trivial, hv, hq⟩
    · rw [upd_other _ _ _ _ e] at h; exact S.put q s v' h
  · by_cases e : q = p
    · subst e; rw [upd_same] at h; simp at h; obtain ⟨rfl, rfl⟩ := h; exact a.elim
    · by_cases e' : q' = p
      · subst e'; rw [upd_same] at h'; simp at h'; obtain ⟨rfl, rfl⟩ := h'; exact b.elim
      · rw [upd_other _ _ _ _ e] at h; rw [upd_other _ _ _ _ e'] at h'; exact S.sole q q' s s' v v' t h h' a b
  · obtain ⟨q, s, v', h, a⟩ := S.pend t h1 h2 h3
    have e : q ≠ p := fun e => by rw [e, hp] at h; simp at h
    exact ⟨q, s, v', by rw [upd_other _ _ _ _ e]; exact h, a⟩
  · by_cases e : q = p
    · subst e; rw [upd_same] at h; simp at h; obtain ⟨rfl, rfl⟩ := h; exact a.elim
    · rw [upd_other _ _ _ _ e] at h; exact S.last q s v t h a

/-- Where p holds nothing, it may go on to whatever holds nothing, or be over. -/
theorem Sys.move (S : Sys c R P T f wr vo pid Q) {s : PS} (hp : P p = some (s, v)) (hn : ∀ t, ¬ holds s t) (o : Option (PS × Int)) (ho : ∀ s' v', o = some (s', v') → (∀ t, ¬ holds s' t) ∧ PInv R f c wr vo v' s' ∧ v' = v) : Sys c R (upd P p o) T f wr vo pid Q := by
  refine ⟨S.ring, fun q s1 v1 h => ?_, fun q q' s1 s2 v1 v2 t h h' a b => ?_, fun t h1 h2 h3 => ?_, S.good, fun q s1 v1 t h a => ?_, S.take⟩
  · by_cases e : q = p
    · subst e; rw [upd_same] at h; obtain ⟨_, h2, h3⟩ := ho _ _ h; exact ⟨h2, by rw [h3]; exact (S.put q s v hp).2⟩
    · rw [upd_other _ _ _ _ e] at h; exact S.put q s1 v1 h
  · by_cases e : q = p
    · subst e; rw [upd_same] at h; exact absurd a ((ho _ _ h).1 t)
    · by_cases e' : q' = p
      · subst e'; rw [upd_same] at h'; exact absurd b ((ho _ _ h').1 t)
      · rw [upd_other _ _ _ _ e] at h; rw [upd_other _ _ _ _ e'] at h'; exact S.sole q q' s1 s2 v1 v2 t h h' a b
  · obtain ⟨q, s1, v1, h, a⟩ := S.pend t h1 h2 h3
    have e : q ≠ p := fun e => by
      rw [e, hp] at h; simp at h; obtain ⟨rfl, rfl⟩ := h; exact hn t a
    exact ⟨q, s1, v1, by rw [upd_other _ _ _ _ e]; exact h, a⟩
  · by_cases e : q = p
    · subst e; rw [upd_same] at h; exact absurd a ((ho _ _ h).1 t)
    · rw [upd_other _ _ _ _ e] at h; exact S.last q s1 v1 t h a

theorem Sys.p0 (S : Sys c R P T f wr vo pid Q) (hp : P p = some (.p0, v)) : Sys c R (upd P p (some (.p1 R.tail, v))) T f wr vo pid Q :=
  S.move hp (fun _ h => h) _ (fun s' v' e => by simp at e; obtain ⟨rfl, rfl⟩ := e; exact ⟨fun _ h => h, Nat.le_refl _, rfl⟩)
theorem Sys.back (S : Sys c R P T f wr vo pid Q) {s : PS} (hp : P p = some (s, v)) (hn : ∀ t, ¬ holds s t) : Sys c R (upd P p (some (.p0, v))) T f wr vo pid Q :=
  S.move hp hn _ (fun s' v' e => by simp at e; obtain ⟨rfl, rfl⟩ := e; exact ⟨fun _ h => h, trivial, rfl⟩)
theorem Sys.over (S : Sys c R P T f wr vo pid Q) {s : PS} (hp : P p = some (s, v)) (hn : ∀ t, ¬ holds s t) : Sys c R (upd P p none) T f wr vo pid Q :=
  S.move hp hn _ (fun s' v' e => by simp at e)
theorem Sys.p1 (S : Sys c R P T f wr vo pid Q) {t : Nat} (hp : P p = some (.p1 t, v)) (e : R.turn (t % c) = 2 * (t / c)) : Sys c R (upd P p (some (.p2 t, v))) T f wr vo pid Q := by
  have ht : t ≤ R.tail := (S.put p _ v hp).1
  have := S.ring.fits t ht e
  exact S.move hp (fun _ h => h) _ (fun s' v' e => by simp at e; obtain ⟨rfl, rfl⟩ := e; exact ⟨fun _ h => h, ⟨ht, this.2⟩, rfl⟩)

/-- The swap is done: the ticket is drawn. -/
theorem Sys.p2 (S : Sys c R P T f wr vo pid Q) (hp : P p = some (.p2 R.tail, v)) : Sys c { R with tail := R.tail + 1 } (upd P p (some (.p3 R.tail, v))) T f wr (upd vo R.tail v) pid Q := by
  have hI : R.tail ≤ R.tail ∧ R.tail < f + c := (S.put p _ v hp).1
  have hle := S.ring.le
  have hwt : wr R.tail = false := by
    cases h : wr R.tail with
    | false => rfl
    | true => have := S.ring.wrlt _ h; omega
  have hvo : ∀ t, t < R.tail → upd vo R.tail v t = vo t := fun t ht => upd_other _ _ _ _ (by omega)
  refine ⟨⟨S.ring.pos, by show f ≤ R.tail + 1; omega, by show R.tail + 1 ≤ f + c; omega, S.ring.turn, fun t h => by have := S.ring.wrlt t h; show t < R.tail + 1; omega, S.ring.old, fun t h1 h2 => by
      rw [hvo t (S.ring.wrlt t h2)]; exact S.ring.val t h1 h2⟩,
    fun q s1 v1 h => ?_, fun q q' s1 s2 v1 v2 t h h' a b => ?_, fun t h1 h2 h3 => ?_, fun t ht => ?_, fun q s1 v1 t h a u hu1 hu2 => ?_, ?_⟩
  · by_cases e : q = p
    · subst e; rw [upd_same] at h; simp at h; obtain ⟨rfl, rfl⟩ := h
      exact ⟨⟨hle, Nat.lt_succ_self _, hwt, upd_same _ _ _⟩, (S.put q _ v hp).2⟩
    · rw [upd_other _ _ _ _ e] at h
      obtain ⟨h1, h2⟩ := S.put q s1 v1 h
      refine ⟨?_, h2⟩
      cases s1 with
      | p0 => trivial
      | p1 t => exact Nat.le_succ_of_le h1
      | p2 t => exact ⟨Nat.le_succ_of_le h1.1, h1.2⟩
      | p3 t => exact ⟨h1.1, Nat.lt_succ_of_lt h1.2.1, h1.2.2.1, by rw [hvo t h1.2.1]; exact h1.2.2.2⟩
      | p4 t => exact ⟨h1.1, Nat.lt_succ_of_lt h1.2.1, h1.2.2.1, by rw [hvo t h1.2.1]; exact h1.2.2.2.1, h1.2.2.2.2⟩
  · have tl : ∀ q s v t, P q = some (s, v) → holds s t → t < R.tail := fun q s v t h a => by
      have := (S.put q s v h).1
      cases s with
      | p0 => exact a.elim
      | p1 t' => exact a.elim
      | p2 t' => exact a.elim
      | p3 t' => rw [show t = t' from a]; exact this.2.1
      | p4 t' => rw [show t = t' from a]; exact this.2.1
    by_cases e : q = p
    · by_cases e' : q' = p
      · rw [e, e']
      · subst e; rw [upd_same] at h; simp at h; obtain ⟨rfl, rfl⟩ := h
        rw [upd_other _ _ _ _ e'] at h'
        have := tl _ _ _ _ h' b
        have a' : t = R.tail := a
        omega
    · rw [upd_other _ _ _ _ e] at h
      by_cases e' : q' = p
      · subst e'; rw [upd_same] at h'; simp at h'; obtain ⟨rfl, rfl⟩ := h'
        have := tl _ _ _ _ h a
        have b' : t = R.tail := b
        omega
      · rw [upd_other _ _ _ _ e'] at h'; exact S.sole q q' s1 s2 v1 v2 t h h' a b
  · by_cases e : t = R.tail
    · exact ⟨p, _, v, upd_same _ _ _, e⟩
    · have h2' : t < R.tail := by have : t < R.tail + 1 := h2; omega
      obtain ⟨q, s1, v1, h, a⟩ := S.pend t h1 h2' h3
      have e : q ≠ p := fun e => by
        rw [e, hp] at h; simp at h; obtain ⟨rfl, rfl⟩ := h; exact a
      exact ⟨q, s1, v1, by rw [upd_other _ _ _ _ e]; exact h, a⟩
  · have ht' : t < R.tail + 1 := ht
    by_cases e : t = R.tail
    · rw [e, upd_same]; exact (S.put p _ v hp).2.2
    · rw [hvo t (by omega)]; exact S.good t (by omega)
  · have hu2' : u < R.tail + 1 := hu2
    by_cases e : q = p
    · subst e; rw [upd_same] at h; simp at h; obtain ⟨rfl, rfl⟩ := h
      have a' : t = R.tail := a
      omega
    · rw [upd_other _ _ _ _ e] at h
      by_cases g : u = R.tail
      · rw [g, upd_same, (S.put p _ v hp).2.1]; exact fun h => e h.symm
      · rw [hvo u (by omega)]; exact S.last q s1 v1 t h a u hu1 (by omega)
  · have := S.take
    cases T with
    | none => exact this
    | some s =>
      cases s with
      | t0 => exact this
      | t1 h => exact this
      | t2 h => exact this
      | t3 h x =>
        obtain ⟨a1, a2, a3, a4⟩ := this
        exact ⟨a1, a2, a3, by rw [hvo h (S.ring.wrlt h a3)]; exact a4⟩
      | t4 h x =>
        obtain ⟨a1, a2, a3⟩ := this
        exact ⟨a1, a2, by rw [hvo h (by omega)]; exact a3⟩

/-- The value is stored. -/
theorem Sys.p3 (S : Sys c R P T f wr vo pid Q) {t : Nat} (hp : P p = some (.p3 t, v)) : Sys c { R with val := upd R.val (t % c) v } (upd P p (some (.p4 t, v))) T f wr vo pid Q := by
  obtain ⟨ht1, ht2, ht3, ht4⟩ : f ≤ t ∧ t < R.tail ∧ wr t = false ∧ vo t = v := (S.put p _ v hp).1
  have hcap := S.ring.cap
  have hval : ∀ u, f ≤ u → u < R.tail → u ≠ t → upd R.val (t % c) v (u % c) = R.val (u % c) := fun u h1 h2 h3 =>
    upd_other _ _ _ _ (fun e => h3 (slot_inj h1 (by omega) ht1 (by omega) e))
  refine ⟨⟨S.ring.pos, S.ring.le, S.ring.cap, S.ring.turn, S.ring.wrlt, S.ring.old, fun u h1 h2 => ?_⟩,
    fun q s1 v1 h => ?_, fun q q' s1 s2 v1 v2 u h h' a b => ?_, fun u h1 h2 h3 => ?_, S.good, fun q s1 v1 u h a => ?_, ?_⟩
  · have hne : u ≠ t := fun e => by rw [e, ht3] at h2; simp at h2
    show upd R.val (t % c) v (u % c) = vo u
    rw [hval u h1 (S.ring.wrlt u h2) hne]; exact S.ring.val u h1 h2
  · by_cases e : q = p
    · subst e; rw [upd_same] at h; simp at h; obtain ⟨rfl, rfl⟩ := h
      exact ⟨⟨ht1, ht2, ht3, ht4, upd_same _ _ _⟩, (S.put q _ v hp).2⟩
    · rw [upd_other _ _ _ _ e] at h
      obtain ⟨h1, h2⟩ := S.put q s1 v1 h
      refine ⟨?_, h2⟩
      cases s1 with
      | p0 => trivial
      | p1 t => exact h1
      | p2 t => exact h1
      | p3 t => exact h1
      | p4 u =>
        have hne : u ≠ t := fun e2 => e (S.sole q p _ _ _ _ t h hp e2.symm rfl)
        exact ⟨h1.1, h1.2.1, h1.2.2.1, h1.2.2.2.1, by
          show upd R.val (t % c) v (u % c) = v1
          rw [hval u h1.1 h1.2.1 hne]; exact h1.2.2.2.2⟩
  · by_cases e : q = p
    · by_cases e' : q' = p
      · rw [e, e']
      · subst e; rw [upd_same] at h; simp at h; obtain ⟨rfl, rfl⟩ := h
        rw [upd_other _ _ _ _ e'] at h'
        exact S.sole q q' _ _ _ _ u hp h' a b
    · rw [upd_other _ _ _ _ e] at h
      by_cases e' : q' = p
      · subst e'; rw [upd_same] at h'; simp at h'; obtain ⟨rfl, rfl⟩ := h'
        exact S.sole q q' _ _ _ _ u h hp a b
      · rw [upd_other _ _ _ _ e'] at h'; exact S.sole q q' s1 s2 v1 v2 u h h' a b
  · obtain ⟨q, s1, v1, h, a⟩ := S.pend u h1 h2 h3
    by_cases e : q = p
    · subst e; rw [hp] at h; simp at h; obtain ⟨rfl, rfl⟩ := h
      exact ⟨q, .p4 t, v, upd_same _ _ _, a⟩
    · exact ⟨q, s1, v1, by rw [upd_other _ _ _ _ e]; exact h, a⟩
  · by_cases e : q = p
    · subst e; rw [upd_same] at h; simp at h; obtain ⟨rfl, rfl⟩ := h
      exact S.last q _ v u hp a
    · rw [upd_other _ _ _ _ e] at h; exact S.last q s1 v1 u h a
  · have := S.take
    cases T with
    | none => exact this
    | some s => cases s <;> exact this

/-- The turn is stored: v is in. -/
theorem Sys.p4 (S : Sys c R P T f wr vo pid Q) {t : Nat} (hp : P p = some (.p4 t, v)) : Sys c { R with turn := upd R.turn (t % c) (2 * (t / c) + 1) } (upd P p none) T f (upd wr t true) vo pid Q := by
  obtain ⟨ht1, ht2, ht3, ht4, ht5⟩ : f ≤ t ∧ t < R.tail ∧ wr t = false ∧ vo t = v ∧ R.val (t % c) = v := (S.put p _ v hp).1
  have hcap := S.ring.cap
  have hw : ∀ u, u ≠ t → upd wr t true u = wr u := fun u h => upd_other _ _ _ _ h
  have hold : ∀ u, wr u = true → upd wr t true u = true := fun u h => by
    by_cases e : u = t
    · rw [e, upd_same]
    · rw [hw u e]; exact h
  refine ⟨⟨S.ring.pos, S.ring.le, S.ring.cap, fun u h1 h2 => ?_, fun u h => ?_, fun u h => hold u (S.ring.old u h), fun u h1 h2 => ?_⟩,
    fun q s1 v1 h => ?_, fun q q' s1 s2 v1 v2 u h h' a b => ?_, fun u h1 h2 h3 => ?_, S.good, fun q s1 v1 u h a => ?_, ?_⟩
  · show upd R.turn (t % c) (2 * (t / c) + 1) (u % c) = _
    by_cases e : u = t
    · rw [e, upd_same, upd_same]; rfl
    · rw [hw u e, upd_other _ _ _ _ (fun g => e (slot_inj h1 h2 ht1 (by omega) g))]; exact S.ring.turn u h1 h2
  · by_cases e : u = t
    · rw [e]; exact ht2
    · rw [hw u e] at h; exact S.ring.wrlt u h
  · by_cases e : u = t
    · rw [e, ht4]; exact ht5
    · rw [hw u e] at h2; exact S.ring.val u h1 h2
  · by_cases e : q = p
    · subst e; rw [upd_same] at h; simp at h
    · rw [upd_other _ _ _ _ e] at h
      obtain ⟨h1, h2⟩ := S.put q s1 v1 h
      refine ⟨?_, h2⟩
      cases s1 with
      | p0 => trivial
      | p1 u => exact h1
      | p2 u => exact h1
      | p3 u =>
        have hne : u ≠ t := fun e2 => e (S.sole q p _ _ _ _ t h hp e2.symm rfl)
        exact ⟨h1.1, h1.2.1, by rw [hw u hne]; exact h1.2.2.1, h1.2.2.2⟩
      | p4 u =>
        have hne : u ≠ t := fun e2 => e (S.sole q p _ _ _ _ t h hp e2.symm rfl)
        exact ⟨h1.1, h1.2.1, by rw [hw u hne]; exact h1.2.2.1, h1.2.2.2⟩
  · by_cases e : q = p
    · subst e; rw [upd_same] at h; simp at h
    · by_cases e' : q' = p
      · subst e'; rw [upd_same] at h'; simp at h'
      · rw [upd_other _ _ _ _ e] at h; rw [upd_other _ _ _ _ e'] at h'; exact S.sole q q' s1 s2 v1 v2 u h h' a b
  · have hne : u ≠ t := fun e => by rw [e, upd_same] at h3; simp at h3
    rw [hw u hne] at h3
    obtain ⟨q, s1, v1, h, a⟩ := S.pend u h1 h2 h3
    have e : q ≠ p := fun e => by
      rw [e, hp] at h; simp at h; obtain ⟨rfl, rfl⟩ := h; exact hne a
    exact ⟨q, s1, v1, by rw [upd_other _ _ _ _ e]; exact h, a⟩
  · by_cases e : q = p
    · subst e; rw [upd_same] at h; simp at h
    · rw [upd_other _ _ _ _ e] at h; exact S.last q s1 v1 u h a
  · have := S.take
    cases T with
    | none => exact this
    | some s =>
      cases s with
      | t0 => exact this
      | t1 h => exact this
      | t2 h => exact ⟨this.1, this.2.1, hold h this.2.2⟩
      | t3 h x => exact ⟨this.1, this.2.1, hold h this.2.2.1, this.2.2.2⟩
      | t4 h x => exact this

/-- A Take that is begun, that goes on, that finds nothing. -/
theorem Sys.takes (S : Sys c R P T f wr vo pid Q) (T' : Option TS) (h : match T' with | none => f = R.head | some s => TInv R f wr vo s) : Sys c R P T' f wr vo pid Q :=
  ⟨S.ring, S.put, S.sole, S.pend, S.good, S.last, h⟩
theorem Sys.t1 (S : Sys c R P (some (.t1 R.head)) f wr vo pid Q) : (R.turn (R.head % c) = 2 * (R.head / c) + 1 ↔ wr R.head = true) := by
  have hf : f = R.head := S.take.1
  have hc := S.ring.pos
  have := S.ring.turn R.head (by omega) (by omega)
  rw [this]
  cases wr R.head <;> simp
theorem Sys.t2 (S : Sys c R P (some (.t2 R.head)) f wr vo pid Q) : R.val (R.head % c) = vo R.head := by
  have hf : f = R.head := S.take.1
  exact S.ring.val R.head (by omega) S.take.2.2
/-- The slot is freed. -/
theorem Sys.t3 (S : Sys c R P (some (.t3 R.head v)) f wr vo pid Q) : Sys c { R with turn := upd R.turn (R.head % c) (2 * (R.head / c) + 2) } P (some (.t4 R.head v)) (f + 1) wr vo pid Q := by
  obtain ⟨hf, _, hw, hv⟩ : f = R.head ∧ R.head = R.head ∧ wr R.head = true ∧ v = vo R.head := S.take
  have hlt := S.ring.wrlt _ hw
  have hc := S.ring.pos
  have hcap := S.ring.cap
  refine ⟨⟨hc, by show f + 1 ≤ R.tail; omega, by show R.tail ≤ f + 1 + c; omega, fun u h1 h2 => ?_, S.ring.wrlt, fun u h => ?_, fun u h1 h2 => S.ring.val u (by omega) h2⟩,
    fun q s1 v1 h => ?_, S.sole, fun u h1 h2 h3 => S.pend u (by omega) h2 h3, S.good, S.last, ⟨by show f + 1 = R.head + 1; omega, rfl, hv⟩⟩
  · show upd R.turn (R.head % c) (2 * (R.head / c) + 2) (u % c) = _
    by_cases e : u = f + c
    · have hwu : wr u = false := by
        cases h : wr u with
        | false => rfl
        | true => have := S.ring.wrlt u h; omega
      obtain ⟨e1, e2⟩ := next_round (t := R.head) hc
      rw [hwu, e, hf, e1, e2, upd_same]
      simp; omega
    · rw [upd_other _ _ _ _ (fun g => by have := slot_inj (f := f) (t := u) (u := R.head) (by omega) (by omega) (by omega) (by omega) g; omega)]
      exact S.ring.turn u (by omega) (by omega)
  · by_cases e : u = f
    · rw [e, hf]; exact hw
    · exact S.ring.old u (by omega)
  · obtain ⟨h1, h2⟩ := S.put q s1 v1 h
    refine ⟨?_, h2⟩
    cases s1 with
    | p0 => trivial
    | p1 u => exact h1
    | p2 u => exact ⟨h1.1, by have := h1.2; omega⟩
    | p3 u =>
      have : u ≠ f := fun e => by
        have h3 : wr u = false := h1.2.2.1
        rw [e, hf, hw] at h3; simp at h3
      exact ⟨by have := h1.1; omega, h1.2⟩
    | p4 u =>
      have : u ≠ f := fun e => by
        have h3 : wr u = false := h1.2.2.1
        rw [e, hf, hw] at h3; simp at h3
      exact ⟨by have := h1.1; omega, h1.2⟩
/-- The head goes on. -/
theorem Sys.t4 (S : Sys c R P (some (.t4 R.head v)) f wr vo pid Q) : Sys c { R with head := R.head + 1 } P none f wr vo pid Q ∧ v = vo R.head := by
  obtain ⟨hf, _, hv⟩ : f = R.head + 1 ∧ R.head = R.head ∧ v = vo R.head := S.take
  refine ⟨⟨⟨S.ring.pos, S.ring.le, S.ring.cap, S.ring.turn, S.ring.wrlt, S.ring.old, S.ring.val⟩, fun q s1 v1 h => ?_, S.sole, S.pend, S.good, S.last, hf⟩, hv⟩
  obtain ⟨h1, h2⟩ := S.put q s1 v1 h
  exact ⟨by cases s1 <;> exact h1, h2⟩
end
end Go.Proofs.Ytpnpbgcndlfobaa
