/- A ring as a machine of steps: each comes to an end; who draws no ticket was passed. (Of no program.) -/
import Derived.Test.YtpnpbgcndlfobaaRingB
namespace Go.Proofs.Ytpnpbgcndlfobaa

/-- How many steps a Put may still make that is alone. -/
def rankP (R : Rg) : PS → Nat
  | .p0 => 5
  | .p1 t => if t = R.tail then 4 else 7
  | .p2 t => if t = R.tail then 3 else 6
  | .p3 _ => 2
  | .p4 _ => 1
theorem rankP_le (R : Rg) (s : PS) : rankP R s ≤ 7 := by cases s <;> simp only [rankP] <;> (try split) <;> omega

section
variable {c : Nat} {R : Rg} {P : Nat → Option (PS × Int)} {T : Option TS} {ins : Nat → List Int} {taken : List Int} {cnt : Nat} {pid : Int → Nat} {Q : Int → Prop} {p : Nat} {v : Int}

/-- Who reads the turn of the tail's slot never finds it above. -/
theorem RInv.tail_turn {f : Nat} {wr : Nat → Bool} {vo : Nat → Int} (I : RInv c R f wr vo) : R.turn (R.tail % c) ≤ 2 * (R.tail / c) ∧ (R.turn (R.tail % c) = 2 * (R.tail / c) ↔ R.tail < f + c) := by
  have hc := I.pos
  have hcap := I.cap
  have hle := I.le
  rcases Nat.lt_or_ge R.tail (f + c) with h | h
  · have hw : wr R.tail = false := by
      cases g : wr R.tail with
      | false => rfl
      | true => have := I.wrlt _ g; omega
    have := I.turn R.tail hle h
    rw [hw] at this
    simp at this
    rw [this]
    exact ⟨Nat.le_refl _, fun _ => h, fun _ => rfl⟩
  · have e : R.tail = f + c := by omega
    obtain ⟨e1, e2⟩ := next_round (t := f) hc
    have := I.turn f (Nat.le_refl _) (by omega)
    rw [e, e1, e2, this]
    split
    · exact ⟨by omega, fun g => by omega, fun g => by omega⟩
    · exact ⟨by omega, fun g => by omega, fun g => by omega⟩

theorem SysO.rank (h : SysO c R P T ins taken cnt pid Q) {s s' : PS} {R' : Rg} (_hp : P p = some (s, v)) (e : putStep c R v s = (R', .on s')) : rankP R' s' < rankP R s := by
  obtain ⟨f, wr, vo, S, _, _, _⟩ := h
  cases s with
  | p0 =>
    simp only [putStep, Prod.mk.injEq, PR.on.injEq] at e
    obtain ⟨rfl, rfl⟩ := e
    simp [rankP]
  | p1 t =>
    simp only [putStep] at e
    have tt := S.ring.tail_turn.1
    by_cases g1 : 2 * (t / c) < R.turn (t % c)
    · rw [if_pos g1] at e
      simp only [Prod.mk.injEq, PR.on.injEq] at e
      obtain ⟨rfl, rfl⟩ := e
      have : t ≠ R.tail := fun e => by rw [e] at g1; omega
      simp [rankP, this]
    · rw [if_neg g1] at e
      by_cases g2 : R.turn (t % c) < 2 * (t / c)
      · rw [if_pos g2] at e; simp at e
      · rw [if_neg g2] at e
        simp only [Prod.mk.injEq, PR.on.injEq] at e
        obtain ⟨rfl, rfl⟩ := e
        simp only [rankP]
        split <;> omega
  | p2 t =>
    simp only [putStep] at e
    by_cases g : R.tail = t
    · rw [if_pos g] at e
      simp only [Prod.mk.injEq, PR.on.injEq] at e
      obtain ⟨rfl, rfl⟩ := e
      simp [rankP, g]
    · rw [if_neg g] at e
      simp only [Prod.mk.injEq, PR.on.injEq] at e
      obtain ⟨rfl, rfl⟩ := e
      simp [rankP, Ne.symm g]
  | p3 t =>
    simp only [putStep, Prod.mk.injEq, PR.on.injEq] at e
    obtain ⟨rfl, rfl⟩ := e
    simp [rankP]
  | p4 t => simp [putStep] at e

/-- How many steps a Take may still make till it finds nothing, when nobody puts. -/
def rankT (R : Rg) : Option TS → Nat
  | none => 5 * (R.tail - R.head) + 2
  | some .t0 => 5 * (R.tail - R.head) + 2
  | some (.t1 _) => 5 * (R.tail - R.head) + 1
  | some (.t2 _) => 5 * (R.tail - R.head)
  | some (.t3 _ _) => 5 * (R.tail - R.head) - 1
  | some (.t4 _ _) => 5 * (R.tail - R.head) - 2
theorem SysO.rankT_lt {s : TS} (h : SysO c R P (some s) ins taken cnt pid Q) {s' : TS} {R' : Rg} (e : takeStep c R s = (R', .on s')) : rankT R' (some s') < rankT R (some s) := by
  obtain ⟨f, wr, vo, S, _, _, _⟩ := h
  cases s with
  | t0 =>
    simp only [takeStep, Prod.mk.injEq, TR.on.injEq] at e
    obtain ⟨rfl, rfl⟩ := e
    simp [rankT]
  | t1 h =>
    obtain ⟨hf, rfl⟩ : f = R.head ∧ h = R.head := S.take
    simp only [takeStep] at e
    split at e
    · simp only [Prod.mk.injEq, TR.on.injEq] at e
      obtain ⟨rfl, rfl⟩ := e
      simp [rankT]
    · simp at e
  | t2 h =>
    obtain ⟨hf, rfl, hw⟩ : f = R.head ∧ h = R.head ∧ wr h = true := S.take
    have := S.ring.wrlt _ hw
    simp only [takeStep, Prod.mk.injEq, TR.on.injEq] at e
    obtain ⟨rfl, rfl⟩ := e
    simp only [rankT]; omega
  | t3 h x =>
    obtain ⟨hf, rfl, hw, _⟩ : f = R.head ∧ h = R.head ∧ wr h = true ∧ x = vo h := S.take
    have := S.ring.wrlt _ hw
    simp only [takeStep, Prod.mk.injEq, TR.on.injEq] at e
    obtain ⟨rfl, rfl⟩ := e
    simp only [rankT]; omega
  | t4 h x => simp [takeStep] at e
theorem SysO.rankT_done {s : TS} (h : SysO c R P (some s) ins taken cnt pid Q) {x : Int} {R' : Rg} (e : takeStep c R s = (R', .done x)) : rankT R' none < rankT R (some s) := by
  obtain ⟨f, wr, vo, S, _, _, _⟩ := h
  cases s with
  | t0 => simp [takeStep] at e
  | t1 h => simp only [takeStep] at e; split at e <;> simp at e
  | t2 h => simp [takeStep] at e
  | t3 h y => simp [takeStep] at e
  | t4 h y =>
    obtain ⟨hf, rfl, _⟩ : f = R.head + 1 ∧ h = R.head ∧ y = vo h := S.take
    have := S.ring.le
    simp only [takeStep, Prod.mk.injEq, TR.done.injEq] at e
    obtain ⟨rfl, rfl⟩ := e
    simp only [rankT]; omega
theorem SysO.rankT_le (h : SysO c R P T ins taken cnt pid Q) : rankT R T ≤ 5 * (c + 1) + 2 := by
  obtain ⟨f, wr, vo, S, _, _, _⟩ := h
  have hcap := S.ring.cap
  have := S.take
  cases T with
  | none =>
    have h : f = R.head := this
    simp only [rankT]; omega
  | some s =>
    cases s <;> (have h := this; simp only [TInv] at h; simp only [rankT]; omega)

/-- Nobody holds a ticket: there is a free slot, or there is none. -/
theorem SysO.slot (h : SysO c R P none ins taken cnt pid Q) (hP : ∀ q s v, P q = some (s, v) → ∀ t, ¬ holds s t) :
    R.turn (R.tail % c) ≤ 2 * (R.tail / c) ∧ (R.turn (R.tail % c) = 2 * (R.tail / c) ↔ cnt < c) := by
  obtain ⟨f, wr, vo, S, _, _, h3⟩ := h
  obtain ⟨h4, h5⟩ := S.ring.tail_turn
  have hw : ∀ t, t < R.tail → wr t = true := fun t a => by
    rcases Nat.lt_or_ge t f with g | g
    · exact S.ring.old t g
    · cases hw : wr t with
      | true => rfl
      | false =>
        obtain ⟨q, s, v, e, b⟩ := S.pend t g a hw
        exact absurd b (hP q s v e t)
  have := wcN_all R.tail hw
  exact ⟨h4, h5.trans (by omega)⟩
end

/-- Where one is told of a kind: so many of its kind stand ahead of it. -/
theorem filter_at {α : Type} (q : α → Bool) : ∀ (L : List α) (i : Nat) (x : α), L[i]? = some x → q x = true → (L.filter q)[((L.take i).filter q).length]? = some x
  | [], i, x, h, _ => by simp at h
  | y :: L, 0, x, h, hq => by simp at h; subst h; simp [hq]
  | y :: L, i + 1, x, h, hq => by
    have := filter_at q L i x (by simpa using h) hq
    simp only [List.take_succ_cons, List.filter_cons]
    split <;> simpa using this
theorem filter_lt {α : Type} (q : α → Bool) : ∀ (L : List α) (i : Nat) (x : α), L[i]? = some x → q x = true → ((L.take i).filter q).length < (L.filter q).length
  | [], i, x, h, _ => by simp at h
  | y :: L, 0, x, h, hq => by simp at h; subst h; simp [hq]
  | y :: L, i + 1, x, h, hq => by
    have := filter_lt q L i x (by simpa using h) hq
    simp only [List.take_succ_cons, List.filter_cons]
    split <;> simpa using this
theorem filter_next {α : Type} (q : α → Bool) (L : List α) (i : Nat) (x : α) (h : L[i]? = some x) : ((L.take (i + 1)).filter q).length = ((L.take i).filter q).length + if q x = true then 1 else 0 := by
  rw [List.take_add_one, h, List.filter_append, List.length_append]
  cases g : q x <;> simp [g]
end Go.Proofs.Ytpnpbgcndlfobaa
