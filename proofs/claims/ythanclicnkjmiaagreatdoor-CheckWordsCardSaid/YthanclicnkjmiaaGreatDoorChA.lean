/- check: programs that are right, and what is wrong with one, in plain words. -/
import Derived.Test.YthanclicnkjmiaaGreatDoorCtA
set_option linter.unusedVariables false
namespace Go.Proofs.YthanclicnkjmiaaGreatDoor.Ch
open Go.RowKit Go.Proofs.YthanclicnkjmiaaGreatDoor Lx Ps

/-- What is wrong, and where. -/
abbrev Fau := Option (Nat × List Nat)
def wn (n a b : Int) : Bool := decide (a ≤ n) && decide (n ≤ b)
def eachR (f : Nat → Fau) : Nat → Nat → Fau
  | _, 0 => none
  | i, r + 1 => match f i with | some x => some (x.1, (i + 1) :: x.2) | none => eachR f (i + 1) r
def eachO (n : Nat) (f : Nat → Fau) : Fau := eachR f 0 n
def firstO : List Fau → Fau
  | [] => none
  | some x :: _ => some x
  | none :: l => firstO l
def un (c : Nat) (b : Bool) : Fau := if b then none else some (c, [])
def gt {α : Type} [Inhabited α] (L : List α) (i : Nat) : α := L.getD i default
def isNew {β : Type} [DecidableEq β] (K : List β) (i : Nat) : Bool := match K[i]? with | some k => !decide (k ∈ K.take i) | none => true
def isSlot (s : Wd) : Bool := decide (s = [97]) || decide (s = [98]) || decide (s = [99]) || decide (s = [100])
def w_self : Wd := [115, 101, 108, 102]
def w_sender : Wd := [115, 101, 110, 100, 101, 114]
def w_parent : Wd := [112, 97, 114, 101, 110, 116]
def isRef (s : Wd) : Bool := isSlot s || decide (s = w_self) || decide (s = w_sender) || decide (s = w_parent)
/-- An effect is one, as the document says it. -/
def wfEf (e : Eff) : Bool :=
  okE e && decide (e.n ≤ 255) && (decide (e.ref = []) || isRef e.ref) && (decide (e.slot = []) || isSlot e.slot) && (!((parts e.act).contains 100) || wn e.delay 1 4095)
def there (PN SN : List Wd) (e : Eff) : Bool := if e.act = 2 then decide (e.name ∈ PN) else if e.act = 3 then decide (e.name ∈ SN) else true
def lastOk (n i : Nat) (e : Eff) : Bool := decide (i + 1 = n) || !(decide (e.act = 11) || decide (e.act = 12))
def ofEff (PN SN : List Wd) (L : List Eff) (i : Nat) : Fau := firstO [un 43 (wfEf (gt L i)), un 42 (there PN SN (gt L i)), un 44 (lastOk L.length i (gt L i))]
def headR (r : Rw) : Wd × Bool × Int := (r.tag, r.only, r.n)
def rowIn (r : Rw) : Bool := (isNm r.tag || decide (r.tag = []) && !r.only) && (decide (r.n = 0) || r.only && wn r.n 0 255)
def alone (L : List Eff) : Bool := decide (L.length = 1) || !(L.any fun e => decide (e.act = 4))
def ofRow (PN SN : List Wd) (R : List Rw) (i : Nat) : Fau :=
  firstO [un 43 (rowIn (gt R i)), un 41 (isNew (R.map headR) i), un 40 (decide ((gt R i).effs.length ≤ 8)), un 45 (alone (gt R i).effs), eachO (gt R i).effs.length (ofEff PN SN (gt R i).effs)]
def ofSta (PN : List Wd) (S : List Sta) (i : Nat) : Fau :=
  firstO [un 43 (isNm (gt S i).name), un 41 (isNew (S.map Sta.name) i), un 40 (decide ((gt S i).rows.length ≤ 16)), eachO (gt S i).rows.length (ofRow PN (S.map Sta.name) (gt S i).rows)]
def kdIn (k : Kd) : Bool := isNm k.name && wn k.limit 0 100 && wn k.within 1 4095
def kdCount (k : Kd) : Bool := decide (k.cases.length ≤ 8) && (decide (1 ≤ k.states.length) && decide (k.states.length ≤ 8))
def caseIn (c : Cs) : Bool := (decide (c.reason = []) || isNm c.reason) && wn c.act 1 4
def once (C : List Wd) : Bool := (List.range C.length).all fun i => isNew C i
def ofKd (P : List Kd) (i : Nat) : Fau :=
  firstO [un 43 (kdIn (gt P i)), un 41 (isNew (P.map Kd.name) i), un 40 (kdCount (gt P i)), un 43 ((gt P i).cases.all caseIn), un 41 (once ((gt P i).cases.map Cs.reason)),
    eachO (gt P i).states.length (ofSta (P.map Kd.name) (gt P i).states)]
def whole (P : List Kd) : Fau := firstO [un 40 (decide (1 ≤ P.length) && decide (P.length ≤ 8)), eachO P.length (ofKd P)]

theorem gt_eq {α : Type} [Inhabited α] {L : List α} {i : Nat} (h : i < L.length) : gt L i = L[i] := by unfold gt; simp [List.getD, h]
@[simp] theorem un_t (c : Nat) : un c true = none := rfl
@[simp] theorem un_f (c : Nat) : un c false = some (c, []) := rfl
@[simp] theorem firstO_nil : firstO [] = none := rfl
@[simp] theorem firstO_s (x : Nat × List Nat) (l : List Fau) : firstO (some x :: l) = some x := rfl
@[simp] theorem firstO_n (l : List Fau) : firstO (none :: l) = firstO l := rfl
theorem un_none {c : Nat} {b : Bool} : un c b = none ↔ b = true := by cases b <;> simp
theorem first_none {l : List Fau} : firstO l = none ↔ ∀ x ∈ l, x = none := by
  induction l with
  | nil => simp
  | cons x l ih => cases x <;> simp [ih]
theorem first_some {l : List Fau} {x : Nat × List Nat} (h : firstO l = some x) : some x ∈ l := by
  induction l with
  | nil => simp at h
  | cons y l ih =>
    cases y with
    | none => rw [firstO_n] at h; exact List.mem_cons_of_mem _ (ih h)
    | some y => rw [firstO_s] at h; rw [h]; exact List.mem_cons_self
theorem eachR_none {f : Nat → Fau} : ∀ (r i : Nat), eachR f i r = none ↔ ∀ j, i ≤ j → j < i + r → f j = none
  | 0, i => by simp [eachR]; intro j h1 h2; omega
  | r + 1, i => by
    cases h : f i with
    | some x =>
      simp only [eachR, h]
      constructor
      · intro h'; cases h'
      · intro h'; have := h' i (Nat.le_refl _) (by omega); rw [h] at this; cases this
    | none =>
      simp only [eachR, h]
      rw [eachR_none r (i + 1)]
      constructor
      · intro h' j h1 h2
        rcases Nat.eq_or_lt_of_le h1 with rfl | h3
        · exact h
        · exact h' j h3 (by omega)
      · intro h' j h1 h2; exact h' j (by omega) (by omega)
theorem eachO_none {f : Nat → Fau} {n : Nat} : eachO n f = none ↔ ∀ j, j < n → f j = none := by
  unfold eachO; rw [eachR_none]; constructor
  · intro h j hj; exact h j (Nat.zero_le _) (by omega)
  · intro h j _ hj; exact h j (by omega)
theorem eachR_hit {f : Nat → Fau} {x : Nat × List Nat} {k : Nat} (hk : f k = some x) : ∀ (r i : Nat), i ≤ k → k < i + r → (∀ j, i ≤ j → j < k → f j = none) → eachR f i r = some (x.1, (k + 1) :: x.2)
  | 0, i, h1, h2, _ => by omega
  | r + 1, i, h1, h2, h3 => by
    rcases Nat.eq_or_lt_of_le h1 with rfl | h4
    · simp only [eachR, hk]
    · simp only [eachR, h3 i (Nat.le_refl _) h4]
      exact eachR_hit hk r (i + 1) h4 (by omega) (fun j h5 h6 => h3 j (by omega) h6)
theorem eachO_hit {f : Nat → Fau} {x : Nat × List Nat} {k n : Nat} (hk : f k = some x) (hn : k < n) (h : ∀ j, j < k → f j = none) : eachO n f = some (x.1, (k + 1) :: x.2) :=
  eachR_hit hk n 0 (Nat.zero_le _) (by omega) (fun j _ hj => h j hj)
theorem eachR_inv {f : Nat → Fau} {x : Nat × List Nat} : ∀ (r i : Nat), eachR f i r = some x → ∃ j y, j < i + r ∧ f j = some y ∧ x = (y.1, (j + 1) :: y.2)
  | 0, i, h => by cases h
  | r + 1, i, h => by
    cases hi : f i with
    | some y =>
      simp only [eachR, hi, Option.some.injEq] at h
      exact ⟨i, y, by omega, hi, h.symm⟩
    | none =>
      simp only [eachR, hi] at h
      obtain ⟨j, y, h1, h2, h3⟩ := eachR_inv r (i + 1) h
      exact ⟨j, y, by omega, h2, h3⟩
theorem eachO_inv {f : Nat → Fau} {x : Nat × List Nat} {n : Nat} (h : eachO n f = some x) : ∃ j y, j < n ∧ f j = some y ∧ x = (y.1, (j + 1) :: y.2) := by
  obtain ⟨j, y, h1, h2⟩ := eachR_inv n 0 h; exact ⟨j, y, by omega, h2⟩
theorem un_some {c : Nat} {b : Bool} {x : Nat × List Nat} (h : un c b = some x) : x = (c, []) := by cases b <;> simp_all

/-! ### A fault's place is one that the program has -/
theorem eff_place {PN SN : List Wd} {L : List Eff} {i : Nat} {x : Nat × List Nat} (h : ofEff PN SN L i = some x) : x.2 = [] := by
  have := first_some h
  simp only [List.mem_cons, List.not_mem_nil, or_false] at this
  rcases this with h | h | h <;> (rw [un_some h.symm])
theorem row_place {PN SN : List Wd} {R : List Rw} {i : Nat} {x : Nat × List Nat} (h : ofRow PN SN R i = some x) : x.2 = [] ∨ ∃ m, m < (gt R i).effs.length ∧ x.2 = [m + 1] := by
  have := first_some h
  simp only [List.mem_cons, List.not_mem_nil, or_false] at this
  rcases this with h | h | h | h | h
  · exact Or.inl (by rw [un_some h.symm])
  · exact Or.inl (by rw [un_some h.symm])
  · exact Or.inl (by rw [un_some h.symm])
  · exact Or.inl (by rw [un_some h.symm])
  · obtain ⟨j, y, h1, h2, rfl⟩ := eachO_inv h.symm
    exact Or.inr ⟨j, h1, by rw [eff_place h2]⟩
theorem sta_place {PN : List Wd} {S : List Sta} {i : Nat} {x : Nat × List Nat} (h : ofSta PN S i = some x) :
    x.2 = [] ∨ ∃ n, n < (gt S i).rows.length ∧ (x.2 = [n + 1] ∨ ∃ m, m < (gt (gt S i).rows n).effs.length ∧ x.2 = [n + 1, m + 1]) := by
  have := first_some h
  simp only [List.mem_cons, List.not_mem_nil, or_false] at this
  rcases this with h | h | h | h
  · exact Or.inl (by rw [un_some h.symm])
  · exact Or.inl (by rw [un_some h.symm])
  · exact Or.inl (by rw [un_some h.symm])
  · obtain ⟨j, y, h1, h2, rfl⟩ := eachO_inv h.symm
    refine Or.inr ⟨j, h1, ?_⟩
    rcases row_place h2 with h3 | ⟨m, h3, h4⟩
    · exact Or.inl (by rw [h3])
    · exact Or.inr ⟨m, h3, by rw [h4]⟩
/-- Where a fault may lie. -/
def Place (P : List Kd) (W : List Nat) : Prop :=
  W = [] ∨ ∃ i, i < P.length ∧ (W = [i + 1] ∨ ∃ j, j < (gt P i).states.length ∧ (W = [i + 1, j + 1] ∨ ∃ n, n < (gt (gt P i).states j).rows.length ∧ (W = [i + 1, j + 1, n + 1] ∨
    ∃ m, m < (gt (gt (gt P i).states j).rows n).effs.length ∧ W = [i + 1, j + 1, n + 1, m + 1])))
theorem kd_place {P : List Kd} {i : Nat} {x : Nat × List Nat} (h : ofKd P i = some x) :
    x.2 = [] ∨ ∃ j, j < (gt P i).states.length ∧ (x.2 = [j + 1] ∨ ∃ n, n < (gt (gt P i).states j).rows.length ∧ (x.2 = [j + 1, n + 1] ∨ ∃ m, m < (gt (gt (gt P i).states j).rows n).effs.length ∧ x.2 = [j + 1, n + 1, m + 1])) := by
  have := first_some h
  simp only [List.mem_cons, List.not_mem_nil, or_false] at this
  rcases this with h | h | h | h | h | h
  · exact Or.inl (by rw [un_some h.symm])
  · exact Or.inl (by rw [un_some h.symm])
  · exact Or.inl (by rw [un_some h.symm])
  · exact Or.inl (by rw [un_some h.symm])
  · exact Or.inl (by rw [un_some h.symm])
  · obtain ⟨j, y, h1, h2, rfl⟩ := eachO_inv h.symm
    refine Or.inr ⟨j, h1, ?_⟩
    rcases sta_place h2 with h3 | ⟨n, h3, h4 | ⟨m, h4, h5⟩⟩
    · exact Or.inl (by rw [h3])
    · exact Or.inr ⟨n, h3, Or.inl (by rw [h4])⟩
    · exact Or.inr ⟨n, h3, Or.inr ⟨m, h4, by rw [h5]⟩⟩
theorem whole_place {P : List Kd} {x : Nat × List Nat} (h : whole P = some x) : Place P x.2 := by
  have := first_some h
  simp only [List.mem_cons, List.not_mem_nil, or_false] at this
  rcases this with h | h
  · exact Or.inl (by rw [un_some h.symm])
  · obtain ⟨i, y, h1, h2, rfl⟩ := eachO_inv h.symm
    refine Or.inr ⟨i, h1, ?_⟩
    rcases kd_place h2 with h3 | ⟨j, h3, h4 | ⟨n, h4, h5 | ⟨m, h5, h6⟩⟩⟩
    · exact Or.inl (by rw [h3])
    · exact Or.inr ⟨j, h3, Or.inl (by rw [h4])⟩
    · exact Or.inr ⟨j, h3, Or.inr ⟨n, h4, Or.inl (by rw [h5])⟩⟩
    · exact Or.inr ⟨j, h3, Or.inr ⟨n, h4, Or.inr ⟨m, h5, by rw [h6]⟩⟩⟩

/-! ### What is right -/
theorem new_app {β : Type} [DecidableEq β] {K : List β} {i : Nat} (h : i < K.length) (Z : List β) : isNew (K ++ Z) i = isNew K i := by
  unfold isNew
  rw [List.getElem?_append_left h, List.take_append_of_le_length (by omega)]
theorem new_old {β : Type} [DecidableEq β] {K : List β} {k : β} (h : k ∈ K) : isNew (K ++ [k]) K.length = false := by
  unfold isNew
  simp [h]
theorem new_iff {β : Type} [DecidableEq β] {K : List β} {i : Nat} (h : i < K.length) : isNew K i = true ↔ ∀ j (hj : j < i), K[j] ≠ K[i] := by
  unfold isNew
  rw [List.getElem?_eq_getElem h]
  simp only [Bool.not_eq_true', decide_eq_false_iff_not]
  rw [List.mem_take_iff_getElem]
  constructor
  · intro h1 j hj e; exact h1 ⟨j, by omega, e⟩
  · rintro h1 ⟨j, hj, e⟩; exact h1 j (by omega) e
theorem new_all {β : Type} [DecidableEq β] {K : List β} : (∀ i, i < K.length → isNew K i = true) ↔ K.Nodup := by
  unfold List.Nodup
  rw [List.pairwise_iff_getElem]
  constructor
  · intro h i j hi hj hij; exact (new_iff hj).1 (h j hj) i hij
  · intro h i hi; exact (new_iff hi).2 fun j hj => h j i (by omega) hi hj
def rowOk (PN SN : List Wd) (r : Rw) : Prop := rowIn r = true ∧ r.effs.length ≤ 8 ∧ alone r.effs = true ∧ ∀ m, m < r.effs.length → ofEff PN SN r.effs m = none
theorem row_none {PN SN : List Wd} {R : List Rw} {i : Nat} : ofRow PN SN R i = none ↔ rowOk PN SN (gt R i) ∧ isNew (R.map headR) i = true := by
  unfold ofRow rowOk
  rw [first_none]
  simp only [List.mem_cons, List.not_mem_nil, or_false, forall_eq_or_imp, forall_eq, un_none, eachO_none, decide_eq_true_eq]
  constructor
  · rintro ⟨a, b, c, d, e⟩; exact ⟨⟨a, c, d, e⟩, b⟩
  · rintro ⟨⟨a, c, d, e⟩, b⟩; exact ⟨a, b, c, d, e⟩
theorem all_gt {α : Type} [Inhabited α] {L : List α} {Q : α → Prop} : (∀ i, i < L.length → Q (gt L i)) ↔ ∀ x ∈ L, Q x := by
  constructor
  · intro h x hx
    obtain ⟨i, hi, rfl⟩ := List.mem_iff_getElem.1 hx
    rw [← gt_eq hi]; exact h i hi
  · intro h i hi; rw [gt_eq hi]; exact h _ (List.getElem_mem hi)
theorem rows_none {PN SN : List Wd} {R : List Rw} : (∀ i, i < R.length → ofRow PN SN R i = none) ↔ (∀ r ∈ R, rowOk PN SN r) ∧ (R.map headR).Nodup := by
  rw [← all_gt, ← new_all, List.length_map]
  constructor
  · intro h; exact ⟨fun i hi => (row_none.1 (h i hi)).1, fun i hi => (row_none.1 (h i hi)).2⟩
  · rintro ⟨h1, h2⟩ i hi; exact row_none.2 ⟨h1 i hi, h2 i hi⟩
def staOk (PN SN : List Wd) (s : Sta) : Prop := isNm s.name = true ∧ s.rows.length ≤ 16 ∧ (∀ r ∈ s.rows, rowOk PN SN r) ∧ (s.rows.map headR).Nodup
theorem sta_none {PN : List Wd} {S : List Sta} {i : Nat} : ofSta PN S i = none ↔ staOk PN (S.map Sta.name) (gt S i) ∧ isNew (S.map Sta.name) i = true := by
  unfold ofSta staOk
  rw [first_none]
  simp only [List.mem_cons, List.not_mem_nil, or_false, forall_eq_or_imp, forall_eq, un_none, eachO_none, decide_eq_true_eq, rows_none]
  constructor
  · rintro ⟨a, b, c, d⟩; exact ⟨⟨a, c, d⟩, b⟩
  · rintro ⟨⟨a, c, d⟩, b⟩; exact ⟨a, b, c, d⟩
theorem stas_none {PN : List Wd} {S : List Sta} : (∀ i, i < S.length → ofSta PN S i = none) ↔ (∀ s ∈ S, staOk PN (S.map Sta.name) s) ∧ (S.map Sta.name).Nodup := by
  rw [← all_gt, ← new_all, List.length_map]
  constructor
  · intro h; exact ⟨fun i hi => (sta_none.1 (h i hi)).1, fun i hi => (sta_none.1 (h i hi)).2⟩
  · rintro ⟨h1, h2⟩ i hi; exact sta_none.2 ⟨h1 i hi, h2 i hi⟩
def kdOk (PN : List Wd) (k : Kd) : Prop := kdIn k = true ∧ kdCount k = true ∧ k.cases.all caseIn = true ∧ once (k.cases.map Cs.reason) = true ∧ (∀ s ∈ k.states, staOk PN (k.states.map Sta.name) s) ∧ (k.states.map Sta.name).Nodup
theorem kd_none {P : List Kd} {i : Nat} : ofKd P i = none ↔ kdOk (P.map Kd.name) (gt P i) ∧ isNew (P.map Kd.name) i = true := by
  unfold ofKd kdOk
  rw [first_none]
  simp only [List.mem_cons, List.not_mem_nil, or_false, forall_eq_or_imp, forall_eq, un_none, eachO_none, stas_none]
  constructor
  · rintro ⟨a, b, c, d, e, f⟩; exact ⟨⟨a, c, d, e, f⟩, b⟩
  · rintro ⟨⟨a, c, d, e, f⟩, b⟩; exact ⟨a, b, c, d, e, f⟩
theorem whole_none {P : List Kd} : whole P = none ↔ (1 ≤ P.length ∧ P.length ≤ 8) ∧ (∀ k ∈ P, kdOk (P.map Kd.name) k) ∧ (P.map Kd.name).Nodup := by
  unfold whole
  rw [first_none]
  simp only [List.mem_cons, List.not_mem_nil, or_false, forall_eq_or_imp, forall_eq, un_none, eachO_none, Bool.and_eq_true, decide_eq_true_eq]
  refine and_congr Iff.rfl ?_
  rw [← all_gt, ← new_all, List.length_map]
  constructor
  · intro h; exact ⟨fun i hi => (kd_none.1 (h i hi)).1, fun i hi => (kd_none.1 (h i hi)).2⟩
  · rintro ⟨h1, h2⟩ i hi; exact kd_none.2 ⟨h1 i hi, h2 i hi⟩

/-! ### Two rows changed about -/
theorem mem_set_iff {α : Type} {L : List α} {i : Nat} (hi : i < L.length) {a : α} {Q : α → Prop} (h : Q a ↔ Q L[i]) : (∀ x ∈ L.set i a, Q x) ↔ ∀ x ∈ L, Q x := by
  constructor
  · intro h1 x hx
    obtain ⟨j, hj, rfl⟩ := List.mem_iff_getElem.1 hx
    by_cases e : i = j
    · subst e; exact h.1 (h1 a (List.mem_iff_getElem.2 ⟨i, by simpa using hi, by simp⟩))
    · exact h1 _ (List.mem_iff_getElem.2 ⟨j, by simpa using hj, by simp [e]⟩)
  · intro h1 x hx
    rcases List.mem_or_eq_of_mem_set hx with h2 | rfl
    · exact h1 x h2
    · exact h.2 (h1 _ (List.getElem_mem hi))
theorem map_set_same {α β : Type} {L : List α} {i : Nat} (hi : i < L.length) {a : α} {f : α → β} (h : f a = f L[i]) : (L.set i a).map f = L.map f := by
  apply List.ext_getElem?
  intro j
  rw [List.getElem?_map, List.getElem?_map, List.getElem?_set]
  by_cases e : i = j
  · subst e; simp [hi, h]
  · simp [e]
def swap (R : List Rw) (n : Nat) : List Rw := (R.set n (gt R (n + 1))).set (n + 1) (gt R n)
theorem swap_perm {R : List Rw} {n : Nat} (h : n + 1 < R.length) : (swap R n).Perm R := by
  unfold swap
  rw [gt_eq h, gt_eq (by omega : n < R.length)]
  exact List.set_set_perm (by omega) h
theorem sta_swap {PN SN : List Wd} {s : Sta} {R : List Rw} (h : R.Perm s.rows) : staOk PN SN ⟨s.name, R⟩ ↔ staOk PN SN s := by
  unfold staOk
  refine and_congr Iff.rfl (and_congr ?_ (and_congr ?_ ?_))
  · rw [h.length_eq]
  · constructor
    · intro h1 r hr; exact h1 r (h.mem_iff.2 hr)
    · intro h1 r hr; exact h1 r (h.mem_iff.1 hr)
  · exact (h.map headR).nodup_iff
theorem turned {P : List Kd} {i j : Nat} (hi : i < P.length) (hj : j < P[i].states.length) {R : List Rw} (hR : R.Perm P[i].states[j].rows) :
    whole (P.set i { P[i] with states := P[i].states.set j ⟨P[i].states[j].name, R⟩ }) = none ↔ whole P = none := by
  have e1 : (P.set i { P[i] with states := P[i].states.set j ⟨P[i].states[j].name, R⟩ }).map Kd.name = P.map Kd.name := map_set_same hi rfl
  rw [whole_none, whole_none, e1, List.length_set]
  refine and_congr Iff.rfl (and_congr (mem_set_iff hi ?_) Iff.rfl)
  have e2 : (P[i].states.set j ⟨P[i].states[j].name, R⟩).map Sta.name = P[i].states.map Sta.name := map_set_same hj rfl
  unfold kdOk kdIn kdCount
  simp only [e2, List.length_set]
  refine and_congr Iff.rfl (and_congr Iff.rfl (and_congr Iff.rfl (and_congr Iff.rfl (and_congr (mem_set_iff hj (sta_swap hR)) Iff.rfl))))

/-! ### A part once more -/
theorem there_mono {PN SN PN' SN' : List Wd} (h1 : ∀ x ∈ PN, x ∈ PN') (h2 : ∀ x ∈ SN, x ∈ SN') {e : Eff} (h : there PN SN e = true) : there PN' SN' e = true := by
  unfold there at h ⊢
  split
  · rw [if_pos (by assumption), decide_eq_true_eq] at h; exact decide_eq_true (h1 _ h)
  · rw [if_neg (by assumption)] at h
    split
    · rw [if_pos (by assumption), decide_eq_true_eq] at h; exact decide_eq_true (h2 _ h)
    · rfl
theorem eff_mono {PN SN PN' SN' : List Wd} (h1 : ∀ x ∈ PN, x ∈ PN') (h2 : ∀ x ∈ SN, x ∈ SN') {L : List Eff} {m : Nat} (h : ofEff PN SN L m = none) : ofEff PN' SN' L m = none := by
  unfold ofEff at h ⊢
  rw [first_none] at h ⊢
  simp only [List.mem_cons, List.not_mem_nil, or_false, forall_eq_or_imp, forall_eq, un_none] at h ⊢
  exact ⟨h.1, there_mono h1 h2 h.2.1, h.2.2⟩
theorem row_mono {PN SN PN' SN' : List Wd} (h1 : ∀ x ∈ PN, x ∈ PN') (h2 : ∀ x ∈ SN, x ∈ SN') {r : Rw} (h : rowOk PN SN r) : rowOk PN' SN' r := ⟨h.1, h.2.1, h.2.2.1, fun m hm => eff_mono h1 h2 (h.2.2.2 m hm)⟩
theorem sta_mono {PN SN PN' SN' : List Wd} (h1 : ∀ x ∈ PN, x ∈ PN') (h2 : ∀ x ∈ SN, x ∈ SN') {s : Sta} (h : staOk PN SN s) : staOk PN' SN' s := ⟨h.1, h.2.1, fun r hr => row_mono h1 h2 (h.2.2.1 r hr), h.2.2.2⟩
theorem kd_mono {PN PN' : List Wd} (h1 : ∀ x ∈ PN, x ∈ PN') {k : Kd} (h : kdOk PN k) : kdOk PN' k := ⟨h.1, h.2.1, h.2.2.1, h.2.2.2.1, fun s hs => sta_mono h1 (fun _ hx => hx) (h.2.2.2.2.1 s hs), h.2.2.2.2.2⟩
theorem gt_app {α : Type} [Inhabited α] {L : List α} {i : Nat} (h : i < L.length) (Z : List α) : gt (L ++ Z) i = gt L i := by
  rw [gt_eq h, gt_eq (by rw [List.length_append]; omega), List.getElem_append_left h]
theorem gt_end {α : Type} [Inhabited α] (L : List α) (x : α) : gt (L ++ [x]) L.length = x := by
  rw [gt_eq (by simp)]; simp
theorem once_kind {P : List Kd} (h : whole P = none) {k : Kd} (hk : k ∈ P) : whole (P ++ [k]) = if P.length = 8 then some (40, []) else some (41, [P.length + 1]) := by
  obtain ⟨⟨h1, h2⟩, h3, h4⟩ := whole_none.1 h
  by_cases h8 : P.length = 8
  · rw [if_pos h8]
    unfold whole
    have e : (decide (1 ≤ (P ++ [k]).length) && decide ((P ++ [k]).length ≤ 8)) = false := by simp; omega
    rw [e]; rfl
  · rw [if_neg h8]
    have e : (decide (1 ≤ (P ++ [k]).length) && decide ((P ++ [k]).length ≤ 8)) = true := by simp; omega
    have hk' : ofKd (P ++ [k]) P.length = some (41, []) := by
      unfold ofKd
      rw [gt_end, (h3 k hk).1]
      have e2 : isNew ((P ++ [k]).map Kd.name) P.length = false := by
        rw [List.map_append, List.map_singleton]
        have := new_old (K := P.map Kd.name) (k := k.name) (List.mem_map_of_mem hk)
        rwa [List.length_map] at this
      rw [e2]; rfl
    have hz : ∀ j, j < P.length → ofKd (P ++ [k]) j = none := fun j hj => by
      rw [kd_none, gt_app hj, List.map_append, new_app (by simpa using hj)]
      exact ⟨kd_mono (fun x hx => List.mem_append_left _ hx) (by rw [gt_eq hj]; exact h3 _ (List.getElem_mem hj)), new_all.2 h4 j (by simpa using hj)⟩
    unfold whole
    rw [e, un_t, firstO_n, eachO_hit hk' (by simp) hz]; rfl
theorem gt_set {α : Type} [Inhabited α] {L : List α} {i : Nat} (h : i < L.length) (a : α) : gt (L.set i a) i = a := by
  rw [gt_eq (by simpa using h)]; simp
theorem gt_set_ne {α : Type} [Inhabited α] {L : List α} {i j : Nat} (hj : j < L.length) (h : j ≠ i) (a : α) : gt (L.set i a) j = gt L j := by
  rw [gt_eq (by simpa using hj), gt_eq hj]; simp [Ne.symm h]
/-- Kind i of a right program turned into k' of the same name: what is wrong is in k'. -/
theorem kind_turned {P : List Kd} (h : whole P = none) {i : Nat} (hi : i < P.length) {k' : Kd} (hn : k'.name = P[i].name) {x : Nat × List Nat}
    (hx : firstO [un 43 (kdIn k'), un 40 (kdCount k'), un 43 (k'.cases.all caseIn), un 41 (once (k'.cases.map Cs.reason)), eachO k'.states.length (ofSta (P.map Kd.name) k'.states)] = some x) :
    whole (P.set i k') = some (x.1, (i + 1) :: x.2) := by
  obtain ⟨⟨h1, h2⟩, h3, h4⟩ := whole_none.1 h
  have e1 : (P.set i k').map Kd.name = P.map Kd.name := map_set_same hi hn
  have e : (decide (1 ≤ (P.set i k').length) && decide ((P.set i k').length ≤ 8)) = true := by simp; omega
  have hz : ∀ j, j < i → ofKd (P.set i k') j = none := fun j hj => by
    rw [kd_none, gt_set_ne (by omega) (by omega), e1, gt_eq (by omega)]
    exact ⟨h3 _ (List.getElem_mem (by omega)), new_all.2 h4 j (by rw [List.length_map]; omega)⟩
  have hk : ofKd (P.set i k') i = some x := by
    unfold ofKd
    rw [gt_set hi, e1, new_all.2 h4 i (by rw [List.length_map]; omega)]
    rw [← hx]
    cases kdIn k' <;> rfl
  unfold whole
  rw [e, un_t, firstO_n, eachO_hit hk (by simpa using hi) hz]; rfl
theorem once_state {P : List Kd} (h : whole P = none) {i : Nat} (hi : i < P.length) {s : Sta} (hs : s ∈ P[i].states) :
    whole (P.set i { P[i] with states := P[i].states ++ [s] }) = if P[i].states.length = 8 then some (40, [i + 1]) else some (41, [i + 1, P[i].states.length + 1]) := by
  obtain ⟨_, h3, _⟩ := whole_none.1 h
  obtain ⟨g1, g2, g3, g4, g5, g6⟩ := h3 _ (List.getElem_mem hi)
  have hkI : kdIn { P[i] with states := P[i].states ++ [s] } = true := g1
  by_cases h8 : P[i].states.length = 8
  · rw [if_pos h8]
    refine kind_turned h hi (k' := { P[i] with states := P[i].states ++ [s] }) rfl (x := (40, [])) ?_
    have hc : kdCount { P[i] with states := P[i].states ++ [s] } = false := by unfold kdCount; simp [h8]
    rw [hkI, hc]; rfl
  · rw [if_neg h8]
    refine kind_turned h hi (k' := { P[i] with states := P[i].states ++ [s] }) rfl (x := (41, [P[i].states.length + 1])) ?_
    have hc : kdCount { P[i] with states := P[i].states ++ [s] } = true := by
      unfold kdCount at g2 ⊢
      simp only [Bool.and_eq_true, decide_eq_true_eq, List.length_append, List.length_singleton] at g2 ⊢
      omega
    have hc3 : ({ P[i] with states := P[i].states ++ [s] } : Kd).cases.all caseIn = true := g3
    have hc4 : once (({ P[i] with states := P[i].states ++ [s] } : Kd).cases.map Cs.reason) = true := g4
    have hend : ofSta (P.map Kd.name) (P[i].states ++ [s]) P[i].states.length = some (41, []) := by
      unfold ofSta
      rw [gt_end, (g5 s hs).1]
      have e2 : isNew ((P[i].states ++ [s]).map Sta.name) P[i].states.length = false := by
        rw [List.map_append, List.map_singleton]
        have := new_old (K := P[i].states.map Sta.name) (k := s.name) (List.mem_map_of_mem hs)
        rwa [List.length_map] at this
      rw [e2]; rfl
    have hz : ∀ j, j < P[i].states.length → ofSta (P.map Kd.name) (P[i].states ++ [s]) j = none := fun j hj => by
      rw [sta_none, gt_app hj, List.map_append, new_app (by simpa using hj)]
      exact ⟨sta_mono (fun _ hx => hx) (fun x hx => List.mem_append_left _ hx) (by rw [gt_eq hj]; exact g5 _ (List.getElem_mem hj)), new_all.2 g6 j (by simpa using hj)⟩
    rw [hkI, hc, hc3, hc4]
    simp only [un_t, firstO_n]
    have := eachO_hit hend (n := (P[i].states ++ [s]).length) (by simp) hz
    rw [this]; rfl
theorem once_row {P : List Kd} (h : whole P = none) {i : Nat} (hi : i < P.length) {s : Sta} {T : List Sta} (hS : P[i].states = s :: T) {r : Rw} (hr : r ∈ s.rows) :
    whole (P.set i { P[i] with states := ⟨s.name, s.rows ++ [r]⟩ :: T }) = if s.rows.length = 16 then some (40, [i + 1, 1]) else some (41, [i + 1, 1, s.rows.length + 1]) := by
  obtain ⟨_, h3, _⟩ := whole_none.1 h
  obtain ⟨g1, g2, g3, g4, g5, g6⟩ := h3 _ (List.getElem_mem hi)
  have hkI : kdIn { P[i] with states := ⟨s.name, s.rows ++ [r]⟩ :: T } = true := g1
  have hc : kdCount { P[i] with states := ⟨s.name, s.rows ++ [r]⟩ :: T } = true := by
    unfold kdCount at g2 ⊢; rw [hS] at g2; exact g2
  have hc3 : ({ P[i] with states := ⟨s.name, s.rows ++ [r]⟩ :: T } : Kd).cases.all caseIn = true := g3
  have hc4 : once (({ P[i] with states := ⟨s.name, s.rows ++ [r]⟩ :: T } : Kd).cases.map Cs.reason) = true := g4
  have eN : (⟨s.name, s.rows ++ [r]⟩ :: T : List Sta).map Sta.name = P[i].states.map Sta.name := by rw [hS]; rfl
  have hs := g5 s (by rw [hS]; exact List.mem_cons_self)
  have hnew : isNew (P[i].states.map Sta.name) 0 = true := new_all.2 g6 0 (by rw [hS]; simp)
  have hg0 : gt (⟨s.name, s.rows ++ [r]⟩ :: T : List Sta) 0 = ⟨s.name, s.rows ++ [r]⟩ := rfl
  by_cases h16 : s.rows.length = 16
  · rw [if_pos h16]
    refine kind_turned h hi (k' := { P[i] with states := ⟨s.name, s.rows ++ [r]⟩ :: T }) rfl (x := (40, [1])) ?_
    have h0 : ofSta (P.map Kd.name) (⟨s.name, s.rows ++ [r]⟩ :: T) 0 = some (40, []) := by
      unfold ofSta
      rw [eN, hg0, hs.1, hnew]
      have : decide ((s.rows ++ [r]).length ≤ 16) = false := by simp [h16]
      simp only [this]; rfl
    rw [hkI, hc, hc3, hc4]
    simp only [un_t, firstO_n]
    rw [eachO_hit h0 (n := (⟨s.name, s.rows ++ [r]⟩ :: T : List Sta).length) (by simp) (fun j hj => by omega)]; rfl
  · rw [if_neg h16]
    refine kind_turned h hi (k' := { P[i] with states := ⟨s.name, s.rows ++ [r]⟩ :: T }) rfl (x := (41, [1, s.rows.length + 1])) ?_
    have hend : ofRow (P.map Kd.name) (P[i].states.map Sta.name) (s.rows ++ [r]) s.rows.length = some (41, []) := by
      unfold ofRow
      rw [gt_end, (hs.2.2.1 r hr).1]
      have e2 : isNew ((s.rows ++ [r]).map headR) s.rows.length = false := by
        rw [List.map_append, List.map_singleton]
        have := new_old (K := s.rows.map headR) (k := headR r) (List.mem_map_of_mem hr)
        rwa [List.length_map] at this
      rw [e2]; rfl
    have hz : ∀ j, j < s.rows.length → ofRow (P.map Kd.name) (P[i].states.map Sta.name) (s.rows ++ [r]) j = none := fun j hj => by
      rw [row_none, gt_app hj, List.map_append, new_app (by simpa using hj)]
      exact ⟨by rw [gt_eq hj]; exact hs.2.2.1 _ (List.getElem_mem hj), new_all.2 hs.2.2.2 j (by simpa using hj)⟩
    have h0 : ofSta (P.map Kd.name) (⟨s.name, s.rows ++ [r]⟩ :: T) 0 = some (41, [s.rows.length + 1]) := by
      unfold ofSta
      rw [eN, hg0, hs.1, hnew]
      have : decide ((s.rows ++ [r]).length ≤ 16) = true := by have := hs.2.1; simp; omega
      simp only [this, un_t, firstO_n]
      rw [eachO_hit hend (by simp) hz]; rfl
    rw [hkI, hc, hc3, hc4]
    simp only [un_t, firstO_n]
    rw [eachO_hit h0 (n := (⟨s.name, s.rows ++ [r]⟩ :: T : List Sta).length) (by simp) (fun j hj => by omega)]; rfl

/-! ### What is right can be written -/
theorem right_eff {PN SN : List Wd} {L : List Eff} (h : ∀ m, m < L.length → ofEff PN SN L m = none) : L.all okE = true := by
  refine List.all_eq_true.2 (all_gt.1 fun i hi => ?_)
  have := h i hi
  unfold ofEff at this
  rw [first_none] at this
  simp only [List.mem_cons, List.not_mem_nil, or_false, forall_eq_or_imp, forall_eq, un_none] at this
  have h1 := this.1
  unfold wfEf at h1
  simp only [Bool.and_eq_true] at h1
  exact h1.1.1.1.1
theorem wn_ok {n a b : Int} (h : wn n a b = true) (ha : 0 ≤ a) (hb : b ≤ 65535) : okN n = true := by
  unfold wn at h; unfold okN
  simp only [Bool.and_eq_true, decide_eq_true_eq] at h ⊢
  omega
theorem right_row {PN SN : List Wd} {r : Rw} (h : rowOk PN SN r) : okR r = true := by
  obtain ⟨h1, h2, h3, h4⟩ := h
  unfold okR
  rw [right_eff h4, Bool.and_true]
  unfold rowIn at h1
  unfold okH
  cases ho : r.only with
  | true =>
    rw [ho] at h1
    simp only [Bool.and_eq_true, Bool.or_eq_true, decide_eq_true_eq, Bool.not_true, Bool.false_eq_true, and_false, or_false, true_and, if_true] at h1 ⊢
    refine ⟨h1.1, ?_⟩
    rcases h1.2 with h | h
    · rw [h]; rfl
    · exact wn_ok h (by decide) (by decide)
  | false =>
    rw [ho] at h1
    simp only [Bool.and_eq_true, Bool.or_eq_true, decide_eq_true_eq, Bool.not_false, Bool.false_eq_true, false_and, or_false, and_true, if_false] at h1 ⊢
    exact ⟨h1.2, h1.1.symm⟩
theorem right_sta {PN SN : List Wd} {s : Sta} (h : staOk PN SN s) : okS s = true := by
  unfold okS
  rw [h.1, Bool.true_and]
  exact List.all_eq_true.2 fun r hr => right_row (h.2.2.1 r hr)
theorem right_case {c : Cs} (h : caseIn c = true) : okC c = true := by
  unfold caseIn wn at h
  unfold okC okP
  have : (dirs.length : Int) = 4 := rfl
  rw [this]
  simp only [Bool.and_eq_true, Bool.or_eq_true, decide_eq_true_eq] at h ⊢
  exact ⟨h.1, by omega, by omega⟩
theorem right_kd {PN : List Wd} {k : Kd} (h : kdOk PN k) : okK k = true := by
  obtain ⟨h1, h2, h3, h4, h5, h6⟩ := h
  unfold kdIn at h1
  simp only [Bool.and_eq_true] at h1
  unfold okK
  rw [h1.1.1, wn_ok h1.1.2 (by decide) (by decide), wn_ok h1.2 (by decide) (by decide)]
  simp only [Bool.true_and, Bool.and_eq_true]
  exact ⟨List.all_eq_true.2 fun c hc => right_case (List.all_eq_true.1 h3 c hc), List.all_eq_true.2 fun s hs => right_sta (h5 s hs)⟩
theorem right_all {P : List Kd} (h : whole P = none) : P.all okK = true := List.all_eq_true.2 fun k hk => right_kd ((whole_none.1 h).2.1 k hk)
theorem right_sm {P : List Kd} (h : whole P = none) : smP P := by
  obtain ⟨⟨_, h1⟩, h2, _⟩ := whole_none.1 h
  refine ⟨by omega, fun k hk => ?_⟩
  obtain ⟨_, g2, _, _, g5, _⟩ := h2 k hk
  unfold kdCount at g2
  simp only [Bool.and_eq_true, decide_eq_true_eq] at g2
  refine ⟨by omega, by omega, fun s hs => ?_⟩
  obtain ⟨_, s2, s3, _⟩ := g5 s hs
  refine ⟨by omega, fun r hr => ?_⟩
  have := (s3 r hr).2.1
  unfold smR; omega
end Go.Proofs.YthanclicnkjmiaaGreatDoor.Ch
