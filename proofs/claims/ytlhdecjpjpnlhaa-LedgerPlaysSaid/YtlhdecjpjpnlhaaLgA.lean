/- ledger: where messages are, in plain words: the list of all that were ever accepted; its two maps and its nine counts. -/
import Derived.Test.YtlhdecjpjpnlhaaOnA
import Derived.Maps.OwnOps
import Derived.Maps.RangeWalk
import Derived.Maps.OwnSet
namespace Go.Proofs.Ytlhdecjpjpnlhaa.Lg
open Go.RowKit Go.Proofs.Ytlhdecjpjpnlhaa Go.Maps

/-- A message and where it is. -/
structure Ms where
  id : Int
  wh : Int
  ok : (Lit.int .u64 id).wf = true
instance : Inhabited Ms := ⟨⟨0, 0, rfl⟩⟩

def held (x : Int) : Bool := decide (1 ≤ x) && decide (x ≤ 6)
def place (x : Int) : Bool := decide (0 < x) && decide (x ≤ 8)
def whOf : List Ms → Int → Int
  | [], _ => 0
  | m :: L, x => if m.id = x then m.wh else whOf L x
def num : List Ms → Int → Nat
  | [], _ => 0
  | m :: L, x => if m.id = x then 0 else num L x + 1
def cq (L : List Ms) (q : Int → Bool) : Nat := (L.filter fun m => q m.wh).length
def cnt (L : List Ms) (p : Int) : Nat := cq L (fun y => y == p)
def hl (L : List Ms) : List Ms := L.filter fun m => held m.wh
def at1 (x p : Int) (m : Ms) : Ms := if m.id = x then ⟨m.id, p, m.ok⟩ else m
def setW (L : List Ms) (x p : Int) : List Ms := L.map (at1 x p)

structure Good (L : List Ms) : Prop where
  apart : L.Pairwise fun a b => a.id ≠ b.id
  places : ∀ m ∈ L, 1 ≤ m.wh ∧ m.wh ≤ 8

theorem held_iff (x : Int) : held x = true ↔ 1 ≤ x ∧ x ≤ 6 := by simp [held]
theorem held_not (x : Int) : held x = false ↔ x < 1 ∨ 6 < x := by
  have := held_iff x
  cases e : held x
  · rw [e] at this
    constructor
    · intro _
      rcases Int.lt_or_le x 1 with h | h
      · exact .inl h
      · rcases Int.lt_or_le 6 x with h2 | h2
        · exact .inr h2
        · exact absurd (this.2 ⟨h, h2⟩) (by simp)
    · intro _; rfl
  · have := this.1 e
    constructor
    · intro h; cases h
    · intro h; omega
theorem place_iff (x : Int) : place x = true ↔ 1 ≤ x ∧ x ≤ 8 := by
  simp [place]; omega
theorem place_not (x : Int) : place x = false ↔ x < 1 ∨ 8 < x := by
  have := place_iff x
  cases e : place x
  · rw [e] at this
    constructor
    · intro _
      rcases Int.lt_or_le x 1 with h | h
      · exact .inl h
      · rcases Int.lt_or_le 8 x with h2 | h2
        · exact .inr h2
        · exact absurd (this.2 ⟨h, h2⟩) (by simp)
    · intro _; rfl
  · have := this.1 e
    constructor
    · intro h; cases h
    · intro h; omega

theorem Good.nil : Good [] := ⟨List.Pairwise.nil, fun _ h => by cases h⟩
theorem Good.tail {m : Ms} {L : List Ms} (h : Good (m :: L)) : Good L := ⟨(List.pairwise_cons.1 h.apart).2, fun a ha => h.places a (List.mem_cons_of_mem _ ha)⟩
theorem Good.head {m : Ms} {L : List Ms} (h : Good (m :: L)) : ∀ a ∈ L, m.id ≠ a.id := (List.pairwise_cons.1 h.apart).1

theorem whOf_none : ∀ {L : List Ms} {x : Int}, (∀ m ∈ L, m.id ≠ x) → whOf L x = 0
  | [], _, _ => rfl
  | m :: L, x, h => by
    unfold whOf
    rw [if_neg (h m (List.mem_cons_self ..)), whOf_none (fun a ha => h a (List.mem_cons_of_mem _ ha))]
theorem whOf_mem : ∀ {L : List Ms}, Good L → ∀ {m : Ms}, m ∈ L → whOf L m.id = m.wh
  | [], _, m, h => by cases h
  | a :: L, g, m, h => by
    unfold whOf
    rcases List.mem_cons.1 h with rfl | h
    · rw [if_pos rfl]
    · rw [if_neg (g.head m h), whOf_mem g.tail h]
theorem whOf_some : ∀ {L : List Ms} {x : Int}, whOf L x ≠ 0 → ∃ m ∈ L, m.id = x ∧ m.wh = whOf L x
  | [], _, h => absurd rfl h
  | m :: L, x, h => by
    unfold whOf at h ⊢
    by_cases e : m.id = x
    · rw [if_pos e]; exact ⟨m, List.mem_cons_self .., e, rfl⟩
    · rw [if_neg e] at h ⊢
      obtain ⟨a, ha, h1, h2⟩ := whOf_some h
      exact ⟨a, List.mem_cons_of_mem _ ha, h1, h2⟩
theorem whOf_le {L : List Ms} (g : Good L) (x : Int) : 0 ≤ whOf L x ∧ whOf L x ≤ 8 := by
  by_cases e : whOf L x = 0
  · omega
  · obtain ⟨m, hm, _, h2⟩ := whOf_some e
    have := g.places m hm
    omega
theorem whOf_notin {L : List Ms} (g : Good L) {x : Int} (h : whOf L x = 0) : ∀ m ∈ L, m.id ≠ x := by
  intro m hm e
  subst e
  have := g.places m hm
  rw [whOf_mem g hm] at h
  omega
theorem whOf_snoc : ∀ {L : List Ms} (m : Ms), (∀ a ∈ L, a.id ≠ m.id) → ∀ x : Int, whOf (L ++ [m]) x = if m.id = x then m.wh else whOf L x
  | [], _, _, _ => rfl
  | a :: L, m, h, x => by
    have ih := whOf_snoc (L := L) m (fun b hb => h b (List.mem_cons_of_mem _ hb)) x
    have ha := h a (List.mem_cons_self ..)
    rw [List.cons_append]
    unfold whOf
    rw [ih]
    by_cases e2 : a.id = x
    · rw [if_pos e2, if_pos e2, if_neg (fun h => ha (e2.trans h.symm))]
    · rw [if_neg e2, if_neg e2]

theorem at1_id (x p : Int) (m : Ms) : (at1 x p m).id = m.id := by unfold at1; split <;> rfl
theorem setW_cons (m : Ms) (L : List Ms) (x p : Int) : setW (m :: L) x p = at1 x p m :: setW L x p := rfl
theorem setW_length (L : List Ms) (x p : Int) : (setW L x p).length = L.length := by simp [setW]
theorem setW_none {L : List Ms} {x : Int} (p : Int) (h : ∀ m ∈ L, m.id ≠ x) : setW L x p = L := by
  unfold setW
  conv => rhs; rw [← List.map_id L]
  apply List.map_congr_left
  intro m hm
  unfold at1
  rw [if_neg (h m hm)]
  rfl
theorem whOf_set : ∀ {L : List Ms} {x : Int} (p : Int), whOf L x ≠ 0 → ∀ y : Int, whOf (setW L x p) y = if x = y then p else whOf L y
  | [], _, _, h, _ => absurd rfl h
  | m :: L, x, p, h, y => by
    rw [setW_cons]
    unfold whOf at h ⊢
    rw [at1_id]
    unfold at1
    by_cases e : m.id = x
    · rw [if_pos e]
      by_cases e2 : x = y
      · rw [if_pos (e.trans e2), if_pos e2]
      · rw [if_neg (e ▸ e2), if_neg e2, if_neg (e ▸ e2)]
        subst e
        exact whOf_rest L m.id y p e2
    · rw [if_neg e] at h ⊢
      rw [whOf_set p h y]
      by_cases e2 : m.id = y
      · rw [if_pos e2, if_pos e2, if_neg (fun h => e (e2.trans h.symm))]
      · rw [if_neg e2, if_neg e2]
where
  whOf_rest : ∀ (L : List Ms) (x y p : Int), x ≠ y → whOf (setW L x p) y = whOf L y
    | [], _, _, _, _ => rfl
    | m :: L, x, y, p, e => by
      rw [setW_cons]
      unfold whOf
      rw [at1_id, whOf_rest L x y p e]
      by_cases e2 : m.id = y
      · rw [if_pos e2, if_pos e2]
        unfold at1
        rw [if_neg (fun h => e (h.symm.trans e2))]
      · rw [if_neg e2, if_neg e2]

theorem cq_nil (q : Int → Bool) : cq [] q = 0 := rfl
theorem cq_cons (m : Ms) (L : List Ms) (q : Int → Bool) : cq (m :: L) q = (if q m.wh then 1 else 0) + cq L q := by
  unfold cq
  rw [List.filter_cons]
  split <;> simp <;> omega
theorem cq_snoc (L : List Ms) (m : Ms) (q : Int → Bool) : cq (L ++ [m]) q = cq L q + (if q m.wh then 1 else 0) := by
  unfold cq
  rw [List.filter_append, List.length_append, List.filter_cons]
  split <;> rfl
theorem cq_le (L : List Ms) (q : Int → Bool) : cq L q ≤ L.length := List.length_filter_le _ _
theorem cq_set : ∀ {L : List Ms}, Good L → ∀ {x : Int} (p : Int) (q : Int → Bool), whOf L x ≠ 0 →
    cq (setW L x p) q + (if q (whOf L x) then 1 else 0) = cq L q + (if q p then 1 else 0)
  | [], _, _, _, _, h => absurd rfl h
  | m :: L, g, x, p, q, h => by
    rw [setW_cons, cq_cons, cq_cons]
    unfold whOf at h ⊢
    unfold at1
    by_cases e : m.id = x
    · rw [if_pos e, if_pos e, setW_none p (fun a ha he => g.head a ha (e.trans he.symm))]
      show (if q p then 1 else 0) + _ + _ = _
      omega
    · rw [if_neg e] at h
      rw [if_neg e, if_neg e]
      have := cq_set g.tail p q h
      omega
theorem hl_len (L : List Ms) : (hl L).length = cq L held := rfl
theorem cnt_all : ∀ {L : List Ms}, Good L → cnt L 1 + cnt L 2 + cnt L 3 + cnt L 4 + cnt L 5 + cnt L 6 + cnt L 7 + cnt L 8 = L.length
  | [], _ => rfl
  | m :: L, g => by
    have ih := cnt_all g.tail
    have hm := g.places m (List.mem_cons_self ..)
    unfold cnt at *
    rw [cq_cons, cq_cons, cq_cons, cq_cons, cq_cons, cq_cons, cq_cons, cq_cons, List.length_cons, ← ih]
    have : m.wh = 1 ∨ m.wh = 2 ∨ m.wh = 3 ∨ m.wh = 4 ∨ m.wh = 5 ∨ m.wh = 6 ∨ m.wh = 7 ∨ m.wh = 8 := by omega
    rcases this with e | e | e | e | e | e | e | e <;> rw [e] <;> simp <;> omega
theorem cnt_held : ∀ {L : List Ms}, cnt L 1 + cnt L 2 + cnt L 3 + cnt L 4 + cnt L 5 + cnt L 6 = (hl L).length
  | [] => rfl
  | m :: L => by
    have ih := cnt_held (L := L)
    rw [hl_len] at *
    unfold cnt at *
    rw [cq_cons, cq_cons, cq_cons, cq_cons, cq_cons, cq_cons, cq_cons, ← ih]
    cases e : held m.wh
    · have := (held_not _).1 e
      have h1 : (m.wh == 1) = false := by simp; omega
      have h2 : (m.wh == 2) = false := by simp; omega
      have h3 : (m.wh == 3) = false := by simp; omega
      have h4 : (m.wh == 4) = false := by simp; omega
      have h5 : (m.wh == 5) = false := by simp; omega
      have h6 : (m.wh == 6) = false := by simp; omega
      rw [h1, h2, h3, h4, h5, h6]
      simp
    · have := (held_iff _).1 e
      have : m.wh = 1 ∨ m.wh = 2 ∨ m.wh = 3 ∨ m.wh = 4 ∨ m.wh = 5 ∨ m.wh = 6 := by omega
      rcases this with e | e | e | e | e | e <;> rw [e] <;> simp <;> omega

theorem Good.snoc {L : List Ms} (g : Good L) (m : Ms) (h : whOf L m.id = 0) (hm : 1 ≤ m.wh ∧ m.wh ≤ 8) : Good (L ++ [m]) :=
  ⟨List.pairwise_append.2 ⟨g.apart, by simp, fun a ha b hb => by rw [List.mem_singleton.1 hb]; exact whOf_notin g h a ha⟩, fun a ha => by
    rcases List.mem_append.1 ha with ha | ha
    · exact g.places a ha
    · rw [List.mem_singleton.1 ha]; exact hm⟩
theorem Good.set {L : List Ms} (g : Good L) (x p : Int) (hp : 1 ≤ p ∧ p ≤ 8) : Good (setW L x p) :=
  ⟨List.pairwise_map.2 (g.apart.imp (fun h => by rw [at1_id, at1_id]; exact h)), fun a ha => by
    obtain ⟨m, hm, rfl⟩ := List.mem_map.1 ha
    unfold at1
    split
    · exact hp
    · exact g.places m hm⟩

theorem num_set : ∀ (L : List Ms) (x p y : Int), num (setW L x p) y = num L y
  | [], _, _, _ => rfl
  | m :: L, x, p, y => by
    rw [setW_cons]
    unfold num
    rw [at1_id, num_set L x p y]
theorem num_lt : ∀ {L : List Ms} {m : Ms}, m ∈ L → num L m.id < L.length
  | [], m, h => by cases h
  | a :: L, m, h => by
    unfold num
    rw [List.length_cons]
    by_cases e : a.id = m.id
    · rw [if_pos e]; omega
    · rw [if_neg e]
      rcases List.mem_cons.1 h with rfl | h
      · exact absurd rfl e
      · have := num_lt h; omega
theorem num_snoc_old : ∀ {L : List Ms} {x : Int} (m : Ms), whOf L x ≠ 0 → num (L ++ [m]) x = num L x
  | [], _, _, h => absurd rfl h
  | a :: L, x, m, h => by
    rw [List.cons_append]
    unfold num
    unfold whOf at h
    by_cases e : a.id = x
    · rw [if_pos e, if_pos e]
    · rw [if_neg e] at h
      rw [if_neg e, if_neg e, num_snoc_old m h]
theorem num_snoc_new : ∀ {L : List Ms} (m : Ms), (∀ a ∈ L, a.id ≠ m.id) → num (L ++ [m]) m.id = L.length
  | [], m, _ => by simp [num]
  | a :: L, m, h => by
    rw [List.cons_append]
    unfold num
    rw [if_neg (h a (List.mem_cons_self ..)), num_snoc_new m (fun b hb => h b (List.mem_cons_of_mem _ hb))]
    rfl
theorem num_rising : ∀ {L : List Ms}, Good L → L.Pairwise fun a b => num L a.id < num L b.id
  | [], _ => List.Pairwise.nil
  | m :: L, g => by
    refine List.pairwise_cons.2 ⟨fun b hb => ?_, ?_⟩
    · unfold num
      rw [if_pos rfl, if_neg (g.head b hb)]
      omega
    · refine (num_rising g.tail).imp_of_mem ?_
      intro a b ha hb h
      unfold num
      rw [if_neg (g.head a ha), if_neg (g.head b hb)]
      omega
theorem hl_rising {L : List Ms} (g : Good L) : (hl L).Pairwise fun a b => num L a.id < num L b.id := (num_rising g).sublist List.filter_sublist
theorem hl_apart {L : List Ms} (g : Good L) : (hl L).Pairwise fun a b => a.id ≠ b.id := g.apart.sublist List.filter_sublist
theorem hl_mem {L : List Ms} {m : Ms} : m ∈ hl L ↔ m ∈ L ∧ held m.wh = true := List.mem_filter

/-- One more of the list goes through: the first ones' row is one longer. -/
theorem more_perm : ∀ {L : List Ms} (_ : L.Pairwise fun a b => a.id ≠ b.id) {m : Ms} (_ : m ∈ L) (f g : Ms → Bool) (_ : f m = false) (_ : ∀ a ∈ L, g a = (f a || decide (a.id = m.id))), (L.filter g).Perm (L.filter f ++ [m])
  | [], _, m, h, _, _, _, _ => by cases h
  | a :: L, hp, m, h, f, g, hf, hg => by
    obtain ⟨h1, h2⟩ := List.pairwise_cons.1 hp
    rcases List.mem_cons.1 h with rfl | hm
    · have e : L.filter g = L.filter f := List.filter_congr (fun b hb => by rw [hg b (List.mem_cons_of_mem _ hb), decide_eq_false (fun e => h1 b hb e.symm), Bool.or_false])
      rw [List.filter_cons, List.filter_cons, hf, hg m h, decide_eq_true rfl, Bool.or_true, if_pos rfl, if_neg (by simp), e]
      exact (List.perm_append_comm (l₁ := [m]))
    · have ih := more_perm h2 hm f g hf (fun b hb => hg b (List.mem_cons_of_mem _ hb))
      have e : g a = f a := by rw [hg a (List.mem_cons_self ..), decide_eq_false (fun e => h1 m hm e), Bool.or_false]
      rw [List.filter_cons, List.filter_cons, e]
      cases f a
      · simpa using ih
      · simpa using ih.cons a

/-- A message's two cells. -/
def pl (m : Ms) : List Value := [.int .u64 m.id, .int .i64 m.wh]
def pls (L : List Ms) : List Value := L.flatMap pl
theorem pls_cons (t : Ms) (L : List Ms) : pls (t :: L) = .int .u64 t.id :: .int .i64 t.wh :: pls L := rfl
theorem pls_length (L : List Ms) : (pls L).length = L.length * 2 := by
  induction L with
  | nil => rfl
  | cons t L ih => rw [pls_cons]; simp [ih]; omega
theorem pls_append (L M : List Ms) : pls (L ++ M) = pls L ++ pls M := by simp [pls]
theorem pls_one (t : Ms) : pls [t] = pl t := by simp [pls]
theorem pl_oneCell (t : Ms) : ∀ v ∈ pl t, v.oneCell' = true := by intro v hv; simp [pl] at hv; rcases hv with rfl | rfl <;> rfl
theorem pls_get : ∀ (L : List Ms) (j : Nat), j < L.length → (pls L)[j * 2]? = some (.int .u64 (L.getD j default).id) ∧ (pls L)[j * 2 + 1]? = some (.int .i64 (L.getD j default).wh) := by
  intro L
  induction L with
  | nil => intro j hj; simp at hj
  | cons t L ih =>
    intro j hj
    cases j with
    | zero => rw [pls_cons]; simp
    | succ j =>
      have := ih j (by simpa using hj)
      have e1 : (j + 1) * 2 = j * 2 + 1 + 1 := by omega
      have e2 : (j + 1) * 2 + 1 = j * 2 + 1 + 1 + 1 := by omega
      rw [pls_cons, e2, e1]
      simpa using this

/-- The two maps and the nine counts say where the messages L are. -/
structure Dat (D1 : DataW Unit) (C : Nat → Int) (D2 : DataW Unit) (L : List Ms) : Prop where
  good : Good L
  at1 : ∀ x : Int, D1.atKey (.int .u64 x) (.lit (.int .i64 0)) = .lit (.int .i64 (whOf L x))
  has1 : ∀ x : Int, Maps.has D1 (.int .u64 x) = decide (whOf L x ≠ 0)
  size1 : Maps.size D1 = L.length
  at2 : ∀ x : Int, held (whOf L x) = true → ∀ z, D2.atKey (.int .u64 x) z = .lit (.int .i64 (num L x : Nat))
  has2 : ∀ x : Int, Maps.has D2 (.int .u64 x) = held (whOf L x)
  size2 : Maps.size D2 = (hl L).length
  none : C 0 = -(L.length : Int)
  cnt : ∀ p : Nat, 1 ≤ p → p ≤ 8 → C p = (cnt L p : Nat)
theorem Dat.start : Dat (.map []) (fun _ => 0) (.map []) [] :=
  ⟨Good.nil, fun _ => rfl, fun _ => rfl, rfl, (fun _ h => absurd h (by show ¬ held 0 = true; decide)), fun _ => rfl, rfl, rfl, fun _ _ _ => rfl⟩
/-- What put makes of the counts. -/
def moved (C : Nat → Int) (a b : Nat) : Nat → Int := upd (upd C a (C a - 1)) b (upd C a (C a - 1) b + 1)
theorem moved_other (C : Nat → Int) (a b : Nat) : ∀ p, moved C a b p = C p - (if p = a then 1 else 0) + (if p = b then 1 else 0) := by
  intro p
  unfold moved upd
  by_cases e : p = b
  · subst e
    by_cases e2 : p = a
    · subst e2; simp
    · simp [e2]
  · by_cases e2 : p = a
    · subst e2; simp [e]
    · simp [e, e2]
theorem Dat.accept {D1 D2 : DataW Unit} {C : Nat → Int} {L : List Ms} (h : Dat D1 C D2 L) (hD1 : Maps.Tidy D1) (hD2 : Maps.Tidy D2) (x : Int) (ok : (Lit.int .u64 x).wf = true) (p : Nat) (h0 : whOf L x = 0) (hp : held (p : Int) = true) :
    Dat (D1.put (.int .u64 x) (.lit (.int .i64 (p : Int)))) (moved C 0 p) (D2.put (.int .u64 x) (.lit (.int .i64 (L.length : Int)))) (L ++ [⟨x, p, ok⟩]) := by
  have hp' := (held_iff _).1 hp
  have hn := whOf_notin h.good h0
  have hw := whOf_snoc (L := L) ⟨x, p, ok⟩ hn
  refine ⟨h.good.snoc _ h0 ⟨by simpa using hp'.1, by have := hp'.2; show (p : Int) ≤ 8; omega⟩, fun y => ?_, fun y => ?_, ?_, fun y hy z => ?_, fun y => ?_, ?_, ?_, fun q h1 h8 => ?_⟩
  · rw [hw y]
    by_cases e : x = y
    · subst e
      rw [Maps.atKey_put_same (k := .int .u64 x) hD1.isMap trivial, if_pos rfl]
    · rw [Maps.atKey_put_other (by intro h; injection h with _ h; exact e h.symm), h.at1, if_neg e]
  · rw [hw y]
    by_cases e : x = y
    · subst e
      rw [Maps.has_put_same (k := .int .u64 x) hD1.isMap trivial, if_pos rfl]
      symm; apply decide_eq_true; show (p : Int) ≠ 0; omega
    · rw [Maps.has_put_other (by intro h; injection h with _ h; exact e h.symm), h.has1, if_neg e]
  · rw [Maps.size_put (k := .int .u64 x) hD1, h.has1, h0]
    simp [h.size1]
  · rw [hw y] at hy
    by_cases e : x = y
    · subst e
      rw [Maps.atKey_put_same (k := .int .u64 x) hD2.isMap trivial, num_snoc_new (L := L) ⟨x, p, ok⟩ hn]
    · rw [if_neg e] at hy
      rw [Maps.atKey_put_other (by intro h; injection h with _ h; exact e h.symm), h.at2 y hy, num_snoc_old _ (by intro h; rw [h] at hy; cases hy)]
  · rw [hw y]
    by_cases e : x = y
    · subst e
      rw [Maps.has_put_same (k := .int .u64 x) hD2.isMap trivial, if_pos rfl]
      exact hp.symm
    · rw [Maps.has_put_other (by intro h; injection h with _ h; exact e h.symm), h.has2, if_neg e]
  · rw [Maps.size_put (k := .int .u64 x) hD2, h.has2, h0, hl_len, cq_snoc, h.size2, hl_len, hp]
    simp [show held 0 = false from rfl]
  · rw [moved_other, h.none, List.length_append, List.length_singleton, if_pos rfl, if_neg (by omega)]
    omega
  · rw [moved_other, h.cnt q h1 h8]
    unfold Lg.cnt
    rw [cq_snoc, if_neg (by omega)]
    by_cases e : q = p
    · subst e; simp
    · have : ((p : Int) == (q : Int)) = false := by simp; omega
      simp [e, this]
theorem Dat.turn {D1 D2 : DataW Unit} {C : Nat → Int} {L : List Ms} (h : Dat D1 C D2 L) (x : Int) (a p : Nat) (ha : whOf L x = (a : Int)) (h0 : a ≠ 0) (h1 : 1 ≤ p) (hp8 : p ≤ 8) :
    (Good (setW L x p) ∧ moved C a p 0 = -((setW L x p).length : Int)) ∧ ∀ q : Nat, 1 ≤ q → q ≤ 8 → moved C a p q = (Lg.cnt (setW L x p) q : Nat) := by
  have hne : whOf L x ≠ 0 := by rw [ha]; omega
  refine ⟨⟨h.good.set x p ⟨by omega, by omega⟩, ?_⟩, fun q hq1 hq8 => ?_⟩
  · rw [moved_other, h.none, setW_length, if_neg (by omega), if_neg (by omega)]
    omega
  · rw [moved_other, h.cnt q hq1 hq8]
    unfold Lg.cnt
    have := cq_set h.good (x := x) p (fun y => y == (q : Int)) hne
    rw [ha] at this
    simp only [beq_iff_eq, Int.natCast_inj] at this
    by_cases e1 : a = q
    · by_cases e2 : p = q
      · rw [if_pos e1, if_pos e2] at this
        rw [if_pos e1.symm, if_pos e2.symm]; omega
      · rw [if_pos e1, if_neg e2] at this
        rw [if_pos e1.symm, if_neg (fun h => e2 h.symm)]; omega
    · by_cases e2 : p = q
      · rw [if_neg e1, if_pos e2] at this
        rw [if_neg (fun h => e1 h.symm), if_pos e2.symm]; omega
      · rw [if_neg e1, if_neg e2] at this
        rw [if_neg (fun h => e1 h.symm), if_neg (fun h => e2 h.symm)]; omega
theorem Dat.one {D1 D2 : DataW Unit} {C : Nat → Int} {L : List Ms} (h : Dat D1 C D2 L) (hD1 : Maps.Tidy D1) (x : Int) (p : Nat) (hne : whOf L x ≠ 0) (h1 : 1 ≤ p) :
    (∀ y : Int, (D1.put (.int .u64 x) (.lit (.int .i64 (p : Int)))).atKey (.int .u64 y) (.lit (.int .i64 0)) = .lit (.int .i64 (whOf (setW L x p) y))) ∧
    (∀ y : Int, Maps.has (D1.put (.int .u64 x) (.lit (.int .i64 (p : Int)))) (.int .u64 y) = decide (whOf (setW L x p) y ≠ 0)) ∧
    Maps.size (D1.put (.int .u64 x) (.lit (.int .i64 (p : Int)))) = (setW L x p).length := by
  have hw := whOf_set (L := L) (x := x) p hne
  refine ⟨fun y => ?_, fun y => ?_, ?_⟩
  · rw [hw y]
    by_cases e : x = y
    · subst e
      rw [Maps.atKey_put_same (k := .int .u64 x) hD1.isMap trivial, if_pos rfl]
    · rw [Maps.atKey_put_other (by intro h; injection h with _ h; exact e h.symm), h.at1, if_neg e]
  · rw [hw y]
    by_cases e : x = y
    · subst e
      rw [Maps.has_put_same (k := .int .u64 x) hD1.isMap trivial, if_pos rfl]
      symm; apply decide_eq_true; omega
    · rw [Maps.has_put_other (by intro h; injection h with _ h; exact e h.symm), h.has1, if_neg e]
  · rw [Maps.size_put (k := .int .u64 x) hD1, h.has1, setW_length, decide_eq_true hne, if_pos rfl, h.size1]
theorem Dat.move {D1 D2 : DataW Unit} {C : Nat → Int} {L : List Ms} (h : Dat D1 C D2 L) (hD1 : Maps.Tidy D1) (x : Int) (a p : Nat) (ha : whOf L x = (a : Int)) (hha : held (a : Int) = true) (hp : held (p : Int) = true) :
    Dat (D1.put (.int .u64 x) (.lit (.int .i64 (p : Int)))) (moved C a p) D2 (setW L x p) := by
  have hp' := (held_iff _).1 hp
  have ha' := (held_iff _).1 hha
  have hne : whOf L x ≠ 0 := by rw [ha]; omega
  have hw := whOf_set (L := L) (x := x) p hne
  obtain ⟨⟨g, n0⟩, c⟩ := h.turn x a p ha (by omega) (by omega) (by omega)
  obtain ⟨o1, o2, o3⟩ := h.one hD1 x p hne (by omega)
  have hh : ∀ y, held (whOf (setW L x p) y) = held (whOf L y) := fun y => by
    rw [hw y]
    by_cases e : x = y
    · subst e
      rw [if_pos rfl, hp, ha, hha]
    · rw [if_neg e]
  refine ⟨g, o1, o2, o3, fun y hy z => ?_, fun y => ?_, ?_, n0, c⟩
  · rw [hh] at hy
    rw [h.at2 y hy, num_set]
  · rw [hh, h.has2]
  · have := cq_set h.good (x := x) p held hne
    rw [ha, hha, hp] at this
    rw [h.size2, hl_len, hl_len]
    simp at this
    exact this.symm
theorem Dat.ended {D1 D2 : DataW Unit} {C : Nat → Int} {L : List Ms} (h : Dat D1 C D2 L) (hD1 : Maps.Tidy D1) (hD2 : Maps.Tidy D2) (x : Int) (a p : Nat) (ha : whOf L x = (a : Int)) (hha : held (a : Int) = true) (hp : p = 7 ∨ p = 8) :
    Dat (D1.put (.int .u64 x) (.lit (.int .i64 (p : Int)))) (moved C a p) (D2.del (.int .u64 x)) (setW L x p) := by
  have hp' : held (p : Int) = false := (held_not _).2 (by omega)
  have ha' := (held_iff _).1 hha
  have hne : whOf L x ≠ 0 := by rw [ha]; omega
  have hw := whOf_set (L := L) (x := x) p hne
  obtain ⟨⟨g, n0⟩, c⟩ := h.turn x a p ha (by omega) (by omega) (by omega)
  obtain ⟨o1, o2, o3⟩ := h.one hD1 x p hne (by omega)
  refine ⟨g, o1, o2, o3, fun y hy z => ?_, fun y => ?_, ?_, n0, c⟩
  · rw [hw y] at hy
    by_cases e : x = y
    · rw [if_pos e, hp'] at hy; cases hy
    · rw [if_neg e] at hy
      rw [Maps.atKey_del_other (by intro h; injection h with _ h; exact e h.symm), h.at2 y hy, num_set]
  · rw [hw y]
    by_cases e : x = y
    · subst e
      rw [Maps.has_del_same, if_pos rfl, hp']
    · rw [Maps.has_del_other (by intro h; injection h with _ h; exact e h.symm), h.has2, if_neg e]
  · have := cq_set h.good (x := x) p held hne
    rw [ha, hha, hp'] at this
    have h2 := Maps.size_del (k := .int .u64 x) hD2
    rw [h.has2, ha, hha, h.size2] at h2
    rw [hl_len] at *
    simp at this h2
    omega
end Go.Proofs.Ytlhdecjpjpnlhaa.Lg
