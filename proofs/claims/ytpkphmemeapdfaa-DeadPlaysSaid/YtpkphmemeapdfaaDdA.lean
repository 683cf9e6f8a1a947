/- dead: letters in plain words: what was put, how many of a reason, which are kept; a row of letters as cells. -/
import Derived.Test.YtpkphmemeapdfaaOnA
import Derived.Maps.OwnOps
import Derived.Maps.RangeWalk
import Derived.Maps.OwnSet
namespace Go.Proofs.Ytpkphmemeapdfaa.Dd
open Go.RowKit Go.Proofs.Ytpkphmemeapdfaa Go.Maps

/-- A letter. -/
structure Lr where
  id : Int
  dst : Int
  why : Int
instance : Inhabited Lr := ⟨⟨0, 0, 0⟩⟩

def right (x : Int) : Bool := decide (1 ≤ x) && decide (x ≤ 5)
def cnt (L : List Lr) (x : Int) : Nat := (L.filter fun t => t.why == x).length
/-- How many a sink for so many keeps. -/
def kn (r : Int) : Nat := (min (max r 0) 64).toNat
/-- The last k. -/
def kept (k : Nat) (L : List Lr) : List Lr := L.drop (L.length - k)

theorem kn_le (r : Int) : kn r ≤ 64 := by unfold kn; omega
theorem kn_eq (r : Int) : (kn r : Int) = min (max r 0) 64 := by unfold kn; omega
theorem right_iff (x : Int) : right x = true ↔ 1 ≤ x ∧ x ≤ 5 := by simp [right]
theorem right_not (x : Int) : right x = false ↔ x < 1 ∨ 5 < x := by
  constructor
  · intro h
    by_cases h1 : 1 ≤ x
    · by_cases h2 : x ≤ 5
      · rw [(right_iff x).2 ⟨h1, h2⟩] at h; cases h
      · omega
    · omega
  · intro h
    cases e : right x
    · rfl
    · have := (right_iff x).1 e; omega
theorem cnt_le (L : List Lr) (x : Int) : cnt L x ≤ L.length := List.length_filter_le _ _
theorem cnt_nil (x : Int) : cnt [] x = 0 := rfl
theorem cnt_snoc (L : List Lr) (t : Lr) (x : Int) : cnt (L ++ [t]) x = cnt L x + (if t.why = x then 1 else 0) := by
  unfold cnt
  rw [List.filter_append, List.length_append]
  by_cases h : t.why = x <;> simp [h]
theorem cnt_cons (L : List Lr) (t : Lr) (x : Int) : cnt (t :: L) x = (if t.why = x then 1 else 0) + cnt L x := by
  unfold cnt
  by_cases h : t.why = x
  · simp [h]; omega
  · simp [h]
theorem cnt_none {L : List Lr} {x : Int} (h : ∀ t ∈ L, right t.why = true) (hx : right x = false) : cnt L x = 0 := by
  unfold cnt
  rw [List.length_eq_zero_iff, List.filter_eq_nil_iff]
  intro t ht e
  have e' : t.why = x := by simpa using e
  rw [← e', h t ht] at hx
  cases hx
theorem cnt_all : ∀ (L : List Lr), (∀ t ∈ L, right t.why = true) → cnt L 1 + cnt L 2 + cnt L 3 + cnt L 4 + cnt L 5 = L.length
  | [], _ => rfl
  | t :: L, h => by
    have ih := cnt_all L (fun s hs => h s (List.mem_cons_of_mem _ hs))
    have ht := (right_iff _).1 (h t (List.mem_cons_self ..))
    rw [cnt_cons, cnt_cons, cnt_cons, cnt_cons, cnt_cons, List.length_cons, ← ih]
    have : t.why = 1 ∨ t.why = 2 ∨ t.why = 3 ∨ t.why = 4 ∨ t.why = 5 := by omega
    rcases this with e | e | e | e | e <;> rw [e] <;> simp <;> omega

theorem kept_length (k : Nat) (L : List Lr) : (kept k L).length = min k L.length := by unfold kept; rw [List.length_drop]; omega
theorem kept_le (k : Nat) (L : List Lr) : (kept k L).length ≤ k := by rw [kept_length]; omega
theorem kept_nil (k : Nat) : kept k [] = [] := by simp [kept]
theorem kept_one (k : Nat) (L : List Lr) (t : Lr) (h : (kept k L).length + 1 ≤ k) : kept k (L ++ [t]) = kept k L ++ [t] := by
  rw [kept_length] at h
  unfold kept
  rw [List.length_append, List.length_singleton, show L.length + 1 - k = 0 by omega, show L.length - k = 0 by omega]
  simp
theorem kept_more (k : Nat) (L : List Lr) (t : Lr) (h : k < (kept k L).length + 1) : kept k (L ++ [t]) = (kept k L ++ [t]).drop 1 := by
  rw [kept_length] at h
  unfold kept
  rw [List.length_append, List.length_singleton, ← List.drop_append_of_le_length (by omega), List.drop_drop, show L.length + 1 - k = L.length - k + 1 by omega]

/-- A letter's three cells. -/
def lr (t : Lr) : List Value := [.int .u64 t.id, .int .i64 t.dst, .int .i64 t.why]
def lrs (L : List Lr) : List Value := L.flatMap lr
theorem lrs_cons (t : Lr) (L : List Lr) : lrs (t :: L) = .int .u64 t.id :: .int .i64 t.dst :: .int .i64 t.why :: lrs L := rfl
theorem lrs_length (L : List Lr) : (lrs L).length = L.length * 3 := by
  induction L with
  | nil => rfl
  | cons t L ih => rw [lrs_cons]; simp [ih]; omega
theorem lrs_append (L M : List Lr) : lrs (L ++ M) = lrs L ++ lrs M := by simp [lrs]
theorem lrs_one (t : Lr) : lrs [t] = lr t := by simp [lrs]
theorem lr_oneCell (t : Lr) : ∀ v ∈ lr t, v.oneCell' = true := by intro v hv; simp [lr] at hv; rcases hv with rfl | rfl | rfl <;> rfl
theorem lrs_oneCell (L : List Lr) : ∀ v ∈ lrs L, v.oneCell' = true := by
  intro v hv
  simp only [lrs, List.mem_flatMap] at hv
  obtain ⟨t, _, h⟩ := hv
  exact lr_oneCell t v h
theorem lrs_get : ∀ (L : List Lr) (j : Nat), j < L.length → (lrs L)[j * 3]? = some (.int .u64 (L.getD j default).id) ∧ (lrs L)[j * 3 + 1]? = some (.int .i64 (L.getD j default).dst) ∧ (lrs L)[j * 3 + 2]? = some (.int .i64 (L.getD j default).why) := by
  intro L
  induction L with
  | nil => intro j hj; simp at hj
  | cons t L ih =>
    intro j hj
    cases j with
    | zero => rw [lrs_cons]; simp
    | succ j =>
      have := ih j (by simpa using hj)
      have e1 : (j + 1) * 3 = j * 3 + 1 + 1 + 1 := by omega
      have e2 : (j + 1) * 3 + 1 = j * 3 + 1 + 1 + 1 + 1 := by omega
      have e3 : (j + 1) * 3 + 2 = j * 3 + 2 + 1 + 1 + 1 := by omega
      rw [lrs_cons, e2, e3, e1]
      simpa using this
theorem lrs_take (L : List Lr) (k : Nat) : (lrs L).take (k * 3) = lrs (L.take k) := by
  induction L generalizing k with
  | nil => simp [lrs]
  | cons t L ih =>
    cases k with
    | zero => rfl
    | succ k =>
      rw [List.take_succ_cons, lrs_cons, lrs_cons, show (k + 1) * 3 = k * 3 + 1 + 1 + 1 by omega, List.take_succ_cons, List.take_succ_cons, List.take_succ_cons, ih]
theorem lrs_drop (L : List Lr) (k : Nat) : (lrs L).drop (k * 3) = lrs (L.drop k) := by
  induction L generalizing k with
  | nil => simp [lrs]
  | cons t L ih =>
    cases k with
    | zero => rfl
    | succ k =>
      rw [List.drop_succ_cons, lrs_cons, show (k + 1) * 3 = k * 3 + 1 + 1 + 1 by omega, List.drop_succ_cons, List.drop_succ_cons, List.drop_succ_cons, ih]

/-- The counts as a map: a number at each reason that was met. -/
structure Dat (D : DataW Unit) (L : List Lr) : Prop where
  cnt : ∀ x : Int, D.atKey (.int .i64 x) (.lit (.int .i64 0)) = .lit (.int .i64 (cnt L x : Nat))
  keys : ∀ kl, Maps.has D kl = true → ∃ x, kl = .int .i64 x ∧ right x = true
  good : ∀ t ∈ L, right t.why = true
theorem Dat.start : Dat (.map []) [] := ⟨fun _ => rfl, fun _ h => by simp [Maps.has] at h, fun t ht => by simp at ht⟩
theorem Dat.put {D : DataW Unit} {L : List Lr} (h : Dat D L) (hD : Maps.IsMap D) (t : Lr) (ht : right t.why = true) (c : Int) (hc : c = (Dd.cnt L t.why : Nat) + 1) :
    Dat (D.put (.int .i64 t.why) (.lit (.int .i64 c))) (L ++ [t]) := by
  subst hc
  refine ⟨fun x => ?_, fun kl hk => ?_, fun s hs => ?_⟩
  · rw [cnt_snoc]
    by_cases e : t.why = x
    · subst e
      rw [Maps.atKey_put_same (k := .int .i64 t.why) hD trivial]
      simp
    · rw [Maps.atKey_put_other (by intro h; injection h with _ h; exact e h.symm), h.cnt]
      simp [e]
  · by_cases e : kl = .int .i64 t.why
    · exact ⟨_, e, ht⟩
    · rw [Maps.has_put_other e] at hk
      exact h.keys kl hk
  · rcases List.mem_append.1 hs with hs | hs
    · exact h.good s hs
    · rw [List.mem_singleton.1 hs]; exact ht

/-- What is still to come, together. -/
def rem (left : Lit → Bool) (L : List Lr) : Nat :=
  (if left (.int .i64 1) then cnt L 1 else 0) + (if left (.int .i64 2) then cnt L 2 else 0) + (if left (.int .i64 3) then cnt L 3 else 0) + (if left (.int .i64 4) then cnt L 4 else 0) + (if left (.int .i64 5) then cnt L 5 else 0)
theorem rem_start {D : DataW Unit} {L : List Lr} (h : Dat D L) : rem (Maps.has D) L = L.length := by
  rw [← cnt_all L h.good]
  have key : ∀ x : Int, (if Maps.has D (.int .i64 x) = true then Dd.cnt L x else 0) = Dd.cnt L x := by
    intro x
    by_cases e : Maps.has D (.int .i64 x) = true
    · rw [if_pos e]
    · rw [if_neg e]
      have e0 : Maps.has D (.int .i64 x) = false := by simpa using e
      have := h.cnt x
      rw [Maps.atKey_of_not_has e0] at this
      injection this with this
      injection this with _ this
      omega
  unfold rem
  rw [key, key, key, key, key]
theorem rem_end {left : Lit → Bool} (L : List Lr) (h : ∀ kl, left kl = false) : rem left L = 0 := by simp [rem, h]
theorem rem_step {D : DataW Unit} {L : List Lr} (h : Dat D L) (left : Lit → Bool) (x c : Int) (hl : left (.int .i64 x) = true) (hat : ∀ zd, D.atKey (.int .i64 x) zd = .lit (.int .i64 c)) :
    c = (Dd.cnt L x : Nat) ∧ rem (fun z => left z && !z.sameKey (.int .i64 x)) L + Dd.cnt L x = rem left L := by
  have e1 := h.cnt x
  rw [hat] at e1
  injection e1 with e1
  injection e1 with _ e1
  refine ⟨e1, ?_⟩
  obtain ⟨x', ex, hx⟩ := h.keys _ (Maps.has_true_of_atKey hat)
  injection ex with _ ex
  subst ex
  have hx' := (right_iff _).1 hx
  have : x = 1 ∨ x = 2 ∨ x = 3 ∨ x = 4 ∨ x = 5 := by omega
  unfold rem
  rcases this with e | e | e | e | e <;> subst e <;> simp [Lit.sameKey, hl] <;> omega
end Go.Proofs.Ytpkphmemeapdfaa.Dd
