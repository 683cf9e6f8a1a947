/- act: plain words. -/
import Derived.Test.YtimnaiahokafaaaAcA
set_option linter.unusedVariables false
namespace Go.Proofs.Ytimnaiahokafaaa.Ac
open Go Go.RowKit Go.Proofs.Ytimnaiahokafaaa Lx Ps Ch

def zR : Rw := ⟨[], false, 0, []⟩
def zS : Sta := ⟨[], []⟩
def zK : Kd := ⟨[], 0, 0, [], []⟩
/-- Does a row fit a message? -/
def fitsR (t : Wd) (n : Int) (r : Rw) : Bool := decide (r.tag = []) || (decide (r.tag = t) && (!r.only || decide (r.n = n)))
def named (s : Wd) (x : Sta) : Bool := decide (x.name = s)
def called (s : Wd) (x : Kd) : Bool := decide (x.name = s)
def staOf (S : List Sta) (s : Wd) : Sta := (S.find? (named s)).getD zS
def rowO (S : List Sta) (s t : Wd) (n : Int) : Option Rw := (staOf S s).rows.find? (fitsR t n)
def rowOf (S : List Sta) (s t : Wd) (n : Int) : Rw := (rowO S s t n).getD zR
def numOf (e : Eff) (n : Int) : Int := if e.val = 0 then n else if e.val = 1 then (if n < 1 then 0 else n - 1) else e.n
def settle (e : Eff) (n : Int) : Eff := if e.act = 1 ∨ e.act = 8 then { e with val := 2, n := numOf e n } else e
structure Pl where
  stash : Bool
  effs : List Eff
  state : Wd
  stop : Bool
  fail : Wd
deriving Inhabited, DecidableEq
def runE (n : Int) : List Eff → List Eff → Wd → Pl
  | [], A, s => ⟨false, A, s, false, []⟩
  | e :: r, A, s => if e.act = 11 then ⟨false, A, s, true, []⟩ else if e.act = 12 then ⟨false, A, s, false, e.name⟩ else if e.act = 3 then runE n r A e.name else if e.act = 4 then runE n r A s else runE n r (A ++ [settle e n]) s
def putsE (E : List Eff) : Bool := match E with | [] => false | e :: _ => decide (e.act = 4)
def doE (n : Int) (E : List Eff) (s : Wd) : Pl := if putsE E then ⟨true, [], s, false, []⟩ else runE n E [] s
def planOf (S : List Sta) (s t : Wd) (n : Int) : Pl := doE n (rowOf S s t n).effs s

theorem numOf_in {e : Eff} {n : Int} (h : inW e.n) (hn : inW n) : inW (numOf e n) := by
  unfold numOf inW at *
  repeat' split
  all_goals omega
theorem settle_wf {e : Eff} {n : Int} (h : wfE e) (hn : inW n) : wfE (settle e n) := by
  unfold settle
  split
  · exact ⟨h.act, (show inW 2 from by unfold inW; omega), numOf_in h.n hn, h.delay, h.ref, h.slot, h.name⟩
  · exact h
/-! ### What a plan is -/
theorem runE_len (n : Int) (E A : List Eff) (s : Wd) : (runE n E A s).effs.length ≤ A.length + E.length := by
  induction E generalizing A s with
  | nil => simp [runE]
  | cons e r ih =>
    simp only [runE]
    have h1 := ih A e.name
    have h2 := ih A s
    have h3 := ih (A ++ [settle e n]) s
    rw [List.length_append] at h3
    simp only [List.length_cons, List.length_nil] at *
    (repeat' split) <;> (try dsimp only) <;> omega
theorem runE_mem {Q : Eff → Prop} (n : Int) (E A : List Eff) (s : Wd) (hA : ∀ e ∈ A, Q e) (hE : ∀ e ∈ E, ¬ e.act = 3 → ¬ e.act = 4 → ¬ e.act = 11 → ¬ e.act = 12 → Q (settle e n)) : ∀ e ∈ (runE n E A s).effs, Q e := by
  induction E generalizing A s with
  | nil => exact hA
  | cons e r ih =>
    simp only [runE]
    have hr : ∀ x ∈ r, ¬ x.act = 3 → ¬ x.act = 4 → ¬ x.act = 11 → ¬ x.act = 12 → Q (settle x n) := fun x hx => hE x (List.mem_cons_of_mem _ hx)
    split
    · exact hA
    split
    · exact hA
    split
    · exact ih A _ hA hr
    split
    · exact ih A _ hA hr
    refine ih _ _ (fun x hx => ?_) hr
    rcases List.mem_append.1 hx with h | h
    · exact hA x h
    · rw [List.mem_singleton.1 h]
      exact hE e (List.mem_cons_self ..) (by assumption) (by assumption) (by assumption) (by assumption)
/-- The reason of which a row's effects fail. -/
def failOf : List Eff → Wd
  | [] => []
  | e :: r => if e.act = 11 then [] else if e.act = 12 then e.name else failOf r
theorem runE_fail (n : Int) (E A : List Eff) (s : Wd) : (runE n E A s).fail = failOf E := by
  induction E generalizing A s with
  | nil => rfl
  | cons e r ih => simp only [runE, failOf]; (repeat' split) <;> first | rfl | exact ih _ _
theorem runE_stash (n : Int) (E A : List Eff) (s : Wd) : (runE n E A s).stash = false := by
  induction E generalizing A s with
  | nil => rfl
  | cons e r ih => simp only [runE]; (repeat' split) <;> first | rfl | exact ih _ _
theorem runE_ends (n : Int) (E A : List Eff) (s : Wd) : (runE n E A s).stop = false ∨ (runE n E A s).fail = [] := by
  induction E generalizing A s with
  | nil => exact Or.inl rfl
  | cons e r ih => simp only [runE]; (repeat' split) <;> first | exact Or.inl rfl | exact Or.inr rfl | exact ih _ _
theorem doE_len (n : Int) (E : List Eff) (s : Wd) : (doE n E s).effs.length ≤ E.length := by
  unfold doE
  split
  · exact Nat.zero_le _
  · have := runE_len n E [] s; simpa using this
/-! ### Names anew -/
def anew (e : Eff) : Eff := if e.act = 3 then { e with name := 113 :: e.name } else e
def anewR (r : Rw) : Rw := { r with effs := r.effs.map anew }
def anewS (x : Sta) : Sta := ⟨113 :: x.name, x.rows.map anewR⟩
theorem anew_act (e : Eff) : (anew e).act = e.act := by unfold anew; split <;> rfl
theorem anew_settle {e : Eff} (h : ¬ e.act = 3) : anew e = e := if_neg h
theorem runE_anew (n : Int) (E A : List Eff) (s : Wd) : runE n (E.map anew) A (113 :: s) = { runE n E A s with state := 113 :: (runE n E A s).state } := by
  induction E generalizing A s with
  | nil => rfl
  | cons e r ih =>
    simp only [List.map_cons, runE, anew_act]
    by_cases h3 : e.act = 3
    · have h11 : ¬ e.act = 11 := by omega
      have h12 : ¬ e.act = 12 := by omega
      rw [if_neg h11, if_neg h12, if_pos h3, if_neg h11, if_neg h12, if_pos h3]
      have := ih A e.name
      simp only [anew, h3, if_true]
      simpa using this
    · simp only [anew_settle h3, if_neg h3]
      (repeat' split) <;> first | rfl | exact ih _ _
theorem putsE_anew (E : List Eff) : putsE (E.map anew) = putsE E := by
  cases E with
  | nil => rfl
  | cons e r => simp only [List.map_cons, putsE, anew_act]
theorem doE_anew (n : Int) (E : List Eff) (s : Wd) : doE n (E.map anew) (113 :: s) = { doE n E s with state := 113 :: (doE n E s).state } := by
  unfold doE
  rw [putsE_anew]
  split
  · rfl
  · exact runE_anew n E [] s
theorem sta_anew (S : List Sta) (s : Wd) : (staOf (S.map anewS) (113 :: s)).rows = (staOf S s).rows.map anewR := by
  unfold staOf
  rw [List.find?_map]
  have : (named (113 :: s) ∘ anewS) = named s := by
    funext x
    simp [named, anewS]
  rw [this]
  cases S.find? (named s) <;> rfl
theorem row_anew (S : List Sta) (s t : Wd) (n : Int) : (rowOf (S.map anewS) (113 :: s) t n).effs = (rowOf S s t n).effs.map anew := by
  unfold rowOf rowO
  rw [sta_anew, List.find?_map]
  have : (fitsR t n ∘ anewR) = fitsR t n := by funext x; rfl
  rw [this]
  cases (staOf S s).rows.find? (fitsR t n) <;> rfl
theorem plan_anew (S : List Sta) (s t : Wd) (n : Int) : planOf (S.map anewS) (113 :: s) t n = { planOf S s t n with state := 113 :: (planOf S s t n).state } := by
  unfold planOf
  rw [row_anew]
  exact doE_anew _ _ _
/-! ### Two rows changed about -/
theorem find_swap {α : Type} (p : α → Bool) (L : List α) (j : Nat) (x y : α) (hx : L[j]? = some x) (hy : L[j + 1]? = some y) (h : ¬ (p x = true ∧ p y = true)) : ((L.set j y).set (j + 1) x).find? p = L.find? p := by
  induction L generalizing j with
  | nil => simp at hx
  | cons a L ih =>
    cases j with
    | zero =>
      simp only [List.getElem?_cons_zero, Option.some.injEq] at hx
      subst hx
      cases L with
      | nil => simp at hy
      | cons b M =>
        simp only [List.getElem?_cons_succ, List.getElem?_cons_zero, Option.some.injEq, Nat.zero_add] at hy
        subst hy
        simp only [List.set_cons_zero, Nat.zero_add, List.set_cons_succ, List.find?_cons]
        cases ha : p a <;> cases hb : p b <;> simp_all
    | succ j =>
      simp only [List.getElem?_cons_succ] at hx hy
      simp only [List.set_cons_succ, List.find?_cons]
      rw [ih j hx hy]
theorem find_set {α : Type} (p : α → Bool) (L : List α) (j : Nat) (x y : α) (hx : L[j]? = some x) (h : p y = p x) {β : Type} (f : α → β) (hf : f y = f x) : ((L.set j y).find? p).map f = (L.find? p).map f := by
  induction L generalizing j with
  | nil => simp at hx
  | cons a L ih =>
    cases j with
    | zero =>
      simp only [List.getElem?_cons_zero, Option.some.injEq] at hx
      subst hx
      simp only [List.set_cons_zero, List.find?_cons, h]
      cases p a <;> simp [hf]
    | succ j =>
      simp only [List.getElem?_cons_succ] at hx
      simp only [List.set_cons_succ, List.find?_cons]
      cases p a
      · exact ih j hx
      · rfl
/-- Rows in another order at one state. -/
theorem rowO_set (S : List Sta) (i : Nat) (st : Sta) (R : List Rw) (hi : S[i]? = some st) (t : Wd) (n : Int) (hR : R.find? (fitsR t n) = st.rows.find? (fitsR t n)) (s : Wd) : rowO (S.set i ⟨st.name, R⟩) s t n = rowO S s t n := by
  have h := find_set (named s) S i st ⟨st.name, R⟩ hi rfl (fun x => x.rows.find? (fitsR t n)) hR
  unfold rowO staOf
  cases h1 : (S.set i ⟨st.name, R⟩).find? (named s) <;> cases h2 : S.find? (named s) <;> rw [h1, h2] at h <;> simp_all [zS]
theorem fits_no {t : Wd} {n : Int} {x y : Rw} (h1 : ¬ x.tag = []) (h2 : ¬ y.tag = []) (h3 : ¬ (x.tag = y.tag ∧ (x.only = false ∨ y.only = false ∨ x.n = y.n))) : ¬ (fitsR t n x = true ∧ fitsR t n y = true) := by
  unfold fitsR
  simp only [Bool.or_eq_true, decide_eq_true_eq, Bool.and_eq_true, Bool.not_eq_true']
  rintro ⟨a, b⟩
  rcases a with a | ⟨a1, a2⟩
  · exact h1 a
  rcases b with b | ⟨b1, b2⟩
  · exact h2 b
  refine h3 ⟨a1.trans b1.symm, ?_⟩
  rcases a2 with a2 | a2
  · exact Or.inl a2
  rcases b2 with b2 | b2
  · exact Or.inr (Or.inl b2)
  · exact Or.inr (Or.inr (a2.trans b2.symm))
end Go.Proofs.Ytimnaiahokafaaa.Ac
