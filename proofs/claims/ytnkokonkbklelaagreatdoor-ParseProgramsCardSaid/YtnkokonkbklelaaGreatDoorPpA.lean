/- parse, the document's reader, in plain words: a state that is bad or has tokens left; what the document's words come to, beside the reading of PR. -/
import Derived.Test.YtnkokonkbklelaaGreatDoorPsM1
set_option linter.unusedSimpArgs false
set_option linter.unusedVariables false
namespace Go.Proofs.YtnkokonkbklelaaGreatDoor.Ps
open Go.RowKit Go.Proofs.YtnkokonkbklelaaGreatDoor Lx

/-- Is it bad; what is left. -/
abbrev DSt := Bool × Tks
def stOf {α : Type} : PR α → DSt
  | .ok _ r => (false, r)
  | .bad r => (true, r)
/-- What a reader leaves: nothing moves once it is bad. -/
def lift {α : Type} (p : Tks → PR α) (st : DSt) : DSt := if st.1 = true then st else stOf (p st.2)
/-- a is what p reads there, if it reads. -/
def Val {α : Type} (p : Tks → PR α) (st : DSt) (a : α) : Prop := st.1 = false → ∀ a' r, p st.2 = .ok a' r → a = a'
theorem lift_bad {α : Type} (p : Tks → PR α) (T : Tks) : lift p (true, T) = (true, T) := rfl
theorem lift_bad' {α : Type} (p : Tks → PR α) {st : DSt} (h : st.1 = true) : lift p st = st := by unfold lift; rw [if_pos h]
theorem lift_go {α : Type} (p : Tks → PR α) (T : Tks) : lift p (false, T) = stOf (p T) := rfl
theorem lift_bind {α β : Type} {p : Tks → PR α} {q : α → Tks → PR β} {st : DSt} {a : α} (h : Val p st a) : lift (fun T => (p T).bind q) st = lift (q a) (lift p st) := by
  obtain ⟨b, T⟩ := st
  cases b with
  | true => rfl
  | false =>
    rw [lift_go, lift_go]
    cases hp : p T with
    | ok a' r =>
      have := h rfl a' r hp
      subst this
      rfl
    | bad r => rfl
theorem Val.bind {α β : Type} {p : Tks → PR α} {q : α → Tks → PR β} {st : DSt} {a : α} {b : β} (h : Val p st a) (k : Val (q a) (lift p st) b) : Val (fun T => (p T).bind q) st b := by
  obtain ⟨z, T⟩ := st
  intro hz b' r he
  simp only at hz
  subst hz
  simp only at he
  cases hp : p T with
  | ok a' r1 =>
    have := h rfl a' r1 hp
    subst this
    rw [hp] at he
    rw [lift_go, hp] at k
    exact k rfl b' r he
  | bad r1 =>
    rw [hp] at he
    cases he
theorem Val.ret {α : Type} (a : α) (st : DSt) : Val (fun T => .ok a T) st a := by
  intro _ a' r h
  cases h
  rfl
theorem lift_ret {α : Type} (a : α) (st : DSt) : lift (fun T => PR.ok a T) st = st := by
  obtain ⟨b, T⟩ := st
  cases b <;> rfl
theorem lift_congr {α : Type} {p q : Tks → PR α} {st : DSt} (h : st.1 = false → p st.2 = q st.2) : lift p st = lift q st := by
  obtain ⟨b, T⟩ := st
  cases b with
  | true => rfl
  | false => rw [lift_go, lift_go, show p T = q T from h rfl]
theorem Val.congr {α : Type} {p q : Tks → PR α} {st : DSt} {a : α} (h : st.1 = false → p st.2 = q st.2) (k : Val q st a) : Val p st a := by
  intro hb a' r he
  rw [h hb] at he
  exact k hb a' r he
theorem Val.of_bad {α : Type} {p : Tks → PR α} {st : DSt} (h : st.1 = true) (a : α) : Val p st a := by
  intro hb
  rw [h] at hb
  cases hb
/-- Is the next one this word? -/
def dW (s : Wd) (st : DSt) : Bool := !st.1 && (hw st.2 == s)
theorem dW_yes {s : Wd} {st : DSt} (h : dW s st = true) : st.1 = false ∧ hw st.2 = s := by
  unfold dW at h
  rw [Bool.and_eq_true, Bool.not_eq_true', beq_iff_eq] at h
  exact h
theorem dW_no {s : Wd} {st : DSt} (h : dW s st = false) (hb : st.1 = false) : hw st.2 ≠ s := by
  intro e
  unfold dW at h
  rw [hb, e] at h
  simp at h
theorem dW_bad {s : Wd} {st : DSt} (hb : st.1 = true) : dW s st = false := by unfold dW; rw [hb]; rfl
theorem dW_pass {s : Wd} {st : DSt} (h : dW s st = true) : lift (pass s) st = (false, st.2.tail) := by
  obtain ⟨h1, h2⟩ := dW_yes h
  obtain ⟨b, T⟩ := st
  simp only at h1
  subst h1
  rw [lift_go]
  unfold pass
  rw [if_pos h2]
  rfl
theorem dW_must {s : Wd} {st : DSt} (h : dW s st = false) : lift (pass s) st = (true, st.2) := by
  obtain ⟨b, T⟩ := st
  cases b with
  | true => rfl
  | false =>
    rw [lift_go]
    unfold pass
    rw [if_neg (dW_no h rfl)]
    rfl
theorem pass_val (s : Wd) (st : DSt) : Val (pass s) st () := fun _ _ _ _ => rfl
/-- The token that comes next, if it is of kind k. -/
def dO (k : Nat) (st : DSt) : Bool := !st.1 && (!st.2.isEmpty && hk st.2 == k)
def tok_0 : Tok := ⟨0, [], 0⟩
def dT (k : Nat) (st : DSt) : Tok := if dO k st = true then (st.2.headD (tok_0, 0)).1 else tok_0
theorem dO_yes {k : Nat} {st : DSt} (h : dO k st = true) : st.1 = false ∧ ∃ x r, st.2 = x :: r ∧ x.1.k = k := by
  obtain ⟨b, T⟩ := st
  unfold dO at h
  rw [Bool.and_eq_true, Bool.and_eq_true, Bool.not_eq_true', Bool.not_eq_true', beq_iff_eq] at h
  refine ⟨h.1, ?_⟩
  cases T with
  | nil => simp at h
  | cons x r => exact ⟨x, r, rfl, h.2.2⟩
theorem dO_lift {k : Nat} {st : DSt} (h : dO k st = true) : lift (tk k) st = (false, st.2.tail) := by
  obtain ⟨h1, x, r, h2, h3⟩ := dO_yes h
  obtain ⟨b, T⟩ := st
  simp only at h1 h2
  subst h1 h2
  rw [lift_go, tk_c, if_pos h3]
  rfl
theorem dO_not {k : Nat} {st : DSt} (h : dO k st = false) : lift (tk k) st = (true, st.2) := by
  obtain ⟨b, T⟩ := st
  cases b with
  | true => rfl
  | false =>
    rw [lift_go]
    cases T with
    | nil => rfl
    | cons x r =>
      rw [tk_c, if_neg]
      · rfl
      · intro e
        simp [dO, hk, e] at h
theorem dT_val (k : Nat) (st : DSt) : Val (tk k) st (dT k st) := by
  obtain ⟨b, T⟩ := st
  intro hb a' r he
  simp only at hb he
  subst hb
  cases T with
  | nil => cases he
  | cons x r' =>
    rw [tk_c] at he
    split at he
    · rename_i e
      cases he
      unfold dT
      rw [if_pos (by simp [dO, hk, e])]
      rfl
    · cases he

/-! ### Loops -/
/-- A loop that stands at st, behind what it has read: what is left to do is what there was to do. -/
def Lp {α : Type} (F : Tks → PR (List α)) (st0 st : DSt) (A : List α) : Prop :=
  lift F st0 = lift F st ∧ ∀ l r, st0.1 = false → F st0.2 = .ok l r → ∃ l', st.1 = false ∧ F st.2 = .ok l' r ∧ l = A ++ l'
theorem Lp.start {α : Type} (F : Tks → PR (List α)) (st : DSt) : Lp F st st [] := ⟨rfl, fun l r h1 h2 => ⟨l, h1, h2, rfl⟩⟩
theorem lift_cons {α : Type} (F : Tks → PR (List α)) (a : α) (st : DSt) : lift (fun T => (F T).bind fun l r' => .ok (a :: l) r') st = lift F st := by
  obtain ⟨b, T⟩ := st
  cases b with
  | true => rfl
  | false =>
    rw [lift_go, lift_go]
    cases F T <;> rfl
theorem Lp.step {α : Type} {F : Tks → PR (List α)} {p : Tks → PR α} {st0 st : DSt} {A : List α} {a : α} (h : Lp F st0 st A) (hs : st.1 = false → F st.2 = (p st.2).bind fun a r => (F r).bind fun l r' => .ok (a :: l) r') (hv : Val p st a) : Lp F st0 (lift p st) (A ++ [a]) := by
  refine ⟨?_, fun l r h1 h2 => ?_⟩
  · rw [h.1, lift_congr (q := fun T => (p T).bind fun a r => (F r).bind fun l r' => .ok (a :: l) r') hs, lift_bind hv, lift_cons]
  · obtain ⟨l', hb, hl', rfl⟩ := h.2 l r h1 h2
    rw [hs hb] at hl'
    obtain ⟨b, T⟩ := st
    simp only at hb hl'
    subst hb
    cases hp : p T with
    | bad r1 => rw [hp] at hl'; cases hl'
    | ok a' r1 =>
      have e := hv rfl a' r1 hp
      subst e
      rw [hp] at hl'
      rw [lift_go, hp]
      simp only [PR.bind_ok] at hl'
      cases hf : F r1 with
      | bad r2 => rw [hf] at hl'; cases hl'
      | ok l2 r2 =>
        rw [hf] at hl'
        cases hl'
        exact ⟨l2, rfl, hf, by simp⟩
theorem Lp.endBad {α : Type} {F : Tks → PR (List α)} {st0 st : DSt} {A : List α} (h : Lp F st0 st A) (hb : st.1 = true) : lift F st0 = st ∧ Val F st0 A := by
  refine ⟨by rw [h.1, lift_bad' _ hb], fun h0 l r he => ?_⟩
  obtain ⟨l', h1, _⟩ := h.2 l r h0 he
  rw [hb] at h1
  cases h1
theorem Lp.endOk {α : Type} {F : Tks → PR (List α)} {st0 st : DSt} {A : List α} {r : Tks} (h : Lp F st0 st A) (hb : st.1 = false) (he : F st.2 = .ok [] r) : lift F st0 = (false, r) ∧ Val F st0 A := by
  obtain ⟨b, T⟩ := st
  simp only at hb he
  subst hb
  refine ⟨by rw [h.1, lift_go, he]; rfl, fun h0 l r' h2 => ?_⟩
  obtain ⟨l', h1, h3, rfl⟩ := h.2 l r' h0 h2
  simp only at h3
  rw [he] at h3
  cases h3
  simp
theorem Lp.endBy {α β : Type} {F : Tks → PR (List α)} {q : Tks → PR β} {st0 st : DSt} {A : List α} (h : Lp F st0 st A) (he : st.1 = false → F st.2 = (q st.2).bind fun _ r => .ok [] r) : lift F st0 = lift q st ∧ Val F st0 A := by
  obtain ⟨b, T⟩ := st
  cases b with
  | true => exact ⟨(h.endBad rfl).1, (h.endBad rfl).2⟩
  | false =>
    have he' := he rfl
    simp only at he'
    refine ⟨?_, fun h0 l r' h2 => ?_⟩
    · rw [h.1, lift_go, lift_go, he']
      cases q T <;> rfl
    · obtain ⟨l', h1, h3, rfl⟩ := h.2 l r' h0 h2
      simp only at h3
      rw [he'] at h3
      cases hq : q T with
      | ok a r1 => rw [hq] at h3; cases h3; simp
      | bad r1 => rw [hq] at h3; cases h3
end Go.Proofs.YtnkokonkbklelaaGreatDoor.Ps
