/- A worker that lies down and then looks, and one that brings and then rings: what stays true, in plain words. -/
import Derived.Test.YtfhbgabblegecaaBlX
namespace Go.Proofs.Ytfhbgabblegecaa.Bl
open Go.RowKit

/-- What stays true: n workers, k is the one; L the cells, p its Sleep, r the Ring. -/
structure MI (n k : Nat) (L : List Int) (p r : OS) (saw looked brought : Bool) : Prop where
  kn : k < n
  len : L.length = n + 1
  oth : ∀ j, j < n → j ≠ k → L.getD j 0 = 0
  flag : L.getD n 0 = if brought then 1 else 0
  ring0 : brought = false → r = .look 0
  saw0 : looked = false → saw = false
  st : (∃ x, p = .one .sleep k x (x + 1) ∧ L.getD k 0 = 0 ∧ looked = false ∧ ((∃ v, r = .look v ∧ v < n) ∨ r = .over 4 (-1)))
    ∨ (p = .over 1 (-1) ∧ L.getD k 0 = 1 ∧ ((∃ v, r = .look v ∧ v ≤ k) ∨ r = .rouse k ∨ (((∃ v, r = .look v ∧ k < v ∧ v < n) ∨ r = .over 4 (-1)) ∧ brought = true ∧ (looked = true → saw = true))))
    ∨ (p = .over 1 (-1) ∧ L.getD k 0 = 0 ∧ r = .over 7 (k : Int))

/-- How many steps a Ring still makes, at most. -/
def rk (n : Nat) : OS → Nat
  | .look v => 2 * (n - v)
  | .rouse v => 2 * (n - v) - 1
  | _ => 0
theorem rk_on (n v : Nat) : rk n (on n v) ≤ 2 * (n - v) - 2 := by
  unfold on; split
  · simp [rk]
  · simp [rk]; omega
theorem step_sleep (n k x y : Nat) (L : List Int) : stepS 0 n L (.one .sleep k x y) = .over 1 (-1) ∧ stepL 0 L (.one .sleep k x y) = L.set k 1 := by
  constructor
  · rfl
  · simp [stepL, acc, Kd.acc, doAcc]
theorem step_look1 (n v : Nat) (L : List Int) (h : L.getD v 0 = 1) : stepS 0 n L (.look v) = .rouse v ∧ stepL 0 L (.look v) = L := by
  constructor
  · unfold stepS acc doAcc res; simp only [Nat.zero_add]; rw [if_pos h]
  · rfl
theorem step_look0 (n v : Nat) (L : List Int) (h : L.getD v 0 = 0) : stepS 0 n L (.look v) = on n v ∧ stepL 0 L (.look v) = L := by
  constructor
  · unfold stepS acc doAcc res; simp only [Nat.zero_add]; rw [if_neg (by omega)]
  · rfl
theorem step_rouse1 (n v : Nat) (L : List Int) (h : L.getD v 0 = 1) : stepS 0 n L (.rouse v) = .over 7 (v : Int) ∧ stepL 0 L (.rouse v) = L.set v 0 := by
  have e : doAcc L (acc 0 (.rouse v)) = (L.set v 0, 1) := by
    unfold acc doAcc; simp only [Nat.zero_add]; rw [if_pos h]
  constructor
  · unfold stepS; rw [e]; rfl
  · unfold stepL; rw [e]
theorem step_rouse0 (n v : Nat) (L : List Int) (h : ¬ L.getD v 0 = 1) : stepS 0 n L (.rouse v) = on n v ∧ stepL 0 L (.rouse v) = L := by
  have e : doAcc L (acc 0 (.rouse v)) = (L, 0) := by
    unfold acc doAcc; simp only [Nat.zero_add]; rw [if_neg h]
  constructor
  · unfold stepS; rw [e]; rfl
  · unfold stepL; rw [e]
theorem step_over (n o : Nat) (x : Int) (L : List Int) : stepS 0 n L (.over o x) = .over o x ∧ stepL 0 L (.over o x) = L := ⟨rfl, rfl⟩
theorem set_other (L : List Int) (i j : Nat) (x : Int) (h : i ≠ j) : (L.set i x).getD j 0 = L.getD j 0 := by simp [h]
theorem set_same (L : List Int) (i : Nat) (x : Int) (h : i < L.length) : (L.set i x).getD i 0 = x := by simp [h]

section
variable {n k : Nat} {L : List Int} {p r : OS} {saw looked brought : Bool}
theorem MI.sleep (h : MI n k L p r saw looked brought) (hp : p.isO = false) : MI n k (stepL 0 L p) (stepS 0 n L p) r saw looked brought ∧ (stepS 0 n L p).isO = true := by
  obtain ⟨kn, len, oth, flag, ring0, saw0, st⟩ := h
  rcases st with ⟨x, rfl, h0, rfl, hr⟩ | ⟨rfl, _⟩ | ⟨rfl, _⟩
  · rw [(step_sleep n k x (x + 1) L).1, (step_sleep n k x (x + 1) L).2]
    refine ⟨⟨kn, by simpa using len, fun j h1 h2 => by rw [set_other _ _ _ _ (fun e => h2 e.symm)]; exact oth j h1 h2, by rw [set_other _ _ _ _ (by omega)]; exact flag, ring0, saw0, .inr (.inl ⟨rfl, set_same _ _ _ (by omega), ?_⟩)⟩, rfl⟩
    rcases hr with ⟨v, rfl, hv⟩ | rfl
    · by_cases hvk : v ≤ k
      · exact .inl ⟨v, rfl, hvk⟩
      · refine .inr (.inr ⟨.inl ⟨v, rfl, by omega, hv⟩, ?_, fun h => by cases h⟩)
        cases brought with
        | true => rfl
        | false => have := ring0 rfl; injection this with e; omega
    · refine .inr (.inr ⟨.inr rfl, ?_, fun h => by cases h⟩)
      cases brought with
      | true => rfl
      | false => have := ring0 rfl; cases this
  · cases hp
  · cases hp
theorem MI.look (h : MI n k L p r saw false brought) (hp : p.isO = true) : MI n k L p r (decide (L.getD n 0 = 1)) true brought := by
  obtain ⟨kn, len, oth, flag, ring0, saw0, st⟩ := h
  refine ⟨kn, len, oth, flag, ring0, fun h => (by cases h), ?_⟩
  rcases st with ⟨x, rfl, _⟩ | ⟨rfl, h1, h2⟩ | h3
  · cases hp
  · refine .inr (.inl ⟨rfl, h1, ?_⟩)
    rcases h2 with h2 | h2 | ⟨h2, rfl, _⟩
    · exact .inl h2
    · exact .inr (.inl h2)
    · refine .inr (.inr ⟨h2, rfl, fun _ => ?_⟩)
      rw [flag]; rfl
  · exact .inr (.inr h3)
theorem MI.bring (h : MI n k L p r saw looked false) : MI n k (L.set n 1) p r saw looked true := by
  obtain ⟨kn, len, oth, flag, ring0, saw0, st⟩ := h
  have hr := ring0 rfl
  subst hr
  refine ⟨kn, by simpa using len, fun j h1 h2 => by rw [set_other _ _ _ _ (by omega)]; exact oth j h1 h2, by rw [set_same _ _ _ (by omega)]; rfl, fun h => (by cases h), saw0, ?_⟩
  rw [set_other L n k 1 (by omega)]
  rcases st with ⟨x, rfl, h0, hl, hr⟩ | ⟨rfl, h1, h2⟩ | ⟨_, _, h3⟩
  · exact .inl ⟨x, rfl, h0, hl, hr⟩
  · exact .inr (.inl ⟨rfl, h1, .inl ⟨0, rfl, Nat.zero_le _⟩⟩)
  · cases h3
theorem on_form (n v : Nat) (h : v < n) : (∃ u, on n v = .look u ∧ u = v + 1 ∧ u < n) ∨ on n v = .over 4 (-1) := by
  unfold on; split
  · exact .inr rfl
  · exact .inl ⟨v + 1, rfl, rfl, by omega⟩
theorem MI.ring (h : MI n k L p r saw looked true) : MI n k (stepL 0 L r) p (stepS 0 n L r) saw looked true ∧ rk n (stepS 0 n L r) ≤ rk n r - 1 := by
  obtain ⟨kn, len, oth, flag, ring0, saw0, st⟩ := h
  rcases st with ⟨x, rfl, h0, hl, ⟨v, rfl, hv⟩ | rfl⟩ | ⟨rfl, h1, ⟨v, rfl, hv⟩ | rfl | ⟨⟨v, rfl, hv, hv2⟩ | rfl, _, hs⟩⟩ | ⟨rfl, h1, rfl⟩
  · have hz : L.getD v 0 = 0 := by
      by_cases e : v = k
      · subst e; exact h0
      · exact oth v hv e
    rw [(step_look0 n v L hz).1, (step_look0 n v L hz).2]
    refine ⟨⟨kn, len, oth, flag, fun h => (by cases h), saw0, .inl ⟨x, rfl, h0, hl, ?_⟩⟩, Nat.le_trans (rk_on n v) (by simp only [rk]; omega)⟩
    rcases on_form n v hv with ⟨u, e, _, hu⟩ | e
    · exact .inl ⟨u, e, hu⟩
    · exact .inr e
  · exact ⟨⟨kn, len, oth, flag, fun h => (by cases h), saw0, .inl ⟨x, rfl, h0, hl, .inr rfl⟩⟩, by simp [rk, stepS, res]⟩
  · by_cases e : v = k
    · subst e
      rw [(step_look1 n v L h1).1, (step_look1 n v L h1).2]
      exact ⟨⟨kn, len, oth, flag, fun h => (by cases h), saw0, .inr (.inl ⟨rfl, h1, .inr (.inl rfl)⟩)⟩, by simp only [rk]; omega⟩
    · have hz := oth v (by omega) e
      rw [(step_look0 n v L hz).1, (step_look0 n v L hz).2]
      refine ⟨⟨kn, len, oth, flag, fun h => (by cases h), saw0, .inr (.inl ⟨rfl, h1, .inl ⟨v + 1, ?_, by omega⟩⟩)⟩, Nat.le_trans (rk_on n v) (by simp only [rk]; omega)⟩
      unfold on; rw [if_neg (by omega)]
  · rw [(step_rouse1 n k L h1).1, (step_rouse1 n k L h1).2]
    exact ⟨⟨kn, by simpa using len, fun j h2 h3 => by rw [set_other _ _ _ _ (fun e => h3 e.symm)]; exact oth j h2 h3, by rw [set_other _ _ _ _ (by omega)]; exact flag, fun h => (by cases h), saw0, .inr (.inr ⟨rfl, set_same _ _ _ (by omega), rfl⟩)⟩, by simp [rk]⟩
  · have hz := oth v hv2 (by omega)
    rw [(step_look0 n v L hz).1, (step_look0 n v L hz).2]
    refine ⟨⟨kn, len, oth, flag, fun h => (by cases h), saw0, .inr (.inl ⟨rfl, h1, .inr (.inr ⟨?_, rfl, hs⟩)⟩)⟩, Nat.le_trans (rk_on n v) (by simp only [rk]; omega)⟩
    rcases on_form n v hv2 with ⟨u, e, eu, hu⟩ | e
    · exact .inl ⟨u, e, by omega, hu⟩
    · exact .inr e
  · exact ⟨⟨kn, len, oth, flag, fun h => (by cases h), saw0, .inr (.inl ⟨rfl, h1, .inr (.inr ⟨.inr rfl, rfl, hs⟩)⟩)⟩, by simp [rk, stepS, res]⟩
  · exact ⟨⟨kn, len, oth, flag, fun h => (by cases h), saw0, .inr (.inr ⟨rfl, h1, rfl⟩)⟩, by simp [rk, stepS, res]⟩
/-- At the end. -/
theorem MI.fin (h : MI n k L p r saw true true) (hr : rk n r = 0) : (L.getD k 0 = 0 ∧ r = .over 7 (k : Int)) ∨ (L.getD k 0 = 1 ∧ r = .over 4 (-1) ∧ saw = true) := by
  obtain ⟨kn, len, oth, flag, ring0, saw0, st⟩ := h
  rcases st with ⟨x, rfl, h0, hl, _⟩ | ⟨rfl, h1, ⟨v, rfl, hv⟩ | rfl | ⟨⟨v, rfl, hv, hv2⟩ | rfl, _, hs⟩⟩ | ⟨rfl, h1, rfl⟩
  · cases hl
  · simp only [rk] at hr; omega
  · simp only [rk] at hr; omega
  · simp only [rk] at hr; omega
  · exact .inr ⟨h1, rfl, hs rfl⟩
  · exact .inl ⟨h1, rfl⟩
theorem MI.start (n k x : Nat) (hk : k < n) : MI n k (zeros (n + 1)) (.one .sleep k x (x + 1)) (.look 0) false false false :=
  ⟨hk, length_zeros _, fun j _ _ => getD_zeros _ _, getD_zeros _ _, fun _ => rfl, fun _ => rfl, .inl ⟨x, rfl, getD_zeros _ _, rfl, .inl ⟨0, rfl, by omega⟩⟩⟩
end
end Go.Proofs.Ytfhbgabblegecaa.Bl
