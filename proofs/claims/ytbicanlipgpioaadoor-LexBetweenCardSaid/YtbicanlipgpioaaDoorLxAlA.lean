/- lex: a token alone; tokens with a blank behind each, in plain words. -/
import Derived.Test.YtbicanlipgpioaaDoorLxNuA
namespace Go.Proofs.YtbicanlipgpioaaDoor.Lx
open Go.RowKit Go.Proofs.YtbicanlipgpioaaDoor

/-- A token that stood somewhere. -/
def Good (t : Tok) : Prop := ∃ c r, tok (c :: r) = (0, t) ∧ isBl c = false ∧ (c == 35) = false
theorem good_LX (N k : Nat) (m : List UInt8) (hk : m.length ≤ k) : ∀ x ∈ (LX N m).1, Good x.1 := by
  induction k generalizing m with
  | zero =>
    have : m = [] := List.eq_nil_of_length_eq_zero (by omega)
    subst this
    rw [LX_nil rfl]; intro x hx; cases hx
  | succ k ih =>
    cases hs : sk false m with
    | nil => rw [LX_nil hs]; intro x hx; cases hx
    | cons c r =>
      by_cases h0 : (tok (c :: r)).1 = 0
      · rw [LX_tok hs h0]
        have hl1 := sk_le false m
        rw [hs] at hl1
        obtain ⟨hp, hpre⟩ := tok_pos h0
        have hpl := hpre.length_le
        intro x hx
        rcases List.mem_cons.1 hx with rfl | hx
        · exact ⟨c, r, by rw [← h0], (sk_head hs).1, (sk_head hs).2⟩
        · exact ih _ (by simp at hl1 hpl ⊢; omega) x hx
      · rw [LX_bad hs h0]; intro x hx; cases hx
/-- What stands behind a token does not belong to it. -/
def Stop (R : List UInt8) : Prop := ∀ d R', R = d :: R' → isWd d = false
theorem take_stop {D R : List UInt8} (h : ∀ x ∈ D, isWd x = true) (hR : Stop R) : (D ++ R).takeWhile isWd = D := by
  cases R with
  | nil => rw [List.append_nil]; exact take_self h
  | cons d R => exact take_all h d (hR d R rfl) R
theorem take_mem {l : List UInt8} : ∀ x ∈ l.takeWhile isWd, isWd x = true := fun x hx => List.all_eq_true.1 (List.all_takeWhile (l := l) (p := isWd)) x hx
theorem good_again {t : Tok} (h : Good t) (R : List UInt8) (hR : Stop R) : ∃ c v, t.w = c :: v ∧ sk false (t.w ++ R) = c :: (v ++ R) ∧ tok (c :: (v ++ R)) = (0, t) := by
  obtain ⟨c, r, ht, h1, h2⟩ := h
  have hw : ∀ x ∈ (c :: r).takeWhile isWd, isWd x = true := take_mem
  rw [tok_c] at ht
  by_cases hl : isLe c = true
  · rw [if_pos hl] at ht
    split at ht
    · simp at ht
    · rename_i h16
      have ht' : (⟨1, (c :: r).takeWhile isWd, 0⟩ : Tok) = t := (Prod.mk.inj ht).2
      have e0 : (c :: r).takeWhile isWd = c :: r.takeWhile isWd := by simp [isWd_of_le hl]
      rw [e0] at ht' hw h16
      subst ht'
      refine ⟨c, r.takeWhile isWd, rfl, sk_stays h1 h2, ?_⟩
      have e1 := take_stop hw hR
      rw [List.cons_append] at e1
      rw [tok_c, if_pos hl, e1, if_neg h16]
  · rw [if_neg hl] at ht
    by_cases hd : isDi c = true
    · rw [if_pos hd] at ht
      split at ht
      · rename_i h3
        have ht' : (⟨2, (c :: r).takeWhile isWd, vl 0 ((c :: r).takeWhile isWd)⟩ : Tok) = t := (Prod.mk.inj ht).2
        have e0 : (c :: r).takeWhile isWd = c :: r.takeWhile isWd := by simp [isWd_of_di hd]
        rw [e0] at ht' hw h3
        subst ht'
        refine ⟨c, r.takeWhile isWd, rfl, sk_stays h1 h2, ?_⟩
        have e1 := take_stop hw hR
        rw [List.cons_append] at e1
        rw [tok_c, if_neg hl, if_pos hd, e1, if_pos h3]
      · simp at ht
    · rw [if_neg hd] at ht
      split at ht
      · rename_i h3
        have ht' : (⟨3, [c], 0⟩ : Tok) = t := (Prod.mk.inj ht).2
        subst ht'
        refine ⟨c, [], rfl, sk_stays h1 h2, ?_⟩
        rw [List.nil_append, tok_c, if_neg hl, if_neg hd, if_pos h3]
      · simp at ht
theorem stop_nil : Stop [] := fun d R' h => by cases h
theorem stop_cons {d : UInt8} (R : List UInt8) (h : isWd d = false) : Stop (d :: R) := fun e R' he => by cases he; exact h
theorem LX_good {t : Tok} (h : Good t) (R : List UInt8) (hR : Stop R) (N : Nat) : LX N (t.w ++ R) = ((t, N - (t.w.length + R.length)) :: (LX N R).1, (LX N R).2) := by
  obtain ⟨c, v, hw, hs, ht⟩ := good_again h R hR
  have e := LX_tok (N := N) hs (by rw [ht])
  rw [ht] at e
  have hd : (c :: (v ++ R)).drop t.w.length = R := by
    rw [← List.cons_append, ← hw]; exact List.drop_left
  rw [hd] at e
  have hl : (v ++ R).length + 1 = t.w.length + R.length := by rw [hw]; simp; omega
  rw [hl] at e
  exact e
theorem whole_one {t : Tok} (h : Good t) (hl : t.w.length ≤ 16384) : whole t.w = ([(t, 0)], 0, 0) := by
  unfold whole
  rw [if_neg (by omega)]
  have e := LX_good h [] stop_nil t.w.length
  rw [List.append_nil, LX_nil (l := []) rfl] at e
  rw [e]
  simp
/-- Each token's bytes and a blank behind. -/
def cat (X : List (Tok × Nat)) : List UInt8 := X.flatMap fun x => x.1.w ++ [32]
theorem cat_cons (x : Tok × Nat) (X : List (Tok × Nat)) : cat (x :: X) = x.1.w ++ (32 :: cat X) := by simp [cat]
theorem cat_snoc (X : List (Tok × Nat)) (x : Tok × Nat) : cat (X ++ [x]) = cat X ++ x.1.w ++ [32] := by simp [cat]
theorem LX_cat (N : Nat) (X : List (Tok × Nat)) (h : ∀ x ∈ X, Good x.1) : (LX N (cat X)).1.map (·.1) = X.map (·.1) ∧ (LX N (cat X)).2 = (0, 0) := by
  induction X with
  | nil => exact ⟨rfl, rfl⟩
  | cons x X ih =>
    obtain ⟨h1, h2⟩ := ih (fun y hy => h y (List.mem_cons_of_mem _ hy))
    have e : LX N (32 :: cat X) = LX N (cat X) := LX_sk _ _ _ (by rw [sk_f, if_pos (by decide)])
    rw [cat_cons, LX_good (h x (List.mem_cons_self ..)) _ (stop_cons _ (by decide)), e]
    exact ⟨by simp [h1], h2⟩
theorem cat_len (N k : Nat) (m : List UInt8) (hk : m.length ≤ k) : (cat (LX N m).1).length ≤ 2 * m.length := by
  induction k generalizing m with
  | zero =>
    have : m = [] := List.eq_nil_of_length_eq_zero (by omega)
    subst this
    rw [LX_nil rfl]; exact Nat.zero_le _
  | succ k ih =>
    cases hs : sk false m with
    | nil => rw [LX_nil hs]; exact Nat.zero_le _
    | cons c r =>
      by_cases h0 : (tok (c :: r)).1 = 0
      · rw [LX_tok hs h0]
        have hl1 := sk_le false m
        rw [hs] at hl1
        obtain ⟨hp, hpre⟩ := tok_pos h0
        have hpl := hpre.length_le
        have := ih ((c :: r).drop (tok (c :: r)).2.w.length) (by simp at hl1 hpl ⊢; omega)
        rw [cat_cons]
        simp at this hl1 hpl ⊢
        omega
      · rw [LX_bad hs h0]; exact Nat.zero_le _
end Go.Proofs.YtbicanlipgpioaaDoor.Lx
