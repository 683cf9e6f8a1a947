/- lex: two texts with a remark between, in plain words. -/
import Derived.Test.YtbicanlipgpioaaDoorLxAlA
namespace Go.Proofs.YtbicanlipgpioaaDoor.Lx
open Go.RowKit Go.Proofs.YtbicanlipgpioaaDoor

theorem sk_app_some {b : Bool} {m : List UInt8} {c : UInt8} {r : List UInt8} (h : sk b m = c :: r) (R : List UInt8) : sk b (m ++ R) = c :: (r ++ R) := by
  induction m generalizing b with
  | nil => cases b <;> simp [sk] at h
  | cons d t ih =>
    rw [List.cons_append]
    cases b
    · rw [sk_f] at h ⊢
      split at h
      · rename_i h1; rw [if_pos h1]; exact ih h
      · rename_i h1
        rw [if_neg h1]
        split at h
        · rename_i h2; rw [if_pos h2]; exact ih h
        · rename_i h2; rw [if_neg h2]; cases h; rfl
    · rw [sk_t] at h ⊢
      split at h
      · rename_i h1; rw [if_pos h1]; exact ih h
      · rename_i h1; rw [if_neg h1]; exact ih h
theorem sk_app_none {b : Bool} {m : List UInt8} (h : sk b m = []) (R : List UInt8) : sk b (m ++ 10 :: R) = sk false (10 :: R) := by
  induction m generalizing b with
  | nil =>
    rw [List.nil_append]
    cases b
    · rfl
    · rw [sk_t, if_pos (by decide), sk_f, if_pos (by decide)]
  | cons d t ih =>
    rw [List.cons_append]
    cases b
    · rw [sk_f] at h ⊢
      split at h
      · rename_i h1; rw [if_pos h1]; exact ih h
      · rename_i h1
        rw [if_neg h1]
        split at h
        · rename_i h2; rw [if_pos h2]; exact ih h
        · cases h
    · rw [sk_t] at h ⊢
      split at h
      · rename_i h1; rw [if_pos h1]; exact ih h
      · rename_i h1; rw [if_neg h1]; exact ih h
theorem take_app (l : List UInt8) {R : List UInt8} (hR : Stop R) : (l ++ R).takeWhile isWd = l.takeWhile isWd := by
  induction l with
  | nil =>
    cases R with
    | nil => rfl
    | cons d R => simp [hR d R rfl]
  | cons c r ih =>
    rw [List.cons_append, List.takeWhile_cons, List.takeWhile_cons, ih]
theorem tok_app (c : UInt8) (r : List UInt8) {R : List UInt8} (hR : Stop R) : tok (c :: (r ++ R)) = tok (c :: r) := by
  have e := take_app (c :: r) hR
  rw [List.cons_append] at e
  rw [tok_c, tok_c, e]
theorem stop_ten (R : List UInt8) : Stop (10 :: R) := stop_cons R (by decide)

/-- A text ahead of an end of a line. -/
theorem LX_app (R : List UInt8) (N k : Nat) (m : List UInt8) (hk : m.length ≤ k) : 
    (LX (N + (R.length + 1)) (m ++ 10 :: R)).1 = (if (LX N m).2.1 = 0 then (LX N m).1 ++ (LX (N + (R.length + 1)) (10 :: R)).1 else (LX N m).1) ∧
    (LX (N + (R.length + 1)) (m ++ 10 :: R)).2.1 = (if (LX N m).2.1 = 0 then (LX (N + (R.length + 1)) (10 :: R)).2.1 else (LX N m).2.1) := by
  induction k generalizing m with
  | zero =>
    have : m = [] := List.eq_nil_of_length_eq_zero (by omega)
    subst this
    rw [LX_nil (l := []) rfl]
    simp
  | succ k ih =>
    cases hs : sk false m with
    | nil =>
      rw [LX_nil hs, LX_sk _ _ (10 :: R) (sk_app_none hs R)]
      simp
    | cons c r =>
      have hs' := sk_app_some hs (10 :: R)
      have ht := tok_app c r (stop_ten R)
      have hN : N + (R.length + 1) - ((r ++ 10 :: R).length + 1) = N - (r.length + 1) := by simp; omega
      by_cases h0 : (tok (c :: r)).1 = 0
      · have hl1 := sk_le false m
        rw [hs] at hl1
        obtain ⟨hp, hpre⟩ := tok_pos h0
        have hpl := hpre.length_le
        have hd : (c :: (r ++ 10 :: R)).drop (tok (c :: r)).2.w.length = (c :: r).drop (tok (c :: r)).2.w.length ++ 10 :: R := by
          rw [← List.cons_append, List.drop_append_of_le_length hpl]
        obtain ⟨i1, i2⟩ := ih ((c :: r).drop (tok (c :: r)).2.w.length) (by simp at hl1 hpl ⊢; omega)
        rw [LX_tok hs h0, LX_tok hs' (by rw [ht]; exact h0), ht, hd, hN]
        dsimp only
        rw [i1, i2]
        refine ⟨?_, rfl⟩
        split <;> rfl
      · rw [LX_bad hs h0, LX_bad hs' (by rw [ht]; exact h0), ht, hN]
        dsimp only
        rw [if_neg h0, if_neg h0]
        exact ⟨rfl, rfl⟩
/-- The same text further behind. -/
theorem LX_shift (d N k : Nat) (m : List UInt8) (hk : m.length ≤ k) (hN : m.length ≤ N) :
    (LX (N + d) m).1 = (LX N m).1.map (fun x => (x.1, x.2 + d)) ∧ (LX (N + d) m).2.1 = (LX N m).2.1 := by
  induction k generalizing m with
  | zero =>
    have : m = [] := List.eq_nil_of_length_eq_zero (by omega)
    subst this
    rw [LX_nil (l := []) rfl, LX_nil (l := []) rfl]
    exact ⟨rfl, rfl⟩
  | succ k ih =>
    cases hs : sk false m with
    | nil => rw [LX_nil hs, LX_nil hs]; exact ⟨rfl, rfl⟩
    | cons c r =>
      have hl1 := sk_le false m
      rw [hs] at hl1
      simp only [List.length_cons] at hl1
      have hq : N + d - (r.length + 1) = N - (r.length + 1) + d := by omega
      by_cases h0 : (tok (c :: r)).1 = 0
      · obtain ⟨hp, hpre⟩ := tok_pos h0
        have hpl := hpre.length_le
        obtain ⟨i1, i2⟩ := ih ((c :: r).drop (tok (c :: r)).2.w.length) (by simp at hpl ⊢; omega) (by simp at hpl ⊢; omega)
        rw [LX_tok hs h0, LX_tok hs h0, hq]
        dsimp only
        rw [i1, i2]
        exact ⟨rfl, rfl⟩
      · rw [LX_bad hs h0, LX_bad hs h0]
        exact ⟨rfl, rfl⟩
theorem sk_remark (rm : List UInt8) (h : ∀ x ∈ rm, (x == 10) = false) (R : List UInt8) : sk true (rm ++ 10 :: R) = sk false R := by
  induction rm with
  | nil => rw [List.nil_append, sk_t, if_pos (by decide)]
  | cons c r ih =>
    rw [List.cons_append, sk_t, if_neg (by rw [h c (List.mem_cons_self ..)]; simp)]
    exact ih (fun x hx => h x (List.mem_cons_of_mem _ hx))
/-- What stands between. -/
def btw (rm b : List UInt8) : List UInt8 := 9 :: 35 :: (rm ++ 10 :: 32 :: b)
theorem LX_btw (N : Nat) (rm b : List UInt8) (h : ∀ x ∈ rm, (x == 10) = false) : LX N (10 :: btw rm b) = LX N b := by
  refine LX_sk _ _ _ ?_
  rw [sk_f, if_pos (by decide), btw, sk_f, if_pos (by decide), sk_f, if_neg (by decide), if_pos (by decide), sk_remark rm h, sk_f, if_pos (by decide)]
/-- The three in one. -/
def join (a rm b : List UInt8) : List UInt8 := a ++ 10 :: btw rm b
theorem join_len (a rm b : List UInt8) : (join a rm b).length = a.length + rm.length + b.length + 5 := by simp [join, btw]; omega
theorem whole_small {l : List UInt8} (h : l.length ≤ 16384) : whole l = LX l.length l := if_neg (by omega)
theorem whole_join (a rm b : List UInt8) (h : ∀ x ∈ rm, (x == 10) = false) (hl : a.length + b.length + rm.length ≤ 8000) :
    (whole (join a rm b)).1 = (if (whole a).2.1 = 0 then (whole a).1 ++ (whole b).1.map (fun x => (x.1, x.2 + (a.length + rm.length + 5))) else (whole a).1) ∧
    (whole (join a rm b)).2.1 = (if (whole a).2.1 = 0 then (whole b).2.1 else (whole a).2.1) := by
  have hj := join_len a rm b
  rw [whole_small (l := a) (by omega), whole_small (l := b) (by omega), whole_small (l := join a rm b) (by omega)]
  have e1 : (join a rm b).length = a.length + ((btw rm b).length + 1) := by rw [hj]; simp [btw]; omega
  have e2 : a.length + ((btw rm b).length + 1) = b.length + (a.length + rm.length + 5) := by simp [btw]; omega
  obtain ⟨i1, i2⟩ := LX_app (btw rm b) a.length a.length a (Nat.le_refl _)
  obtain ⟨j1, j2⟩ := LX_shift (a.length + rm.length + 5) b.length b.length b (Nat.le_refl _) (Nat.le_refl _)
  rw [LX_btw _ _ _ h] at i1 i2
  rw [e1]
  show (LX _ (a ++ 10 :: btw rm b)).1 = _ ∧ (LX _ (a ++ 10 :: btw rm b)).2.1 = _
  rw [i1, i2, e2, j1, j2]
  exact ⟨rfl, rfl⟩
end Go.Proofs.YtbicanlipgpioaaDoor.Lx
