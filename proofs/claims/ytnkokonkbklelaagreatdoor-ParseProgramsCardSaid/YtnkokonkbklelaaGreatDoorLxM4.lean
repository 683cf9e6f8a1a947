/- lex: numbers in digits, in plain words. -/
import Derived.Test.YtnkokonkbklelaaGreatDoorLxP
namespace Go.Proofs.YtnkokonkbklelaaGreatDoor.Lx
open Go.RowKit Go.Proofs.YtnkokonkbklelaaGreatDoor

theorem bs_append (a b : List UInt8) : bs a ++ bs b = bs (a ++ b) := by
  have : (bs a ++ bs b).data.toList = a ++ b := by simp [bs]
  rw [← this, bs_of]
theorem vl_split (l : List UInt8) (a : Nat) : vl a l = a * 10 ^ l.length + vl 0 l := by
  induction l generalizing a with
  | nil => simp [vl]
  | cons c r ih =>
    rw [vl_c, ih, vl_c, ih (0 * 10 + (c.toNat - 48)), List.length_cons, Nat.pow_succ]
    simp only [Nat.zero_mul, Nat.zero_add, Nat.add_mul]
    rw [Nat.mul_assoc, Nat.mul_comm 10, Nat.add_assoc]
theorem vl_zero (k : Nat) (l : List UInt8) : vl 0 (List.replicate k 48 ++ l) = vl 0 l := by
  induction k with
  | zero => rfl
  | succ k ih => rw [List.replicate_succ, List.cons_append, vl_c]; exact ih

/-- D is n in digits. -/
structure Dec (n : Nat) (D : List UInt8) : Prop where
  all : D.all isDi = true
  ne : D ≠ []
  val : vl 0 D = n
theorem Dec.more {n : Nat} {D : List UInt8} (h : Dec n D) (k : Nat) : Dec n (List.replicate k 48 ++ D) := by
  refine ⟨?_, fun e => h.ne (List.append_eq_nil_iff.1 e).2, by rw [vl_zero, h.val]⟩
  rw [List.all_append, h.all, Bool.and_true, List.all_eq_true]
  intro x hx
  have := List.eq_of_mem_replicate hx
  subst this; decide
theorem wd_of_all {D : List UInt8} (h : D.all isDi = true) : ∀ x ∈ D, isWd x = true := fun x hx => isWd_of_di (List.all_eq_true.1 h x hx)
theorem take_all {D : List UInt8} (h : ∀ x ∈ D, isWd x = true) (c : UInt8) (hc : isWd c = false) (r : List UInt8) : (D ++ c :: r).takeWhile isWd = D := by
  induction D with
  | nil => simp [hc]
  | cons d D ih =>
    rw [List.cons_append, List.takeWhile_cons, if_pos (h d (List.mem_cons_self ..)), ih (fun x hx => h x (List.mem_cons_of_mem _ hx))]
theorem take_self {l : List UInt8} (h : ∀ x ∈ l, isWd x = true) : l.takeWhile isWd = l := by
  induction l with
  | nil => rfl
  | cons d D ih => rw [List.takeWhile_cons, if_pos (h d (List.mem_cons_self ..)), ih (fun x hx => h x (List.mem_cons_of_mem _ hx))]
theorem LX_semi (N : Nat) : LX N [59] = ([(⟨3, [59], 0⟩, N - 1)], 0, 0) := by
  have h1 : (tok [59]).1 = 0 := by decide
  have h2 : (tok [59]).2 = ⟨3, [59], 0⟩ := by decide
  rw [LX_tok (l := [59]) (c := 59) (r := []) (by decide) h1, h2]
  show ((⟨3, [59], 0⟩, N - (0 + 1)) :: (LX N (([59] : List UInt8).drop 1)).1, (LX N (([59] : List UInt8).drop 1)).2) = _
  rw [show LX N (([59] : List UInt8).drop 1) = ([], 0, 0) from LX_nil rfl]
theorem di_facts {c : UInt8} (h : isDi c = true) : isBl c = false ∧ (c == 35) = false ∧ isLe c = false := by
  have hd : 48 ≤ c.toNat ∧ c.toNat ≤ 57 := by simpa [isDi] using h
  have e : ∀ d : UInt8, (c == d) = true → c.toNat = d.toNat := fun d hh => by rw [eq_of_beq hh]
  refine ⟨?_, ?_, isDi_not_le h⟩
  · cases hb : isBl c with
    | false => rfl
    | true =>
      simp only [isBl, Bool.or_eq_true] at hb
      rcases hb with ((hb | hb) | hb) | hb <;> (have := e _ hb; simp at this; omega)
  · cases hb : (c == 35) with
    | false => rfl
    | true => have := e _ hb; simp at this; omega

theorem tok_num {n : Nat} {D : List UInt8} (h : Dec n D) (c : UInt8) (hc : isWd c = false) (r : List UInt8) :
    tok (D ++ c :: r) = if n ≤ 65535 then (0, ⟨2, D, n⟩) else (21, default) := by
  have ht := take_all (wd_of_all h.all) c hc r
  obtain ⟨d, E, rfl⟩ : ∃ d E, D = d :: E := by
    cases D with
    | nil => exact absurd rfl h.ne
    | cons d E => exact ⟨d, E, rfl⟩
  have hd : isDi d = true := List.all_eq_true.1 h.all d (List.mem_cons_self ..)
  rw [List.cons_append] at ht ⊢
  rw [tok_c, ht, (di_facts hd).2.2, if_neg (by simp), if_pos hd, h.all, h.val]
  by_cases hn : n ≤ 65535
  · rw [if_pos (by simpa using hn), if_pos hn]
  · rw [if_neg (by simpa using hn), if_neg hn]
theorem tok_und {n : Nat} {D : List UInt8} (h : Dec n D) : tok (D ++ [95]) = (21, default) := by
  obtain ⟨d, E, rfl⟩ : ∃ d E, D = d :: E := by
    cases D with
    | nil => exact absurd rfl h.ne
    | cons d E => exact ⟨d, E, rfl⟩
  have hd : isDi d = true := List.all_eq_true.1 h.all d (List.mem_cons_self ..)
  have ht : (d :: (E ++ [95])).takeWhile isWd = d :: (E ++ [95]) := by
    rw [← List.cons_append]
    refine take_self fun x hx => ?_
    rcases List.mem_append.1 hx with hx | hx
    · exact wd_of_all h.all x hx
    · rw [List.mem_singleton.1 hx]; decide
  have ha : (d :: (E ++ [95])).all isDi = false := by
    rw [← List.cons_append, List.all_append]
    have : ([95] : List UInt8).all isDi = false := by decide
    rw [this, Bool.and_false]
  rw [List.cons_append, tok_c, ht, (di_facts hd).2.2, if_neg (by simp), if_pos hd, ha, if_neg (by simp)]
theorem sk_num {n : Nat} {D : List UInt8} (h : Dec n D) (r : List UInt8) : sk false (D ++ r) = D ++ r := by
  obtain ⟨d, E, rfl⟩ : ∃ d E, D = d :: E := by
    cases D with
    | nil => exact absurd rfl h.ne
    | cons d E => exact ⟨d, E, rfl⟩
  have hd : isDi d = true := List.all_eq_true.1 h.all d (List.mem_cons_self ..)
  exact sk_stays (di_facts hd).1 (di_facts hd).2.1
theorem whole_num {n : Nat} {D : List UInt8} (h : Dec n D) (hn : n ≤ 65535) (hl : D.length ≤ 16000) :
    whole (D ++ [59]) = ([(⟨2, D, n⟩, 0), (⟨3, [59], 0⟩, D.length)], 0, 0) := by
  have ht := tok_num h 59 (by decide) []
  rw [if_pos hn] at ht
  have hs := sk_num h [59]
  unfold whole
  rw [if_neg (by simp; omega)]
  obtain ⟨d, E, rfl⟩ : ∃ d E, D = d :: E := by
    cases D with
    | nil => exact absurd rfl h.ne
    | cons d E => exact ⟨d, E, rfl⟩
  rw [List.cons_append] at hs ht ⊢
  have h0 : (tok (d :: (E ++ [59]))).1 = 0 := by rw [ht]
  rw [LX_tok hs h0, ht]
  have hd : (d :: (E ++ [59])).drop (d :: E).length = [59] := by
    rw [← List.cons_append]; exact List.drop_left
  show ((⟨2, d :: E, n⟩, _) :: (LX _ ((d :: (E ++ [59])).drop (d :: E).length)).1, (LX _ ((d :: (E ++ [59])).drop (d :: E).length)).2) = _
  rw [hd]
  rw [LX_semi]
  simp
theorem whole_big {n : Nat} {D : List UInt8} (h : Dec n D) (hn : ¬ n ≤ 65535) (hl : D.length ≤ 16000) : (whole (D ++ [59])).2 = (21, 0) := by
  have ht := tok_num h 59 (by decide) []
  rw [if_neg hn] at ht
  have hs := sk_num h [59]
  unfold whole
  rw [if_neg (by simp; omega)]
  obtain ⟨d, E, rfl⟩ : ∃ d E, D = d :: E := by
    cases D with
    | nil => exact absurd rfl h.ne
    | cons d E => exact ⟨d, E, rfl⟩
  rw [List.cons_append] at hs ht ⊢
  rw [LX_bad hs (by rw [ht]; decide), ht]
  simp
theorem whole_und {n : Nat} {D : List UInt8} (h : Dec n D) (hl : D.length ≤ 16000) : (whole (D ++ [95])).2 = (21, 0) := by
  have ht := tok_und h
  have hs := sk_num h [95]
  unfold whole
  rw [if_neg (by simp; omega)]
  obtain ⟨d, E, rfl⟩ : ∃ d E, D = d :: E := by
    cases D with
    | nil => exact absurd rfl h.ne
    | cons d E => exact ⟨d, E, rfl⟩
  rw [List.cons_append] at hs ht ⊢
  rw [LX_bad hs (by rw [ht]; decide), ht]
  simp
end Go.Proofs.YtnkokonkbklelaaGreatDoor.Lx

/- lex: a token alone; tokens with a blank behind each, in plain words. -/
namespace Go.Proofs.YtnkokonkbklelaaGreatDoor.Lx
open Go.RowKit Go.Proofs.YtnkokonkbklelaaGreatDoor

/-- A token that stood somewhere. -/
def Good (t : Tok) : Prop := ∃ c r, tok (c :: r) = (0, t) ∧ isBl c = false ∧ (c == 35) = false
theorem good_LX (N k : Nat) (m : List UInt8) (hk : m.length ≤ k) : ∀ x ∈ (LX N m).1, Good x.1 := by
  induction k generalizing m with
  | zero =>
    have : m = [] := List.eq_nil_of_length_eq_zero (by omega)
    subst this
    rw [LX_nil rfl]; intro x hx; cases hx
  | succ k ih =>
    cases hs : sk false m with
    | nil => rw [LX_nil hs]; intro x hx; cases hx
    | cons c r =>
      by_cases h0 : (tok (c :: r)).1 = 0
      · rw [LX_tok hs h0]
        have hl1 := sk_le false m
        rw [hs] at hl1
        obtain ⟨hp, hpre⟩ := tok_pos h0
        have hpl := hpre.length_le
        intro x hx
        rcases List.mem_cons.1 hx with rfl | hx
        · exact ⟨c, r, by rw [← h0], (sk_head hs).1, (sk_head hs).2⟩
        · exact ih _ (by simp at hl1 hpl ⊢; omega) x hx
      · rw [LX_bad hs h0]; intro x hx; cases hx
/-- What stands behind a token does not belong to it. -/
def Stop (R : List UInt8) : Prop := ∀ d R', R = d :: R' → isWd d = false
theorem take_stop {D R : List UInt8} (h : ∀ x ∈ D, isWd x = true) (hR : Stop R) : (D ++ R).takeWhile isWd = D := by
  cases R with
  | nil => rw [List.append_nil]; exact take_self h
  | cons d R => exact take_all h d (hR d R rfl) R
theorem take_mem {l : List UInt8} : ∀ x ∈ l.takeWhile isWd, isWd x = true := fun x hx => List.all_eq_true.1 (List.all_takeWhile (l := l) (p := isWd)) x hx
theorem good_again {t : Tok} (h : Good t) (R : List UInt8) (hR : Stop R) : ∃ c v, t.w = c :: v ∧ sk false (t.w ++ R) = c :: (v ++ R) ∧ tok (c :: (v ++ R)) = (0, t) := by
  obtain ⟨c, r, ht, h1, h2⟩ := h
  have hw : ∀ x ∈ (c :: r).takeWhile isWd, isWd x = true := take_mem
  rw [tok_c] at ht
  by_cases hl : isLe c = true
  · rw [if_pos hl] at ht
    split at ht
    · simp at ht
    · rename_i h16
      have ht' : (⟨1, (c :: r).takeWhile isWd, 0⟩ : Tok) = t := (Prod.mk.inj ht).2
      have e0 : (c :: r).takeWhile isWd = c :: r.takeWhile isWd := by simp [isWd_of_le hl]
      rw [e0] at ht' hw h16
      subst ht'
      refine ⟨c, r.takeWhile isWd, rfl, sk_stays h1 h2, ?_⟩
      have e1 := take_stop hw hR
      rw [List.cons_append] at e1
      rw [tok_c, if_pos hl, e1, if_neg h16]
  · rw [if_neg hl] at ht
    by_cases hd : isDi c = true
    · rw [if_pos hd] at ht
      split at ht
      · rename_i h3
        have ht' : (⟨2, (c :: r).takeWhile isWd, vl 0 ((c :: r).takeWhile isWd)⟩ : Tok) = t := (Prod.mk.inj ht).2
        have e0 : (c :: r).takeWhile isWd = c :: r.takeWhile isWd := by simp [isWd_of_di hd]
        rw [e0] at ht' hw h3
        subst ht'
        refine ⟨c, r.takeWhile isWd, rfl, sk_stays h1 h2, ?_⟩
        have e1 := take_stop hw hR
        rw [List.cons_append] at e1
        rw [tok_c, if_neg hl, if_pos hd, e1, if_pos h3]
      · simp at ht
    · rw [if_neg hd] at ht
      split at ht
      · rename_i h3
        have ht' : (⟨3, [c], 0⟩ : Tok) = t := (Prod.mk.inj ht).2
        subst ht'
        refine ⟨c, [], rfl, sk_stays h1 h2, ?_⟩
        rw [List.nil_append, tok_c, if_neg hl, if_neg hd, if_pos h3]
      · simp at ht
theorem stop_nil : Stop [] := fun d R' h => by cases h
theorem stop_cons {d : UInt8} (R : List UInt8) (h : isWd d = false) : Stop (d :: R) := fun e R' he => by cases he; exact h
theorem LX_good {t : Tok} (h : Good t) (R : List UInt8) (hR : Stop R) (N : Nat) : LX N (t.w ++ R) = ((t, N - (t.w.length + R.length)) :: (LX N R).1, (LX N R).2) := by
  obtain ⟨c, v, hw, hs, ht⟩ := good_again h R hR
  have e := LX_tok (N := N) hs (by rw [ht])
  rw [ht] at e
  have hd : (c :: (v ++ R)).drop t.w.length = R := by
    rw [← List.cons_append, ← hw]; exact List.drop_left
  rw [hd] at e
  have hl : (v ++ R).length + 1 = t.w.length + R.length := by rw [hw]; simp; omega
  rw [hl] at e
  exact e
theorem whole_one {t : Tok} (h : Good t) (hl : t.w.length ≤ 16384) : whole t.w = ([(t, 0)], 0, 0) := by
  unfold whole
  rw [if_neg (by omega)]
  have e := LX_good h [] stop_nil t.w.length
  rw [List.append_nil, LX_nil (l := []) rfl] at e
  rw [e]
  simp
/-- Each token's bytes and a blank behind. -/
def cat (X : List (Tok × Nat)) : List UInt8 := X.flatMap fun x => x.1.w ++ [32]
theorem cat_cons (x : Tok × Nat) (X : List (Tok × Nat)) : cat (x :: X) = x.1.w ++ (32 :: cat X) := by simp [cat]
theorem cat_snoc (X : List (Tok × Nat)) (x : Tok × Nat) : cat (X ++ [x]) = cat X ++ x.1.w ++ [32] := by simp [cat]
theorem LX_cat (N : Nat) (X : List (Tok × Nat)) (h : ∀ x ∈ X, Good x.1) : (LX N (cat X)).1.map (·.1) = X.map (·.1) ∧ (LX N (cat X)).2 = (0, 0) := by
  induction X with
  | nil => exact ⟨rfl, rfl⟩
  | cons x X ih =>
    obtain ⟨h1, h2⟩ := ih (fun y hy => h y (List.mem_cons_of_mem _ hy))
    have e : LX N (32 :: cat X) = LX N (cat X) := LX_sk _ _ _ (by rw [sk_f, if_pos (by decide)])
    rw [cat_cons, LX_good (h x (List.mem_cons_self ..)) _ (stop_cons _ (by decide)), e]
    exact ⟨by simp [h1], h2⟩
theorem cat_len (N k : Nat) (m : List UInt8) (hk : m.length ≤ k) : (cat (LX N m).1).length ≤ 2 * m.length := by
  induction k generalizing m with
  | zero =>
    have : m = [] := List.eq_nil_of_length_eq_zero (by omega)
    subst this
    rw [LX_nil rfl]; exact Nat.zero_le _
  | succ k ih =>
    cases hs : sk false m with
    | nil => rw [LX_nil hs]; exact Nat.zero_le _
    | cons c r =>
      by_cases h0 : (tok (c :: r)).1 = 0
      · rw [LX_tok hs h0]
        have hl1 := sk_le false m
        rw [hs] at hl1
        obtain ⟨hp, hpre⟩ := tok_pos h0
        have hpl := hpre.length_le
        have := ih ((c :: r).drop (tok (c :: r)).2.w.length) (by simp at hl1 hpl ⊢; omega)
        rw [cat_cons]
        simp at this hl1 hpl ⊢
        omega
      · rw [LX_bad hs h0]; exact Nat.zero_le _
end Go.Proofs.YtnkokonkbklelaaGreatDoor.Lx

/- lex: two texts with a remark between, in plain words. -/
namespace Go.Proofs.YtnkokonkbklelaaGreatDoor.Lx
open Go.RowKit Go.Proofs.YtnkokonkbklelaaGreatDoor

theorem sk_app_some {b : Bool} {m : List UInt8} {c : UInt8} {r : List UInt8} (h : sk b m = c :: r) (R : List UInt8) : sk b (m ++ R) = c :: (r ++ R) := by
  induction m generalizing b with
  | nil => cases b <;> simp [sk] at h
  | cons d t ih =>
    rw [List.cons_append]
    cases b
    · rw [sk_f] at h ⊢
      split at h
      · rename_i h1; rw [if_pos h1]; exact ih h
      · rename_i h1
        rw [if_neg h1]
        split at h
        · rename_i h2; rw [if_pos h2]; exact ih h
        · rename_i h2; rw [if_neg h2]; cases h; rfl
    · rw [sk_t] at h ⊢
      split at h
      · rename_i h1; rw [if_pos h1]; exact ih h
      · rename_i h1; rw [if_neg h1]; exact ih h
theorem sk_app_none {b : Bool} {m : List UInt8} (h : sk b m = []) (R : List UInt8) : sk b (m ++ 10 :: R) = sk false (10 :: R) := by
  induction m generalizing b with
  | nil =>
    rw [List.nil_append]
    cases b
    · rfl
    · rw [sk_t, if_pos (by decide), sk_f, if_pos (by decide)]
  | cons d t ih =>
    rw [List.cons_append]
    cases b
    · rw [sk_f] at h ⊢
      split at h
      · rename_i h1; rw [if_pos h1]; exact ih h
      · rename_i h1
        rw [if_neg h1]
        split at h
        · rename_i h2; rw [if_pos h2]; exact ih h
        · cases h
    · rw [sk_t] at h ⊢
      split at h
      · rename_i h1; rw [if_pos h1]; exact ih h
      · rename_i h1; rw [if_neg h1]; exact ih h
theorem take_app (l : List UInt8) {R : List UInt8} (hR : Stop R) : (l ++ R).takeWhile isWd = l.takeWhile isWd := by
  induction l with
  | nil =>
    cases R with
    | nil => rfl
    | cons d R => simp [hR d R rfl]
  | cons c r ih =>
    rw [List.cons_append, List.takeWhile_cons, List.takeWhile_cons, ih]
theorem tok_app (c : UInt8) (r : List UInt8) {R : List UInt8} (hR : Stop R) : tok (c :: (r ++ R)) = tok (c :: r) := by
  have e := take_app (c :: r) hR
  rw [List.cons_append] at e
  rw [tok_c, tok_c, e]
theorem stop_ten (R : List UInt8) : Stop (10 :: R) := stop_cons R (by decide)

/-- A text ahead of an end of a line. -/
theorem LX_app (R : List UInt8) (N k : Nat) (m : List UInt8) (hk : m.length ≤ k) : 
    (LX (N + (R.length + 1)) (m ++ 10 :: R)).1 = (if (LX N m).2.1 = 0 then (LX N m).1 ++ (LX (N + (R.length + 1)) (10 :: R)).1 else (LX N m).1) ∧
    (LX (N + (R.length + 1)) (m ++ 10 :: R)).2.1 = (if (LX N m).2.1 = 0 then (LX (N + (R.length + 1)) (10 :: R)).2.1 else (LX N m).2.1) := by
  induction k generalizing m with
  | zero =>
    have : m = [] := List.eq_nil_of_length_eq_zero (by omega)
    subst this
    rw [LX_nil (l := []) rfl]
    simp
  | succ k ih =>
    cases hs : sk false m with
    | nil =>
      rw [LX_nil hs, LX_sk _ _ (10 :: R) (sk_app_none hs R)]
      simp
    | cons c r =>
      have hs' := sk_app_some hs (10 :: R)
      have ht := tok_app c r (stop_ten R)
      have hN : N + (R.length + 1) - ((r ++ 10 :: R).length + 1) = N - (r.length + 1) := by simp; omega
      by_cases h0 : (tok (c :: r)).1 = 0
      · have hl1 := sk_le false m
        rw [hs] at hl1
        obtain ⟨hp, hpre⟩ := tok_pos h0
        have hpl := hpre.length_le
        have hd : (c :: (r ++ 10 :: R)).drop (tok (c :: r)).2.w.length = (c :: r).drop (tok (c :: r)).2.w.length ++ 10 :: R := by
          rw [← List.cons_append, List.drop_append_of_le_length hpl]
        obtain ⟨i1, i2⟩ := ih ((c :: r).drop (tok (c :: r)).2.w.length) (by simp at hl1 hpl ⊢; omega)
        rw [LX_tok hs h0, LX_tok hs' (by rw [ht]; exact h0), ht, hd, hN]
        dsimp only
        rw [i1, i2]
        refine ⟨?_, rfl⟩
        split <;> rfl
      · rw [LX_bad hs h0, LX_bad hs' (by rw [ht]; exact h0), ht, hN]
        dsimp only
        rw [if_neg h0, if_neg h0]
        exact ⟨rfl, rfl⟩
/-- The same text further behind. -/
theorem LX_shift (d N k : Nat) (m : List UInt8) (hk : m.length ≤ k) (hN : m.length ≤ N) :
    (LX (N + d) m).1 = (LX N m).1.map (fun x => (x.1, x.2 + d)) ∧ (LX (N + d) m).2.1 = (LX N m).2.1 := by
  induction k generalizing m with
  | zero =>
    have : m = [] := List.eq_nil_of_length_eq_zero (by omega)
    subst this
    rw [LX_nil (l := []) rfl, LX_nil (l := []) rfl]
    exact ⟨rfl, rfl⟩
  | succ k ih =>
    cases hs : sk false m with
    | nil => rw [LX_nil hs, LX_nil hs]; exact ⟨rfl, rfl⟩
    | cons c r =>
      have hl1 := sk_le false m
      rw [hs] at hl1
      simp only [List.length_cons] at hl1
      have hq : N + d - (r.length + 1) = N - (r.length + 1) + d := by omega
      by_cases h0 : (tok (c :: r)).1 = 0
      · obtain ⟨hp, hpre⟩ := tok_pos h0
        have hpl := hpre.length_le
        obtain ⟨i1, i2⟩ := ih ((c :: r).drop (tok (c :: r)).2.w.length) (by simp at hpl ⊢; omega) (by simp at hpl ⊢; omega)
        rw [LX_tok hs h0, LX_tok hs h0, hq]
        dsimp only
        rw [i1, i2]
        exact ⟨rfl, rfl⟩
      · rw [LX_bad hs h0, LX_bad hs h0]
        exact ⟨rfl, rfl⟩
theorem sk_remark (rm : List UInt8) (h : ∀ x ∈ rm, (x == 10) = false) (R : List UInt8) : sk true (rm ++ 10 :: R) = sk false R := by
  induction rm with
  | nil => rw [List.nil_append, sk_t, if_pos (by decide)]
  | cons c r ih =>
    rw [List.cons_append, sk_t, if_neg (by rw [h c (List.mem_cons_self ..)]; simp)]
    exact ih (fun x hx => h x (List.mem_cons_of_mem _ hx))
/-- What stands between. -/
def btw (rm b : List UInt8) : List UInt8 := 9 :: 35 :: (rm ++ 10 :: 32 :: b)
theorem LX_btw (N : Nat) (rm b : List UInt8) (h : ∀ x ∈ rm, (x == 10) = false) : LX N (10 :: btw rm b) = LX N b := by
  refine LX_sk _ _ _ ?_
  rw [sk_f, if_pos (by decide), btw, sk_f, if_pos (by decide), sk_f, if_neg (by decide), if_pos (by decide), sk_remark rm h, sk_f, if_pos (by decide)]
/-- The three in one. -/
def join (a rm b : List UInt8) : List UInt8 := a ++ 10 :: btw rm b
theorem join_len (a rm b : List UInt8) : (join a rm b).length = a.length + rm.length + b.length + 5 := by simp [join, btw]; omega
theorem whole_small {l : List UInt8} (h : l.length ≤ 16384) : whole l = LX l.length l := if_neg (by omega)
theorem whole_join (a rm b : List UInt8) (h : ∀ x ∈ rm, (x == 10) = false) (hl : a.length + b.length + rm.length ≤ 8000) :
    (whole (join a rm b)).1 = (if (whole a).2.1 = 0 then (whole a).1 ++ (whole b).1.map (fun x => (x.1, x.2 + (a.length + rm.length + 5))) else (whole a).1) ∧
    (whole (join a rm b)).2.1 = (if (whole a).2.1 = 0 then (whole b).2.1 else (whole a).2.1) := by
  have hj := join_len a rm b
  rw [whole_small (l := a) (by omega), whole_small (l := b) (by omega), whole_small (l := join a rm b) (by omega)]
  have e1 : (join a rm b).length = a.length + ((btw rm b).length + 1) := by rw [hj]; simp [btw]; omega
  have e2 : a.length + ((btw rm b).length + 1) = b.length + (a.length + rm.length + 5) := by simp [btw]; omega
  obtain ⟨i1, i2⟩ := LX_app (btw rm b) a.length a.length a (Nat.le_refl _)
  obtain ⟨j1, j2⟩ := LX_shift (a.length + rm.length + 5) b.length b.length b (Nat.le_refl _) (Nat.le_refl _)
  rw [LX_btw _ _ _ h] at i1 i2
  rw [e1]
  show (LX _ (a ++ 10 :: btw rm b)).1 = _ ∧ (LX _ (a ++ 10 :: btw rm b)).2.1 = _
  rw [i1, i2, e2, j1, j2]
  exact ⟨rfl, rfl⟩
end Go.Proofs.YtnkokonkbklelaaGreatDoor.Lx

/- lex, the document's reader in plain words: what a byte is; how a word, a number and a remark end. -/
namespace Go.Proofs.YtnkokonkbklelaaGreatDoor.Lx
open Go.RowKit Go.Proofs.YtnkokonkbklelaaGreatDoor

/-- What a byte is, by its number. -/
def kN (z : Nat) : Nat :=
  if z = 9 ∨ z = 10 ∨ z = 13 ∨ z = 32 then 1 else if 97 ≤ z ∧ z ≤ 122 then 2 else if 48 ≤ z ∧ z ≤ 57 then 3 else if z = 95 then 4
  else if z = 123 ∨ z = 125 ∨ z = 59 then 5 else if z = 35 then 6 else 0
theorem u8_eq {c d : UInt8} : (c == d) = true ↔ c.toNat = d.toNat :=
  ⟨fun h => by rw [eq_of_beq h], fun h => by rw [UInt8.toNat_inj.1 h]; exact beq_self_eq_true d⟩
theorem bl_iff (c : UInt8) : isBl c = true ↔ c.toNat = 9 ∨ c.toNat = 10 ∨ c.toNat = 13 ∨ c.toNat = 32 := by
  simp only [isBl, Bool.or_eq_true, u8_eq]
  show ((c.toNat = 9 ∨ c.toNat = 10) ∨ c.toNat = 13) ∨ c.toNat = 32 ↔ _
  omega
theorem le_iff (c : UInt8) : isLe c = true ↔ 97 ≤ c.toNat ∧ c.toNat ≤ 122 := by simp [isLe]
theorem di_iff (c : UInt8) : isDi c = true ↔ 48 ≤ c.toNat ∧ c.toNat ≤ 57 := by simp [isDi]
theorem un_iff (c : UInt8) : (c == 95) = true ↔ c.toNat = 95 := u8_eq
theorem ha_iff (c : UInt8) : (c == 35) = true ↔ c.toNat = 35 := u8_eq
theorem sg_iff (c : UInt8) : isSg c = true ↔ c.toNat = 123 ∨ c.toNat = 125 ∨ c.toNat = 59 := by
  simp only [isSg, Bool.or_eq_true, u8_eq]
  show (c.toNat = 123 ∨ c.toNat = 125) ∨ c.toNat = 59 ↔ _
  omega
theorem wd_iff (c : UInt8) : isWd c = true ↔ kN c.toNat = 2 ∨ kN c.toNat = 3 ∨ kN c.toNat = 4 := by
  simp only [isWd, Bool.or_eq_true, le_iff, di_iff, un_iff]
  unfold kN
  (repeat' split) <;> omega
theorem kN_1 {c : UInt8} (h : kN c.toNat = 1) : isBl c = true := by
  rw [bl_iff]; unfold kN at h; (repeat' split at h) <;> omega
theorem kN_2 {c : UInt8} (h : kN c.toNat = 2) : isLe c = true := by
  rw [le_iff]; unfold kN at h; (repeat' split at h) <;> omega
theorem kN_3 {c : UInt8} (h : kN c.toNat = 3) : isDi c = true := by
  rw [di_iff]; unfold kN at h; (repeat' split at h) <;> omega
theorem di_kN {c : UInt8} (h : isDi c = true) : kN c.toNat = 3 := by
  rw [di_iff] at h; unfold kN; (repeat' split) <;> omega
theorem kN_5 {c : UInt8} (h : kN c.toNat = 5) : isSg c = true := by
  rw [sg_iff]; unfold kN at h; (repeat' split at h) <;> omega
theorem kN_6 {c : UInt8} (h : kN c.toNat = 6) : c = 35 := by
  refine UInt8.toNat_inj.1 ?_
  show c.toNat = 35
  unfold kN at h; (repeat' split at h) <;> omega
theorem kN_le (z : Nat) : kN z ≤ 6 := by unfold kN; (repeat' split) <;> omega
theorem not_of {b : Bool} (h : ¬ b = true) : b = false := by simpa using h
theorem kN_first {c : UInt8} (h1 : kN c.toNat ≠ 1) (h6 : kN c.toNat ≠ 6) (r : List UInt8) : sk false (c :: r) = c :: r := by
  refine sk_stays (not_of fun h => h1 ?_) (not_of fun h => h6 ?_)
  · rw [bl_iff] at h; unfold kN; (repeat' split) <;> omega
  · rw [ha_iff] at h; unfold kN; (repeat' split) <;> omega
theorem tok_sign {c : UInt8} (h : kN c.toNat = 5) (r : List UInt8) : tok (c :: r) = (0, ⟨3, [c], 0⟩) := by
  rw [tok_c, if_neg, if_neg, if_pos (kN_5 h)]
  · rw [di_iff]; intro h'; unfold kN at h; (repeat' split at h) <;> omega
  · rw [le_iff]; intro h'; unfold kN at h; (repeat' split at h) <;> omega
theorem tok_other {c : UInt8} (h : kN c.toNat = 0 ∨ kN c.toNat = 4) (r : List UInt8) : (tok (c :: r)).1 = 20 := by
  rw [tok_c, if_neg, if_neg, if_neg]
  · rw [sg_iff]; intro h'; unfold kN at h; (repeat' split at h) <;> omega
  · rw [di_iff]; intro h'; unfold kN at h; (repeat' split at h) <;> omega
  · rw [le_iff]; intro h'; unfold kN at h; (repeat' split at h) <;> omega
theorem tok_letter {c : UInt8} (h : kN c.toNat = 2) (r : List UInt8) : tok (c :: r) = if 16 < ((c :: r).takeWhile isWd).length then (22, default) else (0, ⟨1, (c :: r).takeWhile isWd, 0⟩) := by
  rw [tok_c, if_pos (kN_2 h)]
theorem tok_digit {c : UInt8} (h : kN c.toNat = 3) (r : List UInt8) : tok (c :: r) = if ((c :: r).takeWhile isWd).all isDi && decide (vl 0 ((c :: r).takeWhile isWd) ≤ 65535) then (0, ⟨2, (c :: r).takeWhile isWd, vl 0 ((c :: r).takeWhile isWd)⟩) else (21, default) := by
  rw [tok_c, if_neg, if_pos (kN_3 h)]
  rw [le_iff]; intro h'; unfold kN at h; (repeat' split at h) <;> omega

theorem tw_self {p : UInt8 → Bool} {l : List UInt8} (h : ∀ x ∈ l, p x = true) : l.takeWhile p = l := by
  induction l with
  | nil => rfl
  | cons d D ih => rw [List.takeWhile_cons, if_pos (h d (List.mem_cons_self ..)), ih (fun x hx => h x (List.mem_cons_of_mem _ hx))]
theorem tw_app {p : UInt8 → Bool} {D R : List UInt8} (h : ∀ x ∈ D, p x = true) (hR : ∀ d R', R = d :: R' → p d = false) : (D ++ R).takeWhile p = D := by
  induction D with
  | nil =>
    cases R with
    | nil => rfl
    | cons d R => simp [hR d R rfl]
  | cons d D ih =>
    rw [List.cons_append, List.takeWhile_cons, if_pos (h d (List.mem_cons_self ..)), ih (fun x hx => h x (List.mem_cons_of_mem _ hx))]
theorem tw_mem {p : UInt8 → Bool} {l : List UInt8} : ∀ x ∈ l.takeWhile p, p x = true := fun x hx => List.all_eq_true.1 (List.all_takeWhile (l := l) (p := p)) x hx
/-- How many stand first. -/
def pn (p : UInt8 → Bool) (l : List UInt8) : Nat := (l.takeWhile p).length
theorem pn_le (p : UInt8 → Bool) (l : List UInt8) : pn p l ≤ l.length := (List.takeWhile_prefix p).length_le
theorem pn_in (p : UInt8 → Bool) (l : List UInt8) (k : Nat) (h : k < pn p l) : ∃ hk : k < l.length, p l[k] = true := by
  have hk : k < l.length := Nat.lt_of_lt_of_le h (pn_le p l)
  refine ⟨hk, ?_⟩
  have hp : l.takeWhile p <+: l := List.takeWhile_prefix p
  have e : (l.takeWhile p)[k]'h = l[k] := hp.getElem h
  rw [← e]
  exact tw_mem _ (List.getElem_mem _)
theorem pn_end (p : UInt8 → Bool) (l : List UInt8) (h : pn p l < l.length) : p l[pn p l] = false := by
  induction l with
  | nil => simp at h
  | cons c r ih =>
    by_cases hc : p c = true
    · have e : pn p (c :: r) = pn p r + 1 := by simp [pn, hc]
      have h' : pn p r < r.length := by simp [e] at h; exact h
      have := ih h'
      simp only [e, List.getElem_cons_succ]
      exact this
    · have e : pn p (c :: r) = 0 := by simp [pn, hc]
      simp only [e, List.getElem_cons_zero]
      simpa using hc
theorem pn_take (p : UInt8 → Bool) (l : List UInt8) : l.take (pn p l) = l.takeWhile p := (List.prefix_iff_eq_take.1 (List.takeWhile_prefix p)).symm

/-- A number and what stands behind its digits: nothing of a word, or something. -/
theorem num_plain {c : UInt8} {r : List UInt8} (h : kN c.toNat = 3) (hs : ∀ hk : pn isDi (c :: r) < (c :: r).length, isWd (c :: r)[pn isDi (c :: r)] = false) :
    tok (c :: r) = if vl 0 ((c :: r).take (pn isDi (c :: r))) ≤ 65535 then (0, ⟨2, (c :: r).take (pn isDi (c :: r)), vl 0 ((c :: r).take (pn isDi (c :: r)))⟩) else (21, default) := by
  generalize hl : c :: r = l at *
  have hD : ∀ x ∈ l.take (pn isDi l), isDi x = true := by rw [pn_take]; exact tw_mem
  have hw : l.takeWhile isWd = l.take (pn isDi l) := by
    have := tw_app (p := isWd) (D := l.take (pn isDi l)) (R := l.drop (pn isDi l)) (fun x hx => isWd_of_di (hD x hx)) (fun d R' he => by
      have hk : pn isDi l < l.length := by
        rcases Nat.lt_or_ge (pn isDi l) l.length with h | h
        · exact h
        · rw [List.drop_eq_nil_of_le h] at he; cases he
      have h2 := hs hk
      rw [List.drop_eq_getElem_cons hk] at he
      injection he with he1 _
      rw [← he1]; exact h2)
    rw [List.take_append_drop] at this
    exact this
  subst hl
  rw [tok_digit h, hw, List.all_eq_true.2 hD]
  by_cases hv : vl 0 ((c :: r).take (pn isDi (c :: r))) ≤ 65535
  · rw [if_pos (by simpa using hv), if_pos hv]
  · rw [if_neg (by simpa using hv), if_neg hv]
theorem num_run {c : UInt8} {r : List UInt8} (h : kN c.toNat = 3) (hk : pn isDi (c :: r) < (c :: r).length) (hs : isWd (c :: r)[pn isDi (c :: r)] = true) : (tok (c :: r)).1 = 21 := by
  generalize hl : c :: r = l at *
  have hd := pn_end isDi l hk
  have hnot : (l.takeWhile isWd).all isDi = false := by
    refine not_of fun ha => ?_
    have hlt : pn isDi l < pn isWd l := by
      rcases Nat.lt_or_ge (pn isDi l) (pn isWd l) with h1 | h1
      · exact h1
      · exfalso
        by_cases hw : pn isWd l < l.length
        · have e1 := pn_end isWd l hw
          rcases Nat.lt_or_ge (pn isWd l) (pn isDi l) with h2 | h2
          · obtain ⟨_, h3⟩ := pn_in isDi l _ h2
            rw [isWd_of_di h3] at e1; cases e1
          · have e2 : pn isWd l = pn isDi l := Nat.le_antisymm h1 h2
            simp only [e2] at e1
            rw [hs] at e1; cases e1
        · omega
    have hp : l.takeWhile isWd <+: l := List.takeWhile_prefix isWd
    have e : (l.takeWhile isWd)[pn isDi l]'hlt = l[pn isDi l] := hp.getElem hlt
    have := List.all_eq_true.1 ha _ (List.getElem_mem hlt)
    rw [e, hd] at this; cases this
  subst hl
  rw [tok_digit h, hnot]
  rfl
theorem vl_snoc (l : List UInt8) (c : UInt8) : vl 0 (l ++ [c]) = vl 0 l * 10 + (c.toNat - 48) := by unfold vl; rw [List.foldl_append]; rfl
theorem drop_cons {l : List UInt8} {i : Nat} (h : i < l.length) : l.drop i = l[i] :: l.drop (i + 1) := List.drop_eq_getElem_cons h
end Go.Proofs.YtnkokonkbklelaaGreatDoor.Lx

/- lex: names, in plain words. -/
namespace Go.Proofs.YtnkokonkbklelaaGreatDoor.Lx
open Go.RowKit Go.Proofs.YtnkokonkbklelaaGreatDoor

/-- Is it a name? -/
def isNm : List UInt8 → Bool
  | [] => false
  | c :: r => isLe c && decide (r.length + 1 ≤ 16) && (c :: r).all isWd
theorem nm_c (c : UInt8) (r : List UInt8) : isNm (c :: r) = (isLe c && decide (r.length + 1 ≤ 16) && (c :: r).all isWd) := rfl
theorem nm_iff (c : UInt8) (r : List UInt8) : isNm (c :: r) = true ↔ isLe c = true ∧ r.length + 1 ≤ 16 ∧ (c :: r).all isWd = true := by
  rw [nm_c, Bool.and_eq_true, Bool.and_eq_true, decide_eq_true_eq, and_assoc]
theorem le_first {c : UInt8} (h : isLe c = true) (r : List UInt8) : sk false (c :: r) = c :: r := by
  rw [le_iff] at h
  refine sk_stays (not_of fun hb => ?_) (not_of fun hb => ?_)
  · rw [bl_iff] at hb; omega
  · rw [ha_iff] at hb; omega
theorem all_take {l : List UInt8} (h : l.all isWd = true) : l.takeWhile isWd = l := tw_self fun x hx => List.all_eq_true.1 h x hx
theorem whole_nm {l : List UInt8} (h : isNm l = true) : whole l = ([(⟨1, l, 0⟩, 0)], 0, 0) := by
  cases l with
  | nil => cases h
  | cons c r =>
    obtain ⟨h1, h2, h3⟩ := (nm_iff c r).1 h
    have ht : tok (c :: r) = (0, ⟨1, c :: r, 0⟩) := by
      rw [tok_c, if_pos h1, all_take h3, if_neg (by simp; omega)]
    unfold whole
    rw [if_neg (by simp; omega), LX_tok (le_first h1 r) (by rw [ht]), ht]
    have hd : (c :: r).drop (c :: r).length = [] := List.drop_length
    show ((⟨1, c :: r, 0⟩, _) :: (LX _ ((c :: r).drop (c :: r).length)).1, (LX _ ((c :: r).drop (c :: r).length)).2) = _
    rw [hd, LX_nil (l := []) rfl]
    simp
theorem whole_one_nm {l : List UInt8} {t : Tok} {q : Nat} (h0 : (whole l).2.1 = 0) (hX : (whole l).1 = [(t, q)]) (hk : t.k = 1) (hw : t.w = l) : isNm l = true := by
  by_cases hl : 16384 < l.length
  · have e : whole l = ([], 5, 0) := if_pos hl
    rw [e] at h0; cases h0
  · have e : whole l = LX l.length l := if_neg hl
    rw [e] at h0 hX
    cases hs : sk false l with
    | nil => rw [LX_nil hs] at hX; cases hX
    | cons c r =>
      have hsuf : (c :: r) <:+ l := hs ▸ sk_suffix false l
      by_cases ht0 : (tok (c :: r)).1 = 0
      · rw [LX_tok hs ht0] at hX
        have ht : (tok (c :: r)).2 = t := by
          have := (List.cons.inj hX).1
          exact (Prod.mk.inj this).1
        obtain ⟨hp, hpre⟩ := tok_pos ht0
        rw [ht, hw] at hpre
        have hlen : (c :: r).length = l.length := Nat.le_antisymm hsuf.length_le hpre.length_le
        have hl2 : c :: r = l := hsuf.eq_of_length hlen
        have htw : (tok (c :: r)).2.w = c :: r := by rw [ht, hw, hl2]
        have htk : (tok (c :: r)).2.k = 1 := by rw [ht, hk]
        rw [← hl2, nm_iff]
        rw [tok_c] at htw htk ht0
        by_cases h1 : isLe c = true
        · rw [if_pos h1] at htw htk ht0
          split at ht0
          · simp at ht0
          · rename_i h16
            rw [if_neg h16] at htw
            have htw' : (c :: r).takeWhile isWd = c :: r := htw
            refine ⟨h1, by rw [htw'] at h16; simp at h16; omega, ?_⟩
            rw [← htw']
            exact List.all_eq_true.2 tw_mem
        · exfalso
          rw [if_neg h1] at htk ht0
          by_cases h2 : isDi c = true
          · rw [if_pos h2] at htk ht0
            split at ht0
            · rename_i h3; rw [if_pos h3] at htk; cases htk
            · simp at ht0
          · rw [if_neg h2] at htk ht0
            split at ht0
            · rename_i h3; rw [if_pos h3] at htk; cases htk
            · simp at ht0
      · rw [LX_bad hs ht0] at hX; cases hX
theorem len_take {l : List UInt8} (h : ¬ l.all isWd = true) : (l.takeWhile isWd).length ≠ l.length := fun e => h (by
  have : l.takeWhile isWd = l := (List.takeWhile_prefix isWd).eq_of_length e
  rw [← this]
  exact List.all_eq_true.2 tw_mem)
end Go.Proofs.YtnkokonkbklelaaGreatDoor.Lx
