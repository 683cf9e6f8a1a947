/- lex: numbers in digits, in plain words. -/
import Derived.Test.YtbicanlipgpioaaDoorLxP
namespace Go.Proofs.YtbicanlipgpioaaDoor.Lx
open Go.RowKit Go.Proofs.YtbicanlipgpioaaDoor

theorem bs_append (a b : List UInt8) : bs a ++ bs b = bs (a ++ b) := by
  have : (bs a ++ bs b).data.toList = a ++ b := by simp [bs]
  rw [← this, bs_of]
theorem vl_split (l : List UInt8) (a : Nat) : vl a l = a * 10 ^ l.length + vl 0 l := by
  induction l generalizing a with
  | nil => simp [vl]
  | cons c r ih =>
    rw [vl_c, ih, vl_c, ih (0 * 10 + (c.toNat - 48)), List.length_cons, Nat.pow_succ]
    simp only [Nat.zero_mul, Nat.zero_add, Nat.add_mul]
    rw [Nat.mul_assoc, Nat.mul_comm 10, Nat.add_assoc]
theorem vl_zero (k : Nat) (l : List UInt8) : vl 0 (List.replicate k 48 ++ l) = vl 0 l := by
  induction k with
  | zero => rfl
  | succ k ih => rw [List.replicate_succ, List.cons_append, vl_c]; exact ih

/-- D is n in digits. -/
structure Dec (n : Nat) (D : List UInt8) : Prop where
  all : D.all isDi = true
  ne : D ≠ []
  val : vl 0 D = n
theorem Dec.more {n : Nat} {D : List UInt8} (h : Dec n D) (k : Nat) : Dec n (List.replicate k 48 ++ D) := by
  refine ⟨?_, fun e => h.ne (List.append_eq_nil_iff.1 e).2, by rw [vl_zero, h.val]⟩
  rw [List.all_append, h.all, Bool.and_true, List.all_eq_true]
  intro x hx
  have := List.eq_of_mem_replicate hx
  subst this; decide
theorem wd_of_all {D : List UInt8} (h : D.all isDi = true) : ∀ x ∈ D, isWd x = true := fun x hx => isWd_of_di (List.all_eq_true.1 h x hx)
theorem take_all {D : List UInt8} (h : ∀ x ∈ D, isWd x = true) (c : UInt8) (hc : isWd c = false) (r : List UInt8) : (D ++ c :: r).takeWhile isWd = D := by
  induction D with
  | nil => simp [hc]
  | cons d D ih =>
    rw [List.cons_append, List.takeWhile_cons, if_pos (h d (List.mem_cons_self ..)), ih (fun x hx => h x (List.mem_cons_of_mem _ hx))]
theorem take_self {l : List UInt8} (h : ∀ x ∈ l, isWd x = true) : l.takeWhile isWd = l := by
  induction l with
  | nil => rfl
  | cons d D ih => rw [List.takeWhile_cons, if_pos (h d (List.mem_cons_self ..)), ih (fun x hx => h x (List.mem_cons_of_mem _ hx))]
theorem LX_semi (N : Nat) : LX N [59] = ([(⟨3, [59], 0⟩, N - 1)], 0, 0) := by
  have h1 : (tok [59]).1 = 0 := by decide
  have h2 : (tok [59]).2 = ⟨3, [59], 0⟩ := by decide
  rw [LX_tok (l := [59]) (c := 59) (r := []) (by decide) h1, h2]
  show ((⟨3, [59], 0⟩, N - (0 + 1)) :: (LX N (([59] : List UInt8).drop 1)).1, (LX N (([59] : List UInt8).drop 1)).2) = _
  rw [show LX N (([59] : List UInt8).drop 1) = ([], 0, 0) from LX_nil rfl]
theorem di_facts {c : UInt8} (h : isDi c = true) : isBl c = false ∧ (c == 35) = false ∧ isLe c = false := by
  have hd : 48 ≤ c.toNat ∧ c.toNat ≤ 57 := by simpa [isDi] using h
  have e : ∀ d : UInt8, (c == d) = true → c.toNat = d.toNat := fun d hh => by rw [eq_of_beq hh]
  refine ⟨?_, ?_, isDi_not_le h⟩
  · cases hb : isBl c with
    | false => rfl
    | true =>
      simp only [isBl, Bool.or_eq_true] at hb
      rcases hb with ((hb | hb) | hb) | hb <;> (have := e _ hb; simp at this; omega)
  · cases hb : (c == 35) with
    | false => rfl
    | true => have := e _ hb; simp at this; omega

theorem tok_num {n : Nat} {D : List UInt8} (h : Dec n D) (c : UInt8) (hc : isWd c = false) (r : List UInt8) :
    tok (D ++ c :: r) = if n ≤ 65535 then (0, ⟨2, D, n⟩) else (21, default) := by
  have ht := take_all (wd_of_all h.all) c hc r
  obtain ⟨d, E, rfl⟩ : ∃ d E, D = d :: E := by
    cases D with
    | nil => exact absurd rfl h.ne
    | cons d E => exact ⟨d, E, rfl⟩
  have hd : isDi d = true := List.all_eq_true.1 h.all d (List.mem_cons_self ..)
  rw [List.cons_append] at ht ⊢
  rw [tok_c, ht, (di_facts hd).2.2, if_neg (by simp), if_pos hd, h.all, h.val]
  by_cases hn : n ≤ 65535
  · rw [if_pos (by simpa using hn), if_pos hn]
  · rw [if_neg (by simpa using hn), if_neg hn]
theorem tok_und {n : Nat} {D : List UInt8} (h : Dec n D) : tok (D ++ [95]) = (21, default) := by
  obtain ⟨d, E, rfl⟩ : ∃ d E, D = d :: E := by
    cases D with
    | nil => exact absurd rfl h.ne
    | cons d E => exact ⟨d, E, rfl⟩
  have hd : isDi d = true := List.all_eq_true.1 h.all d (List.mem_cons_self ..)
  have ht : (d :: (E ++ [95])).takeWhile isWd = d :: (E ++ [95]) := by
    rw [← List.cons_append]
    refine take_self fun x hx => ?_
    rcases List.mem_append.1 hx with hx | hx
    · exact wd_of_all h.all x hx
    · rw [List.mem_singleton.1 hx]; decide
  have ha : (d :: (E ++ [95])).all isDi = false := by
    rw [← List.cons_append, List.all_append]
    have : ([95] : List UInt8).all isDi = false := by decide
    rw [this, Bool.and_false]
  rw [List.cons_append, tok_c, ht, (di_facts hd).2.2, if_neg (by simp), if_pos hd, ha, if_neg (by simp)]
theorem sk_num {n : Nat} {D : List UInt8} (h : Dec n D) (r : List UInt8) : sk false (D ++ r) = D ++ r := by
  obtain ⟨d, E, rfl⟩ : ∃ d E, D = d :: E := by
    cases D with
    | nil => exact absurd rfl h.ne
    | cons d E => exact ⟨d, E, rfl⟩
  have hd : isDi d = true := List.all_eq_true.1 h.all d (List.mem_cons_self ..)
  exact sk_stays (di_facts hd).1 (di_facts hd).2.1
theorem whole_num {n : Nat} {D : List UInt8} (h : Dec n D) (hn : n ≤ 65535) (hl : D.length ≤ 16000) :
    whole (D ++ [59]) = ([(⟨2, D, n⟩, 0), (⟨3, [59], 0⟩, D.length)], 0, 0) := by
  have ht := tok_num h 59 (by decide) []
  rw [if_pos hn] at ht
  have hs := sk_num h [59]
  unfold whole
  rw [if_neg (by simp; omega)]
  obtain ⟨d, E, rfl⟩ : ∃ d E, D = d :: E := by
    cases D with
    | nil => exact absurd rfl h.ne
    | cons d E => exact ⟨d, E, rfl⟩
  rw [List.cons_append] at hs ht ⊢
  have h0 : (tok (d :: (E ++ [59]))).1 = 0 := by rw [ht]
  rw [LX_tok hs h0, ht]
  have hd : (d :: (E ++ [59])).drop (d :: E).length = [59] := by
    rw [← List.cons_append]; exact List.drop_left
  show ((⟨2, d :: E, n⟩, _) :: (LX _ ((d :: (E ++ [59])).drop (d :: E).length)).1, (LX _ ((d :: (E ++ [59])).drop (d :: E).length)).2) = _
  rw [hd]
  rw [LX_semi]
  simp
theorem whole_big {n : Nat} {D : List UInt8} (h : Dec n D) (hn : ¬ n ≤ 65535) (hl : D.length ≤ 16000) : (whole (D ++ [59])).2 = (21, 0) := by
  have ht := tok_num h 59 (by decide) []
  rw [if_neg hn] at ht
  have hs := sk_num h [59]
  unfold whole
  rw [if_neg (by simp; omega)]
  obtain ⟨d, E, rfl⟩ : ∃ d E, D = d :: E := by
    cases D with
    | nil => exact absurd rfl h.ne
    | cons d E => exact ⟨d, E, rfl⟩
  rw [List.cons_append] at hs ht ⊢
  rw [LX_bad hs (by rw [ht]; decide), ht]
  simp
theorem whole_und {n : Nat} {D : List UInt8} (h : Dec n D) (hl : D.length ≤ 16000) : (whole (D ++ [95])).2 = (21, 0) := by
  have ht := tok_und h
  have hs := sk_num h [95]
  unfold whole
  rw [if_neg (by simp; omega)]
  obtain ⟨d, E, rfl⟩ : ∃ d E, D = d :: E := by
    cases D with
    | nil => exact absurd rfl h.ne
    | cons d E => exact ⟨d, E, rfl⟩
  rw [List.cons_append] at hs ht ⊢
  rw [LX_bad hs (by rw [ht]; decide), ht]
  simp
end Go.Proofs.YtbicanlipgpioaaDoor.Lx
