/- lex, the document's reader in plain words: what a byte is; how a word, a number and a remark end. -/
import Derived.Test.YtbicanlipgpioaaGreatDoorLxP
namespace Go.Proofs.YtbicanlipgpioaaGreatDoor.Lx
open Go.RowKit Go.Proofs.YtbicanlipgpioaaGreatDoor

/-- What a byte is, by its number. -/
def kN (z : Nat) : Nat :=
  if z = 9 ∨ z = 10 ∨ z = 13 ∨ z = 32 then 1 else if 97 ≤ z ∧ z ≤ 122 then 2 else if 48 ≤ z ∧ z ≤ 57 then 3 else if z = 95 then 4
  else if z = 123 ∨ z = 125 ∨ z = 59 then 5 else if z = 35 then 6 else 0
theorem u8_eq {c d : UInt8} : (c == d) = true ↔ c.toNat = d.toNat :=
  ⟨fun h => by rw [eq_of_beq h], fun h => by rw [UInt8.toNat_inj.1 h]; exact beq_self_eq_true d⟩
theorem bl_iff (c : UInt8) : isBl c = true ↔ c.toNat = 9 ∨ c.toNat = 10 ∨ c.toNat = 13 ∨ c.toNat = 32 := by
  simp only [isBl, Bool.or_eq_true, u8_eq]
  show ((c.toNat = 9 ∨ c.toNat = 10) ∨ c.toNat = 13) ∨ c.toNat = 32 ↔ _
  omega
theorem le_iff (c : UInt8) : isLe c = true ↔ 97 ≤ c.toNat ∧ c.toNat ≤ 122 := by simp [isLe]
theorem di_iff (c : UInt8) : isDi c = true ↔ 48 ≤ c.toNat ∧ c.toNat ≤ 57 := by simp [isDi]
theorem un_iff (c : UInt8) : (c == 95) = true ↔ c.toNat = 95 := u8_eq
theorem ha_iff (c : UInt8) : (c == 35) = true ↔ c.toNat = 35 := u8_eq
theorem sg_iff (c : UInt8) : isSg c = true ↔ c.toNat = 123 ∨ c.toNat = 125 ∨ c.toNat = 59 := by
  simp only [isSg, Bool.or_eq_true, u8_eq]
  show (c.toNat = 123 ∨ c.toNat = 125) ∨ c.toNat = 59 ↔ _
  omega
theorem wd_iff (c : UInt8) : isWd c = true ↔ kN c.toNat = 2 ∨ kN c.toNat = 3 ∨ kN c.toNat = 4 := by
  simp only [isWd, Bool.or_eq_true, le_iff, di_iff, un_iff]
  unfold kN
  (repeat' split) <;> omega
theorem kN_1 {c : UInt8} (h : kN c.toNat = 1) : isBl c = true := by
  rw [bl_iff]; unfold kN at h; (repeat' split at h) <;> omega
theorem kN_2 {c : UInt8} (h : kN c.toNat = 2) : isLe c = true := by
  rw [le_iff]; unfold kN at h; (repeat' split at h) <;> omega
theorem kN_3 {c : UInt8} (h : kN c.toNat = 3) : isDi c = true := by
  rw [di_iff]; unfold kN at h; (repeat' split at h) <;> omega
theorem di_kN {c : UInt8} (h : isDi c = true) : kN c.toNat = 3 := by
  rw [di_iff] at h; unfold kN; (repeat' split) <;> omega
theorem kN_5 {c : UInt8} (h : kN c.toNat = 5) : isSg c = true := by
  rw [sg_iff]; unfold kN at h; (repeat' split at h) <;> omega
theorem kN_6 {c : UInt8} (h : kN c.toNat = 6) : c = 35 := by
  refine UInt8.toNat_inj.1 ?_
  show c.toNat = 35
  unfold kN at h; (repeat' split at h) <;> omega
theorem kN_le (z : Nat) : kN z ≤ 6 := by unfold kN; (repeat' split) <;> omega
theorem not_of {b : Bool} (h : ¬ b = true) : b = false := by simpa using h
theorem kN_first {c : UInt8} (h1 : kN c.toNat ≠ 1) (h6 : kN c.toNat ≠ 6) (r : List UInt8) : sk false (c :: r) = c :: r := by
  refine sk_stays (not_of fun h => h1 ?_) (not_of fun h => h6 ?_)
  · rw [bl_iff] at h; unfold kN; (repeat' split) <;> omega
  · rw [ha_iff] at h; unfold kN; (repeat' split) <;> omega
theorem tok_sign {c : UInt8} (h : kN c.toNat = 5) (r : List UInt8) : tok (c :: r) = (0, ⟨3, [c], 0⟩) := by
  rw [tok_c, if_neg, if_neg, if_pos (kN_5 h)]
  · rw [di_iff]; intro h'; unfold kN at h; (repeat' split at h) <;> omega
  · rw [le_iff]; intro h'; unfold kN at h; (repeat' split at h) <;> omega
theorem tok_other {c : UInt8} (h : kN c.toNat = 0 ∨ kN c.toNat = 4) (r : List UInt8) : (tok (c :: r)).1 = 20 := by
  rw [tok_c, if_neg, if_neg, if_neg]
  · rw [sg_iff]; intro h'; unfold kN at h; (repeat' split at h) <;> omega
  · rw [di_iff]; intro h'; unfold kN at h; (repeat' split at h) <;> omega
  · rw [le_iff]; intro h'; unfold kN at h; (repeat' split at h) <;> omega
theorem tok_letter {c : UInt8} (h : kN c.toNat = 2) (r : List UInt8) : tok (c :: r) = if 16 < ((c :: r).takeWhile isWd).length then (22, default) else (0, ⟨1, (c :: r).takeWhile isWd, 0⟩) := by
  rw [tok_c, if_pos (kN_2 h)]
theorem tok_digit {c : UInt8} (h : kN c.toNat = 3) (r : List UInt8) : tok (c :: r) = if ((c :: r).takeWhile isWd).all isDi && decide (vl 0 ((c :: r).takeWhile isWd) ≤ 65535) then (0, ⟨2, (c :: r).takeWhile isWd, vl 0 ((c :: r).takeWhile isWd)⟩) else (21, default) := by
  rw [tok_c, if_neg, if_pos (kN_3 h)]
  rw [le_iff]; intro h'; unfold kN at h; (repeat' split at h) <;> omega

theorem tw_self {p : UInt8 → Bool} {l : List UInt8} (h : ∀ x ∈ l, p x = true) : l.takeWhile p = l := by
  induction l with
  | nil => rfl
  | cons d D ih => rw [List.takeWhile_cons, if_pos (h d (List.mem_cons_self ..)), ih (fun x hx => h x (List.mem_cons_of_mem _ hx))]
theorem tw_app {p : UInt8 → Bool} {D R : List UInt8} (h : ∀ x ∈ D, p x = true) (hR : ∀ d R', R = d :: R' → p d = false) : (D ++ R).takeWhile p = D := by
  induction D with
  | nil =>
    cases R with
    | nil => rfl
    | cons d R => simp [hR d R rfl]
  | cons d D ih =>
    rw [List.cons_append, List.takeWhile_cons, if_pos (h d (List.mem_cons_self ..)), ih (fun x hx => h x (List.mem_cons_of_mem _ hx))]
theorem tw_mem {p : UInt8 → Bool} {l : List UInt8} : ∀ x ∈ l.takeWhile p, p x = true := fun x hx => List.all_eq_true.1 (List.all_takeWhile (l := l) (p := p)) x hx
/-- How many stand first. -/
def pn (p : UInt8 → Bool) (l : List UInt8) : Nat := (l.takeWhile p).length
theorem pn_le (p : UInt8 → Bool) (l : List UInt8) : pn p l ≤ l.length := (List.takeWhile_prefix p).length_le
theorem pn_in (p : UInt8 → Bool) (l : List UInt8) (k : Nat) (h : k < pn p l) : ∃ hk : k < l.length, p l[k] = true := by
  have hk : k < l.length := Nat.lt_of_lt_of_le h (pn_le p l)
  refine ⟨hk, ?_⟩
  have hp : l.takeWhile p <+: l := List.takeWhile_prefix p
  have e : (l.takeWhile p)[k]'h = l[k] := hp.getElem h
  rw [← e]
  exact tw_mem _ (List.getElem_mem _)
theorem pn_end (p : UInt8 → Bool) (l : List UInt8) (h : pn p l < l.length) : p l[pn p l] = false := by
  induction l with
  | nil => simp at h
  | cons c r ih =>
    by_cases hc : p c = true
    · have e : pn p (c :: r) = pn p r + 1 := by simp [pn, hc]
      have h' : pn p r < r.length := by simp [e] at h; exact h
      have := ih h'
      simp only [e, List.getElem_cons_succ]
      exact this
    · have e : pn p (c :: r) = 0 := by simp [pn, hc]
      simp only [e, List.getElem_cons_zero]
      simpa using hc
theorem pn_take (p : UInt8 → Bool) (l : List UInt8) : l.take (pn p l) = l.takeWhile p := (List.prefix_iff_eq_take.1 (List.takeWhile_prefix p)).symm

/-- A number and what stands behind its digits: nothing of a word, or something. -/
theorem num_plain {c : UInt8} {r : List UInt8} (h : kN c.toNat = 3) (hs : ∀ hk : pn isDi (c :: r) < (c :: r).length, isWd (c :: r)[pn isDi (c :: r)] = false) :
    tok (c :: r) = if vl 0 ((c :: r).take (pn isDi (c :: r))) ≤ 65535 then (0, ⟨2, (c :: r).take (pn isDi (c :: r)), vl 0 ((c :: r).take (pn isDi (c :: r)))⟩) else (21, default) := by
  generalize hl : c :: r = l at *
  have hD : ∀ x ∈ l.take (pn isDi l), isDi x = true := by rw [pn_take]; exact tw_mem
  have hw : l.takeWhile isWd = l.take (pn isDi l) := by
    have := tw_app (p := isWd) (D := l.take (pn isDi l)) (R := l.drop (pn isDi l)) (fun x hx => isWd_of_di (hD x hx)) (fun d R' he => by
      have hk : pn isDi l < l.length := by
        rcases Nat.lt_or_ge (pn isDi l) l.length with h | h
        · exact h
        · rw [List.drop_eq_nil_of_le h] at he; cases he
      have h2 := hs hk
      rw [List.drop_eq_getElem_cons hk] at he
      injection he with he1 _
      rw [← he1]; exact h2)
    rw [List.take_append_drop] at this
    exact this
  subst hl
  rw [tok_digit h, hw, List.all_eq_true.2 hD]
  by_cases hv : vl 0 ((c :: r).take (pn isDi (c :: r))) ≤ 65535
  · rw [if_pos (by simpa using hv), if_pos hv]
  · rw [if_neg (by simpa using hv), if_neg hv]
theorem num_run {c : UInt8} {r : List UInt8} (h : kN c.toNat = 3) (hk : pn isDi (c :: r) < (c :: r).length) (hs : isWd (c :: r)[pn isDi (c :: r)] = true) : (tok (c :: r)).1 = 21 := by
  generalize hl : c :: r = l at *
  have hd := pn_end isDi l hk
  have hnot : (l.takeWhile isWd).all isDi = false := by
    refine not_of fun ha => ?_
    have hlt : pn isDi l < pn isWd l := by
      rcases Nat.lt_or_ge (pn isDi l) (pn isWd l) with h1 | h1
      · exact h1
      · exfalso
        by_cases hw : pn isWd l < l.length
        · have e1 := pn_end isWd l hw
          rcases Nat.lt_or_ge (pn isWd l) (pn isDi l) with h2 | h2
          · obtain ⟨_, h3⟩ := pn_in isDi l _ h2
            rw [isWd_of_di h3] at e1; cases e1
          · have e2 : pn isWd l = pn isDi l := Nat.le_antisymm h1 h2
            simp only [e2] at e1
            rw [hs] at e1; cases e1
        · omega
    have hp : l.takeWhile isWd <+: l := List.takeWhile_prefix isWd
    have e : (l.takeWhile isWd)[pn isDi l]'hlt = l[pn isDi l] := hp.getElem hlt
    have := List.all_eq_true.1 ha _ (List.getElem_mem hlt)
    rw [e, hd] at this; cases this
  subst hl
  rw [tok_digit h, hnot]
  rfl
theorem vl_snoc (l : List UInt8) (c : UInt8) : vl 0 (l ++ [c]) = vl 0 l * 10 + (c.toNat - 48) := by unfold vl; rw [List.foldl_append]; rfl
theorem drop_cons {l : List UInt8} {i : Nat} (h : i < l.length) : l.drop i = l[i] :: l.drop (i + 1) := List.drop_eq_getElem_cons h
end Go.Proofs.YtbicanlipgpioaaGreatDoor.Lx
