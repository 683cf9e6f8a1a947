/- lex in plain words: what a byte is, what is skipped, which token stands first, all tokens of a text with their places. -/
import Derived.Test.YtnkokonkbklelaaGreatDoorOnA
import Derived.Lib.SlTrimSet
import Derived.Lib.IndexLaws
import Derived.Lib.ParseIntB
namespace Go.Proofs.YtnkokonkbklelaaGreatDoor.Lx
open Go.RowKit Go.Proofs.YtnkokonkbklelaaGreatDoor

/-- A string out of its bytes. -/
def bs (l : List UInt8) : ByteArray := ⟨l.toArray⟩
@[simp] theorem bs_list (l : List UInt8) : (bs l).data.toList = l := by simp [bs]
@[simp] theorem bs_size (l : List UInt8) : (bs l).size = l.length := by simp [bs, ByteArray.size]
theorem bs_of (s : ByteArray) : bs s.data.toList = s := by cases s; simp [bs]
theorem bs_inj {a b : List UInt8} (h : bs a = bs b) : a = b := by
  have := congrArg (fun s : ByteArray => s.data.toList) h
  simpa using this

def isBl (c : UInt8) : Bool := c == 9 || c == 10 || c == 13 || c == 32
def isLe (c : UInt8) : Bool := decide (97 ≤ c.toNat) && decide (c.toNat ≤ 122)
def isDi (c : UInt8) : Bool := decide (48 ≤ c.toNat) && decide (c.toNat ≤ 57)
def isWd (c : UInt8) : Bool := isLe c || isDi c || c == 95
def isSg (c : UInt8) : Bool := c == 123 || c == 125 || c == 59

/-- What is left behind blanks and remarks (true: within a remark). -/
def sk : Bool → List UInt8 → List UInt8
  | _, [] => []
  | false, c :: r => if isBl c then sk false r else if c == 35 then sk true r else c :: r
  | true, c :: r => if c == 10 then sk false r else sk true r
/-- What is left behind the end of the line. -/
def nl : List UInt8 → List UInt8
  | [] => []
  | c :: r => if c == 10 then r else nl r

theorem sk_f (c : UInt8) (r : List UInt8) : sk false (c :: r) = if isBl c then sk false r else if c == 35 then sk true r else c :: r := by rw [sk]
theorem sk_t (c : UInt8) (r : List UInt8) : sk true (c :: r) = if c == 10 then sk false r else sk true r := by rw [sk]
theorem nl_c (c : UInt8) (r : List UInt8) : nl (c :: r) = if c == 10 then r else nl r := rfl
theorem sk_true (l : List UInt8) : sk true l = sk false (nl l) := by
  induction l with
  | nil => rfl
  | cons c r ih =>
    rw [sk_t, nl_c]
    split
    · rfl
    · exact ih
theorem sk_drop (l : List UInt8) : sk false (l.dropWhile isBl) = sk false l := by
  induction l with
  | nil => rfl
  | cons c r ih =>
    rw [List.dropWhile_cons]
    by_cases h : isBl c = true
    · rw [if_pos h, ih, sk_f, if_pos h]
    · rw [if_neg h]
theorem sk_le (b : Bool) (l : List UInt8) : (sk b l).length ≤ l.length := by
  induction l generalizing b with
  | nil => cases b <;> simp [sk]
  | cons c r ih =>
    have h1 := ih false
    have h2 := ih true
    cases b <;> (first | rw [sk_f] | rw [sk_t]) <;> (repeat' split) <;> simp <;> omega
theorem sk_suffix (b : Bool) (l : List UInt8) : sk b l <:+ l := by
  induction l generalizing b with
  | nil => cases b <;> simp [sk]
  | cons c r ih =>
    have h1 := ih false
    have h2 := ih true
    cases b <;> (first | rw [sk_f] | rw [sk_t]) <;> (repeat' split) <;> first | exact List.suffix_refl _ | exact h1.trans (List.suffix_cons _ _) | exact h2.trans (List.suffix_cons _ _)
/-- What stands first behind it is no blank and no remark. -/
theorem sk_head {b : Bool} {l : List UInt8} {c : UInt8} {r : List UInt8} (h : sk b l = c :: r) : isBl c = false ∧ (c == 35) = false := by
  induction l generalizing b with
  | nil => cases b <;> simp [sk] at h
  | cons d t ih =>
    cases b
    · rw [sk_f] at h
      split at h
      · exact ih h
      · rename_i hb
        split at h
        · exact ih h
        · rename_i h3
          cases h
          exact ⟨by simpa using hb, by simpa using h3⟩
    · rw [sk_t] at h
      split at h
      · exact ih h
      · exact ih h
theorem sk_stays {c : UInt8} {r : List UInt8} (h1 : isBl c = false) (h2 : (c == 35) = false) : sk false (c :: r) = c :: r := by
  rw [sk_f, if_neg (by simp [h1]), if_neg (by simp [h2])]
theorem sk_idem (b : Bool) (l : List UInt8) : sk false (sk b l) = sk b l := by
  cases h : sk b l with
  | nil => rfl
  | cons c r => exact sk_stays (sk_head h).1 (sk_head h).2
theorem sk_hash (r : List UInt8) : sk false (35 :: r) = sk true r := by
  rw [sk_f, if_neg (by decide), if_pos (by decide)]

/-- The value of digits, read on from a. -/
def vl (a : Nat) (l : List UInt8) : Nat := l.foldl (fun b c => b * 10 + (c.toNat - 48)) a
theorem vl_c (a : Nat) (c : UInt8) (r : List UInt8) : vl a (c :: r) = vl (a * 10 + (c.toNat - 48)) r := by unfold vl; rw [List.foldl_cons]
theorem vl_ge (l : List UInt8) (a : Nat) : a ≤ vl a l := by
  induction l generalizing a with
  | nil => exact Nat.le_refl _
  | cons c r ih =>
    have := ih (a * 10 + (c.toNat - 48))
    rw [vl_c]; omega

/-- A token: its kind, its bytes, its number. -/
structure Tok where
  k : Nat
  w : List UInt8
  n : Nat
deriving Inhabited, DecidableEq
/-- The token that stands first (0 and it), or what is wrong there. -/
def tok : List UInt8 → Nat × Tok
  | [] => (20, default)
  | c :: r =>
    if isLe c then (if 16 < ((c :: r).takeWhile isWd).length then (22, default) else (0, ⟨1, (c :: r).takeWhile isWd, 0⟩))
    else if isDi c then (if ((c :: r).takeWhile isWd).all isDi && decide (vl 0 ((c :: r).takeWhile isWd) ≤ 65535) then (0, ⟨2, (c :: r).takeWhile isWd, vl 0 ((c :: r).takeWhile isWd)⟩) else (21, default))
    else if isSg c then (0, ⟨3, [c], 0⟩)
    else (20, default)

theorem tok_c (c : UInt8) (r : List UInt8) : tok (c :: r) = 
    if isLe c then (if 16 < ((c :: r).takeWhile isWd).length then (22, default) else (0, ⟨1, (c :: r).takeWhile isWd, 0⟩))
    else if isDi c then (if ((c :: r).takeWhile isWd).all isDi && decide (vl 0 ((c :: r).takeWhile isWd) ≤ 65535) then (0, ⟨2, (c :: r).takeWhile isWd, vl 0 ((c :: r).takeWhile isWd)⟩) else (21, default))
    else if isSg c then (0, ⟨3, [c], 0⟩)
    else (20, default) := rfl
theorem isWd_of_le {c : UInt8} (h : isLe c = true) : isWd c = true := by simp [isWd, h]
theorem isWd_of_di {c : UInt8} (h : isDi c = true) : isWd c = true := by simp [isWd, h]
theorem isDi_not_le {c : UInt8} (h : isDi c = true) : isLe c = false := by
  simp [isDi, isLe] at *; omega
theorem take_prefix (l : List UInt8) (p : UInt8 → Bool) : l.takeWhile p <+: l := List.takeWhile_prefix p

theorem tok_pos {l : List UInt8} (h : (tok l).1 = 0) : 1 ≤ (tok l).2.w.length ∧ (tok l).2.w <+: l := by
  cases l with
  | nil => simp [tok] at h
  | cons c r =>
    rw [tok_c] at h ⊢
    by_cases h1 : isLe c = true
    · rw [if_pos h1] at h ⊢
      split at h
      · simp at h
      · rename_i h16
        rw [if_neg h16]
        exact ⟨by simp [isWd_of_le h1], take_prefix _ _⟩
    · rw [if_neg h1] at h ⊢
      by_cases h2 : isDi c = true
      · rw [if_pos h2] at h ⊢
        split at h
        · rename_i h3
          rw [if_pos h3]
          exact ⟨by simp [isWd_of_di h2], take_prefix _ _⟩
        · simp at h
      · rw [if_neg h2] at h ⊢
        split at h
        · rename_i h3
          rw [if_pos h3]
          exact ⟨by simp, ⟨r, rfl⟩⟩
        · simp at h

/-- The tokens of what is left of a text of N bytes, each with its place; and what is wrong, and where. -/
def lx : Nat → Nat → List UInt8 → List (Tok × Nat) × (Nat × Nat)
  | 0, _, _ => ([], 0, 0)
  | n + 1, N, l =>
    match sk false l with
    | [] => ([], 0, 0)
    | c :: r =>
      if (tok (c :: r)).1 = 0 then
        (((tok (c :: r)).2, N - (r.length + 1)) :: (lx n N ((c :: r).drop (tok (c :: r)).2.w.length)).1, (lx n N ((c :: r).drop (tok (c :: r)).2.w.length)).2)
      else ([], (tok (c :: r)).1, N - (r.length + 1))
/-- All of it, whatever its length. -/
def LX (N : Nat) (l : List UInt8) : List (Tok × Nat) × (Nat × Nat) := lx (l.length + 1) N l

theorem lx_fuel (n m N : Nat) (l : List UInt8) (hn : l.length < n) (hm : l.length < m) : lx n N l = lx m N l := by
  induction n generalizing m l with
  | zero => omega
  | succ n ih =>
    cases m with
    | zero => omega
    | succ m =>
      unfold lx
      have hle := sk_le false l
      cases hs : sk false l with
      | nil => rfl
      | cons c r =>
        rw [hs] at hle
        by_cases h0 : (tok (c :: r)).1 = 0
        · have hp := tok_pos h0
          have hd : ((c :: r).drop (tok (c :: r)).2.w.length).length < l.length := by
            simp at hle ⊢; omega
          simp only [h0, if_true]
          rw [ih m _ (by omega) (by omega)]
        · simp only [h0, if_false]
theorem LX_nil {N : Nat} {l : List UInt8} (h : sk false l = []) : LX N l = ([], 0, 0) := by
  unfold LX lx; rw [h]
theorem LX_bad {N : Nat} {l : List UInt8} {c : UInt8} {r : List UInt8} (h : sk false l = c :: r) (h0 : (tok (c :: r)).1 ≠ 0) : LX N l = ([], (tok (c :: r)).1, N - (r.length + 1)) := by
  unfold LX lx; rw [h]; simp only [h0, if_false]
theorem LX_tok {N : Nat} {l : List UInt8} {c : UInt8} {r : List UInt8} (h : sk false l = c :: r) (h0 : (tok (c :: r)).1 = 0) :
    LX N l = (((tok (c :: r)).2, N - (r.length + 1)) :: (LX N ((c :: r).drop (tok (c :: r)).2.w.length)).1, (LX N ((c :: r).drop (tok (c :: r)).2.w.length)).2) := by
  have hle := sk_le false l
  rw [h] at hle
  have hp := tok_pos h0
  have e : lx l.length N ((c :: r).drop (tok (c :: r)).2.w.length) = LX N ((c :: r).drop (tok (c :: r)).2.w.length) :=
    lx_fuel _ _ _ _ (by simp at hle ⊢; omega) (by simp)
  conv => lhs; unfold LX lx
  rw [h]
  simp only [h0, if_true, e]
/-- What is skipped ahead is nothing to it. -/
theorem LX_sk (N : Nat) (l l' : List UInt8) (h : sk false l = sk false l') : LX N l = LX N l' := by
  cases hs : sk false l with
  | nil => rw [LX_nil hs, LX_nil (h.symm.trans hs)]
  | cons c r =>
    by_cases h0 : (tok (c :: r)).1 = 0
    · exact (LX_tok hs h0).trans (LX_tok (h.symm.trans hs) h0).symm
    · exact (LX_bad hs h0).trans (LX_bad (h.symm.trans hs) h0).symm

/-- The whole text. -/
def whole (s : List UInt8) : List (Tok × Nat) × (Nat × Nat) := if 16384 < s.length then ([], 5, 0) else LX s.length s

/-! ### The library's words -/
theorem trim_eq (l : List UInt8) : Lib.trimLeftS l [9, 10, 13, 32] = l.dropWhile isBl := by
  unfold Lib.trimLeftS
  congr 1
  funext c
  rw [Bool.eq_iff_iff]
  simp [isBl, or_assoc]
theorem nl_eq (l : List UInt8) : nl l = if Lib.indexByte l 10 = -1 then [] else l.drop ((Lib.indexByte l 10).toNat + 1) := by
  induction l with
  | nil => rfl
  | cons c r ih =>
    have hge := Lib.indexByte_ge r 10
    have e : Lib.indexByte (c :: r) 10 = if c == 10 then 0 else if Lib.indexByte r 10 == -1 then -1 else Lib.indexByte r 10 + 1 := rfl
    rw [nl_c, e]
    by_cases h : (c == 10) = true
    · rw [if_pos h, if_pos h]; rfl
    · rw [if_neg h, if_neg h, ih]
      by_cases h1 : Lib.indexByte r 10 = -1
      · simp [h1]
      · have h2 : (Lib.indexByte r 10 == -1) = false := by simpa using h1
        have h3 : ¬ Lib.indexByte r 10 + 1 = -1 := by omega
        rw [if_neg h1, h2, if_neg (show ¬ (false = true) by simp), if_neg h3]
        have : (Lib.indexByte r 10 + 1).toNat + 1 = (Lib.indexByte r 10).toNat + 1 + 1 := by omega
        rw [this, List.drop_succ_cons]
theorem pu_ok (l : List UInt8) (a : Nat) (h : l.all isDi = true) (hv : vl a l ≤ 65535) : Lib.parseUintM 65535 a l = .ok (vl a l) := by
  induction l generalizing a with
  | nil => rfl
  | cons c r ih =>
    have hc : isDi c = true := by simp at h; exact h.1
    have hr : r.all isDi = true := by simp at h ⊢; exact h.2
    rw [vl_c] at hv ⊢
    have hg := vl_ge r (a * 10 + (c.toNat - 48))
    have hd : 48 ≤ c.toNat ∧ c.toNat ≤ 57 := by simpa [isDi] using hc
    rw [Lib.parseUintM.eq_2, if_pos hd, if_neg (by omega), if_neg (by omega)]
    exact ih _ hr hv
theorem pu_bad (l : List UInt8) (a : Nat) (h : ¬ (l.all isDi = true ∧ vl a l ≤ 65535)) (ha : a ≤ 65535) : Lib.parseUintM 65535 a l = Lib.NumEnd.syntax ∨ Lib.parseUintM 65535 a l = Lib.NumEnd.range := by
  induction l generalizing a with
  | nil => exact absurd ⟨rfl, ha⟩ h
  | cons c r ih =>
    rw [Lib.parseUintM.eq_2]
    by_cases hd : 48 ≤ c.toNat ∧ c.toNat ≤ 57
    · rw [if_pos hd, if_neg (by omega)]
      by_cases hm : 65535 < a * 10 + (c.toNat - 48)
      · rw [if_pos hm]; exact Or.inr rfl
      · rw [if_neg hm]
        refine ih _ (fun hh => h ⟨?_, ?_⟩) (by omega)
        · have hc : isDi c = true := by simp [isDi, hd]
          simpa [hc] using hh.1
        · exact hh.2
    · rw [if_neg hd]; exact Or.inl rfl
end Go.Proofs.YtnkokonkbklelaaGreatDoor.Lx
