/- wheel: timers in plain words: where each lies, and what a tick moves. -/
import Derived.Test.YtpmgmdlfnlmieaaRows
namespace Go.Proofs.Ytpmgmdlfnlmieaa.Wh

/-- A timer: its number, the tick at which it is due, how many were added ahead of it. -/
structure Tm where
  id : Nat
  due : Nat
  num : Nat
instance : Inhabited Tm := ⟨⟨0, 0, 0⟩⟩

def pw : Nat → Nat
  | 0 => 1
  | 1 => 8
  | 2 => 64
  | _ => 512
def dig (x l : Nat) : Nat := x / pw l % 8
def lev (now due : Nat) : Nat := if due / 512 = now / 512 then (if due / 64 = now / 64 then (if due / 8 = now / 8 then 0 else 1) else 2) else 3
def spot (now due : Nat) : Nat := 8 * lev now due + dig due (lev now due)
theorem lev_le (now due : Nat) : lev now due ≤ 3 := by unfold lev; split <;> (try split) <;> (try split) <;> omega
theorem dig_lt (x l : Nat) : dig x l < 8 := Nat.mod_lt _ (by decide)
theorem spot_lt (now due : Nat) : spot now due < 32 := by have := lev_le now due; have := dig_lt due (lev now due); unfold spot; omega

/-- What lies in slot n. -/
def slots (now : Nat) (L : List Tm) (n : Nat) : List Tm := L.filter fun t => spot now t.due == n
/-- The timers M put where they belong, each behind those that there are. -/
def putAll (now : Nat) (F : Nat → List Tm) (M : List Tm) : Nat → List Tm := fun n => F n ++ slots now M n
/-- Slot n emptied. -/
def emp (F : Nat → List Tm) (n : Nat) : Nat → List Tm := fun m => if m = n then [] else F m
theorem putAll_nil (now : Nat) (F : Nat → List Tm) : putAll now F [] = F := by funext n; simp [putAll, slots]
theorem putAll_append (now : Nat) (F : Nat → List Tm) (M N : List Tm) : putAll now F (M ++ N) = putAll now (putAll now F M) N := by
  funext n; simp [putAll, slots]
theorem putAll_one (now : Nat) (F : Nat → List Tm) (t : Tm) (n : Nat) : putAll now F [t] n = if n = spot now t.due then F n ++ [t] else F n := by
  unfold putAll slots
  by_cases h : n = spot now t.due
  · subst h; simp
  · have h' : ¬ spot now t.due = n := fun e => h e.symm
    simp [h, h']

/-- All are due in time. -/
def InTime (now : Nat) (L : List Tm) : Prop := ∀ t ∈ L, now < t.due ∧ t.due ≤ now + 4095

/-- Where a timer lies in the midst of a tick, ahead of the turn of wheel k. -/
def mid (now k due : Nat) : Nat := if lev now due < k then spot (now + 1) due else spot now due
def mids (now k : Nat) (L : List Tm) (n : Nat) : List Tm := L.filter fun t => mid now k t.due == n

theorem filter_ext {p q : Tm → Bool} {L : List Tm} (h : ∀ t ∈ L, p t = q t) : L.filter p = L.filter q := List.filter_congr h
theorem mids_start {now : Nat} {L : List Tm} (h : InTime now L) : mids now 1 L = slots now L := by
  funext n
  refine filter_ext fun t ht => ?_
  have := h t ht
  have e : mid now 1 t.due = spot now t.due := by
    unfold mid
    by_cases h0 : lev now t.due < 1
    · rw [if_pos h0]
      unfold lev at h0
      have h1 : t.due / 512 = now / 512 ∧ t.due / 64 = now / 64 ∧ t.due / 8 = now / 8 := by
        revert h0
        split <;> (try split) <;> (try split) <;> omega
      have e1 : lev now t.due = 0 := by unfold lev; simp [h1]
      have e2 : lev (now + 1) t.due = 0 := by
        unfold lev
        rw [if_pos (by omega), if_pos (by omega), if_pos (by omega)]
      unfold spot; rw [e1, e2]
    · rw [if_neg h0]
  rw [e]
theorem lev_cases (now due : Nat) : (lev now due = 0 ∧ due / 8 = now / 8 ∧ due / 64 = now / 64 ∧ due / 512 = now / 512) ∨ (lev now due = 1 ∧ ¬ due / 8 = now / 8 ∧ due / 64 = now / 64 ∧ due / 512 = now / 512) ∨
    (lev now due = 2 ∧ ¬ due / 64 = now / 64 ∧ due / 512 = now / 512) ∨ (lev now due = 3 ∧ ¬ due / 512 = now / 512) := by
  unfold lev
  split <;> (try split) <;> (try split) <;> omega
theorem lev_0 {now due : Nat} (h : due / 8 = now / 8) : lev now due = 0 := by unfold lev; rw [if_pos (by omega), if_pos (by omega), if_pos h]
theorem lev_1 {now due : Nat} (h : ¬ due / 8 = now / 8) (h2 : due / 64 = now / 64) : lev now due = 1 := by unfold lev; rw [if_pos (by omega), if_pos h2, if_neg h]
theorem lev_2 {now due : Nat} (h : ¬ due / 64 = now / 64) (h2 : due / 512 = now / 512) : lev now due = 2 := by unfold lev; rw [if_pos h2, if_neg h]
theorem lev_3 {now due : Nat} (h : ¬ due / 512 = now / 512) : lev now due = 3 := by unfold lev; rw [if_neg h]

/-- (1) Nobody lies lower than a wheel that comes round. -/
theorem none_lower {now k due : Nat} (hk : 1 ≤ k) (hk3 : k ≤ 3) (h8 : (now + 1) % pw k = 0) (h1 : now < due) : k ≤ lev now due := by
  have : k = 1 ∨ k = 2 ∨ k = 3 := by omega
  rcases this with rfl | rfl | rfl <;> simp only [pw] at h8 <;> rcases lev_cases now due with ⟨e, a⟩ | ⟨e, a⟩ | ⟨e, a⟩ | ⟨e, a⟩ <;> omega
/-- (2) Who lies in the slot to which it has come comes down. -/
theorem comes_down {now k due : Nat} (hk : 1 ≤ k) (hk3 : k ≤ 3) (h8 : (now + 1) % pw k = 0) (h1 : now < due) (h2 : due ≤ now + 4095) (hl : lev now due = k) (hd : dig due k = dig (now + 1) k) : lev (now + 1) due < k := by
  have : k = 1 ∨ k = 2 ∨ k = 3 := by omega
  unfold dig at hd
  rcases this with rfl | rfl | rfl <;> simp only [pw] at h8 hd <;> rcases lev_cases now due with ⟨e, a⟩ | ⟨e, a⟩ | ⟨e, a⟩ | ⟨e, a⟩ <;> rcases lev_cases (now + 1) due with ⟨e', a'⟩ | ⟨e', a'⟩ | ⟨e', a'⟩ | ⟨e', a'⟩ <;> omega
/-- (3) Who lies in another slot of that wheel stays. -/
theorem stays {now k due : Nat} (hk : 1 ≤ k) (hk3 : k ≤ 3) (h8 : (now + 1) % pw k = 0) (h1 : now < due) (hl : lev now due = k) (hd : ¬ dig due k = dig (now + 1) k) : lev (now + 1) due = k := by
  have : k = 1 ∨ k = 2 ∨ k = 3 := by omega
  unfold dig at hd
  rcases this with rfl | rfl | rfl <;> simp only [pw] at h8 hd <;> rcases lev_cases now due with ⟨e, a⟩ | ⟨e, a⟩ | ⟨e, a⟩ | ⟨e, a⟩ <;> rcases lev_cases (now + 1) due with ⟨e', a'⟩ | ⟨e', a'⟩ | ⟨e', a'⟩ | ⟨e', a'⟩ <;> omega
/-- (4) Who lies on a wheel that doesn't come round stays. -/
theorem stays_above {now k due : Nat} (hk : 1 ≤ k) (hk4 : k ≤ 4) (h8 : k = 4 ∨ ¬ (now + 1) % pw k = 0) (hl : k ≤ lev now due) : spot (now + 1) due = spot now due := by
  have : k = 1 ∨ k = 2 ∨ k = 3 ∨ k = 4 := by omega
  have e : lev (now + 1) due = lev now due := by
    rcases this with rfl | rfl | rfl | rfl <;> simp only [pw] at h8 <;> rcases lev_cases now due with ⟨e, a⟩ | ⟨e, a⟩ | ⟨e, a⟩ | ⟨e, a⟩ <;> rcases lev_cases (now + 1) due with ⟨e', a'⟩ | ⟨e', a'⟩ | ⟨e', a'⟩ | ⟨e', a'⟩ <;> omega
  unfold spot; rw [e]
theorem spot_eq {now due k d : Nat} (hd : d < 8) : spot now due = 8 * k + d ↔ lev now due = k ∧ dig due k = d := by
  have := dig_lt due (lev now due)
  unfold spot
  constructor
  · intro h
    have e : lev now due = k := by omega
    rw [e] at h
    exact ⟨e, by omega⟩
  · rintro ⟨rfl, h⟩; omega

/-- A wheel comes round. -/
theorem mids_step {now k : Nat} {L : List Tm} (h : InTime now L) (hk : 1 ≤ k) (hk3 : k ≤ 3) (h8 : (now + 1) % pw k = 0) :
    putAll (now + 1) (emp (mids now k L) (8 * k + dig (now + 1) k)) (mids now k L (8 * k + dig (now + 1) k)) = mids now (k + 1) L := by
  have hd := dig_lt (now + 1) k
  funext n
  have hlow : ∀ t ∈ L, mid now k t.due = spot now t.due := by
    intro t ht
    have := none_lower hk hk3 h8 (h t ht).1
    unfold mid; rw [if_neg (by omega)]
  have hmid : ∀ m, mids now k L m = slots now L m := fun m => filter_ext fun t ht => by rw [hlow t ht]
  have hkey : ∀ t ∈ L, mid now (k + 1) t.due = if spot now t.due = 8 * k + dig (now + 1) k then spot (now + 1) t.due else spot now t.due := by
    intro t ht
    have h1 := none_lower hk hk3 h8 (h t ht).1
    unfold mid
    by_cases hl : lev now t.due < k + 1
    · rw [if_pos hl]
      have hl' : lev now t.due = k := by omega
      by_cases hs : dig t.due k = dig (now + 1) k
      · rw [if_pos ((spot_eq hd).2 ⟨hl', hs⟩)]
      · rw [if_neg (fun e => hs ((spot_eq hd).1 e).2)]
        have := stays hk hk3 h8 (h t ht).1 hl' hs
        unfold spot; rw [this, hl']
    · rw [if_neg hl, if_neg (fun e => by have := ((spot_eq hd).1 e).1; omega)]
  have hdown : ∀ t ∈ L, spot now t.due = 8 * k + dig (now + 1) k → spot (now + 1) t.due < 8 * k := by
    intro t ht e
    obtain ⟨a, b⟩ := (spot_eq hd).1 e
    have c := comes_down hk hk3 h8 (h t ht).1 (h t ht).2 a b
    have := dig_lt t.due (lev (now + 1) t.due)
    unfold spot; omega
  unfold putAll emp
  simp only [hmid]
  by_cases hn : n = 8 * k + dig (now + 1) k
  · subst hn
    rw [if_pos rfl, List.nil_append]
    have e1 : slots (now + 1) (slots now L (8 * k + dig (now + 1) k)) (8 * k + dig (now + 1) k) = [] := by
      unfold slots
      rw [List.filter_filter, List.filter_eq_nil_iff]
      intro t ht hh
      simp only [Bool.and_eq_true, beq_iff_eq] at hh
      have := hdown t ht hh.2
      omega
    rw [e1]
    symm
    unfold mids
    rw [List.filter_eq_nil_iff]
    intro t ht hh
    simp only [beq_iff_eq] at hh
    rw [hkey t ht] at hh
    by_cases hs : spot now t.due = 8 * k + dig (now + 1) k
    · rw [if_pos hs] at hh
      have := hdown t ht hs
      omega
    · rw [if_neg hs] at hh; exact hs hh
  · rw [if_neg hn]
    by_cases hlo : n < 8 * k
    · have e1 : slots now L n = [] := by
        unfold slots
        rw [List.filter_eq_nil_iff]
        intro t ht hh
        simp only [beq_iff_eq] at hh
        have := none_lower hk hk3 h8 (h t ht).1
        unfold spot at hh; omega
      rw [e1, List.nil_append]
      unfold slots mids
      rw [List.filter_filter]
      refine filter_ext fun t ht => ?_
      rw [hkey t ht]
      by_cases hs : spot now t.due = 8 * k + dig (now + 1) k
      · simp [hs]
      · have hne : ¬ spot now t.due = n := by
          intro e
          have : t ∈ slots now L n := by unfold slots; rw [List.mem_filter]; exact ⟨ht, by simp [e]⟩
          rw [e1] at this; exact absurd this (by simp)
        rw [if_neg hs, show (spot now t.due == 8 * k + dig (now + 1) k) = false from beq_eq_false_iff_ne.2 hs, show (spot now t.due == n) = false from beq_eq_false_iff_ne.2 hne, Bool.and_false]
    · have e1 : slots (now + 1) (slots now L (8 * k + dig (now + 1) k)) n = [] := by
        unfold slots
        rw [List.filter_filter, List.filter_eq_nil_iff]
        intro t ht hh
        simp only [Bool.and_eq_true, beq_iff_eq] at hh
        have := hdown t ht hh.2
        omega
      rw [e1, List.append_nil]
      unfold slots mids
      refine filter_ext fun t ht => ?_
      rw [hkey t ht]
      by_cases hs : spot now t.due = 8 * k + dig (now + 1) k
      · have := hdown t ht hs
        have hn1 : ¬ spot now t.due = n := by omega
        have hn2 : ¬ spot (now + 1) t.due = n := by omega
        rw [if_pos hs, show (spot now t.due == n) = false from beq_eq_false_iff_ne.2 hn1, show (spot (now + 1) t.due == n) = false from beq_eq_false_iff_ne.2 hn2]
      · rw [if_neg hs]
theorem mids_end {now k : Nat} {L : List Tm} (hk : 1 ≤ k) (hk4 : k ≤ 4) (h8 : k = 4 ∨ ¬ (now + 1) % pw k = 0) : mids now k L = slots (now + 1) L := by
  funext n
  refine filter_ext fun t ht => ?_
  have e : mid now k t.due = spot (now + 1) t.due := by
    unfold mid
    by_cases hl : lev now t.due < k
    · rw [if_pos hl]
    · rw [if_neg hl, stays_above hk hk4 h8 (by omega)]
  rw [e]

/-- What is in the lowest wheel's slot of now: who is due. -/
theorem due_slot {now : Nat} {L : List Tm} (h : InTime now L) : slots (now + 1) L (dig (now + 1) 0) = L.filter fun t => t.due == now + 1 := by
  refine filter_ext fun t ht => ?_
  have h1 := h t ht
  have e : spot (now + 1) t.due = dig (now + 1) 0 ↔ t.due = now + 1 := by
    have := (spot_eq (now := now + 1) (due := t.due) (k := 0) (dig_lt (now + 1) 0))
    rw [Nat.mul_zero, Nat.zero_add] at this
    rw [this]
    unfold dig
    simp only [pw]
    constructor
    · rintro ⟨a, b⟩
      rcases lev_cases (now + 1) t.due with ⟨e', a'⟩ | ⟨e', a'⟩ | ⟨e', a'⟩ | ⟨e', a'⟩ <;> omega
    · intro e
      exact ⟨lev_0 (by rw [e]), by rw [e]⟩
  rw [Bool.eq_iff_iff]; simp only [beq_iff_eq]; exact e
/-- Behind it the others are left. -/
theorem due_left {now : Nat} {L : List Tm} (h : InTime now L) : emp (slots (now + 1) L) (dig (now + 1) 0) = slots (now + 1) (L.filter fun t => !(t.due == now + 1)) := by
  have hs := due_slot h
  funext n
  unfold emp
  by_cases hn : n = dig (now + 1) 0
  · subst hn
    rw [if_pos rfl]
    symm
    unfold slots
    rw [List.filter_filter, List.filter_eq_nil_iff]
    intro t ht hh
    simp only [Bool.and_eq_true, beq_iff_eq, Bool.not_eq_true', beq_eq_false_iff_ne] at hh
    have : t ∈ slots (now + 1) L (dig (now + 1) 0) := by unfold slots; rw [List.mem_filter]; exact ⟨ht, by simp [hh.1]⟩
    rw [hs, List.mem_filter] at this
    exact hh.2 (by simpa using this.2)
  · rw [if_neg hn]
    unfold slots
    rw [List.filter_filter]
    refine filter_ext fun t ht => ?_
    by_cases hd : t.due = now + 1
    · have : t ∈ slots (now + 1) L (dig (now + 1) 0) := by rw [hs, List.mem_filter]; exact ⟨ht, by simp [hd]⟩
      unfold slots at this
      rw [List.mem_filter] at this
      have e : spot (now + 1) t.due = dig (now + 1) 0 := by simpa using this.2
      have : ¬ dig (now + 1) 0 = n := fun e' => hn e'.symm
      rw [show (spot (now + 1) t.due == n) = false from beq_eq_false_iff_ne.2 (by rw [e]; exact this), Bool.false_and]
    · rw [show (t.due == now + 1) = false from beq_eq_false_iff_ne.2 hd, Bool.not_false, Bool.and_true]
end Go.Proofs.Ytpmgmdlfnlmieaa.Wh
