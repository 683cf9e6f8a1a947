/- check: an effect's looks: wellFormed, isThere, ofEffect. -/
import Derived.Test.YthanclicnkjmiaaGreatDoorChW0
import Derived.Test.YthanclicnkjmiaaGreatDoorChW1
import Derived.Test.YthanclicnkjmiaaGreatDoorChW2
import Derived.Test.YthanclicnkjmiaaGreatDoorChW3
import Derived.Test.YthanclicnkjmiaaGreatDoorChW4
import Derived.Test.YthanclicnkjmiaaGreatDoorChW5
set_option linter.unusedVariables false
namespace Go.Proofs.YthanclicnkjmiaaGreatDoor.Ch
open Go.RowKit Go.Proofs.YthanclicnkjmiaaGreatDoor Lx Ps

/-- An effect is one, as the program says it. -/
def pEf (x : Eff) : Bool :=
  wn x.act 1 12 && ((if (parts x.act).contains 114 then isRef x.ref else decide (x.ref = [])) && ((if (parts x.act).contains 115 then isSlot x.slot else decide (x.slot = [])) && ((if (parts x.act).contains 110 then isNm x.name else decide (x.name = [])) &&
    ((if (parts x.act).contains 100 then wn x.delay 1 4095 else decide (x.delay = 0)) && (if (parts x.act).contains 118 then isVal x.val x.n else decide (x.val = 0) && decide (x.n = 0))))))
theorem wf_p (x : Eff) (hnm : x.name.length ≤ 140737488355328) (w : World) : Calls Tryz.prog 216 #[.agg #[.int .i64 x.act, .string (bs x.ref), .string (bs x.slot), .string (bs x.name), .int .i64 x.val, .int .i64 x.n, .int .i64 x.delay]] w fun e w' => e = .returned (.bool (pEf x)) ∧ Only Nil w w' := by
  unfold pEf
  cases h0 : wn x.act 1 12 with
  | false => exact wf_0 x hnm h0 w
  | true =>
  cases h1 : (if (parts x.act).contains 114 then isRef x.ref else decide (x.ref = [])) with
  | false => exact wf_1 x hnm h0 h1 w
  | true =>
  cases h2 : (if (parts x.act).contains 115 then isSlot x.slot else decide (x.slot = [])) with
  | false => exact wf_2 x hnm h0 h1 h2 w
  | true =>
  cases h3 : (if (parts x.act).contains 110 then isNm x.name else decide (x.name = [])) with
  | false => exact wf_3 x hnm h0 h1 h2 h3 w
  | true =>
  cases h4 : (if (parts x.act).contains 100 then wn x.delay 1 4095 else decide (x.delay = 0)) with
  | false => exact wf_4 x hnm h0 h1 h2 h3 h4 w
  | true =>
  cases hz : (x.val == 0) with
  | true =>
    refine wf_5a x hnm h0 h1 h2 h3 h4 hz _ ?_ w
    have e : x.val = 0 := by simpa using hz
    simp only [e, decide_true, Bool.true_and]
    rfl
  | false =>
    refine wf_5b x hnm h0 h1 h2 h3 h4 hz _ ?_ w
    have e : ¬ x.val = 0 := by simpa using hz
    simp only [e, decide_false, Bool.false_and, Bool.true_and]
theorem ref_nm {s : Wd} (h : isRef s = true) : isNm s = true ∧ s ≠ [] := by
  unfold isRef isSlot at h
  simp only [Bool.or_eq_true, decide_eq_true_eq] at h
  rcases h with (((((h | h) | h) | h) | h) | h) | h <;> subst h <;> decide
theorem slot_nm {s : Wd} (h : isSlot s = true) : isNm s = true ∧ s ≠ [] := by
  unfold isSlot at h
  simp only [Bool.or_eq_true, decide_eq_true_eq] at h
  rcases h with ((h | h) | h) | h <;> subst h <;> decide
theorem ref_and (s : Wd) : (isNm s = true ∧ (s = [] ∨ isRef s = true)) ↔ isRef s = true := by
  constructor
  · rintro ⟨h1, h2 | h2⟩
    · subst h2; exact absurd h1 (by decide)
    · exact h2
  · intro h; exact ⟨(ref_nm h).1, Or.inr h⟩
theorem slot_and (s : Wd) : (isNm s = true ∧ (s = [] ∨ isSlot s = true)) ↔ isSlot s = true := by
  constructor
  · rintro ⟨h1, h2 | h2⟩
    · subst h2; exact absurd h1 (by decide)
    · exact h2
  · intro h; exact ⟨(slot_nm h).1, Or.inr h⟩
theorem val_and (v n : Int) : (okV v n = true ∧ n ≤ 255) ↔ isVal v n = true := by
  unfold okV isVal isNum wn okN okP
  have : (vals.length : Int) = 2 := rfl
  rw [this]
  by_cases h2 : v = 2
  · subst h2; simp; omega
  · simp [h2]; omega
theorem del_and (d : Int) : (okN d = true ∧ (1 ≤ d ∧ d ≤ 4095)) ↔ (1 ≤ d ∧ d ≤ 4095) := by
  unfold okN; simp; omega
theorem pEf_eq (x : Eff) : pEf x = wfEf x := by
  by_cases h : 1 ≤ x.act ∧ x.act ≤ 12
  · obtain ⟨z, ref, slot, name, val, n, delay⟩ := x
    obtain ⟨h1, h2⟩ := h
    dsimp only at h1 h2
    have e1 := ref_and ref
    have e2 := slot_and slot
    have e3 := val_and val n
    have e4 := del_and delay
    rcases act_cases h1 h2 with rfl | rfl | rfl | rfl | rfl | rfl | rfl | rfl | rfl | rfl | rfl | rfl
    all_goals
      rw [Bool.eq_iff_iff]
      simp only [pEf, wfEf, okE, parts]
      simp [wn, okP, effw, okPart, zeroP, eff0]
      (try rw [← e1]); (try rw [← e2]); (try rw [← e3]); (try rw [← e4])
      constructor <;> (intro h; simp_all)
      all_goals first | exact h.1.2.elim Or.inl (fun q => q.2) | exact h.2.elim Or.inl (fun q => q.2)
  · have e1 : wn x.act 1 12 = false := by unfold wn; rw [Bool.and_eq_false_iff]; simp; omega
    have hL : (effw.length : Int) = 12 := rfl
    have e2 : okP effw (x.act - 1) = false := by
      unfold okP; rw [hL, Bool.and_eq_false_iff]; simp; omega
    unfold pEf wfEf okE
    rw [e1, e2]; simp
end Go.Proofs.YthanclicnkjmiaaGreatDoor.Ch
