/- LexAll's walk. -/
import Derived.Test.YthhnfliklegefaaGreatDoorLxRfD
namespace Go.Proofs.YthhnfliklegefaaGreatDoor.Lx
open Go.RowKit Go.Proofs.YthhnfliklegefaaGreatDoor

theorem whole_ok {l : List UInt8} (h : (whole l).2.1 = 0) : l.length ≤ 16384 ∧ whole l = LX l.length l := by
  by_cases hl : 16384 < l.length
  · have e : whole l = ([], 5, 0) := if_pos hl
    rw [e] at h; cases h
  · exact ⟨by omega, if_neg hl⟩
theorem LX_count (N k : Nat) (m : List UInt8) (hk : m.length ≤ k) : (LX N m).1.length ≤ m.length := by
  induction k generalizing m with
  | zero =>
    have : m = [] := List.eq_nil_of_length_eq_zero (by omega)
    subst this
    rw [LX_nil rfl]; exact Nat.le_refl _
  | succ k ih =>
    cases hs : sk false m with
    | nil => rw [LX_nil hs]; exact Nat.zero_le _
    | cons c r =>
      by_cases h0 : (tok (c :: r)).1 = 0
      · rw [LX_tok hs h0]
        have hl1 := sk_le false m
        rw [hs] at hl1
        obtain ⟨hp, hpre⟩ := tok_pos h0
        have hpl := hpre.length_le
        have := ih ((c :: r).drop (tok (c :: r)).2.w.length) (by simp at hl1 hpl ⊢; omega)
        simp at this hl1 hpl ⊢; omega
      · rw [LX_bad hs h0]; exact Nat.zero_le _

set_option maxRecDepth 100000 in
set_option maxHeartbeats 2000000 in
theorem lexall_all (l : List UInt8) (w : World) (hl : l.length ≤ 140737488355328) (E : Env w) : Calls Tryz.prog 3 #[.string (bs l)] w fun e w' => e = .returned (.bool true) ∧ Below w.heap.size w w' := by
  have HE := Lib.hid E
  clear E
  by_cases h0 : (whole l).2.1 = 0
  · have hcnt : (whole l).1.length ≤ 16384 := by
      have := whole_ok h0
      rw [this.2]; have := LX_count l.length l.length l (Nat.le_refl _); omega
    have HA := Lib.hid (fun (w : World) (E : Env w) => all_ok l w hl E h0 _ rfl _ rfl)
    have HB := Lib.hid (fun (w : World) => rall_ok l w hl h0 _ rfl _ rfl)
    clear h0
    generalize (whole l).1 = X at *
    generalize hn : X.length = n at *
    have HN := Lib.hid hn
    clear hn
    go_enter Tryz.func3, Tryz.ntmps3
    go_wp2_with fail
    refine (alive_any w HE.out).mono ?_
    rintro e w1 ⟨rfl, o1⟩
    go_wp2_with fail
    refine (HA.out w1 (HE.out.keep o1)).mono ?_
    rintro e w2 ⟨a, c, rfl, R⟩
    have HR := Lib.hid R
    clear R
    go_wp2_with fail
    refine (HB.out w2).mono ?_
    rintro e w3 ⟨a3, c3, rfl, R3⟩
    have HR3 := Lib.hid R3
    clear R3
    have O3 := Lib.hid ((o1.trans HR.out.only).trans HR3.out.only)
    go_wp2_with fail
    refine (code_nil w3).mono ?_
    rintro e w4 ⟨rfl, o4⟩
    go_wp2_with fail
    refine (at_nil w4 (HE.out.keep (O3.out.trans o4))).mono ?_
    rintro e w5 ⟨rfl, o5⟩
    go_wp2_with fail
    refine (same_any X n c c3 a a3 w5 HN.out (by omega) ((((HR.out.rin HN.out).keep HR3.out.only).keep o4).keep o5) (((HR3.out.rin HN.out).keep o4).keep o5)).mono ?_
    rintro e w6 ⟨rfl, o6⟩
    go_wp2
    go_ret
    exact ⟨rfl, (((O3.out.trans o4).trans o5).trans o6).below (Nat.le_refl _) (fun k h => h.elim)⟩
  · have HA := Lib.hid (fun (w : World) (E : Env w) => all_err l w hl E (whole l).2.1 (whole l).2.2 rfl h0)
    have HB := Lib.hid (fun (w : World) => rall_err l w hl (whole l).2.1 (whole l).2.2 rfl h0)
    have hz1 : (((whole l).2.1 : Int) != 0) = true := by simpa using h0
    clear h0
    generalize (whole l).2.1 = z at *
    generalize (whole l).2.2 = q at *
    go_enter Tryz.func3, Tryz.ntmps3
    go_wp2_with fail
    refine (alive_any w HE.out).mono ?_
    rintro e w1 ⟨rfl, o1⟩
    go_wp2_with fail
    refine (HA.out w1 (HE.out.keep o1)).mono ?_
    rintro e w2 ⟨b, rfl, F, o2⟩
    have HF := Lib.hid F
    clear F
    go_wp2_with fail
    refine (HB.out w2).mono ?_
    rintro e w3 ⟨rfl, o3⟩
    have O3 := Lib.hid ((o1.trans o2).trans o3)
    go_wp2_with fail
    refine (code_fault b z q w3 (HF.out.keep o3) (HE.out.keep O3.out)).mono ?_
    rintro e w4 ⟨rfl, o4⟩
    go_wp2_with fail
    refine (at_fault b z q w4 ((HF.out.keep o3).keep o4) (HE.out.keep (O3.out.trans o4))).mono ?_
    rintro e w5 ⟨rfl, o5⟩
    go_wp2
    go_ret
    exact ⟨rfl, ((O3.out.trans o4).trans o5).below (Nat.le_refl _) (fun k h => h.elim)⟩
end Go.Proofs.YthhnfliklegefaaGreatDoor.Lx
