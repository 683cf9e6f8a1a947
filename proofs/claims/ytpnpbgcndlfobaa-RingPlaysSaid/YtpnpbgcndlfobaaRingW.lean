/- An operation that is done at once; a fresh ring; what a law's walk carries along. -/
import Derived.Test.YtpnpbgcndlfobaaRingV
namespace Go.Proofs.Ytpnpbgcndlfobaa
open Go.RowKit

/-- n steps, and the operation is over. -/
inductive Runs (b c : Nat) : Nat → List Int → OS → List Int → OS → Prop
  | over {L : List Int} {s : OS} (h : s.isO = true) : Runs b c 0 L s L s
  | step {n : Nat} {L L' : List Int} {s s' : OS} (h : s.isO = false) (hn : Nums b L) (hr : Runs b c n (stepL b c L s) (stepS b c L s) L' s') : Runs b c (n + 1) L s L' s'
theorem Runs.isO {b c n : Nat} {L L' : List Int} {s s' : OS} (h : Runs b c n L s L' s') : s'.isO = true := by
  induction h with
  | over h => exact h
  | step _ _ _ ih => exact ih
theorem Runs.tk {b c n : Nat} {L L' : List Int} {s s' : OS} (h : Runs b c n L s L' s') (hs : s.tk) : s'.tk := by
  induction h with
  | over h => exact hs
  | step _ hn _ ih => exact ih (stepS_tk _ _ _ _ hs hn)
theorem Runs.length {b c n : Nat} {L L' : List Int} {s s' : OS} (h : Runs b c n L s L' s') : L'.length = L.length := by
  induction h with
  | over h => rfl
  | step _ _ _ ih => rw [ih, stepL_length]

section
variable {w : World} {ob rg hb rb b c : Nat} {L L' : List Int} {t : Int} {s s' : OS} {n : Nat}
theorem overO (h : OpIn w ob rg s) (htk : s.tk) :
    Calls Try.prog 15 #[.pointer (some ⟨ob, 0, none⟩)] w fun e w' => e = .returned (.bool s.isO) ∧ w = w' := by
  obtain ⟨nx, a, y, h, _⟩ := h
  have := over_any h
  rwa [isO_ne s htk] at this
theorem outcomeO (h : OpIn w ob rg s) :
    Calls Try.prog 35 #[.pointer (some ⟨ob, 0, none⟩)] w fun e w' => e = .returned (.int .i64 s.o) ∧ w = w' := by
  obtain ⟨nx, a, y, h, _⟩ := h
  exact outcome_any h
theorem valueO (h : OpIn w ob rg s) :
    Calls Try.prog 43 #[.pointer (some ⟨ob, 0, none⟩)] w fun e w' => e = .returned (.int .u64 s.x) ∧ w = w' := by
  obtain ⟨nx, a, y, h, _⟩ := h
  exact ovalue_any h
theorem ticketO (h : OpIn w ob rg s) :
    Calls Try.prog 36 #[.pointer (some ⟨ob, 0, none⟩)] w fun e w' => e = .returned (.int .u64 s.k) ∧ w = w' := by
  obtain ⟨nx, a, y, h, _⟩ := h
  exact ticket_any h

set_option maxHeartbeats 2000000 in
/-- done: the steps that there are. -/
theorem done_any (hR : Rng w rg hb rb b c L t) (hO : OpIn w ob rg s) (n1 : ¬ Blk hb rb ob) (n2 : ob ≠ rg) (htk : s.tk) (hr : Runs b c n L s L' s') (hn : n < 100) (t1 : t < 4611686018427380000) :
    Calls Try.prog 28 #[.pointer (some ⟨ob, 0, none⟩)] w fun e w' =>
      e = .returned (.tuple #[.int .i64 s'.o, .int .u64 s'.x, .int .i64 (n : Int)]) ∧ Rng w' rg hb rb b c L' (t + (n : Int)) ∧ OpIn w' ob rg s' ∧ Only (OB hb rb ob) w w' := by
  have hR' := Lib.hid hR
  have hO' := Lib.hid hO
  have m1 := Lib.hid n1
  have m2 := Lib.hid n2
  have tt := Lib.hid t1
  have hs := Lib.hid htk
  have hr' := Lib.hid hr
  have hn' := Lib.hid hn
  clear hR hO n1 n2 htk hr t1 hn
  go_enter Try.func28, Try.ntmps28
  go_wp2
  go_loopw [5] (fun s3 wr => ∃ k : Nat, k ≤ n ∧ s3 = .int .i64 (k : Int) ∧ Hid (∃ L1 s1, Runs b c (n - k) L1 s1 L' s' ∧ s1.tk ∧ Rng wr rg hb rb b c L1 (t + (k : Int)) ∧ OpIn wr ob rg s1 ∧ Only (OB hb rb ob) w wr))
    (fun s3 _ => n - (intOf s3).toNat)
  case atStart => exact ⟨0, Nat.zero_le _, rfl, Lib.hid ⟨L, s, hr'.out, hs.out, by simpa using hR'.out, hO'.out, Only.refl _ _⟩⟩
  case round =>
    obtain ⟨k, hk, rfl, hh⟩ := hrel
    obtain ⟨L1, s1, r1, k1, R1, Q1, O1⟩ := hh.out
    have hk100 : (k : Int) < 100 := by have := hn'.out; omega
    have ov := Lib.hid (overO Q1 k1)
    generalize hm : n - k = m at r1
    have hm' := Lib.hid hm
    clear hm
    cases r1 with
    | over h0 =>
      rw [h0] at ov
      have hkn : k = n := by have := hm'.out; omega
      have oc := Lib.hid (outcomeO Q1)
      have vc := Lib.hid (valueO Q1)
      have R1' := Lib.hid R1
      have Q1' := Lib.hid Q1
      have O1' := Lib.hid O1
      subst hkn
      clear hk R1 Q1 O1 k1 h0
      go_wp2_with (first
        | (go_at_call 15; refine (ov.out).mono ?_; rintro e w1 ⟨rfl, rfl⟩)
        | (go_at_call 35; refine (oc.out).mono ?_; rintro e w1 ⟨rfl, rfl⟩)
        | (go_at_call 43; refine (vc.out).mono ?_; rintro e w1 ⟨rfl, rfl⟩))
      go_ret3
      exact ⟨rfl, R1'.out, Q1'.out, O1'.out⟩
    | @step m3 _ _ _ _ h0 hnum r2 =>
      rw [h0] at ov
      have st := Lib.hid (dstep_any s1 R1 Q1 m1.out m2.out k1 hnum (by have := tt.out; omega))
      have e1 : stepT s1 (t + (k : Int)) = t + ((k + 1 : Nat) : Int) := by unfold stepT; rw [h0]; simp; omega
      rw [e1] at st
      have r2' := Lib.hid r2
      have k2 := Lib.hid (stepS_tk b c L1 s1 k1 hnum)
      have O1' := Lib.hid O1
      clear R1 Q1 O1 k1 h0 hnum e1 r2
      go_wp2_with (first
        | (go_at_call 15; refine (ov.out).mono ?_; rintro e w1 ⟨rfl, rfl⟩)
        | (go_at_call 18; refine (st.out).mono ?_; rintro e w2 ⟨rfl, Q2, R2, O2⟩))
      have hh2 := Lib.hid (And.intro Q2 (And.intro R2 O2))
      clear Q2 R2 O2
      go_roundw
      case rel => exact ⟨k + 1, by have := hm'.out; omega, by go_num, Lib.hid ⟨_, _, (show n - (k + 1) = m3 by have := hm'.out; omega) ▸ r2'.out, k2.out, hh2.out.2.1, hh2.out.1, O1'.out.trans hh2.out.2.2⟩⟩
      case measure => have := hm'.out; simp [intOf]; omega
end
end Go.Proofs.Ytpnpbgcndlfobaa
