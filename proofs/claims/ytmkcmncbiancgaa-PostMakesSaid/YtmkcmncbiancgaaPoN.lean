/- An operation of a box that is done at once. -/
import Derived.Test.YtmkcmncbiancgaaPoM
namespace Go.Proofs.Ytmkcmncbiancgaa.Po
open Go.RowKit Go.Proofs.Ytmkcmncbiancgaa

instance decNums (b : Nat) (L : List Int) : Decidable (Nums b L) := by unfold Nums; exact inferInstance
instance decPNums (A : BA) (L : List Int) : Decidable (PNums A L) := by unfold PNums; exact inferInstance
/-- n steps, reckoned. -/
def prunB (A : BA) : Nat → List Int → PS → Option (List Int × PS)
  | 0, L, s => if s.isO = true then some (L, s) else none
  | n + 1, L, s => if s.isO = false ∧ PNums A L then prunB A n (pstepL A L s) (pstepS A L s) else none
theorem prun_of {A : BA} : ∀ {n : Nat} {L L' : List Int} {s s' : PS}, prunB A n L s = some (L', s') → PRuns A n L s L' s' := by
  intro n
  induction n with
  | zero =>
    intro L L' s s' h
    unfold prunB at h
    split at h
    · rename_i hs; cases h; exact .over hs
    · cases h
  | succ n ih =>
    intro L L' s s' h
    unfold prunB at h
    split at h
    · rename_i hs; exact .step hs.1 hs.2 (ih h)
    · cases h
/-- A callee that turns nothing, met in a region that draws. -/
theorem quiet_same {P : Program} {f : FuncId} {args : Array Value} {w : World} {n : Nat} {v : Value}
    (h : Calls P f args (w.drewN n) fun e w' => e = .returned v ∧ w.drewN n = w') : Calls P f args (w.drewN n) fun e w'' => e = .returned v ∧ ∃ m, w'' = w.drewN m :=
  h.mono fun _ _ ⟨he, hm⟩ => ⟨he, n, hm.symm⟩
section
variable {A : BA} {F G H H' S : Nat → Prop} {w W w' w1 w2 : World} {s s' : PS} {ob n : Nat} {L L' : List Int} {t t' : Int}
set_option maxHeartbeats 2000000 in
theorem done_any (hB : Bx w A L t) (hP : PIn A w F ob s) (ok : s.ok) (hr : PRuns A n L s L' s') (hn : n < 100) (t1 : t < 4611686018427380000) :
    Calls Try.prog 23 #[ptr ob] w fun e w' =>
      e = .returned (.tuple #[.int .i64 s'.o, .int .u64 s'.x, .int .i64 (n : Int)]) ∧ Bx w' A L' (t + (n : Int)) ∧ Only (OF A F) w w' := by
  have hB' := Lib.hid hB
  have hP' := Lib.hid hP
  have tt := Lib.hid t1
  have hs := Lib.hid ok
  have hr' := Lib.hid hr
  have hn' := Lib.hid hn
  clear hB hP ok hr t1 hn
  go_enter Try.func23, Try.ntmps23
  go_wp2
  go_loopw [5] (fun s3 wr => ∃ k : Nat, k ≤ n ∧ s3 = .int .i64 (k : Int) ∧ Hid (∃ L1 s1 F1, PRuns A (n - k) L1 s1 L' s' ∧ s1.ok ∧ Bx wr A L1 (t + (k : Int)) ∧ PIn A wr F1 ob s1 ∧ (∀ i, F1 i → F i ∨ w.heap.size ≤ i) ∧ Only (OF A F) w wr))
    (fun s3 _ => n - (intOf s3).toNat)
  case atStart => exact ⟨0, Nat.zero_le _, rfl, Lib.hid ⟨L, s, F, hr'.out, hs.out, by simpa using hB'.out, hP'.out, fun i h => .inl h, Only.refl _ _⟩⟩
  case round =>
    obtain ⟨k, hk, rfl, hh⟩ := hrel
    obtain ⟨L1, s1, F1, r1, k1, R1, Q1, E1, O1⟩ := hh.out
    have hk100 : (k : Int) < 100 := by have := hn'.out; omega
    have ov := Lib.hid (overP Q1 k1)
    generalize hm : n - k = m at r1
    have hm' := Lib.hid hm
    clear hm
    cases r1 with
    | over h0 =>
      rw [h0] at ov
      have hkn : k = n := by have := hm'.out; omega
      have oc := Lib.hid (fun q => outcomeP (Q1.nil ((Only.refl Nil wr).drewN q)))
      have vc := Lib.hid (fun q => valueP (Q1.nil ((Only.refl Nil wr).drewN q)))
      have R1' := Lib.hid R1
      have O1' := Lib.hid O1
      subst hkn
      clear hk R1 Q1 O1 k1 h0 E1
      go_wp2_with (go_at_call 48; refine (ov.out).mono ?_; rintro e w1 ⟨rfl, rfl⟩)
      go_quiet (first
        | (go_at_call 31; exact quiet_same (oc.out _))
        | (go_at_call 49; exact quiet_same (vc.out _)))
      go_wp2
      go_ret3
      exact ⟨rfl, R1'.out.drewN _, O1'.out.drewN _⟩
    | @step m3 _ _ _ _ h0 hnum r2 =>
      rw [h0] at ov
      have st := Lib.hid (step_any s1 R1 Q1 k1 hnum (by have := tt.out; omega))
      have e1 : pstepT s1 (t + (k : Int)) = t + ((k + 1 : Nat) : Int) := by unfold pstepT; rw [h0]; simp; omega
      rw [e1] at st
      have r2' := Lib.hid r2
      have k2 := Lib.hid (pstepS_ok A L1 s1 k1 hnum)
      have O1' := Lib.hid O1
      have E1' := Lib.hid E1
      clear R1 Q1 O1 k1 h0 hnum e1 r2 E1
      go_wp2_with (first
        | (go_at_call 48; refine (ov.out).mono ?_; rintro e w1 ⟨rfl, rfl⟩)
        | (go_at_call 30; refine (st.out).mono ?_; rintro e w2 ⟨rfl, D2⟩))
      have hh2 := Lib.hid D2
      clear D2
      go_roundw
      case rel =>
        obtain ⟨⟨F2, z1, z2⟩, z3, z4⟩ := hh2.out
        have sz := O1'.out.size
        exact ⟨k + 1, by have := hm'.out; omega, by go_num, Lib.hid ⟨_, _, F2, (show n - (k + 1) = m3 by have := hm'.out; omega) ▸ r2'.out, k2.out, z3, z2,
          fun i hi => (z1 i hi).elim (E1'.out i) (fun h => .inr (by omega)), O1'.out.then z4 (fun i hi hl => hi.imp id (fun h => (E1'.out i h).elim id (fun h => absurd hl (by omega))))⟩⟩
      case measure => have := hm'.out; simp [intOf]; omega
end
end Go.Proofs.Ytmkcmncbiancgaa.Po
