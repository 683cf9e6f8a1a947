/- One step of an operation of the gate, wherever it stands: one contract. -/
import Derived.Test.YtokopocldicnmaaGtQ
namespace Go.Proofs.Ytokopocldicnmaa.Gt
open Go.RowKit

section
variable {w0 w : World} {ob dq hb rb b c : Nat} {ph cn ld er mo tk i o oc : Int} {L : List Int} {t : Int}
theorem St.oslot (h : St w0 w ob dq hb rb b c ph cn ld er mo tk i o oc L t) (hx : In64 tk) :
    Calls Try.prog 62 #[.pointer (some ⟨ob, 0, none⟩)] w fun e w' => e = .returned (.int .i64 (turnIn c tk : Int)) ∧ St w0 w' ob dq hb rb b c ph cn ld er mo tk i o oc L t := by
  refine (oslot_any h.op h.deq hx h.pc h.uc).mono ?_
  rintro e w' ⟨rfl, n, rfl⟩
  exact ⟨rfl, h.drewN n⟩
theorem St.odue (h : St w0 w ob dq hb rb b c ph cn ld er mo tk i o oc L t) (hx : In64 tk) :
    Calls Try.prog 65 #[.pointer (some ⟨ob, 0, none⟩)] w fun e w' => e = .returned (.int .u64 (due c ld tk)) ∧ St w0 w' ob dq hb rb b c ph cn ld er mo tk i o oc L t := by
  refine (odue_any h.op h.deq hx h.pc h.uc).mono ?_
  rintro e w' ⟨rfl, n, rfl⟩
  exact ⟨rfl, h.drewN n⟩
theorem St.over (h : St w0 w ob dq hb rb b c ph cn ld er mo tk i o oc L t) {x : Bool} (hx : (ph == 6) = x) :
    Calls Try.prog 24 #[.pointer (some ⟨ob, 0, none⟩)] w fun e w' => e = .returned (.bool x) ∧ w = w' := by
  subst hx; exact gover_any h.op
set_option maxRecDepth 100000 in
set_option maxHeartbeats 4000000 in
theorem step_0 (h : St w0 w ob dq hb rb b c 0 cn ld er mo tk i o oc L t) (n : Nat) (hn : (b : Int) + cn = (n : Int)) (hi : n < L.length) (n0 : 0 ≤ cn) (n1 : cn ≤ 1000) (t2 : t + 1 < 4611686018427387000) :
    Calls Try.prog 28 #[.pointer (some ⟨ob, 0, none⟩)] w fun e w' => e = .returned (.bool false) ∧ St w0 w' ob dq hb rb b c 1 cn ld er mo (L.getD n 0) i o oc L (t + 1) := by
  have lo := Lib.hid (fun k => (h.drewN k).load cn n hn hi n0 n1 t2)
  unfold spanV at lo
  have ov := Lib.hid (fun w' (q : St w0 w' ob dq hb rb b c 1 cn ld er mo (L.getD n 0) i o oc L (t + 1)) => q.over (x := false) rfl)
  obtain ⟨c0, c1, c2, c3, c4, c5, c6, c7, c8, c9⟩ := h.op.c
  have d0 := h.deq.c0
  have d1 := h.deq.c1
  clear h hn hi n0 n1 t2
  generalize L.getD n 0 = x at *
  go_enter Try.func28, Try.ntmps28
  go_wp2
  go_region_held3 (fun w' => w'.cell? ⟨ob, 0, none⟩ = some (.pointer (some ⟨dq, 0, none⟩)) ∧ w'.cell? ⟨ob, 2, none⟩ = some (.int .i64 cn) ∧ w'.cell? ⟨dq, 0, none⟩ = some (.pointer (some ⟨hb, 0, none⟩)) ∧ w'.cell? ⟨dq, 1, none⟩ = some (.int .i64 (b : Int)))
    (first | exact ⟨c0, c2, d0, d1⟩ | exact ⟨k0, k2, l0, l1⟩ | exact ⟨j0, j2, m0, m1⟩ | go_keep)
    ((go_at_call 60; refine (lo.out _).mono ?_; rintro e w2 ⟨rfl, s2⟩; obtain ⟨k0, k1, k2, k3, k4, k5, k6, k7, k8, k9⟩ := s2.op.c; have l0 := s2.deq.c0; have l1 := s2.deq.c1; obtain ⟨f1, f6, f8, f9⟩ := s2.op.f; have q3 := s2.setTk x; obtain ⟨j0, j1, j2, j3, j4, j5, j6, j7, j8, j9⟩ := q3.op.c; have m0 := q3.deq.c0; have m1 := q3.deq.c1))
  clear k0 k1 k2 k3 k4 k5 k6 k7 k8 k9 f1 f6 f8 f9 j0 j1 j2 j3 j4 j5 j6 j7 j8 j9
  generalize w2.setCell { block := ob, off := 6 } (Value.int IntKind.u64 x) = w3 at q3 ⊢
  have q3' := Lib.hid q3
  have q4 := q3.setPh 1
  obtain ⟨k0, k1, k2, k3, k4, k5, k6, k7, k8, k9⟩ := q3.op.c
  obtain ⟨f1, f6, f8, f9⟩ := q3.op.f
  clear q3 s2 c0 c1 c2 c3 c4 c5 c6 c7 c8 c9
  go_wp2_with ((go_at_call 24; (with_reducible refine (ov.out _ q4).mono ?_); rintro e w9 ⟨rfl, rfl⟩))
  go_ret
  exact ⟨rfl, q4⟩
set_option maxRecDepth 100000 in
set_option maxHeartbeats 4000000 in
theorem step_1_ahead (h : St w0 w ob dq hb rb b c 1 cn ld er mo tk i o oc L t) (hx : In64 tk) (hs : due c ld tk < L.getD (turnAt b c tk) 0) (t2 : t + 1 < 4611686018427387000) :
    Calls Try.prog 28 #[.pointer (some ⟨ob, 0, none⟩)] w fun e w' => e = .returned (.bool false) ∧ St w0 w' ob dq hb rb b c 0 cn ld er mo tk i o oc L (t + 1) := by
  have sl := Lib.hid (fun k => (h.drewN k).oslot hx)
  have lo := Lib.hid (fun w' (q : St w0 w' ob dq hb rb b c 1 cn ld er mo tk i o oc L t) => q.load (turnIn c tk : Int) (turnAt b c tk) (by unfold turnAt; omega) (by have := q.turn_lt tk; omega) (by omega) (by have := turnIn_lt c tk q.pc; have := q.uc; omega) t2)
  unfold spanV at lo
  have hd := Lib.hid (fun w' (q : St w0 w' ob dq hb rb b c 1 cn ld er mo tk i o oc L (t + 1)) => hold_ahead q (L.getD (turnAt b c tk) 0) hx hs)
  have ov := Lib.hid (fun w' (q : St w0 w' ob dq hb rb b c 0 cn ld er mo tk i o oc L (t + 1)) => q.over (x := false) rfl)
  obtain ⟨c0, c1, c2, c3, c4, c5, c6, c7, c8, c9⟩ := h.op.c
  have d0 := h.deq.c0
  have d1 := h.deq.c1
  have tl := turnIn_lt c tk h.pc
  have uc := h.uc
  have hw : IntKind.i64.wrap (turnIn c tk : Int) = (turnIn c tk : Int) := IntWalk.i64_in _ (by omega)
  clear h hx hs t2 tl uc
  generalize L.getD (turnAt b c tk) 0 = x at *
  generalize (turnIn c tk : Int) = si at *
  go_enter Try.func28, Try.ntmps28
  go_wp2
  go_region_held3 (fun w' => w'.cell? ⟨ob, 0, none⟩ = some (.pointer (some ⟨dq, 0, none⟩)) ∧ w'.cell? ⟨dq, 0, none⟩ = some (.pointer (some ⟨hb, 0, none⟩)) ∧ w'.cell? ⟨dq, 1, none⟩ = some (.int .i64 (b : Int)))
    (first | exact ⟨c0, d0, d1⟩ | exact ⟨a0, b0, b1⟩ | exact ⟨k0, l0, l1⟩ | exact ⟨j0, m0, m1⟩ | go_keep)
    (first
      | (go_at_call 62; refine (sl.out _).mono ?_; rintro e w1 ⟨rfl, s1⟩; obtain ⟨a0, a1, a2, a3, a4, a5, a6, a7, a8, a9⟩ := s1.op.c; have b0 := s1.deq.c0; have b1 := s1.deq.c1)
      | (go_at_call 60; refine (lo.out _ s1).mono ?_; rintro e w2 ⟨rfl, s2⟩; obtain ⟨k0, k1, k2, k3, k4, k5, k6, k7, k8, k9⟩ := s2.op.c; have l0 := s2.deq.c0; have l1 := s2.deq.c1; obtain ⟨f1, f6, f8, f9⟩ := s2.op.f)
      | (go_at_call 61; refine (hd.out _ s2).mono ?_; rintro e w3 ⟨rfl, s3⟩; obtain ⟨j0, j1, j2, j3, j4, j5, j6, j7, j8, j9⟩ := s3.op.c; have m0 := s3.deq.c0; have m1 := s3.deq.c1))
  go_wp2_with ((go_at_call 24; (with_reducible refine (ov.out _ s3).mono ?_); rintro e w9 ⟨rfl, rfl⟩))
  go_ret
  exact ⟨rfl, s3⟩
set_option maxRecDepth 100000 in
set_option maxHeartbeats 4000000 in
theorem step_1_behind (h : St w0 w ob dq hb rb b c 1 cn ld er mo tk i o oc L t) (hx : In64 tk) (hs : L.getD (turnAt b c tk) 0 < due c ld tk) (t2 : t + 1 < 4611686018427387000) :
    Calls Try.prog 28 #[.pointer (some ⟨ob, 0, none⟩)] w fun e w' => e = .returned (.bool true) ∧ St w0 w' ob dq hb rb b c 6 cn ld er mo tk i o er L (t + 1) := by
  have sl := Lib.hid (fun k => (h.drewN k).oslot hx)
  have lo := Lib.hid (fun w' (q : St w0 w' ob dq hb rb b c 1 cn ld er mo tk i o oc L t) => q.load (turnIn c tk : Int) (turnAt b c tk) (by unfold turnAt; omega) (by have := q.turn_lt tk; omega) (by omega) (by have := turnIn_lt c tk q.pc; have := q.uc; omega) t2)
  unfold spanV at lo
  have hd := Lib.hid (fun w' (q : St w0 w' ob dq hb rb b c 1 cn ld er mo tk i o oc L (t + 1)) => hold_behind q (L.getD (turnAt b c tk) 0) hx hs)
  have ov := Lib.hid (fun w' (q : St w0 w' ob dq hb rb b c 6 cn ld er mo tk i o er L (t + 1)) => q.over (x := true) rfl)
  obtain ⟨c0, c1, c2, c3, c4, c5, c6, c7, c8, c9⟩ := h.op.c
  have d0 := h.deq.c0
  have d1 := h.deq.c1
  have tl := turnIn_lt c tk h.pc
  have uc := h.uc
  have hw : IntKind.i64.wrap (turnIn c tk : Int) = (turnIn c tk : Int) := IntWalk.i64_in _ (by omega)
  clear h hx hs t2 tl uc
  generalize L.getD (turnAt b c tk) 0 = x at *
  generalize (turnIn c tk : Int) = si at *
  go_enter Try.func28, Try.ntmps28
  go_wp2
  go_region_held3 (fun w' => w'.cell? ⟨ob, 0, none⟩ = some (.pointer (some ⟨dq, 0, none⟩)) ∧ w'.cell? ⟨dq, 0, none⟩ = some (.pointer (some ⟨hb, 0, none⟩)) ∧ w'.cell? ⟨dq, 1, none⟩ = some (.int .i64 (b : Int)))
    (first | exact ⟨c0, d0, d1⟩ | exact ⟨a0, b0, b1⟩ | exact ⟨k0, l0, l1⟩ | exact ⟨j0, m0, m1⟩ | go_keep)
    (first
      | (go_at_call 62; refine (sl.out _).mono ?_; rintro e w1 ⟨rfl, s1⟩; obtain ⟨a0, a1, a2, a3, a4, a5, a6, a7, a8, a9⟩ := s1.op.c; have b0 := s1.deq.c0; have b1 := s1.deq.c1)
      | (go_at_call 60; refine (lo.out _ s1).mono ?_; rintro e w2 ⟨rfl, s2⟩; obtain ⟨k0, k1, k2, k3, k4, k5, k6, k7, k8, k9⟩ := s2.op.c; have l0 := s2.deq.c0; have l1 := s2.deq.c1; obtain ⟨f1, f6, f8, f9⟩ := s2.op.f)
      | (go_at_call 61; refine (hd.out _ s2).mono ?_; rintro e w3 ⟨rfl, s3⟩; obtain ⟨j0, j1, j2, j3, j4, j5, j6, j7, j8, j9⟩ := s3.op.c; have m0 := s3.deq.c0; have m1 := s3.deq.c1))
  go_wp2_with ((go_at_call 24; (with_reducible refine (ov.out _ s3).mono ?_); rintro e w9 ⟨rfl, rfl⟩))
  go_ret
  exact ⟨rfl, s3⟩
set_option maxRecDepth 100000 in
set_option maxHeartbeats 4000000 in
theorem step_1_on (h : St w0 w ob dq hb rb b c 1 cn ld er mo tk i o oc L t) (hx : In64 tk) (hs : L.getD (turnAt b c tk) 0 = due c ld tk) (t2 : t + 1 < 4611686018427387000) :
    Calls Try.prog 28 #[.pointer (some ⟨ob, 0, none⟩)] w fun e w' => e = .returned (.bool false) ∧ St w0 w' ob dq hb rb b c 2 cn ld er mo tk i o oc L (t + 1) := by
  have sl := Lib.hid (fun k => (h.drewN k).oslot hx)
  have lo := Lib.hid (fun w' (q : St w0 w' ob dq hb rb b c 1 cn ld er mo tk i o oc L t) => q.load (turnIn c tk : Int) (turnAt b c tk) (by unfold turnAt; omega) (by have := q.turn_lt tk; omega) (by omega) (by have := turnIn_lt c tk q.pc; have := q.uc; omega) t2)
  unfold spanV at lo
  have hd := Lib.hid (fun w' (q : St w0 w' ob dq hb rb b c 1 cn ld er mo tk i o oc L (t + 1)) => hold_on q (L.getD (turnAt b c tk) 0) hx hs)
  have ov := Lib.hid (fun w' (q : St w0 w' ob dq hb rb b c 2 cn ld er mo tk i o oc L (t + 1)) => q.over (x := false) rfl)
  obtain ⟨c0, c1, c2, c3, c4, c5, c6, c7, c8, c9⟩ := h.op.c
  have d0 := h.deq.c0
  have d1 := h.deq.c1
  have tl := turnIn_lt c tk h.pc
  have uc := h.uc
  have hw : IntKind.i64.wrap (turnIn c tk : Int) = (turnIn c tk : Int) := IntWalk.i64_in _ (by omega)
  clear h hx hs t2 tl uc
  generalize L.getD (turnAt b c tk) 0 = x at *
  generalize (turnIn c tk : Int) = si at *
  go_enter Try.func28, Try.ntmps28
  go_wp2
  go_region_held3 (fun w' => w'.cell? ⟨ob, 0, none⟩ = some (.pointer (some ⟨dq, 0, none⟩)) ∧ w'.cell? ⟨dq, 0, none⟩ = some (.pointer (some ⟨hb, 0, none⟩)) ∧ w'.cell? ⟨dq, 1, none⟩ = some (.int .i64 (b : Int)))
    (first | exact ⟨c0, d0, d1⟩ | exact ⟨a0, b0, b1⟩ | exact ⟨k0, l0, l1⟩ | exact ⟨j0, m0, m1⟩ | go_keep)
    (first
      | (go_at_call 62; refine (sl.out _).mono ?_; rintro e w1 ⟨rfl, s1⟩; obtain ⟨a0, a1, a2, a3, a4, a5, a6, a7, a8, a9⟩ := s1.op.c; have b0 := s1.deq.c0; have b1 := s1.deq.c1)
      | (go_at_call 60; refine (lo.out _ s1).mono ?_; rintro e w2 ⟨rfl, s2⟩; obtain ⟨k0, k1, k2, k3, k4, k5, k6, k7, k8, k9⟩ := s2.op.c; have l0 := s2.deq.c0; have l1 := s2.deq.c1; obtain ⟨f1, f6, f8, f9⟩ := s2.op.f)
      | (go_at_call 61; refine (hd.out _ s2).mono ?_; rintro e w3 ⟨rfl, s3⟩; obtain ⟨j0, j1, j2, j3, j4, j5, j6, j7, j8, j9⟩ := s3.op.c; have m0 := s3.deq.c0; have m1 := s3.deq.c1))
  go_wp2_with ((go_at_call 24; (with_reducible refine (ov.out _ s3).mono ?_); rintro e w9 ⟨rfl, rfl⟩))
  go_ret
  exact ⟨rfl, s3⟩
set_option maxRecDepth 100000 in
set_option maxHeartbeats 4000000 in
theorem step_2_yes (h : St w0 w ob dq hb rb b c 2 cn ld er mo tk i o oc L t) (n : Nat) (hn : (b : Int) + cn = (n : Int)) (hi : n < L.length) (n0 : 0 ≤ cn) (n1 : cn ≤ 1000) (hs : L.getD n 0 = tk) (hmo : (mo == 6) = false) (t2 : t + 1 < 4611686018427387000) :
    Calls Try.prog 28 #[.pointer (some ⟨ob, 0, none⟩)] w fun e w' => e = .returned (.bool false) ∧ St w0 w' ob dq hb rb b c mo cn ld er mo tk i o oc (doAcc L (.swap n tk (up tk))).1 (t + 1) := by
  have dr := Lib.hid (draw_yes h n hn hi n0 n1 hs t2)
  have ov := Lib.hid (fun w' (q : St w0 w' ob dq hb rb b c mo cn ld er mo tk i o oc (doAcc L (.swap n tk (up tk))).1 (t + 1)) => q.over (x := false) hmo)
  obtain ⟨c0, c1, c2, c3, c4, c5, c6, c7, c8, c9⟩ := h.op.c
  clear h hn hi n0 n1 hs t2
  generalize (doAcc L (.swap n tk (up tk))).1 = L2 at *
  go_enter Try.func28, Try.ntmps28
  go_wp2_with (first
    | (go_at_call 63; refine (dr.out).mono ?_; rintro e w3 ⟨rfl, s3⟩)
    | (go_at_call 24; (with_reducible refine (ov.out _ s3).mono ?_); rintro e w9 ⟨rfl, rfl⟩))
  go_ret
  exact ⟨rfl, s3⟩
set_option maxRecDepth 100000 in
set_option maxHeartbeats 4000000 in
theorem step_2_no (h : St w0 w ob dq hb rb b c 2 cn ld er mo tk i o oc L t) (n : Nat) (hn : (b : Int) + cn = (n : Int)) (hi : n < L.length) (n0 : 0 ≤ cn) (n1 : cn ≤ 1000) (hs : ¬ L.getD n 0 = tk) (t2 : t + 1 < 4611686018427387000) :
    Calls Try.prog 28 #[.pointer (some ⟨ob, 0, none⟩)] w fun e w' => e = .returned (.bool false) ∧ St w0 w' ob dq hb rb b c 0 cn ld er mo tk i o oc (doAcc L (.swap n tk (up tk))).1 (t + 1) := by
  have dr := Lib.hid (draw_no h n hn hi n0 n1 hs t2)
  have ov := Lib.hid (fun w' (q : St w0 w' ob dq hb rb b c 0 cn ld er mo tk i o oc (doAcc L (.swap n tk (up tk))).1 (t + 1)) => q.over (x := false) rfl)
  obtain ⟨c0, c1, c2, c3, c4, c5, c6, c7, c8, c9⟩ := h.op.c
  clear h hn hi n0 n1 hs t2
  generalize (doAcc L (.swap n tk (up tk))).1 = L2 at *
  go_enter Try.func28, Try.ntmps28
  go_wp2_with (first
    | (go_at_call 63; refine (dr.out).mono ?_; rintro e w3 ⟨rfl, s3⟩)
    | (go_at_call 24; (with_reducible refine (ov.out _ s3).mono ?_); rintro e w9 ⟨rfl, rfl⟩))
  go_ret
  exact ⟨rfl, s3⟩
set_option maxRecDepth 100000 in
set_option maxHeartbeats 4000000 in
theorem step_3 (h : St w0 w ob dq hb rb b c 3 cn ld er mo tk i o oc L t) (hx : In64 tk) (t2 : t + 1 < 4611686018427387000) :
    Calls Try.prog 28 #[.pointer (some ⟨ob, 0, none⟩)] w fun e w' => e = .returned (.bool false) ∧ St w0 w' ob dq hb rb b c 5 cn ld er mo tk i o oc (L.set (turnAt b c tk + 1) i) (t + 1) := by
  have sl := Lib.hid (fun k => (h.drewN k).oslot hx)
  have st := Lib.hid (fun w' (q : St w0 w' ob dq hb rb b c 3 cn ld er mo tk i o oc L t) => q.store ((turnIn c tk : Int) + 1) (turnAt b c tk + 1) i (by unfold turnAt; omega) (q.turn_lt tk) (by omega) (by have := turnIn_lt c tk q.pc; have := q.uc; omega) t2)
  unfold spanV at st
  have ov := Lib.hid (fun w' (q : St w0 w' ob dq hb rb b c 5 cn ld er mo tk i o oc (L.set (turnAt b c tk + 1) i) (t + 1)) => q.over (x := false) rfl)
  obtain ⟨c0, c1, c2, c3, c4, c5, c6, c7, c8, c9⟩ := h.op.c
  have d0 := h.deq.c0
  have d1 := h.deq.c1
  have tl := turnIn_lt c tk h.pc
  have uc := h.uc
  have hw : IntKind.i64.wrap ((turnIn c tk : Int) + 1) = (turnIn c tk : Int) + 1 := IntWalk.i64_in _ (by omega)
  clear h hx t2 tl uc
  generalize L.set (turnAt b c tk + 1) i = L2 at *
  generalize (turnIn c tk : Int) = si at *
  go_enter Try.func28, Try.ntmps28
  go_wp2
  go_region_held3 (fun w' => w'.cell? ⟨ob, 0, none⟩ = some (.pointer (some ⟨dq, 0, none⟩)) ∧ w'.cell? ⟨ob, 7, none⟩ = some (.int .u64 i) ∧ w'.cell? ⟨dq, 0, none⟩ = some (.pointer (some ⟨hb, 0, none⟩)) ∧ w'.cell? ⟨dq, 1, none⟩ = some (.int .i64 (b : Int)))
    (first | exact ⟨c0, c7, d0, d1⟩ | exact ⟨a0, a7, b0, b1⟩ | exact ⟨k0, k7, l0, l1⟩ | go_keep)
    (first
      | (go_at_call 62; refine (sl.out _).mono ?_; rintro e w1 ⟨rfl, s1⟩; obtain ⟨a0, a1, a2, a3, a4, a5, a6, a7, a8, a9⟩ := s1.op.c; have b0 := s1.deq.c0; have b1 := s1.deq.c1)
      | (go_at_call 64; refine (st.out _ s1).mono ?_; rintro e w2 ⟨rfl, s2⟩; obtain ⟨k0, k1, k2, k3, k4, k5, k6, k7, k8, k9⟩ := s2.op.c; have l0 := s2.deq.c0; have l1 := s2.deq.c1; obtain ⟨f1, f6, f8, f9⟩ := s2.op.f))
  have q4 := s2.setPh 5
  go_wp2_with ((go_at_call 24; (with_reducible refine (ov.out _ q4).mono ?_); rintro e w9 ⟨rfl, rfl⟩))
  go_ret
  exact ⟨rfl, q4⟩
set_option maxRecDepth 100000 in
set_option maxHeartbeats 4000000 in
theorem step_4 (h : St w0 w ob dq hb rb b c 4 cn ld er mo tk i o oc L t) (hx : In64 tk) (t2 : t + 1 < 4611686018427387000) :
    Calls Try.prog 28 #[.pointer (some ⟨ob, 0, none⟩)] w fun e w' => e = .returned (.bool false) ∧ St w0 w' ob dq hb rb b c 5 cn ld er mo tk i (L.getD (turnAt b c tk + 1) 0) oc L (t + 1) := by
  have sl := Lib.hid (fun k => (h.drewN k).oslot hx)
  have lo := Lib.hid (fun w' (q : St w0 w' ob dq hb rb b c 4 cn ld er mo tk i o oc L t) => q.load ((turnIn c tk : Int) + 1) (turnAt b c tk + 1) (by unfold turnAt; omega) (q.turn_lt tk) (by omega) (by have := turnIn_lt c tk q.pc; have := q.uc; omega) t2)
  unfold spanV at lo
  have ov := Lib.hid (fun w' (q : St w0 w' ob dq hb rb b c 5 cn ld er mo tk i (L.getD (turnAt b c tk + 1) 0) oc L (t + 1)) => q.over (x := false) rfl)
  obtain ⟨c0, c1, c2, c3, c4, c5, c6, c7, c8, c9⟩ := h.op.c
  have d0 := h.deq.c0
  have d1 := h.deq.c1
  have tl := turnIn_lt c tk h.pc
  have uc := h.uc
  have hw : IntKind.i64.wrap ((turnIn c tk : Int) + 1) = (turnIn c tk : Int) + 1 := IntWalk.i64_in _ (by omega)
  clear h hx t2 tl uc
  generalize L.getD (turnAt b c tk + 1) 0 = x at *
  generalize (turnIn c tk : Int) = si at *
  go_enter Try.func28, Try.ntmps28
  go_wp2
  go_region_held3 (fun w' => w'.cell? ⟨ob, 0, none⟩ = some (.pointer (some ⟨dq, 0, none⟩)) ∧ w'.cell? ⟨dq, 0, none⟩ = some (.pointer (some ⟨hb, 0, none⟩)) ∧ w'.cell? ⟨dq, 1, none⟩ = some (.int .i64 (b : Int)))
    (first | exact ⟨c0, d0, d1⟩ | exact ⟨a0, b0, b1⟩ | exact ⟨k0, l0, l1⟩ | exact ⟨j0, m0, m1⟩ | go_keep)
    (first
      | (go_at_call 62; refine (sl.out _).mono ?_; rintro e w1 ⟨rfl, s1⟩; obtain ⟨a0, a1, a2, a3, a4, a5, a6, a7, a8, a9⟩ := s1.op.c; have b0 := s1.deq.c0; have b1 := s1.deq.c1)
      | (go_at_call 60; refine (lo.out _ s1).mono ?_; rintro e w2 ⟨rfl, s2⟩; obtain ⟨k0, k1, k2, k3, k4, k5, k6, k7, k8, k9⟩ := s2.op.c; have l0 := s2.deq.c0; have l1 := s2.deq.c1; obtain ⟨f1, f6, f8, f9⟩ := s2.op.f; have q3 := s2.setOut x; obtain ⟨j0, j1, j2, j3, j4, j5, j6, j7, j8, j9⟩ := q3.op.c; have m0 := q3.deq.c0; have m1 := q3.deq.c1))
  clear k0 k1 k2 k3 k4 k5 k6 k7 k8 k9 f1 f6 f8 f9 j0 j1 j2 j3 j4 j5 j6 j7 j8 j9 a0 a1 a2 a3 a4 a5 a6 a7 a8 a9
  generalize w2.setCell { block := ob, off := 8 } (Value.int IntKind.u64 x) = w3 at q3 ⊢
  have q3' := Lib.hid q3
  have q4 := q3.setPh 5
  obtain ⟨k0, k1, k2, k3, k4, k5, k6, k7, k8, k9⟩ := q3.op.c
  obtain ⟨f1, f6, f8, f9⟩ := q3.op.f
  clear q3 s2 c0 c1 c2 c3 c4 c5 c6 c7 c8 c9
  go_wp2_with ((go_at_call 24; (with_reducible refine (ov.out _ q4).mono ?_); rintro e w9 ⟨rfl, rfl⟩))
  go_ret
  exact ⟨rfl, q4⟩
set_option maxRecDepth 100000 in
set_option maxHeartbeats 4000000 in
theorem step_5 (h : St w0 w ob dq hb rb b c 5 cn ld er mo tk i o oc L t) (hx : In64 tk) (t2 : t + 1 < 4611686018427387000) :
    Calls Try.prog 28 #[.pointer (some ⟨ob, 0, none⟩)] w fun e w' => e = .returned (.bool true) ∧ St w0 w' ob dq hb rb b c 6 cn ld er mo tk i o 1 (L.set (turnAt b c tk) (up (due c ld tk))) (t + 1) := by
  have sl := Lib.hid (fun k => (h.drewN k).oslot hx)
  have du := Lib.hid (fun w' (q : St w0 w' ob dq hb rb b c 5 cn ld er mo tk i o oc L t) => q.odue hx)
  have st := Lib.hid (fun w' (q : St w0 w' ob dq hb rb b c 5 cn ld er mo tk i o oc L t) => q.store (turnIn c tk : Int) (turnAt b c tk) (up (due c ld tk)) (by unfold turnAt; omega) (by have := q.turn_lt tk; omega) (by omega) (by have := turnIn_lt c tk q.pc; have := q.uc; omega) t2)
  unfold spanV at st
  have en := Lib.hid (fun w' (q : St w0 w' ob dq hb rb b c 5 cn ld er mo tk i o oc (L.set (turnAt b c tk) (up (due c ld tk))) (t + 1)) => oend_any q 1)
  have ov := Lib.hid (fun w' (q : St w0 w' ob dq hb rb b c 6 cn ld er mo tk i o 1 (L.set (turnAt b c tk) (up (due c ld tk))) (t + 1)) => q.over (x := true) rfl)
  obtain ⟨c0, c1, c2, c3, c4, c5, c6, c7, c8, c9⟩ := h.op.c
  have d0 := h.deq.c0
  have d1 := h.deq.c1
  have tl := turnIn_lt c tk h.pc
  have uc := h.uc
  have hw : IntKind.i64.wrap (turnIn c tk : Int) = (turnIn c tk : Int) := IntWalk.i64_in _ (by omega)
  clear h hx t2 tl uc
  generalize L.set (turnAt b c tk) (up (due c ld tk)) = L2 at *
  unfold up at st
  generalize due c ld tk = dv at *
  generalize (turnIn c tk : Int) = si at *
  go_enter Try.func28, Try.ntmps28
  go_wp2
  go_region_held3 (fun w' => w'.cell? ⟨ob, 0, none⟩ = some (.pointer (some ⟨dq, 0, none⟩)) ∧ w'.cell? ⟨dq, 0, none⟩ = some (.pointer (some ⟨hb, 0, none⟩)) ∧ w'.cell? ⟨dq, 1, none⟩ = some (.int .i64 (b : Int)))
    (first | exact ⟨c0, d0, d1⟩ | exact ⟨a0, b0, b1⟩ | exact ⟨e0, n0, n1⟩ | exact ⟨k0, l0, l1⟩ | go_keep)
    (first
      | (go_at_call 62; refine (sl.out _).mono ?_; rintro e w1 ⟨rfl, s1⟩; obtain ⟨a0, a1, a2, a3, a4, a5, a6, a7, a8, a9⟩ := s1.op.c; have b0 := s1.deq.c0; have b1 := s1.deq.c1)
      | (go_at_call 65; refine (du.out _ s1).mono ?_; rintro e w1' ⟨rfl, s1'⟩; obtain ⟨e0, e1, e2, e3, e4, e5, e6, e7, e8, e9⟩ := s1'.op.c; have n0 := s1'.deq.c0; have n1 := s1'.deq.c1)
      | (go_at_call 64; refine (st.out _ s1').mono ?_; rintro e w2 ⟨rfl, s2⟩; obtain ⟨k0, k1, k2, k3, k4, k5, k6, k7, k8, k9⟩ := s2.op.c; have l0 := s2.deq.c0; have l1 := s2.deq.c1; obtain ⟨f1, f6, f8, f9⟩ := s2.op.f))
  go_wp2_with (first
    | (go_at_call 66; refine (en.out _ s2).mono ?_; rintro e w3 ⟨rfl, s3⟩)
    | (go_at_call 24; (with_reducible refine (ov.out _ s3).mono ?_); rintro e w9 ⟨rfl, rfl⟩))
  go_ret
  exact ⟨rfl, s3⟩
theorem step_over (h : OpC w ob dq 6 cn ld er mo tk i o oc) :
    Calls Try.prog 28 #[.pointer (some ⟨ob, 0, none⟩)] w fun e w' => e = .returned (.bool true) ∧ w = w' := by
  have ov := Lib.hid (gover_any h)
  rw [show ((6 : Int) == 6) = true from rfl] at ov
  obtain ⟨c0, c1, c2, c3, c4, c5, c6, c7, c8, c9⟩ := h.c
  clear h
  go_enter Try.func28, Try.ntmps28
  go_wp2_with (go_at_call 24; (with_reducible refine (ov.out).mono ?_); rintro e w1 ⟨rfl, rfl⟩)
  go_ret
  exact ⟨rfl, rfl⟩
end
end Go.Proofs.Ytokopocldicnmaa.Gt
