/- What each of an operation's methods does, and its Step at each phase. -/
import Derived.Test.YtokopocldicnmaaGtP
import Derived.Laws.EntriesVeiled
import Derived.BigQuiet
import Derived.Deep.QuietTactic
import Derived.Deep.RegionHeld3
namespace Go.Proofs.Ytokopocldicnmaa.Gt
open Go.RowKit

section
variable {w0 w : World} {ob dq hb rb b c : Nat} {ph cn ld er mo tk i o oc : Int} {L : List Int} {t : Int}
set_option maxHeartbeats 2000000 in
theorem odue_any (h : OpC w ob dq ph cn ld er mo tk i o oc) (hg : GtAt w dq hb b c) (hx : In64 tk) (hc : 0 < c) (hc2 : c ≤ 64) :
    Calls Try.prog 65 #[.pointer (some ⟨ob, 0, none⟩)] w fun e w' => e = .returned (.int .u64 (due c ld tk)) ∧ ∃ n, w' = w.drewN n := by
  obtain ⟨c0, c1, c2, c3, c4, c5, c6, c7, c8, c9⟩ := h.c
  have d2 := hg.c2
  have e1 : IntKind.u64.wrap (c : Int) = (c : Int) := by rw [IntKind.wrap_u64]; omega
  have e2 : Int.tdiv tk (c : Int) = tk / (c : Int) := Int.tdiv_eq_ediv_of_nonneg hx.1
  have e3 : ¬ ((c : Int) = 0) := by omega
  have q0 : 0 ≤ tk / (c : Int) := Int.ediv_nonneg hx.1 (by omega)
  have q1 : tk / (c : Int) ≤ tk := Int.ediv_le_self _ hx.1
  have q2 : tk / (c : Int) < 18446744073709551616 := by have := hx.2; omega
  have e4 : due c ld tk = IntKind.u64.wrap (IntKind.u64.wrap (2 * (tk / (c : Int))) + ld) := rfl
  rw [e4]
  clear h hg hx hc hc2 q1 e4
  generalize tk / (c : Int) = q at *
  have e5 : IntKind.u64.wrap q = q := by rw [IntKind.wrap_u64]; omega
  go_enter Try.func65, Try.ntmps65
  go_wp2
  go_quiet (fail)
  go_wp2
  go_ret
  exact ⟨rfl, _, rfl⟩
theorem oend_any (h : St w0 w ob dq hb rb b c ph cn ld er mo tk i o oc L t) (x : Int) :
    Calls Try.prog 66 #[.pointer (some ⟨ob, 0, none⟩), .int .i64 x] w fun e w' => e = .returned (.tuple #[]) ∧ St w0 w' ob dq hb rb b c 6 cn ld er mo tk i o x L t := by
  obtain ⟨c0, c1, c2, c3, c4, c5, c6, c7, c8, c9⟩ := h.op.c
  obtain ⟨f1, f6, f8, f9⟩ := h.op.f
  have q := Lib.hid ((h.setPh 6).setOc x)
  clear h
  go_enter Try.func66, Try.ntmps66
  go_wp2
  go_end0
  exact ⟨rfl, q.out⟩
theorem hold_ahead (h : St w0 w ob dq hb rb b c ph cn ld er mo tk i o oc L t) (s : Int) (hx : In64 tk) (hs : due c ld tk < s) :
    Calls Try.prog 61 #[.pointer (some ⟨ob, 0, none⟩), .int .u64 s] w fun e w' => e = .returned (.tuple #[]) ∧ St w0 w' ob dq hb rb b c 0 cn ld er mo tk i o oc L t := by
  have du := Lib.hid (odue_any h.op h.deq hx h.pc h.uc)
  have h' := Lib.hid (fun n => h.drewN n)
  have en := Lib.hid (fun n => oend_any (h.drewN n) er)
  clear h hx
  generalize due c ld tk = dv at *
  go_enter Try.func61, Try.ntmps61
  go_wp2_with (first
    | (go_at_call 65; refine (du.out).mono ?_; rintro e w1 ⟨rfl, n1, rfl⟩; obtain ⟨c0, c1, c2, c3, c4, c5, c6, c7, c8, c9⟩ := (h'.out n1).op.c; obtain ⟨f1, f6, f8, f9⟩ := (h'.out n1).op.f)
    | (go_at_call 66; refine (en.out _).mono ?_; rintro e w1 ⟨rfl, q⟩))
  go_end0
  exact ⟨rfl, (h'.out _).setPh 0⟩
theorem hold_behind (h : St w0 w ob dq hb rb b c ph cn ld er mo tk i o oc L t) (s : Int) (hx : In64 tk) (hs : s < due c ld tk) :
    Calls Try.prog 61 #[.pointer (some ⟨ob, 0, none⟩), .int .u64 s] w fun e w' => e = .returned (.tuple #[]) ∧ St w0 w' ob dq hb rb b c 6 cn ld er mo tk i o er L t := by
  have du := Lib.hid (odue_any h.op h.deq hx h.pc h.uc)
  have h' := Lib.hid (fun n => h.drewN n)
  have en := Lib.hid (fun n => oend_any (h.drewN n) er)
  have hs2 : ¬ due c ld tk < s := by omega
  clear h hx
  generalize due c ld tk = dv at *
  go_enter Try.func61, Try.ntmps61
  go_wp2_with (first
    | (go_at_call 65; refine (du.out).mono ?_; rintro e w1 ⟨rfl, n1, rfl⟩; obtain ⟨c0, c1, c2, c3, c4, c5, c6, c7, c8, c9⟩ := (h'.out n1).op.c; obtain ⟨f1, f6, f8, f9⟩ := (h'.out n1).op.f)
    | (go_at_call 66; refine (en.out _).mono ?_; rintro e w1 ⟨rfl, q⟩))
  go_end0
  exact ⟨rfl, q⟩
theorem hold_on (h : St w0 w ob dq hb rb b c ph cn ld er mo tk i o oc L t) (s : Int) (hx : In64 tk) (hs : s = due c ld tk) :
    Calls Try.prog 61 #[.pointer (some ⟨ob, 0, none⟩), .int .u64 s] w fun e w' => e = .returned (.tuple #[]) ∧ St w0 w' ob dq hb rb b c 2 cn ld er mo tk i o oc L t := by
  have du := Lib.hid (odue_any h.op h.deq hx h.pc h.uc)
  have h' := Lib.hid (fun n => h.drewN n)
  have en := Lib.hid (fun n => oend_any (h.drewN n) er)
  have hs2 : ¬ due c ld tk < s := by omega
  have hs3 : ¬ s < due c ld tk := by omega
  clear hs
  clear h hx
  generalize due c ld tk = dv at *
  go_enter Try.func61, Try.ntmps61
  go_wp2_with (first
    | (go_at_call 65; refine (du.out).mono ?_; rintro e w1 ⟨rfl, n1, rfl⟩; obtain ⟨c0, c1, c2, c3, c4, c5, c6, c7, c8, c9⟩ := (h'.out n1).op.c; obtain ⟨f1, f6, f8, f9⟩ := (h'.out n1).op.f)
    | (go_at_call 66; refine (en.out _).mono ?_; rintro e w1 ⟨rfl, q⟩))
  go_end0
  exact ⟨rfl, (h'.out _).setPh 2⟩
set_option maxHeartbeats 2000000 in
theorem draw_yes (h : St w0 w ob dq hb rb b c ph cn ld er mo tk i o oc L t) (n : Nat) (hn : (b : Int) + cn = (n : Int)) (hi : n < L.length) (n0 : 0 ≤ cn) (n1 : cn ≤ 1000) (hs : L.getD n 0 = tk) (t2 : t + 1 < 4611686018427387000) :
    Calls Try.prog 63 #[.pointer (some ⟨ob, 0, none⟩)] w fun e w' => e = .returned (.tuple #[]) ∧ St w0 w' ob dq hb rb b c mo cn ld er mo tk i o oc (doAcc L (.swap n tk (up tk))).1 (t + 1) := by
  have sw := Lib.hid (fun k => (h.drewN k).swap cn n tk (up tk) hn hi n0 n1 t2)
  unfold spanV at sw
  rw [decide_eq_true hs] at sw
  obtain ⟨c0, c1, c2, c3, c4, c5, c6, c7, c8, c9⟩ := h.op.c
  have d0 := h.deq.c0
  have d1 := h.deq.c1
  unfold up at sw ⊢
  clear h hn hi n0 n1 hs t2
  generalize (doAcc L (.swap n tk (IntKind.u64.wrap (tk + 1)))).1 = L2 at *
  go_enter Try.func63, Try.ntmps63
  go_wp2
  go_region_held3 (fun w' => w'.cell? ⟨ob, 0, none⟩ = some (.pointer (some ⟨dq, 0, none⟩)) ∧ w'.cell? ⟨ob, 2, none⟩ = some (.int .i64 cn) ∧ w'.cell? ⟨ob, 6, none⟩ = some (.int .u64 tk) ∧ w'.cell? ⟨dq, 0, none⟩ = some (.pointer (some ⟨hb, 0, none⟩)) ∧ w'.cell? ⟨dq, 1, none⟩ = some (.int .i64 (b : Int)))
    (first | exact ⟨c0, c2, c6, d0, d1⟩ | exact ⟨k0, k2, k6, l0, l1⟩ | go_keep)
    ((go_at_call 87; refine (sw.out _).mono ?_; rintro e w2 ⟨rfl, s2⟩; obtain ⟨k0, k1, k2, k3, k4, k5, k6, k7, k8, k9⟩ := s2.op.c; have l0 := s2.deq.c0; have l1 := s2.deq.c1; obtain ⟨f1, f6, f8, f9⟩ := s2.op.f))
  go_wp2
  go_end0
  exact ⟨rfl, s2.setPh mo⟩
set_option maxHeartbeats 2000000 in
theorem draw_no (h : St w0 w ob dq hb rb b c ph cn ld er mo tk i o oc L t) (n : Nat) (hn : (b : Int) + cn = (n : Int)) (hi : n < L.length) (n0 : 0 ≤ cn) (n1 : cn ≤ 1000) (hs : ¬ L.getD n 0 = tk) (t2 : t + 1 < 4611686018427387000) :
    Calls Try.prog 63 #[.pointer (some ⟨ob, 0, none⟩)] w fun e w' => e = .returned (.tuple #[]) ∧ St w0 w' ob dq hb rb b c 0 cn ld er mo tk i o oc (doAcc L (.swap n tk (up tk))).1 (t + 1) := by
  have sw := Lib.hid (fun k => (h.drewN k).swap cn n tk (up tk) hn hi n0 n1 t2)
  unfold spanV at sw
  rw [decide_eq_false hs] at sw
  obtain ⟨c0, c1, c2, c3, c4, c5, c6, c7, c8, c9⟩ := h.op.c
  have d0 := h.deq.c0
  have d1 := h.deq.c1
  unfold up at sw ⊢
  clear h hn hi n0 n1 hs t2
  generalize (doAcc L (.swap n tk (IntKind.u64.wrap (tk + 1)))).1 = L2 at *
  go_enter Try.func63, Try.ntmps63
  go_wp2
  go_region_held3 (fun w' => w'.cell? ⟨ob, 0, none⟩ = some (.pointer (some ⟨dq, 0, none⟩)) ∧ w'.cell? ⟨ob, 2, none⟩ = some (.int .i64 cn) ∧ w'.cell? ⟨ob, 6, none⟩ = some (.int .u64 tk) ∧ w'.cell? ⟨dq, 0, none⟩ = some (.pointer (some ⟨hb, 0, none⟩)) ∧ w'.cell? ⟨dq, 1, none⟩ = some (.int .i64 (b : Int)))
    (first | exact ⟨c0, c2, c6, d0, d1⟩ | exact ⟨k0, k2, k6, l0, l1⟩ | go_keep)
    ((go_at_call 87; refine (sw.out _).mono ?_; rintro e w2 ⟨rfl, s2⟩; obtain ⟨k0, k1, k2, k3, k4, k5, k6, k7, k8, k9⟩ := s2.op.c; have l0 := s2.deq.c0; have l1 := s2.deq.c1; obtain ⟨f1, f6, f8, f9⟩ := s2.op.f))
  go_wp2
  go_end0
  exact ⟨rfl, s2.setPh 0⟩
theorem gover_any (h : OpC w ob dq ph cn ld er mo tk i o oc) :
    Calls Try.prog 24 #[.pointer (some ⟨ob, 0, none⟩)] w fun e w' => e = .returned (.bool (ph == 6)) ∧ w = w' := by
  obtain ⟨c0, c1, c2, c3, c4, c5, c6, c7, c8, c9⟩ := h.c
  clear h
  go_enter Try.func24, Try.ntmps24
  go_wp2
  go_ret
  exact ⟨rfl, rfl⟩
theorem goutcome_any (h : OpC w ob dq ph cn ld er mo tk i o oc) :
    Calls Try.prog 68 #[.pointer (some ⟨ob, 0, none⟩)] w fun e w' => e = .returned (.int .i64 oc) ∧ w = w' := by
  obtain ⟨c0, c1, c2, c3, c4, c5, c6, c7, c8, c9⟩ := h.c
  clear h
  go_enter Try.func68, Try.ntmps68
  go_wp2
  go_ret
  exact ⟨rfl, rfl⟩
theorem gvalue_over (h : OpC w ob dq 6 cn ld er mo tk i o oc) :
    Calls Try.prog 69 #[.pointer (some ⟨ob, 0, none⟩)] w fun e w' => e = .returned (.int .u64 o) ∧ w = w' := by
  have ov := Lib.hid (gover_any h)
  rw [show ((6 : Int) == 6) = true from rfl] at ov
  obtain ⟨c0, c1, c2, c3, c4, c5, c6, c7, c8, c9⟩ := h.c
  clear h
  go_enter Try.func69, Try.ntmps69
  go_wp2_with (go_at_call 24; (with_reducible refine (ov.out).mono ?_); rintro e w1 ⟨rfl, rfl⟩)
  go_ret
  exact ⟨rfl, rfl⟩
theorem gvalue_not (h : OpC w ob dq ph cn ld er mo tk i o oc) (hp : (ph == 6) = false) :
    Calls Try.prog 69 #[.pointer (some ⟨ob, 0, none⟩)] w fun e w' => e = .returned (.int .u64 0) ∧ w = w' := by
  have ov := Lib.hid (gover_any h)
  rw [hp] at ov
  obtain ⟨c0, c1, c2, c3, c4, c5, c6, c7, c8, c9⟩ := h.c
  clear h hp
  go_enter Try.func69, Try.ntmps69
  go_wp2_with (go_at_call 24; (with_reducible refine (ov.out).mono ?_); rintro e w1 ⟨rfl, rfl⟩)
  go_ret
  exact ⟨rfl, rfl⟩
end
end Go.Proofs.Ytokopocldicnmaa.Gt
