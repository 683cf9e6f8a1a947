/- What each of an operation's later methods does. -/
import Derived.Test.YtmkcmncbiancgaaRingQ
import Derived.BigQuiet
import Derived.Deep.QuietTactic
namespace Go.Proofs.Ytmkcmncbiancgaa
open Go.RowKit

theorem wait_in (c k : Nat) (hk : k < 4611686018427387904) : IntKind.u64.wrap ((waitAt c k : Int) + 1) = (waitAt c k : Int) + 1 ∧ IntKind.u64.wrap ((waitAt c k : Int) + 2) = (waitAt c k : Int) + 2 := by
  have := waitAt_le c k
  constructor <;> (rw [IntKind.wrap_u64]; omega)

section
variable {w0 w : World} {ob rg hb rb b c : Nat} {nx : Value} {out at_ v : Int} {L : List Int} {t : Int}

set_option maxHeartbeats 4000000 in
theorem has_any (k : Nat) (h : St w0 w ob rg hb rb b c nx out (k : Int) v 0 0 L t) (hk : k < 4611686018427387904) (t2 : t + 1 < 4611686018427387000) :
    Calls Try.prog 100 #[.pointer (some ⟨ob, 0, none⟩)] w fun e w' => e = .returned (.bool (L.getD (turnAt b c k) 0 == (waitAt c k : Int) + 1)) ∧ St w0 w' ob rg hb rb b c nx out (k : Int) v 0 0 L (t + 1) := by
  have tn := Lib.hid (fun n => (h.drewN n).turn k)
  have ld := Lib.hid (fun (w' : World) (hs : St w0 w' ob rg hb rb b c nx out (k : Int) v 0 0 L t) => hs.load (turnIn c k : Int) (turnAt b c k) (h.here k).1 (by have := h.turn_lt k; omega) (by omega) (by have := (h.here k).2.2; omega) t2)
  unfold spanV at ld
  have wt := Lib.hid (fun (w' : World) (hs : St w0 w' ob rg hb rb b c nx out (k : Int) v 0 0 L (t + 1)) => hs.waits k (by omega))
  have h' := Lib.hid h
  obtain ⟨c0, c1, c2, c3, c4, c5, c6⟩ := h.op.c
  have cr := h.r0
  have cq := h.r1
  have e1 := (wait_in c k hk).1
  have hk' := Lib.hid hk
  clear h hk
  generalize hxx : L.getD (turnAt b c k) 0 = x at *
  clear hxx
  generalize turnIn c k = ti at *
  generalize turnAt b c k = tu at *
  generalize waitAt c k = wa at *
  go_enter Try.func100, Try.ntmps100
  go_wp2
  go_region_held3 (fun w' => w'.cell? ⟨ob, 0, none⟩ = some (.pointer (some ⟨rg, 0, none⟩)) ∧ w'.cell? ⟨ob, 3, none⟩ = some (.int .u64 (k : Int)) ∧ w'.cell? ⟨rg, 0, none⟩ = some (.pointer (some ⟨hb, 0, none⟩)) ∧ w'.cell? ⟨rg, 1, none⟩ = some (.int .i64 (b : Int)))
    (first | exact ⟨c0, c3, cr, cq⟩ | exact ⟨a0, a3, ar, aq⟩ | exact ⟨k0, k3, kr, kq⟩ | go_keep)
    (first
      | (go_at_call 67; refine (tn.out _).mono ?_; rintro e w1 ⟨rfl, s1⟩; obtain ⟨a0, a1, a2, a3, a4, a5, a6⟩ := s1.op.c; have ar := s1.r0; have aq := s1.r1)
      | (go_at_call 64; refine (ld.out _ s1).mono ?_; rintro e w2 ⟨rfl, s2⟩; obtain ⟨k0, k1, k2, k3, k4, k5, k6⟩ := s2.op.c; have kr := s2.r0; have kq := s2.r1)
      | (go_at_call 98; refine (wt.out _ s2).mono ?_; rintro e w3 ⟨rfl, rfl⟩))
  go_wp2
  go_ret
  exact ⟨rfl, s2⟩

set_option maxHeartbeats 4000000 in
theorem takeTurn_none (k : Nat) (h : St w0 w ob rg hb rb b c nx 0 (k : Int) v 0 0 L t) (hk : k < 4611686018427387904) (t2 : t + 1 < 4611686018427387000) (hx : (L.getD (turnAt b c k) 0 == (waitAt c k : Int) + 1) = false) :
    Calls Try.prog 93 #[.pointer (some ⟨ob, 0, none⟩)] w fun e w' => e = .returned (.tuple #[]) ∧ St w0 w' ob rg hb rb b c nx 4 (k : Int) v 0 0 L (t + 1) := by
  have hmf : ∀ (fn : Fn) (first cap : Array Value) (w : World), (Instr.makeFunc fn first cap).run Try.prog w = .ok (.func fn first cap) w := fun _ _ _ _ => rfl
  have ha := Lib.hid (has_any k h hk t2)
  rw [hx] at ha
  clear hx
  have h' := Lib.hid h
  clear h hk
  go_enter Try.func93, Try.ntmps93
  go_wp2_with (go_at_call 100; refine (ha.out).mono ?_; rintro e w2 ⟨rfl, s2⟩; obtain ⟨k0, k1, k2, k3, k4, k5, k6⟩ := s2.op.c; obtain ⟨f1, f2, f3, f4, f5, f6⟩ := s2.op.f)
  refine bodyPost_ret (results_none rfl _ _ _) rfl ?_
  exact ⟨rfl, s2.set2 4⟩

set_option maxHeartbeats 4000000 in
theorem takeTurn_on (k : Nat) (h : St w0 w ob rg hb rb b c nx 0 (k : Int) v 0 0 L t) (hk : k < 4611686018427387904) (t2 : t + 1 < 4611686018427387000) (hx : (L.getD (turnAt b c k) 0 == (waitAt c k : Int) + 1) = true) :
    Calls Try.prog 93 #[.pointer (some ⟨ob, 0, none⟩)] w fun e w' => e = .returned (.tuple #[]) ∧ St w0 w' ob rg hb rb b c (mv 101 ob) 0 (k : Int) v 0 0 L (t + 1) := by
  have hmf : ∀ (fn : Fn) (first cap : Array Value) (w : World), (Instr.makeFunc fn first cap).run Try.prog w = .ok (.func fn first cap) w := fun _ _ _ _ => rfl
  have ha := Lib.hid (has_any k h hk t2)
  rw [hx] at ha
  clear hx
  have h' := Lib.hid h
  clear h hk
  go_enter Try.func93, Try.ntmps93
  go_wp2_with (go_at_call 100; refine (ha.out).mono ?_; rintro e w2 ⟨rfl, s2⟩; obtain ⟨k0, k1, k2, k3, k4, k5, k6⟩ := s2.op.c; obtain ⟨f1, f2, f3, f4, f5, f6⟩ := s2.op.f)
  go_end0
  exact ⟨rfl, s2.set1 _⟩

set_option maxHeartbeats 4000000 in
theorem putTurn_back (k : Nat) (h : St w0 w ob rg hb rb b c nx 0 (k : Int) v 0 0 L t) (hk : k < 4611686018427387904) (t2 : t + 1 < 4611686018427387000) (hx : (waitAt c k : Int) < L.getD (turnAt b c k) 0) :
    Calls Try.prog 92 #[.pointer (some ⟨ob, 0, none⟩)] w fun e w' => e = .returned (.tuple #[]) ∧ St w0 w' ob rg hb rb b c (mv 78 ob) 0 (k : Int) v 0 0 L (t + 1) := by
  have hmf : ∀ (fn : Fn) (first cap : Array Value) (w : World), (Instr.makeFunc fn first cap).run Try.prog w = .ok (.func fn first cap) w := fun _ _ _ _ => rfl
  have tn := Lib.hid (fun n => (h.drewN n).turn k)
  have ld := Lib.hid (fun (w' : World) (hs : St w0 w' ob rg hb rb b c nx 0 (k : Int) v 0 0 L t) => hs.load (turnIn c k : Int) (turnAt b c k) (h.here k).1 (by have := h.turn_lt k; omega) (by omega) (by have := (h.here k).2.2; omega) t2)
  unfold spanV at ld
  have wt := Lib.hid (fun (w' : World) (hs : St w0 w' ob rg hb rb b c nx 0 (k : Int) v 0 0 L (t + 1)) => hs.waits k (by omega))
  have h' := Lib.hid h
  obtain ⟨c0, c1, c2, c3, c4, c5, c6⟩ := h.op.c
  have cr := h.r0
  have cq := h.r1
  clear h hk
  generalize hxx : L.getD (turnAt b c k) 0 = x at *
  clear hxx
  generalize turnIn c k = ti at *
  generalize turnAt b c k = tu at *
  generalize waitAt c k = wa at *
  have hx2 : ¬ (x < (wa : Int)) := by omega
  go_enter Try.func92, Try.ntmps92
  go_wp2
  go_region_held3 (fun w' => w'.cell? ⟨ob, 0, none⟩ = some (.pointer (some ⟨rg, 0, none⟩)) ∧ w'.cell? ⟨ob, 3, none⟩ = some (.int .u64 (k : Int)) ∧ w'.cell? ⟨rg, 0, none⟩ = some (.pointer (some ⟨hb, 0, none⟩)) ∧ w'.cell? ⟨rg, 1, none⟩ = some (.int .i64 (b : Int)))
    (first | exact ⟨c0, c3, cr, cq⟩ | exact ⟨a0, a3, ar, aq⟩ | exact ⟨k0, k3, kr, kq⟩ | go_keep)
    (first
      | (go_at_call 67; refine (tn.out _).mono ?_; rintro e w1 ⟨rfl, s1⟩; obtain ⟨a0, a1, a2, a3, a4, a5, a6⟩ := s1.op.c; have ar := s1.r0; have aq := s1.r1)
      | (go_at_call 64; refine (ld.out _ s1).mono ?_; rintro e w2 ⟨rfl, s2⟩; obtain ⟨k0, k1, k2, k3, k4, k5, k6⟩ := s2.op.c; have kr := s2.r0; have kq := s2.r1; obtain ⟨f1, f2, f3, f4, f5, f6⟩ := s2.op.f)
      | (go_at_call 98; refine (wt.out _ s2).mono ?_; rintro e w3 ⟨rfl, rfl⟩))
  go_wp2
  go_end0
  exact ⟨rfl, s2.set1 _⟩

set_option maxHeartbeats 4000000 in
theorem putTurn_full (k : Nat) (h : St w0 w ob rg hb rb b c nx 0 (k : Int) v 0 0 L t) (hk : k < 4611686018427387904) (t2 : t + 1 < 4611686018427387000) (hx : L.getD (turnAt b c k) 0 < (waitAt c k : Int)) :
    Calls Try.prog 92 #[.pointer (some ⟨ob, 0, none⟩)] w fun e w' => e = .returned (.tuple #[]) ∧ St w0 w' ob rg hb rb b c nx 2 (k : Int) v 0 0 L (t + 1) := by
  have hmf : ∀ (fn : Fn) (first cap : Array Value) (w : World), (Instr.makeFunc fn first cap).run Try.prog w = .ok (.func fn first cap) w := fun _ _ _ _ => rfl
  have tn := Lib.hid (fun n => (h.drewN n).turn k)
  have ld := Lib.hid (fun (w' : World) (hs : St w0 w' ob rg hb rb b c nx 0 (k : Int) v 0 0 L t) => hs.load (turnIn c k : Int) (turnAt b c k) (h.here k).1 (by have := h.turn_lt k; omega) (by omega) (by have := (h.here k).2.2; omega) t2)
  unfold spanV at ld
  have wt := Lib.hid (fun (w' : World) (hs : St w0 w' ob rg hb rb b c nx 0 (k : Int) v 0 0 L (t + 1)) => hs.waits k (by omega))
  have h' := Lib.hid h
  obtain ⟨c0, c1, c2, c3, c4, c5, c6⟩ := h.op.c
  have cr := h.r0
  have cq := h.r1
  clear h hk
  generalize hxx : L.getD (turnAt b c k) 0 = x at *
  clear hxx
  generalize turnIn c k = ti at *
  generalize turnAt b c k = tu at *
  generalize waitAt c k = wa at *
  have hx2 : ¬ ((wa : Int) < x) := by omega
  go_enter Try.func92, Try.ntmps92
  go_wp2
  go_region_held3 (fun w' => w'.cell? ⟨ob, 0, none⟩ = some (.pointer (some ⟨rg, 0, none⟩)) ∧ w'.cell? ⟨ob, 3, none⟩ = some (.int .u64 (k : Int)) ∧ w'.cell? ⟨rg, 0, none⟩ = some (.pointer (some ⟨hb, 0, none⟩)) ∧ w'.cell? ⟨rg, 1, none⟩ = some (.int .i64 (b : Int)))
    (first | exact ⟨c0, c3, cr, cq⟩ | exact ⟨a0, a3, ar, aq⟩ | exact ⟨k0, k3, kr, kq⟩ | go_keep)
    (first
      | (go_at_call 67; refine (tn.out _).mono ?_; rintro e w1 ⟨rfl, s1⟩; obtain ⟨a0, a1, a2, a3, a4, a5, a6⟩ := s1.op.c; have ar := s1.r0; have aq := s1.r1)
      | (go_at_call 64; refine (ld.out _ s1).mono ?_; rintro e w2 ⟨rfl, s2⟩; obtain ⟨k0, k1, k2, k3, k4, k5, k6⟩ := s2.op.c; have kr := s2.r0; have kq := s2.r1; obtain ⟨f1, f2, f3, f4, f5, f6⟩ := s2.op.f)
      | (go_at_call 98; refine (wt.out _ s2).mono ?_; rintro e w3 ⟨rfl, rfl⟩))
  go_wp2
  go_end0
  exact ⟨rfl, s2.set2 2⟩

set_option maxHeartbeats 4000000 in
theorem putTurn_on (k : Nat) (h : St w0 w ob rg hb rb b c nx 0 (k : Int) v 0 0 L t) (hk : k < 4611686018427387904) (t2 : t + 1 < 4611686018427387000) (hx : L.getD (turnAt b c k) 0 = (waitAt c k : Int)) :
    Calls Try.prog 92 #[.pointer (some ⟨ob, 0, none⟩)] w fun e w' => e = .returned (.tuple #[]) ∧ St w0 w' ob rg hb rb b c (mv 99 ob) 0 (k : Int) v 0 0 L (t + 1) := by
  have hmf : ∀ (fn : Fn) (first cap : Array Value) (w : World), (Instr.makeFunc fn first cap).run Try.prog w = .ok (.func fn first cap) w := fun _ _ _ _ => rfl
  have tn := Lib.hid (fun n => (h.drewN n).turn k)
  have ld := Lib.hid (fun (w' : World) (hs : St w0 w' ob rg hb rb b c nx 0 (k : Int) v 0 0 L t) => hs.load (turnIn c k : Int) (turnAt b c k) (h.here k).1 (by have := h.turn_lt k; omega) (by omega) (by have := (h.here k).2.2; omega) t2)
  unfold spanV at ld
  have wt := Lib.hid (fun (w' : World) (hs : St w0 w' ob rg hb rb b c nx 0 (k : Int) v 0 0 L (t + 1)) => hs.waits k (by omega))
  have h' := Lib.hid h
  obtain ⟨c0, c1, c2, c3, c4, c5, c6⟩ := h.op.c
  have cr := h.r0
  have cq := h.r1
  clear h hk
  generalize hxx : L.getD (turnAt b c k) 0 = x at *
  clear hxx
  generalize turnIn c k = ti at *
  generalize turnAt b c k = tu at *
  generalize waitAt c k = wa at *
  subst hx
  go_enter Try.func92, Try.ntmps92
  go_wp2
  go_region_held3 (fun w' => w'.cell? ⟨ob, 0, none⟩ = some (.pointer (some ⟨rg, 0, none⟩)) ∧ w'.cell? ⟨ob, 3, none⟩ = some (.int .u64 (k : Int)) ∧ w'.cell? ⟨rg, 0, none⟩ = some (.pointer (some ⟨hb, 0, none⟩)) ∧ w'.cell? ⟨rg, 1, none⟩ = some (.int .i64 (b : Int)))
    (first | exact ⟨c0, c3, cr, cq⟩ | exact ⟨a0, a3, ar, aq⟩ | exact ⟨k0, k3, kr, kq⟩ | go_keep)
    (first
      | (go_at_call 67; refine (tn.out _).mono ?_; rintro e w1 ⟨rfl, s1⟩; obtain ⟨a0, a1, a2, a3, a4, a5, a6⟩ := s1.op.c; have ar := s1.r0; have aq := s1.r1)
      | (go_at_call 64; refine (ld.out _ s1).mono ?_; rintro e w2 ⟨rfl, s2⟩; obtain ⟨k0, k1, k2, k3, k4, k5, k6⟩ := s2.op.c; have kr := s2.r0; have kq := s2.r1; obtain ⟨f1, f2, f3, f4, f5, f6⟩ := s2.op.f)
      | (go_at_call 98; refine (wt.out _ s2).mono ?_; rintro e w3 ⟨rfl, rfl⟩))
  go_wp2
  go_end0
  exact ⟨rfl, s2.set1 _⟩

set_option maxHeartbeats 4000000 in
theorem putDraw_yes (k : Nat) (h : St w0 w ob rg hb rb b c nx 0 (k : Int) v 0 0 L t) (hk : k < 4611686018427387904) (t2 : t + 1 < 4611686018427387000) (hx : L.getD b 0 = (k : Int)) :
    Calls Try.prog 99 #[.pointer (some ⟨ob, 0, none⟩)] w fun e w' => e = .returned (.tuple #[]) ∧ St w0 w' ob rg hb rb b c (mv 102 ob) 0 (k : Int) v 0 0 (doAcc L (.swap b (k : Int) ((k : Int) + 1))).1 (t + 1) := by
  have hmf : ∀ (fn : Fn) (first cap : Array Value) (w : World), (Instr.makeFunc fn first cap).run Try.prog w = .ok (.func fn first cap) w := fun _ _ _ _ => rfl
  have sw := Lib.hid (fun n => (h.drewN n).swap 0 b (k : Int) ((k : Int) + 1) (by omega) (by have := h.len; omega) (by omega) (by omega) t2)
  unfold spanV at sw
  have h' := Lib.hid h
  obtain ⟨c0, c1, c2, c3, c4, c5, c6⟩ := h.op.c
  have cr := h.r0
  have cq := h.r1
  rw [decide_eq_true hx] at sw
  have e1 : IntKind.u64.wrap ((k : Int) + 1) = (k : Int) + 1 := by rw [IntKind.wrap_u64]; omega
  clear h hx hk
  generalize (doAcc L (.swap b (k : Int) ((k : Int) + 1))).1 = L' at *
  go_enter Try.func99, Try.ntmps99
  go_wp2
  go_region_held3 (fun w' => w'.cell? ⟨ob, 0, none⟩ = some (.pointer (some ⟨rg, 0, none⟩)) ∧ w'.cell? ⟨ob, 3, none⟩ = some (.int .u64 (k : Int)) ∧ w'.cell? ⟨rg, 0, none⟩ = some (.pointer (some ⟨hb, 0, none⟩)) ∧ w'.cell? ⟨rg, 1, none⟩ = some (.int .i64 (b : Int)))
    (first | exact ⟨c0, c3, cr, cq⟩ | exact ⟨k0, k3, kr, kq⟩ | go_keep)
    (first
      | (go_at_call 61; refine (sw.out _).mono ?_; rintro e w2 ⟨rfl, s2⟩; obtain ⟨k0, k1, k2, k3, k4, k5, k6⟩ := s2.op.c; have kr := s2.r0; have kq := s2.r1; obtain ⟨f1, f2, f3, f4, f5, f6⟩ := s2.op.f))
  go_wp2
  go_end0
  exact ⟨rfl, s2.set1 _⟩

set_option maxHeartbeats 4000000 in
theorem putDraw_no (k : Nat) (h : St w0 w ob rg hb rb b c nx 0 (k : Int) v 0 0 L t) (hk : k < 4611686018427387904) (t2 : t + 1 < 4611686018427387000) (hx : ¬ L.getD b 0 = (k : Int)) :
    Calls Try.prog 99 #[.pointer (some ⟨ob, 0, none⟩)] w fun e w' => e = .returned (.tuple #[]) ∧ St w0 w' ob rg hb rb b c (mv 78 ob) 0 (k : Int) v 0 0 (doAcc L (.swap b (k : Int) ((k : Int) + 1))).1 (t + 1) := by
  have hmf : ∀ (fn : Fn) (first cap : Array Value) (w : World), (Instr.makeFunc fn first cap).run Try.prog w = .ok (.func fn first cap) w := fun _ _ _ _ => rfl
  have sw := Lib.hid (fun n => (h.drewN n).swap 0 b (k : Int) ((k : Int) + 1) (by omega) (by have := h.len; omega) (by omega) (by omega) t2)
  unfold spanV at sw
  have h' := Lib.hid h
  obtain ⟨c0, c1, c2, c3, c4, c5, c6⟩ := h.op.c
  have cr := h.r0
  have cq := h.r1
  rw [decide_eq_false hx] at sw
  have e1 : IntKind.u64.wrap ((k : Int) + 1) = (k : Int) + 1 := by rw [IntKind.wrap_u64]; omega
  clear h hx hk
  generalize (doAcc L (.swap b (k : Int) ((k : Int) + 1))).1 = L' at *
  go_enter Try.func99, Try.ntmps99
  go_wp2
  go_region_held3 (fun w' => w'.cell? ⟨ob, 0, none⟩ = some (.pointer (some ⟨rg, 0, none⟩)) ∧ w'.cell? ⟨ob, 3, none⟩ = some (.int .u64 (k : Int)) ∧ w'.cell? ⟨rg, 0, none⟩ = some (.pointer (some ⟨hb, 0, none⟩)) ∧ w'.cell? ⟨rg, 1, none⟩ = some (.int .i64 (b : Int)))
    (first | exact ⟨c0, c3, cr, cq⟩ | exact ⟨k0, k3, kr, kq⟩ | go_keep)
    (first
      | (go_at_call 61; refine (sw.out _).mono ?_; rintro e w2 ⟨rfl, s2⟩; obtain ⟨k0, k1, k2, k3, k4, k5, k6⟩ := s2.op.c; have kr := s2.r0; have kq := s2.r1; obtain ⟨f1, f2, f3, f4, f5, f6⟩ := s2.op.f))
  go_wp2
  go_end0
  exact ⟨rfl, s2.set1 _⟩

set_option maxHeartbeats 4000000 in
theorem closeSwap_yes (k : Nat) (h : St w0 w ob rg hb rb b c nx 0 (k : Int) v 0 0 L t) (hk : k < 4611686018427387904) (t2 : t + 1 < 4611686018427387000) (hx : L.getD b 0 = (k : Int)) :
    Calls Try.prog 94 #[.pointer (some ⟨ob, 0, none⟩)] w fun e w' => e = .returned (.tuple #[]) ∧ St w0 w' ob rg hb rb b c nx 1 (k : Int) v 0 0 (doAcc L (.swap b (k : Int) ((k : Int) + 9223372036854775808))).1 (t + 1) := by
  have hmf : ∀ (fn : Fn) (first cap : Array Value) (w : World), (Instr.makeFunc fn first cap).run Try.prog w = .ok (.func fn first cap) w := fun _ _ _ _ => rfl
  have sw := Lib.hid (fun n => (h.drewN n).swap 0 b (k : Int) ((k : Int) + 9223372036854775808) (by omega) (by have := h.len; omega) (by omega) (by omega) t2)
  unfold spanV at sw
  have h' := Lib.hid h
  obtain ⟨c0, c1, c2, c3, c4, c5, c6⟩ := h.op.c
  have cr := h.r0
  have cq := h.r1
  rw [decide_eq_true hx] at sw
  have e1 : IntKind.u64.wrap ((k : Int) + 9223372036854775808) = (k : Int) + 9223372036854775808 := by rw [IntKind.wrap_u64]; omega
  clear h hx hk
  generalize (doAcc L (.swap b (k : Int) ((k : Int) + 9223372036854775808))).1 = L' at *
  go_enter Try.func94, Try.ntmps94
  go_wp2
  go_region_held3 (fun w' => w'.cell? ⟨ob, 0, none⟩ = some (.pointer (some ⟨rg, 0, none⟩)) ∧ w'.cell? ⟨ob, 3, none⟩ = some (.int .u64 (k : Int)) ∧ w'.cell? ⟨rg, 0, none⟩ = some (.pointer (some ⟨hb, 0, none⟩)) ∧ w'.cell? ⟨rg, 1, none⟩ = some (.int .i64 (b : Int)))
    (first | exact ⟨c0, c3, cr, cq⟩ | exact ⟨k0, k3, kr, kq⟩ | go_keep)
    (first
      | (go_at_call 61; refine (sw.out _).mono ?_; rintro e w2 ⟨rfl, s2⟩; obtain ⟨k0, k1, k2, k3, k4, k5, k6⟩ := s2.op.c; have kr := s2.r0; have kq := s2.r1; obtain ⟨f1, f2, f3, f4, f5, f6⟩ := s2.op.f))
  go_wp2
  go_end0
  exact ⟨rfl, s2.set2 1⟩

set_option maxHeartbeats 4000000 in
theorem closeSwap_no (k : Nat) (h : St w0 w ob rg hb rb b c nx 0 (k : Int) v 0 0 L t) (hk : k < 4611686018427387904) (t2 : t + 1 < 4611686018427387000) (hx : ¬ L.getD b 0 = (k : Int)) :
    Calls Try.prog 94 #[.pointer (some ⟨ob, 0, none⟩)] w fun e w' => e = .returned (.tuple #[]) ∧ St w0 w' ob rg hb rb b c (mv 85 ob) 0 (k : Int) v 0 0 (doAcc L (.swap b (k : Int) ((k : Int) + 9223372036854775808))).1 (t + 1) := by
  have hmf : ∀ (fn : Fn) (first cap : Array Value) (w : World), (Instr.makeFunc fn first cap).run Try.prog w = .ok (.func fn first cap) w := fun _ _ _ _ => rfl
  have sw := Lib.hid (fun n => (h.drewN n).swap 0 b (k : Int) ((k : Int) + 9223372036854775808) (by omega) (by have := h.len; omega) (by omega) (by omega) t2)
  unfold spanV at sw
  have h' := Lib.hid h
  obtain ⟨c0, c1, c2, c3, c4, c5, c6⟩ := h.op.c
  have cr := h.r0
  have cq := h.r1
  rw [decide_eq_false hx] at sw
  have e1 : IntKind.u64.wrap ((k : Int) + 9223372036854775808) = (k : Int) + 9223372036854775808 := by rw [IntKind.wrap_u64]; omega
  clear h hx hk
  generalize (doAcc L (.swap b (k : Int) ((k : Int) + 9223372036854775808))).1 = L' at *
  go_enter Try.func94, Try.ntmps94
  go_wp2
  go_region_held3 (fun w' => w'.cell? ⟨ob, 0, none⟩ = some (.pointer (some ⟨rg, 0, none⟩)) ∧ w'.cell? ⟨ob, 3, none⟩ = some (.int .u64 (k : Int)) ∧ w'.cell? ⟨rg, 0, none⟩ = some (.pointer (some ⟨hb, 0, none⟩)) ∧ w'.cell? ⟨rg, 1, none⟩ = some (.int .i64 (b : Int)))
    (first | exact ⟨c0, c3, cr, cq⟩ | exact ⟨k0, k3, kr, kq⟩ | go_keep)
    (first
      | (go_at_call 61; refine (sw.out _).mono ?_; rintro e w2 ⟨rfl, s2⟩; obtain ⟨k0, k1, k2, k3, k4, k5, k6⟩ := s2.op.c; have kr := s2.r0; have kq := s2.r1; obtain ⟨f1, f2, f3, f4, f5, f6⟩ := s2.op.f))
  go_wp2
  go_end0
  exact ⟨rfl, s2.set1 _⟩

set_option maxHeartbeats 4000000 in
theorem putValue_any (k : Nat) (h : St w0 w ob rg hb rb b c nx 0 (k : Int) v 0 0 L t) (t2 : t + 1 < 4611686018427387000)  :
    Calls Try.prog 102 #[.pointer (some ⟨ob, 0, none⟩)] w fun e w' => e = .returned (.tuple #[]) ∧ St w0 w' ob rg hb rb b c (mv 104 ob) 0 (k : Int) v 0 0 (L.set (turnAt b c k + 1) v) (t + 1) := by
  have hmf : ∀ (fn : Fn) (first cap : Array Value) (w : World), (Instr.makeFunc fn first cap).run Try.prog w = .ok (.func fn first cap) w := fun _ _ _ _ => rfl
  have vl := Lib.hid (fun n => (h.drewN n).value k)
  have sv := Lib.hid (fun (w' : World) (hs : St w0 w' ob rg hb rb b c nx 0 (k : Int) v 0 0 L t) => hs.store ((turnIn c k + 1 : Nat) : Int) (turnAt b c k + 1) v (h.here k).2.1 (h.turn_lt k) (by omega) (by have := (h.here k).2.2; omega) t2)
  unfold spanV at sv
  have h' := Lib.hid h
  obtain ⟨c0, c1, c2, c3, c4, c5, c6⟩ := h.op.c
  have cr := h.r0
  have cq := h.r1
  clear h
  generalize turnIn c k + 1 = ti at *
  generalize turnAt b c k + 1 = tu at *
  go_enter Try.func102, Try.ntmps102
  go_wp2
  go_region_held3 (fun w' => w'.cell? ⟨ob, 0, none⟩ = some (.pointer (some ⟨rg, 0, none⟩)) ∧ w'.cell? ⟨ob, 3, none⟩ = some (.int .u64 (k : Int)) ∧ w'.cell? ⟨ob, 4, none⟩ = some (.int .u64 v) ∧ w'.cell? ⟨rg, 0, none⟩ = some (.pointer (some ⟨hb, 0, none⟩)) ∧ w'.cell? ⟨rg, 1, none⟩ = some (.int .i64 (b : Int)))
    (first | exact ⟨c0, c3, c4, cr, cq⟩ | exact ⟨a0, a3, a4, ar, aq⟩ | exact ⟨k0, k3, k4, kr, kq⟩ | go_keep)
    (first
      | (go_at_call 68; refine (vl.out _).mono ?_; rintro e w1 ⟨rfl, s1⟩; obtain ⟨a0, a1, a2, a3, a4, a5, a6⟩ := s1.op.c; have ar := s1.r0; have aq := s1.r1)
      | (go_at_call 39; refine (sv.out _ s1).mono ?_; rintro e w2 ⟨rfl, s2⟩; obtain ⟨k0, k1, k2, k3, k4, k5, k6⟩ := s2.op.c; have kr := s2.r0; have kq := s2.r1; obtain ⟨f1, f2, f3, f4, f5, f6⟩ := s2.op.f))
  go_wp2
  go_end0
  exact ⟨rfl, s2.set1 _⟩

set_option maxHeartbeats 4000000 in
theorem putHas_any (k : Nat) (h : St w0 w ob rg hb rb b c nx 0 (k : Int) v 0 0 L t) (hk : k < 4611686018427387904) (t2 : t + 1 < 4611686018427387000)  :
    Calls Try.prog 104 #[.pointer (some ⟨ob, 0, none⟩)] w fun e w' => e = .returned (.tuple #[]) ∧ St w0 w' ob rg hb rb b c nx 1 (k : Int) v 0 (k : Int) (L.set (turnAt b c k) ((waitAt c k : Int) + 1)) (t + 1) := by
  have hmf : ∀ (fn : Fn) (first cap : Array Value) (w : World), (Instr.makeFunc fn first cap).run Try.prog w = .ok (.func fn first cap) w := fun _ _ _ _ => rfl
  have tn := Lib.hid (fun n => (h.drewN n).turn k)
  have wt := Lib.hid (fun (w' : World) (hs : St w0 w' ob rg hb rb b c nx 0 (k : Int) v 0 0 L t) => hs.waits k (by omega))
  have sv := Lib.hid (fun (w' : World) (hs : St w0 w' ob rg hb rb b c nx 0 (k : Int) v 0 0 L t) => hs.store (turnIn c k : Int) (turnAt b c k) ((waitAt c k : Int) + 1) (h.here k).1 (by have := h.turn_lt k; omega) (by omega) (by have := (h.here k).2.2; omega) t2)
  unfold spanV at sv
  have h' := Lib.hid h
  obtain ⟨c0, c1, c2, c3, c4, c5, c6⟩ := h.op.c
  have cr := h.r0
  have cq := h.r1
  have e1 := (wait_in c k hk).1
  clear h hk
  generalize turnIn c k = ti at *
  generalize turnAt b c k = tu at *
  generalize waitAt c k = wa at *
  go_enter Try.func104, Try.ntmps104
  go_wp2
  go_region_held3 (fun w' => w'.cell? ⟨ob, 0, none⟩ = some (.pointer (some ⟨rg, 0, none⟩)) ∧ w'.cell? ⟨ob, 3, none⟩ = some (.int .u64 (k : Int)) ∧ w'.cell? ⟨rg, 0, none⟩ = some (.pointer (some ⟨hb, 0, none⟩)) ∧ w'.cell? ⟨rg, 1, none⟩ = some (.int .i64 (b : Int)))
    (first | exact ⟨c0, c3, cr, cq⟩ | exact ⟨a0, a3, ar, aq⟩ | exact ⟨k0, k3, kr, kq⟩ | go_keep)
    (first
      | (go_at_call 67; refine (tn.out _).mono ?_; rintro e w1 ⟨rfl, s1⟩; obtain ⟨a0, a1, a2, a3, a4, a5, a6⟩ := s1.op.c; have ar := s1.r0; have aq := s1.r1)
      | (go_at_call 98; refine (wt.out _ s1).mono ?_; rintro e w3 ⟨rfl, rfl⟩)
      | (go_at_call 39; refine (sv.out _ s1).mono ?_; rintro e w2 ⟨rfl, s2⟩; obtain ⟨k0, k1, k2, k3, k4, k5, k6⟩ := s2.op.c; have kr := s2.r0; have kq := s2.r1; obtain ⟨f1, f2, f3, f4, f5, f6⟩ := s2.op.f))
  go_wp2
  go_end0
  exact ⟨rfl, (s2.set2 1).set6 _⟩

set_option maxHeartbeats 4000000 in
theorem takeFree_any (k : Nat) (h : St w0 w ob rg hb rb b c nx 0 (k : Int) v 0 0 L t) (hk : k < 4611686018427387904) (t2 : t + 1 < 4611686018427387000)  :
    Calls Try.prog 103 #[.pointer (some ⟨ob, 0, none⟩)] w fun e w' => e = .returned (.tuple #[]) ∧ St w0 w' ob rg hb rb b c (mv 105 ob) 0 (k : Int) v 0 0 (L.set (turnAt b c k) ((waitAt c k : Int) + 2)) (t + 1) := by
  have hmf : ∀ (fn : Fn) (first cap : Array Value) (w : World), (Instr.makeFunc fn first cap).run Try.prog w = .ok (.func fn first cap) w := fun _ _ _ _ => rfl
  have tn := Lib.hid (fun n => (h.drewN n).turn k)
  have wt := Lib.hid (fun (w' : World) (hs : St w0 w' ob rg hb rb b c nx 0 (k : Int) v 0 0 L t) => hs.waits k (by omega))
  have sv := Lib.hid (fun (w' : World) (hs : St w0 w' ob rg hb rb b c nx 0 (k : Int) v 0 0 L t) => hs.store (turnIn c k : Int) (turnAt b c k) ((waitAt c k : Int) + 2) (h.here k).1 (by have := h.turn_lt k; omega) (by omega) (by have := (h.here k).2.2; omega) t2)
  unfold spanV at sv
  have h' := Lib.hid h
  obtain ⟨c0, c1, c2, c3, c4, c5, c6⟩ := h.op.c
  have cr := h.r0
  have cq := h.r1
  have e1 := (wait_in c k hk).2
  clear h hk
  generalize turnIn c k = ti at *
  generalize turnAt b c k = tu at *
  generalize waitAt c k = wa at *
  go_enter Try.func103, Try.ntmps103
  go_wp2
  go_region_held3 (fun w' => w'.cell? ⟨ob, 0, none⟩ = some (.pointer (some ⟨rg, 0, none⟩)) ∧ w'.cell? ⟨ob, 3, none⟩ = some (.int .u64 (k : Int)) ∧ w'.cell? ⟨rg, 0, none⟩ = some (.pointer (some ⟨hb, 0, none⟩)) ∧ w'.cell? ⟨rg, 1, none⟩ = some (.int .i64 (b : Int)))
    (first | exact ⟨c0, c3, cr, cq⟩ | exact ⟨a0, a3, ar, aq⟩ | exact ⟨k0, k3, kr, kq⟩ | go_keep)
    (first
      | (go_at_call 67; refine (tn.out _).mono ?_; rintro e w1 ⟨rfl, s1⟩; obtain ⟨a0, a1, a2, a3, a4, a5, a6⟩ := s1.op.c; have ar := s1.r0; have aq := s1.r1)
      | (go_at_call 98; refine (wt.out _ s1).mono ?_; rintro e w3 ⟨rfl, rfl⟩)
      | (go_at_call 39; refine (sv.out _ s1).mono ?_; rintro e w2 ⟨rfl, s2⟩; obtain ⟨k0, k1, k2, k3, k4, k5, k6⟩ := s2.op.c; have kr := s2.r0; have kq := s2.r1; obtain ⟨f1, f2, f3, f4, f5, f6⟩ := s2.op.f))
  go_wp2
  go_end0
  exact ⟨rfl, s2.set1 _⟩

set_option maxHeartbeats 4000000 in
theorem takeValue_any (k : Nat) (h : St w0 w ob rg hb rb b c nx 0 (k : Int) v 0 0 L t) (t2 : t + 1 < 4611686018427387000)  :
    Calls Try.prog 101 #[.pointer (some ⟨ob, 0, none⟩)] w fun e w' => e = .returned (.tuple #[]) ∧ St w0 w' ob rg hb rb b c (mv 103 ob) 0 (k : Int) (L.getD (turnAt b c k + 1) 0) 0 0 L (t + 1) := by
  have hmf : ∀ (fn : Fn) (first cap : Array Value) (w : World), (Instr.makeFunc fn first cap).run Try.prog w = .ok (.func fn first cap) w := fun _ _ _ _ => rfl
  have vl := Lib.hid (fun n => (h.drewN n).value k)
  have ld := Lib.hid (fun (w' : World) (hs : St w0 w' ob rg hb rb b c nx 0 (k : Int) v 0 0 L t) => hs.load ((turnIn c k + 1 : Nat) : Int) (turnAt b c k + 1) (h.here k).2.1 (h.turn_lt k) (by omega) (by have := (h.here k).2.2; omega) t2)
  unfold spanV at ld
  have h' := Lib.hid h
  obtain ⟨c0, c1, c2, c3, c4, c5, c6⟩ := h.op.c
  have cr := h.r0
  have cq := h.r1
  clear h
  generalize hxx : L.getD (turnAt b c k + 1) 0 = x at *
  clear hxx
  generalize turnIn c k + 1 = ti at *
  generalize turnAt b c k + 1 = tu at *
  go_enter Try.func101, Try.ntmps101
  go_wp2
  go_region_held3 (fun w' => w'.cell? ⟨ob, 0, none⟩ = some (.pointer (some ⟨rg, 0, none⟩)) ∧ w'.cell? ⟨ob, 3, none⟩ = some (.int .u64 (k : Int)) ∧ w'.cell? ⟨rg, 0, none⟩ = some (.pointer (some ⟨hb, 0, none⟩)) ∧ w'.cell? ⟨rg, 1, none⟩ = some (.int .i64 (b : Int)))
    (first | exact ⟨c0, c3, cr, cq⟩ | exact ⟨a0, a3, ar, aq⟩ | exact ⟨k0, k3, kr, kq⟩ | exact ⟨j0, j3, jr, jq⟩ | go_keep)
    (first
      | (go_at_call 68; refine (vl.out _).mono ?_; rintro e w1 ⟨rfl, s1⟩; obtain ⟨a0, a1, a2, a3, a4, a5, a6⟩ := s1.op.c; have ar := s1.r0; have aq := s1.r1)
      | (go_at_call 64; refine (ld.out _ s1).mono ?_; rintro e w2 ⟨rfl, s2⟩; obtain ⟨k0, k1, k2, k3, k4, k5, k6⟩ := s2.op.c; have kr := s2.r0; have kq := s2.r1; obtain ⟨f1, f2, f3, f4, f5, f6⟩ := s2.op.f; have q3 := s2.set4 x; obtain ⟨j0, j1, j2, j3, j4, j5, j6⟩ := q3.op.c; have jr := q3.r0; have jq := q3.r1))
  clear k0 k1 k2 k3 k4 k5 k6 f1 f2 f3 f4 f5 f6 j0 j1 j2 j3 j4 j5 j6 kr kq jr jq
  generalize w2.setCell { block := ob, off := 4 } (Value.int IntKind.u64 x) = w3 at q3 ⊢
  have q3' := Lib.hid q3
  obtain ⟨k0, k1, k2, k3, k4, k5, k6⟩ := q3.op.c
  obtain ⟨f1, f2, f3, f4, f5, f6⟩ := q3.op.f
  clear q3 s2 c0
  go_wp2
  go_end0
  exact ⟨rfl, q3'.out.set1 _⟩

set_option maxHeartbeats 4000000 in
theorem lookTurn_yes (k : Nat) (h : St w0 w ob rg hb rb b c nx 0 (k : Int) v 0 0 L t) (hk : k < 4611686018427387904) (t2 : t + 1 < 4611686018427387000) (hx : (L.getD (turnAt b c k) 0 == (waitAt c k : Int) + 1) = true) :
    Calls Try.prog 96 #[.pointer (some ⟨ob, 0, none⟩)] w fun e w' => e = .returned (.tuple #[]) ∧ St w0 w' ob rg hb rb b c nx 1 (k : Int) v 0 0 L (t + 1) := by
  have ha := Lib.hid (has_any k (h.set2 4) hk t2)
  rw [hx] at ha
  clear hx
  obtain ⟨c0, c1, c2, c3, c4, c5, c6⟩ := h.op.c
  obtain ⟨f1, f2, f3, f4, f5, f6⟩ := h.op.f
  clear h hk
  go_enter Try.func96, Try.ntmps96
  go_wp2_with (go_at_call 100; refine (ha.out).mono ?_; rintro e w2 ⟨rfl, s2⟩; clear c0 c1 c2 c3 c4 c5 c6 f1 f2 f3 f4 f5 f6; obtain ⟨k0, k1, k2, k3, k4, k5, k6⟩ := s2.op.c; obtain ⟨f1, f2, f3, f4, f5, f6⟩ := s2.op.f)
  go_end0
  exact ⟨rfl, s2.set2 1⟩

set_option maxHeartbeats 4000000 in
theorem lookTurn_no (k : Nat) (h : St w0 w ob rg hb rb b c nx 0 (k : Int) v 0 0 L t) (hk : k < 4611686018427387904) (t2 : t + 1 < 4611686018427387000) (hx : (L.getD (turnAt b c k) 0 == (waitAt c k : Int) + 1) = false) :
    Calls Try.prog 96 #[.pointer (some ⟨ob, 0, none⟩)] w fun e w' => e = .returned (.tuple #[]) ∧ St w0 w' ob rg hb rb b c nx 4 (k : Int) v 0 0 L (t + 1) := by
  have ha := Lib.hid (has_any k (h.set2 4) hk t2)
  rw [hx] at ha
  clear hx
  obtain ⟨c0, c1, c2, c3, c4, c5, c6⟩ := h.op.c
  obtain ⟨f1, f2, f3, f4, f5, f6⟩ := h.op.f
  clear h hk
  go_enter Try.func96, Try.ntmps96
  go_wp2_with (go_at_call 100; refine (ha.out).mono ?_; rintro e w2 ⟨rfl, s2⟩; clear c0 c1 c2 c3 c4 c5 c6 f1 f2 f3 f4 f5 f6; obtain ⟨k0, k1, k2, k3, k4, k5, k6⟩ := s2.op.c; obtain ⟨f1, f2, f3, f4, f5, f6⟩ := s2.op.f)
  go_end0
  exact ⟨rfl, s2⟩

set_option maxHeartbeats 4000000 in
theorem drainHead_end (h : St w0 w ob rg hb rb b c nx 0 at_ v 0 0 L t) (h0 : 0 ≤ L.getD (b + 1) 0) (h1 : L.getD (b + 1) 0 < 4611686018427387904) (t2 : t + 1 < 4611686018427387000) (hx : (v == L.getD (b + 1) 0 + 9223372036854775808) = true) :
    Calls Try.prog 95 #[.pointer (some ⟨ob, 0, none⟩)] w fun e w' => e = .returned (.tuple #[]) ∧ St w0 w' ob rg hb rb b c (mv 93 ob) 5 (L.getD (b + 1) 0) v 0 0 L (t + 1) := by
  have ha := Lib.hid (takeHead_any h t2)
  clear h
  generalize hxx : L.getD (b + 1) 0 = x at *
  clear hxx
  have e1 : IntKind.u64.wrap (x + 9223372036854775808) = x + 9223372036854775808 := by rw [IntKind.wrap_u64]; omega
  clear h0 h1
  go_enter Try.func95, Try.ntmps95
  go_wp2_with (go_at_call 82; refine (ha.out).mono ?_; rintro e w2 ⟨rfl, s2⟩; have s2' := Lib.hid s2; obtain ⟨k0, k1, k2, k3, k4, k5, k6⟩ := s2.op.c; obtain ⟨f1, f2, f3, f4, f5, f6⟩ := s2.op.f; clear s2)
  go_quiet (fail)
  have q2 := (s2'.out.drewN 1)
  go_wp2
  go_end0
  exact ⟨rfl, (s2'.out.drewN _).set2 5⟩

set_option maxHeartbeats 4000000 in
theorem drainHead_on (h : St w0 w ob rg hb rb b c nx 0 at_ v 0 0 L t) (h0 : 0 ≤ L.getD (b + 1) 0) (h1 : L.getD (b + 1) 0 < 4611686018427387904) (t2 : t + 1 < 4611686018427387000) (hx : (v == L.getD (b + 1) 0 + 9223372036854775808) = false) :
    Calls Try.prog 95 #[.pointer (some ⟨ob, 0, none⟩)] w fun e w' => e = .returned (.tuple #[]) ∧ St w0 w' ob rg hb rb b c (mv 93 ob) 0 (L.getD (b + 1) 0) v 0 0 L (t + 1) := by
  have ha := Lib.hid (takeHead_any h t2)
  clear h
  generalize hxx : L.getD (b + 1) 0 = x at *
  clear hxx
  have e1 : IntKind.u64.wrap (x + 9223372036854775808) = x + 9223372036854775808 := by rw [IntKind.wrap_u64]; omega
  clear h0 h1
  go_enter Try.func95, Try.ntmps95
  go_wp2_with (go_at_call 82; refine (ha.out).mono ?_; rintro e w2 ⟨rfl, s2⟩; have s2' := Lib.hid s2; obtain ⟨k0, k1, k2, k3, k4, k5, k6⟩ := s2.op.c; obtain ⟨f1, f2, f3, f4, f5, f6⟩ := s2.op.f; clear s2)
  go_quiet (fail)
  have q2 := (s2'.out.drewN 1)
  go_wp2
  go_end0
  exact ⟨rfl, s2'.out.drewN _⟩

set_option maxHeartbeats 4000000 in
theorem takeOn_any (k : Nat) (h : St w0 w ob rg hb rb b c nx 0 (k : Int) v 0 0 L t) (hk : k < 4611686018427387904) (t2 : t + 1 < 4611686018427387000)  :
    Calls Try.prog 105 #[.pointer (some ⟨ob, 0, none⟩)] w fun e w' => e = .returned (.tuple #[]) ∧ St w0 w' ob rg hb rb b c nx 1 (k : Int) v v 0 (L.set (b + 1) ((k : Int) + 1)) (t + 1) := by
  have hmf : ∀ (fn : Fn) (first cap : Array Value) (w : World), (Instr.makeFunc fn first cap).run Try.prog w = .ok (.func fn first cap) w := fun _ _ _ _ => rfl
  have sv := Lib.hid (fun n => (h.drewN n).store 1 (b + 1) ((k : Int) + 1) (by omega) (by have := h.len; have := h.pc; omega) (by omega) (by omega) t2)
  unfold spanV at sv
  have h' := Lib.hid h
  obtain ⟨c0, c1, c2, c3, c4, c5, c6⟩ := h.op.c
  have cr := h.r0
  have cq := h.r1
  have e1 : IntKind.u64.wrap ((k : Int) + 1) = (k : Int) + 1 := by rw [IntKind.wrap_u64]; omega
  clear h hk
  generalize b + 1 = b1 at *
  go_enter Try.func105, Try.ntmps105
  go_wp2
  go_region_held3 (fun w' => w'.cell? ⟨ob, 0, none⟩ = some (.pointer (some ⟨rg, 0, none⟩)) ∧ w'.cell? ⟨ob, 3, none⟩ = some (.int .u64 (k : Int)) ∧ w'.cell? ⟨rg, 0, none⟩ = some (.pointer (some ⟨hb, 0, none⟩)) ∧ w'.cell? ⟨rg, 1, none⟩ = some (.int .i64 (b : Int)))
    (first | exact ⟨c0, c3, cr, cq⟩ | exact ⟨k0, k3, kr, kq⟩ | go_keep)
    (first
      | (go_at_call 39; refine (sv.out _).mono ?_; rintro e w2 ⟨rfl, s2⟩; obtain ⟨k0, k1, k2, k3, k4, k5, k6⟩ := s2.op.c; have kr := s2.r0; have kq := s2.r1; obtain ⟨f1, f2, f3, f4, f5, f6⟩ := s2.op.f))
  go_wp2
  go_end0
  exact ⟨rfl, (s2.set2 1).set5 _⟩

end
end Go.Proofs.Ytmkcmncbiancgaa
