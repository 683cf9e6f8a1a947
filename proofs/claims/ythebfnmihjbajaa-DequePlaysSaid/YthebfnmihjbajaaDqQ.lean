/- What each of an operation's methods does. -/
import Derived.Test.YthebfnmihjbajaaDqP
import Derived.Laws.EntriesVeiled
import Derived.BigQuiet
import Derived.Deep.QuietTactic
import Derived.Deep.RegionHeld3
namespace Go.Proofs.Ythebfnmihjbajaa.Dq
open Go.RowKit

section
variable {w0 w : World} {ob dq hb rb b c : Nat} {nx : Value} {out tt bb v val : Int} {L : List Int} {t : Int}

set_option maxHeartbeats 4000000 in
theorem pushBottom_any (h : St w0 w ob dq hb rb b c nx 0 tt bb v 0 L t) (t2 : t + 1 < 4611686018427387000)  :
    Calls Try.prog 39 #[.pointer (some ⟨ob, 0, none⟩)] w fun e w' => e = .returned (.tuple #[]) ∧ St w0 w' ob dq hb rb b c (mv 51 ob) 0 tt (L.getD (b + 1) 0) v 0 L (t + 1) := by
  have hmf : ∀ (fn : Fn) (first cap : Array Value) (w : World), (Instr.makeFunc fn first cap).run Try.prog w = .ok (.func fn first cap) w := fun _ _ _ _ => rfl
  have ld := Lib.hid (h.load 1 (b + 1) (by omega) (by have := h.len; omega) (by omega) (by omega) t2)
  unfold spanV at ld
  have h' := Lib.hid h
  obtain ⟨c0, c1, c2, c3, c4, c5, c6⟩ := h.op.c
  have g0 := h.deq.c0
  have g1 := h.deq.c1
  clear h
  generalize hxx : L.getD (b + 1) 0 = x at *
  clear hxx
  go_enter Try.func39, Try.ntmps39
  go_wp2_with (go_at_call 50; refine (ld.out).mono ?_; rintro e w2 ⟨rfl, s2⟩; clear c0 c1 c2 c3 c4 c5 c6; obtain ⟨k0, k1, k2, k3, k4, k5, k6⟩ := s2.op.c; have l0 := s2.deq.c0; have l1 := s2.deq.c1; obtain ⟨f1, f2, f3, f4, f5, f6⟩ := s2.op.f; have q3' := Lib.hid (s2.set4 x))
  go_end0
  exact ⟨rfl, q3'.out.set1 _⟩

set_option maxHeartbeats 4000000 in
theorem popBottom_any (h : St w0 w ob dq hb rb b c nx 0 tt bb v 0 L t) (t2 : t + 1 < 4611686018427387000)  :
    Calls Try.prog 40 #[.pointer (some ⟨ob, 0, none⟩)] w fun e w' => e = .returned (.tuple #[]) ∧ St w0 w' ob dq hb rb b c (mv 52 ob) 0 tt (L.getD (b + 1) 0) v 0 L (t + 1) := by
  have hmf : ∀ (fn : Fn) (first cap : Array Value) (w : World), (Instr.makeFunc fn first cap).run Try.prog w = .ok (.func fn first cap) w := fun _ _ _ _ => rfl
  have ld := Lib.hid (h.load 1 (b + 1) (by omega) (by have := h.len; omega) (by omega) (by omega) t2)
  unfold spanV at ld
  have h' := Lib.hid h
  obtain ⟨c0, c1, c2, c3, c4, c5, c6⟩ := h.op.c
  have g0 := h.deq.c0
  have g1 := h.deq.c1
  clear h
  generalize hxx : L.getD (b + 1) 0 = x at *
  clear hxx
  go_enter Try.func40, Try.ntmps40
  go_wp2_with (go_at_call 50; refine (ld.out).mono ?_; rintro e w2 ⟨rfl, s2⟩; clear c0 c1 c2 c3 c4 c5 c6; obtain ⟨k0, k1, k2, k3, k4, k5, k6⟩ := s2.op.c; have l0 := s2.deq.c0; have l1 := s2.deq.c1; obtain ⟨f1, f2, f3, f4, f5, f6⟩ := s2.op.f; have q3' := Lib.hid (s2.set4 x))
  go_end0
  exact ⟨rfl, q3'.out.set1 _⟩

set_option maxHeartbeats 4000000 in
theorem stealTop_any (h : St w0 w ob dq hb rb b c nx 0 tt bb v 0 L t) (t2 : t + 1 < 4611686018427387000)  :
    Calls Try.prog 41 #[.pointer (some ⟨ob, 0, none⟩)] w fun e w' => e = .returned (.tuple #[]) ∧ St w0 w' ob dq hb rb b c (mv 53 ob) 0 (L.getD b 0) bb v 0 L (t + 1) := by
  have hmf : ∀ (fn : Fn) (first cap : Array Value) (w : World), (Instr.makeFunc fn first cap).run Try.prog w = .ok (.func fn first cap) w := fun _ _ _ _ => rfl
  have ld := Lib.hid (h.load 0 b (by omega) (by have := h.len; omega) (by omega) (by omega) t2)
  unfold spanV at ld
  have h' := Lib.hid h
  obtain ⟨c0, c1, c2, c3, c4, c5, c6⟩ := h.op.c
  have g0 := h.deq.c0
  have g1 := h.deq.c1
  clear h
  generalize hxx : L.getD b 0 = x at *
  clear hxx
  go_enter Try.func41, Try.ntmps41
  go_wp2_with (go_at_call 50; refine (ld.out).mono ?_; rintro e w2 ⟨rfl, s2⟩; clear c0 c1 c2 c3 c4 c5 c6; obtain ⟨k0, k1, k2, k3, k4, k5, k6⟩ := s2.op.c; have l0 := s2.deq.c0; have l1 := s2.deq.c1; obtain ⟨f1, f2, f3, f4, f5, f6⟩ := s2.op.f; have q3' := Lib.hid (s2.set3 x))
  go_end0
  exact ⟨rfl, q3'.out.set1 _⟩

set_option maxHeartbeats 4000000 in
theorem pushTop_full (h : St w0 w ob dq hb rb b c nx 0 tt bb v 0 L t) (t2 : t + 1 < 4611686018427387000) (hx : (c : Int) ≤ dif bb (L.getD b 0)) :
    Calls Try.prog 51 #[.pointer (some ⟨ob, 0, none⟩)] w fun e w' => e = .returned (.tuple #[]) ∧ St w0 w' ob dq hb rb b c nx 2 (L.getD b 0) bb v 0 L (t + 1) := by
  have hmf : ∀ (fn : Fn) (first cap : Array Value) (w : World), (Instr.makeFunc fn first cap).run Try.prog w = .ok (.func fn first cap) w := fun _ _ _ _ => rfl
  have ld := Lib.hid (h.load 0 b (by omega) (by have := h.len; omega) (by omega) (by omega) t2)
  unfold spanV at ld
  have h' := Lib.hid h
  obtain ⟨c0, c1, c2, c3, c4, c5, c6⟩ := h.op.c
  have g0 := h.deq.c0
  have g1 := h.deq.c1
  unfold dif at hx
  have uc' := h.uc
  have ec : IntKind.u64.wrap (c : Int) = (c : Int) := by rw [IntKind.wrap_u64]; omega
  clear uc' h
  generalize hxx : L.getD b 0 = x at *
  clear hxx
  go_enter Try.func51, Try.ntmps51
  go_wp2_with (go_at_call 50; refine (ld.out).mono ?_; rintro e w2 ⟨rfl, s2⟩; clear c0 c1 c2 c3 c4 c5 c6; obtain ⟨k0, k1, k2, k3, k4, k5, k6⟩ := s2.op.c; have l0 := s2.deq.c0; have l1 := s2.deq.c1; obtain ⟨f1, f2, f3, f4, f5, f6⟩ := s2.op.f; have q3' := Lib.hid (s2.set3 x))
  clear k0 k1 k2 k3 k4 k5 k6 f1 f2 f3 f4 f5 f6
  generalize w2.setCell { block := ob, off := 3 } (Value.int IntKind.u64 x) = w3 at q3' ⊢
  clear s2
  obtain ⟨k0, k1, k2, k3, k4, k5, k6⟩ := q3'.out.op.c
  have d2 := q3'.out.deq.c2
  go_quiet (fail)
  have q4' := Lib.hid (q3'.out.drewN nq)
  clear k0 k1 k2 k3 k4 k5 k6 d2 q3'
  generalize w3.drewN nq = w4 at q4' ⊢
  obtain ⟨k0, k1, k2, k3, k4, k5, k6⟩ := q4'.out.op.c
  obtain ⟨f1, f2, f3, f4, f5, f6⟩ := q4'.out.op.f
  go_wp2
  refine bodyPost_ret (results_none rfl _ _ _) rfl ?_
  exact ⟨rfl, q4'.out.set2 2⟩

set_option maxHeartbeats 4000000 in
theorem pushTop_on (h : St w0 w ob dq hb rb b c nx 0 tt bb v 0 L t) (t2 : t + 1 < 4611686018427387000) (hx : ¬ (c : Int) ≤ dif bb (L.getD b 0)) :
    Calls Try.prog 51 #[.pointer (some ⟨ob, 0, none⟩)] w fun e w' => e = .returned (.tuple #[]) ∧ St w0 w' ob dq hb rb b c (mv 55 ob) 0 (L.getD b 0) bb v 0 L (t + 1) := by
  have hmf : ∀ (fn : Fn) (first cap : Array Value) (w : World), (Instr.makeFunc fn first cap).run Try.prog w = .ok (.func fn first cap) w := fun _ _ _ _ => rfl
  have ld := Lib.hid (h.load 0 b (by omega) (by have := h.len; omega) (by omega) (by omega) t2)
  unfold spanV at ld
  have h' := Lib.hid h
  obtain ⟨c0, c1, c2, c3, c4, c5, c6⟩ := h.op.c
  have g0 := h.deq.c0
  have g1 := h.deq.c1
  unfold dif at hx
  have uc' := h.uc
  have ec : IntKind.u64.wrap (c : Int) = (c : Int) := by rw [IntKind.wrap_u64]; omega
  clear uc' h
  generalize hxx : L.getD b 0 = x at *
  clear hxx
  go_enter Try.func51, Try.ntmps51
  go_wp2_with (go_at_call 50; refine (ld.out).mono ?_; rintro e w2 ⟨rfl, s2⟩; clear c0 c1 c2 c3 c4 c5 c6; obtain ⟨k0, k1, k2, k3, k4, k5, k6⟩ := s2.op.c; have l0 := s2.deq.c0; have l1 := s2.deq.c1; obtain ⟨f1, f2, f3, f4, f5, f6⟩ := s2.op.f; have q3' := Lib.hid (s2.set3 x))
  clear k0 k1 k2 k3 k4 k5 k6 f1 f2 f3 f4 f5 f6
  generalize w2.setCell { block := ob, off := 3 } (Value.int IntKind.u64 x) = w3 at q3' ⊢
  clear s2
  obtain ⟨k0, k1, k2, k3, k4, k5, k6⟩ := q3'.out.op.c
  have d2 := q3'.out.deq.c2
  go_quiet (fail)
  have q4' := Lib.hid (q3'.out.drewN nq)
  clear k0 k1 k2 k3 k4 k5 k6 d2 q3'
  generalize w3.drewN nq = w4 at q4' ⊢
  obtain ⟨k0, k1, k2, k3, k4, k5, k6⟩ := q4'.out.op.c
  obtain ⟨f1, f2, f3, f4, f5, f6⟩ := q4'.out.op.f
  go_wp2
  go_end0
  exact ⟨rfl, q4'.out.set1 _⟩

set_option maxHeartbeats 4000000 in
theorem pushSlot_any (h : St w0 w ob dq hb rb b c nx 0 tt bb v 0 L t) (t2 : t + 1 < 4611686018427387000) (hx : In64 bb) :
    Calls Try.prog 55 #[.pointer (some ⟨ob, 0, none⟩)] w fun e w' => e = .returned (.tuple #[]) ∧ St w0 w' ob dq hb rb b c (mv 59 ob) 0 tt bb v 0 (L.set (slotAt b c bb) v) (t + 1) := by
  have hmf : ∀ (fn : Fn) (first cap : Array Value) (w : World), (Instr.makeFunc fn first cap).run Try.prog w = .ok (.func fn first cap) w := fun _ _ _ _ => rfl
  have sl := Lib.hid (fun n => (h.drewN n).slot bb hx)
  have sv := Lib.hid (fun n => (h.drewN n).store (slotIn c bb : Int) (slotAt b c bb) v (slot_cell b c bb) (h.slot_lt bb) (by omega) (by have := slotIn_lt c bb h.pc h.uc; omega) t2)
  have h' := Lib.hid h
  obtain ⟨c0, c1, c2, c3, c4, c5, c6⟩ := h.op.c
  have g0 := h.deq.c0
  have g1 := h.deq.c1
  clear h hx
  generalize slotIn c bb = si at *
  go_enter Try.func55, Try.ntmps55
  go_wp2
  go_region_held3 (fun w' => w'.cell? ⟨ob, 0, none⟩ = some (.pointer (some ⟨dq, 0, none⟩)) ∧ w'.cell? ⟨ob, 4, none⟩ = some (.int .u64 bb) ∧ w'.cell? ⟨ob, 5, none⟩ = some (.int .u64 v) ∧ w'.cell? ⟨dq, 0, none⟩ = some (.pointer (some ⟨hb, 0, none⟩)) ∧ w'.cell? ⟨dq, 1, none⟩ = some (.int .i64 (b : Int)))
    (first | exact ⟨c0, c4, c5, g0, g1⟩ | exact ⟨k0, k4, k5, l0, l1⟩ | go_keep)
    (first
      | (go_at_call 58; refine (sl.out _).mono ?_; rintro e w1 ⟨rfl, rfl⟩)
      | (go_at_call 32; refine (sv.out _).mono ?_; rintro e w2 ⟨rfl, s2⟩; obtain ⟨k0, k1, k2, k3, k4, k5, k6⟩ := s2.op.c; have l0 := s2.deq.c0; have l1 := s2.deq.c1; obtain ⟨f1, f2, f3, f4, f5, f6⟩ := s2.op.f))
  go_wp2
  go_end0
  exact ⟨rfl, s2.set1 _⟩

set_option maxHeartbeats 4000000 in
theorem pushOn_any (h : St w0 w ob dq hb rb b c nx 0 tt bb v 0 L t) (t2 : t + 1 < 4611686018427387000)  :
    Calls Try.prog 59 #[.pointer (some ⟨ob, 0, none⟩)] w fun e w' => e = .returned (.tuple #[]) ∧ St w0 w' ob dq hb rb b c nx 1 tt bb v 0 (L.set (b + 1) (up bb)) (t + 1) := by
  have hmf : ∀ (fn : Fn) (first cap : Array Value) (w : World), (Instr.makeFunc fn first cap).run Try.prog w = .ok (.func fn first cap) w := fun _ _ _ _ => rfl
  have sv := Lib.hid (fun n => (h.drewN n).store 1 (b + 1) (up bb) (by omega) (by have := h.len; omega) (by omega) (by omega) t2)
  have h' := Lib.hid h
  obtain ⟨c0, c1, c2, c3, c4, c5, c6⟩ := h.op.c
  have g0 := h.deq.c0
  have g1 := h.deq.c1
  unfold up at sv ⊢
  clear h
  go_enter Try.func59, Try.ntmps59
  go_wp2
  go_region_held3 (fun w' => w'.cell? ⟨ob, 0, none⟩ = some (.pointer (some ⟨dq, 0, none⟩)) ∧ w'.cell? ⟨ob, 4, none⟩ = some (.int .u64 bb) ∧ w'.cell? ⟨dq, 0, none⟩ = some (.pointer (some ⟨hb, 0, none⟩)) ∧ w'.cell? ⟨dq, 1, none⟩ = some (.int .i64 (b : Int)))
    (first | exact ⟨c0, c4, g0, g1⟩ | exact ⟨k0, k4, l0, l1⟩ | go_keep)
    (first
      | (go_at_call 32; refine (sv.out _).mono ?_; rintro e w2 ⟨rfl, s2⟩; obtain ⟨k0, k1, k2, k3, k4, k5, k6⟩ := s2.op.c; have l0 := s2.deq.c0; have l1 := s2.deq.c1; obtain ⟨f1, f2, f3, f4, f5, f6⟩ := s2.op.f))
  go_wp2
  go_end0
  exact ⟨rfl, s2.set2 1⟩

set_option maxHeartbeats 4000000 in
theorem popClaim_any (h : St w0 w ob dq hb rb b c nx 0 tt bb v 0 L t) (t2 : t + 1 < 4611686018427387000)  :
    Calls Try.prog 52 #[.pointer (some ⟨ob, 0, none⟩)] w fun e w' => e = .returned (.tuple #[]) ∧ St w0 w' ob dq hb rb b c (mv 56 ob) 0 tt bb v 0 (L.set (b + 1) (dn bb)) (t + 1) := by
  have hmf : ∀ (fn : Fn) (first cap : Array Value) (w : World), (Instr.makeFunc fn first cap).run Try.prog w = .ok (.func fn first cap) w := fun _ _ _ _ => rfl
  have sv := Lib.hid (fun n => (h.drewN n).store 1 (b + 1) (dn bb) (by omega) (by have := h.len; omega) (by omega) (by omega) t2)
  have h' := Lib.hid h
  obtain ⟨c0, c1, c2, c3, c4, c5, c6⟩ := h.op.c
  have g0 := h.deq.c0
  have g1 := h.deq.c1
  unfold dn at sv ⊢
  clear h
  go_enter Try.func52, Try.ntmps52
  go_wp2
  go_region_held3 (fun w' => w'.cell? ⟨ob, 0, none⟩ = some (.pointer (some ⟨dq, 0, none⟩)) ∧ w'.cell? ⟨ob, 4, none⟩ = some (.int .u64 bb) ∧ w'.cell? ⟨dq, 0, none⟩ = some (.pointer (some ⟨hb, 0, none⟩)) ∧ w'.cell? ⟨dq, 1, none⟩ = some (.int .i64 (b : Int)))
    (first | exact ⟨c0, c4, g0, g1⟩ | exact ⟨k0, k4, l0, l1⟩ | go_keep)
    (first
      | (go_at_call 32; refine (sv.out _).mono ?_; rintro e w2 ⟨rfl, s2⟩; obtain ⟨k0, k1, k2, k3, k4, k5, k6⟩ := s2.op.c; have l0 := s2.deq.c0; have l1 := s2.deq.c1; obtain ⟨f1, f2, f3, f4, f5, f6⟩ := s2.op.f))
  go_wp2
  go_end0
  exact ⟨rfl, s2.set1 _⟩

set_option maxHeartbeats 4000000 in
theorem popNone_any (h : St w0 w ob dq hb rb b c nx 0 tt bb v 0 L t) (t2 : t + 1 < 4611686018427387000)  :
    Calls Try.prog 60 #[.pointer (some ⟨ob, 0, none⟩)] w fun e w' => e = .returned (.tuple #[]) ∧ St w0 w' ob dq hb rb b c nx 4 tt bb v 0 (L.set (b + 1) bb) (t + 1) := by
  have hmf : ∀ (fn : Fn) (first cap : Array Value) (w : World), (Instr.makeFunc fn first cap).run Try.prog w = .ok (.func fn first cap) w := fun _ _ _ _ => rfl
  have sv := Lib.hid (fun n => (h.drewN n).store 1 (b + 1) bb (by omega) (by have := h.len; omega) (by omega) (by omega) t2)
  have h' := Lib.hid h
  obtain ⟨c0, c1, c2, c3, c4, c5, c6⟩ := h.op.c
  have g0 := h.deq.c0
  have g1 := h.deq.c1
  clear h
  go_enter Try.func60, Try.ntmps60
  go_wp2
  go_region_held3 (fun w' => w'.cell? ⟨ob, 0, none⟩ = some (.pointer (some ⟨dq, 0, none⟩)) ∧ w'.cell? ⟨ob, 4, none⟩ = some (.int .u64 bb) ∧ w'.cell? ⟨dq, 0, none⟩ = some (.pointer (some ⟨hb, 0, none⟩)) ∧ w'.cell? ⟨dq, 1, none⟩ = some (.int .i64 (b : Int)))
    (first | exact ⟨c0, c4, g0, g1⟩ | exact ⟨k0, k4, l0, l1⟩ | go_keep)
    (first
      | (go_at_call 32; refine (sv.out _).mono ?_; rintro e w2 ⟨rfl, s2⟩; obtain ⟨k0, k1, k2, k3, k4, k5, k6⟩ := s2.op.c; have l0 := s2.deq.c0; have l1 := s2.deq.c1; obtain ⟨f1, f2, f3, f4, f5, f6⟩ := s2.op.f))
  go_wp2
  go_end0
  exact ⟨rfl, s2.set2 4⟩

theorem took_any {L : List Int} (h : St w0 w ob dq hb rb b c nx 0 tt bb v 0 L t) (x : Int) :
    Calls Try.prog 64 #[.pointer (some ⟨ob, 0, none⟩), .int .u64 x] w fun e w' => e = .returned (.tuple #[]) ∧ St w0 w' ob dq hb rb b c nx 1 tt bb v x L t := by
  have h' := Lib.hid h
  obtain ⟨c0, c1, c2, c3, c4, c5, c6⟩ := h.op.c
  obtain ⟨f1, f2, f3, f4, f5, f6⟩ := h.op.f
  clear h
  go_enter Try.func64, Try.ntmps64
  go_wp2
  go_end0
  exact ⟨rfl, (h'.out.set2 1).set6 x⟩

set_option maxHeartbeats 4000000 in
theorem popWon_any (h : St w0 w ob dq hb rb b c nx 0 tt bb v 0 L t) (t2 : t + 1 < 4611686018427387000)  :
    Calls Try.prog 67 #[.pointer (some ⟨ob, 0, none⟩)] w fun e w' => e = .returned (.tuple #[]) ∧ St w0 w' ob dq hb rb b c nx 1 tt bb v v (L.set (b + 1) bb) (t + 1) := by
  have hmf : ∀ (fn : Fn) (first cap : Array Value) (w : World), (Instr.makeFunc fn first cap).run Try.prog w = .ok (.func fn first cap) w := fun _ _ _ _ => rfl
  have sv := Lib.hid (fun n => (h.drewN n).store 1 (b + 1) bb (by omega) (by have := h.len; omega) (by omega) (by omega) t2)
  have tk := Lib.hid (fun (w' : World) (L' : List Int) (t' : Int) (x : Int) (hs : St w0 w' ob dq hb rb b c nx 0 tt bb v 0 L' t') => took_any hs x)
  have h' := Lib.hid h
  obtain ⟨c0, c1, c2, c3, c4, c5, c6⟩ := h.op.c
  have g0 := h.deq.c0
  have g1 := h.deq.c1
  clear h
  go_enter Try.func67, Try.ntmps67
  go_wp2
  go_region_held3 (fun w' => w'.cell? ⟨ob, 0, none⟩ = some (.pointer (some ⟨dq, 0, none⟩)) ∧ w'.cell? ⟨ob, 4, none⟩ = some (.int .u64 bb) ∧ w'.cell? ⟨dq, 0, none⟩ = some (.pointer (some ⟨hb, 0, none⟩)) ∧ w'.cell? ⟨dq, 1, none⟩ = some (.int .i64 (b : Int)))
    (first | exact ⟨c0, c4, g0, g1⟩ | exact ⟨k0, k4, l0, l1⟩ | go_keep)
    (first
      | (go_at_call 32; refine (sv.out _).mono ?_; rintro e w2 ⟨rfl, s2⟩; obtain ⟨k0, k1, k2, k3, k4, k5, k6⟩ := s2.op.c; have l0 := s2.deq.c0; have l1 := s2.deq.c1; obtain ⟨f1, f2, f3, f4, f5, f6⟩ := s2.op.f))
  go_wp2_with (go_at_call 64; refine (tk.out _ _ _ _ s2).mono ?_; rintro e w3 ⟨rfl, s3⟩)
  go_end0
  exact ⟨rfl, s3⟩

set_option maxHeartbeats 4000000 in
theorem popTop_none (h : St w0 w ob dq hb rb b c nx 0 tt bb v 0 L t) (t2 : t + 1 < 4611686018427387000) (hx : dn bb < L.getD b 0) :
    Calls Try.prog 56 #[.pointer (some ⟨ob, 0, none⟩)] w fun e w' => e = .returned (.tuple #[]) ∧ St w0 w' ob dq hb rb b c (mv 60 ob) 0 (L.getD b 0) bb v 0 L (t + 1) := by
  have hmf : ∀ (fn : Fn) (first cap : Array Value) (w : World), (Instr.makeFunc fn first cap).run Try.prog w = .ok (.func fn first cap) w := fun _ _ _ _ => rfl
  have ld := Lib.hid (h.load 0 b (by omega) (by have := h.len; omega) (by omega) (by omega) t2)
  unfold spanV at ld
  have h' := Lib.hid h
  obtain ⟨c0, c1, c2, c3, c4, c5, c6⟩ := h.op.c
  have g0 := h.deq.c0
  have g1 := h.deq.c1
  clear h
  generalize hxx : L.getD b 0 = x at *
  clear hxx
  unfold dn at hx
  go_enter Try.func56, Try.ntmps56
  go_wp2_with (go_at_call 50; refine (ld.out).mono ?_; rintro e w2 ⟨rfl, s2⟩; clear c0 c1 c2 c3 c4 c5 c6; obtain ⟨k0, k1, k2, k3, k4, k5, k6⟩ := s2.op.c; have l0 := s2.deq.c0; have l1 := s2.deq.c1; obtain ⟨f1, f2, f3, f4, f5, f6⟩ := s2.op.f; have q3' := Lib.hid (s2.set3 x))
  go_end0
  exact ⟨rfl, q3'.out.set1 _⟩

set_option maxHeartbeats 4000000 in
theorem popTop_slot (h : St w0 w ob dq hb rb b c nx 0 tt bb v 0 L t) (t2 : t + 1 < 4611686018427387000) (hx : L.getD b 0 < dn bb) :
    Calls Try.prog 56 #[.pointer (some ⟨ob, 0, none⟩)] w fun e w' => e = .returned (.tuple #[]) ∧ St w0 w' ob dq hb rb b c (mv 61 ob) 0 (L.getD b 0) bb v 0 L (t + 1) := by
  have hmf : ∀ (fn : Fn) (first cap : Array Value) (w : World), (Instr.makeFunc fn first cap).run Try.prog w = .ok (.func fn first cap) w := fun _ _ _ _ => rfl
  have ld := Lib.hid (h.load 0 b (by omega) (by have := h.len; omega) (by omega) (by omega) t2)
  unfold spanV at ld
  have h' := Lib.hid h
  obtain ⟨c0, c1, c2, c3, c4, c5, c6⟩ := h.op.c
  have g0 := h.deq.c0
  have g1 := h.deq.c1
  have hx2 : ¬ (dn bb < L.getD b 0) := by omega
  clear h
  generalize hxx : L.getD b 0 = x at *
  clear hxx
  unfold dn at hx hx2
  go_enter Try.func56, Try.ntmps56
  go_wp2_with (go_at_call 50; refine (ld.out).mono ?_; rintro e w2 ⟨rfl, s2⟩; clear c0 c1 c2 c3 c4 c5 c6; obtain ⟨k0, k1, k2, k3, k4, k5, k6⟩ := s2.op.c; have l0 := s2.deq.c0; have l1 := s2.deq.c1; obtain ⟨f1, f2, f3, f4, f5, f6⟩ := s2.op.f; have q3' := Lib.hid (s2.set3 x))
  go_end0
  exact ⟨rfl, q3'.out.set1 _⟩

set_option maxHeartbeats 4000000 in
theorem popTop_first (h : St w0 w ob dq hb rb b c nx 0 tt bb v 0 L t) (t2 : t + 1 < 4611686018427387000) (hx : L.getD b 0 = dn bb) :
    Calls Try.prog 56 #[.pointer (some ⟨ob, 0, none⟩)] w fun e w' => e = .returned (.tuple #[]) ∧ St w0 w' ob dq hb rb b c (mv 62 ob) 0 (L.getD b 0) bb v 0 L (t + 1) := by
  have hmf : ∀ (fn : Fn) (first cap : Array Value) (w : World), (Instr.makeFunc fn first cap).run Try.prog w = .ok (.func fn first cap) w := fun _ _ _ _ => rfl
  have ld := Lib.hid (h.load 0 b (by omega) (by have := h.len; omega) (by omega) (by omega) t2)
  unfold spanV at ld
  have h' := Lib.hid h
  obtain ⟨c0, c1, c2, c3, c4, c5, c6⟩ := h.op.c
  have g0 := h.deq.c0
  have g1 := h.deq.c1
  clear h
  rw [hx] at ld ⊢
  clear hx
  obtain ⟨x, hxx⟩ : ∃ x, dn bb = x := ⟨_, rfl⟩
  rw [hxx] at ld ⊢
  unfold dn at hxx
  go_enter Try.func56, Try.ntmps56
  go_wp2_with (go_at_call 50; refine (ld.out).mono ?_; rintro e w2 ⟨rfl, s2⟩; clear c0 c1 c2 c3 c4 c5 c6; obtain ⟨k0, k1, k2, k3, k4, k5, k6⟩ := s2.op.c; have l0 := s2.deq.c0; have l1 := s2.deq.c1; obtain ⟨f1, f2, f3, f4, f5, f6⟩ := s2.op.f; have q3' := Lib.hid (s2.set3 x))
  go_end0
  exact ⟨rfl, q3'.out.set1 _⟩

set_option maxHeartbeats 4000000 in
theorem popSlot_any (h : St w0 w ob dq hb rb b c nx 0 tt bb v 0 L t) (t2 : t + 1 < 4611686018427387000)  :
    Calls Try.prog 61 #[.pointer (some ⟨ob, 0, none⟩)] w fun e w' => e = .returned (.tuple #[]) ∧ St w0 w' ob dq hb rb b c nx 1 tt bb v (L.getD (slotAt b c (dn bb)) 0) L (t + 1) := by
  have hmf : ∀ (fn : Fn) (first cap : Array Value) (w : World), (Instr.makeFunc fn first cap).run Try.prog w = .ok (.func fn first cap) w := fun _ _ _ _ => rfl
  have sl := Lib.hid (fun n => (h.drewN n).slot (dn bb) (dn_in bb))
  have ld := Lib.hid (fun n => (h.drewN n).load (slotIn c (dn bb) : Int) (slotAt b c (dn bb)) (slot_cell b c (dn bb)) (h.slot_lt (dn bb)) (by omega) (by have := slotIn_lt c (dn bb) h.pc h.uc; omega) t2)
  unfold spanV at ld
  have tk := Lib.hid (fun (w' : World) (L' : List Int) (t' : Int) (x : Int) (hs : St w0 w' ob dq hb rb b c nx 0 tt bb v 0 L' t') => took_any hs x)
  have h' := Lib.hid h
  obtain ⟨c0, c1, c2, c3, c4, c5, c6⟩ := h.op.c
  have g0 := h.deq.c0
  have g1 := h.deq.c1
  clear h
  generalize hxx : L.getD (slotAt b c (dn bb)) 0 = x at *
  clear hxx
  generalize slotIn c (dn bb) = si at *
  unfold dn at sl
  go_enter Try.func61, Try.ntmps61
  go_wp2
  go_region_held3 (fun w' => w'.cell? ⟨ob, 0, none⟩ = some (.pointer (some ⟨dq, 0, none⟩)) ∧ w'.cell? ⟨ob, 4, none⟩ = some (.int .u64 bb) ∧ w'.cell? ⟨dq, 0, none⟩ = some (.pointer (some ⟨hb, 0, none⟩)) ∧ w'.cell? ⟨dq, 1, none⟩ = some (.int .i64 (b : Int)))
    (first | exact ⟨c0, c4, g0, g1⟩ | exact ⟨k0, k4, l0, l1⟩ | exact ⟨j0, j4, m0, m1⟩ | go_keep)
    (first
      | (go_at_call 58; refine (sl.out _).mono ?_; rintro e w1 ⟨rfl, rfl⟩)
      | (go_at_call 50; refine (ld.out _).mono ?_; rintro e w2 ⟨rfl, s2⟩; obtain ⟨k0, k1, k2, k3, k4, k5, k6⟩ := s2.op.c; have l0 := s2.deq.c0; have l1 := s2.deq.c1; obtain ⟨f1, f2, f3, f4, f5, f6⟩ := s2.op.f)
      | (go_at_call 64; refine (tk.out _ _ _ _ s2).mono ?_; rintro e w3 ⟨rfl, s3⟩; obtain ⟨j0, j1, j2, j3, j4, j5, j6⟩ := s3.op.c; have m0 := s3.deq.c0; have m1 := s3.deq.c1))
  go_wp2
  go_end0
  exact ⟨rfl, s3⟩

set_option maxHeartbeats 4000000 in
theorem popFirst_any (h : St w0 w ob dq hb rb b c nx 0 tt bb v 0 L t) (t2 : t + 1 < 4611686018427387000) (hx : In64 tt) :
    Calls Try.prog 62 #[.pointer (some ⟨ob, 0, none⟩)] w fun e w' => e = .returned (.tuple #[]) ∧ St w0 w' ob dq hb rb b c (mv 65 ob) 0 tt bb (L.getD (slotAt b c tt) 0) 0 L (t + 1) := by
  have hmf : ∀ (fn : Fn) (first cap : Array Value) (w : World), (Instr.makeFunc fn first cap).run Try.prog w = .ok (.func fn first cap) w := fun _ _ _ _ => rfl
  have sl := Lib.hid (fun n => (h.drewN n).slot tt hx)
  have ld := Lib.hid (fun n => (h.drewN n).load (slotIn c tt : Int) (slotAt b c tt) (slot_cell b c tt) (h.slot_lt tt) (by omega) (by have := slotIn_lt c tt h.pc h.uc; omega) t2)
  unfold spanV at ld
  have h' := Lib.hid h
  obtain ⟨c0, c1, c2, c3, c4, c5, c6⟩ := h.op.c
  have g0 := h.deq.c0
  have g1 := h.deq.c1
  clear h hx
  generalize hxx : L.getD (slotAt b c tt) 0 = x at *
  clear hxx
  generalize slotIn c tt = si at *
  go_enter Try.func62, Try.ntmps62
  go_wp2
  go_region_held3 (fun w' => w'.cell? ⟨ob, 0, none⟩ = some (.pointer (some ⟨dq, 0, none⟩)) ∧ w'.cell? ⟨ob, 3, none⟩ = some (.int .u64 tt) ∧ w'.cell? ⟨dq, 0, none⟩ = some (.pointer (some ⟨hb, 0, none⟩)) ∧ w'.cell? ⟨dq, 1, none⟩ = some (.int .i64 (b : Int)))
    (first | exact ⟨c0, c3, g0, g1⟩ | exact ⟨k0, k3, l0, l1⟩ | exact ⟨j0, j3, m0, m1⟩ | go_keep)
    (first
      | (go_at_call 58; refine (sl.out _).mono ?_; rintro e w1 ⟨rfl, rfl⟩)
      | (go_at_call 50; refine (ld.out _).mono ?_; rintro e w2 ⟨rfl, s2⟩; obtain ⟨k0, k1, k2, k3, k4, k5, k6⟩ := s2.op.c; have l0 := s2.deq.c0; have l1 := s2.deq.c1; obtain ⟨f1, f2, f3, f4, f5, f6⟩ := s2.op.f; have q3 := s2.set5 x; obtain ⟨j0, j1, j2, j3, j4, j5, j6⟩ := q3.op.c; have m0 := q3.deq.c0; have m1 := q3.deq.c1))
  clear k0 k1 k2 k3 k4 k5 k6 f1 f2 f3 f4 f5 f6 j0 j1 j2 j3 j4 j5 j6
  generalize w2.setCell { block := ob, off := 5 } (Value.int IntKind.u64 x) = w3 at q3 ⊢
  have q3' := Lib.hid q3
  obtain ⟨k0, k1, k2, k3, k4, k5, k6⟩ := q3.op.c; have l0 := q3.deq.c0; have l1 := q3.deq.c1
  obtain ⟨f1, f2, f3, f4, f5, f6⟩ := q3.op.f
  clear q3 s2 c0
  go_wp2
  go_end0
  exact ⟨rfl, q3'.out.set1 _⟩

set_option maxHeartbeats 4000000 in
theorem stealSlot_any (h : St w0 w ob dq hb rb b c nx 0 tt bb v 0 L t) (t2 : t + 1 < 4611686018427387000) (hx : In64 tt) :
    Calls Try.prog 57 #[.pointer (some ⟨ob, 0, none⟩)] w fun e w' => e = .returned (.tuple #[]) ∧ St w0 w' ob dq hb rb b c (mv 63 ob) 0 tt bb (L.getD (slotAt b c tt) 0) 0 L (t + 1) := by
  have hmf : ∀ (fn : Fn) (first cap : Array Value) (w : World), (Instr.makeFunc fn first cap).run Try.prog w = .ok (.func fn first cap) w := fun _ _ _ _ => rfl
  have sl := Lib.hid (fun n => (h.drewN n).slot tt hx)
  have ld := Lib.hid (fun n => (h.drewN n).load (slotIn c tt : Int) (slotAt b c tt) (slot_cell b c tt) (h.slot_lt tt) (by omega) (by have := slotIn_lt c tt h.pc h.uc; omega) t2)
  unfold spanV at ld
  have h' := Lib.hid h
  obtain ⟨c0, c1, c2, c3, c4, c5, c6⟩ := h.op.c
  have g0 := h.deq.c0
  have g1 := h.deq.c1
  clear h hx
  generalize hxx : L.getD (slotAt b c tt) 0 = x at *
  clear hxx
  generalize slotIn c tt = si at *
  go_enter Try.func57, Try.ntmps57
  go_wp2
  go_region_held3 (fun w' => w'.cell? ⟨ob, 0, none⟩ = some (.pointer (some ⟨dq, 0, none⟩)) ∧ w'.cell? ⟨ob, 3, none⟩ = some (.int .u64 tt) ∧ w'.cell? ⟨dq, 0, none⟩ = some (.pointer (some ⟨hb, 0, none⟩)) ∧ w'.cell? ⟨dq, 1, none⟩ = some (.int .i64 (b : Int)))
    (first | exact ⟨c0, c3, g0, g1⟩ | exact ⟨k0, k3, l0, l1⟩ | exact ⟨j0, j3, m0, m1⟩ | go_keep)
    (first
      | (go_at_call 58; refine (sl.out _).mono ?_; rintro e w1 ⟨rfl, rfl⟩)
      | (go_at_call 50; refine (ld.out _).mono ?_; rintro e w2 ⟨rfl, s2⟩; obtain ⟨k0, k1, k2, k3, k4, k5, k6⟩ := s2.op.c; have l0 := s2.deq.c0; have l1 := s2.deq.c1; obtain ⟨f1, f2, f3, f4, f5, f6⟩ := s2.op.f; have q3 := s2.set5 x; obtain ⟨j0, j1, j2, j3, j4, j5, j6⟩ := q3.op.c; have m0 := q3.deq.c0; have m1 := q3.deq.c1))
  clear k0 k1 k2 k3 k4 k5 k6 f1 f2 f3 f4 f5 f6 j0 j1 j2 j3 j4 j5 j6
  generalize w2.setCell { block := ob, off := 5 } (Value.int IntKind.u64 x) = w3 at q3 ⊢
  have q3' := Lib.hid q3
  obtain ⟨k0, k1, k2, k3, k4, k5, k6⟩ := q3.op.c; have l0 := q3.deq.c0; have l1 := q3.deq.c1
  obtain ⟨f1, f2, f3, f4, f5, f6⟩ := q3.op.f
  clear q3 s2 c0
  go_wp2
  go_end0
  exact ⟨rfl, q3'.out.set1 _⟩

set_option maxHeartbeats 4000000 in
theorem popRace_yes (h : St w0 w ob dq hb rb b c nx 0 tt bb v 0 L t) (t2 : t + 1 < 4611686018427387000) (hx : L.getD b 0 = tt) :
    Calls Try.prog 65 #[.pointer (some ⟨ob, 0, none⟩)] w fun e w' => e = .returned (.tuple #[]) ∧ St w0 w' ob dq hb rb b c (mv 67 ob) 0 tt bb v 0 (doAcc L (.swap b tt (up tt))).1 (t + 1) := by
  have hmf : ∀ (fn : Fn) (first cap : Array Value) (w : World), (Instr.makeFunc fn first cap).run Try.prog w = .ok (.func fn first cap) w := fun _ _ _ _ => rfl
  have sw := Lib.hid (fun n => (h.drewN n).swap 0 b tt (up tt) (by omega) (by have := h.len; omega) (by omega) (by omega) t2)
  unfold spanV at sw
  have h' := Lib.hid h
  obtain ⟨c0, c1, c2, c3, c4, c5, c6⟩ := h.op.c
  have g0 := h.deq.c0
  have g1 := h.deq.c1
  rw [decide_eq_true hx] at sw
  clear h hx
  generalize (doAcc L (.swap b tt (up tt))).1 = L' at *
  unfold up at sw
  go_enter Try.func65, Try.ntmps65
  go_wp2
  go_region_held3 (fun w' => w'.cell? ⟨ob, 0, none⟩ = some (.pointer (some ⟨dq, 0, none⟩)) ∧ w'.cell? ⟨ob, 3, none⟩ = some (.int .u64 tt) ∧ w'.cell? ⟨dq, 0, none⟩ = some (.pointer (some ⟨hb, 0, none⟩)) ∧ w'.cell? ⟨dq, 1, none⟩ = some (.int .i64 (b : Int)))
    (first | exact ⟨c0, c3, g0, g1⟩ | exact ⟨k0, k3, l0, l1⟩ | go_keep)
    (first
      | (go_at_call 66; refine (sw.out _).mono ?_; rintro e w2 ⟨rfl, s2⟩; obtain ⟨k0, k1, k2, k3, k4, k5, k6⟩ := s2.op.c; have l0 := s2.deq.c0; have l1 := s2.deq.c1; obtain ⟨f1, f2, f3, f4, f5, f6⟩ := s2.op.f))
  go_wp2
  go_end0
  exact ⟨rfl, s2.set1 _⟩

set_option maxHeartbeats 4000000 in
theorem popRace_no (h : St w0 w ob dq hb rb b c nx 0 tt bb v 0 L t) (t2 : t + 1 < 4611686018427387000) (hx : ¬ L.getD b 0 = tt) :
    Calls Try.prog 65 #[.pointer (some ⟨ob, 0, none⟩)] w fun e w' => e = .returned (.tuple #[]) ∧ St w0 w' ob dq hb rb b c (mv 60 ob) 0 tt bb v 0 (doAcc L (.swap b tt (up tt))).1 (t + 1) := by
  have hmf : ∀ (fn : Fn) (first cap : Array Value) (w : World), (Instr.makeFunc fn first cap).run Try.prog w = .ok (.func fn first cap) w := fun _ _ _ _ => rfl
  have sw := Lib.hid (fun n => (h.drewN n).swap 0 b tt (up tt) (by omega) (by have := h.len; omega) (by omega) (by omega) t2)
  unfold spanV at sw
  have h' := Lib.hid h
  obtain ⟨c0, c1, c2, c3, c4, c5, c6⟩ := h.op.c
  have g0 := h.deq.c0
  have g1 := h.deq.c1
  rw [decide_eq_false hx] at sw
  clear h hx
  generalize (doAcc L (.swap b tt (up tt))).1 = L' at *
  unfold up at sw
  go_enter Try.func65, Try.ntmps65
  go_wp2
  go_region_held3 (fun w' => w'.cell? ⟨ob, 0, none⟩ = some (.pointer (some ⟨dq, 0, none⟩)) ∧ w'.cell? ⟨ob, 3, none⟩ = some (.int .u64 tt) ∧ w'.cell? ⟨dq, 0, none⟩ = some (.pointer (some ⟨hb, 0, none⟩)) ∧ w'.cell? ⟨dq, 1, none⟩ = some (.int .i64 (b : Int)))
    (first | exact ⟨c0, c3, g0, g1⟩ | exact ⟨k0, k3, l0, l1⟩ | go_keep)
    (first
      | (go_at_call 66; refine (sw.out _).mono ?_; rintro e w2 ⟨rfl, s2⟩; obtain ⟨k0, k1, k2, k3, k4, k5, k6⟩ := s2.op.c; have l0 := s2.deq.c0; have l1 := s2.deq.c1; obtain ⟨f1, f2, f3, f4, f5, f6⟩ := s2.op.f))
  go_wp2
  go_end0
  exact ⟨rfl, s2.set1 _⟩

set_option maxHeartbeats 4000000 in
theorem stealSwap_yes (h : St w0 w ob dq hb rb b c nx 0 tt bb v 0 L t) (t2 : t + 1 < 4611686018427387000) (hx : L.getD b 0 = tt) :
    Calls Try.prog 63 #[.pointer (some ⟨ob, 0, none⟩)] w fun e w' => e = .returned (.tuple #[]) ∧ St w0 w' ob dq hb rb b c nx 1 tt bb v v (doAcc L (.swap b tt (up tt))).1 (t + 1) := by
  have hmf : ∀ (fn : Fn) (first cap : Array Value) (w : World), (Instr.makeFunc fn first cap).run Try.prog w = .ok (.func fn first cap) w := fun _ _ _ _ => rfl
  have sw := Lib.hid (fun n => (h.drewN n).swap 0 b tt (up tt) (by omega) (by have := h.len; omega) (by omega) (by omega) t2)
  unfold spanV at sw
  have tk := Lib.hid (fun (w' : World) (L' : List Int) (t' : Int) (x : Int) (hs : St w0 w' ob dq hb rb b c nx 0 tt bb v 0 L' t') => took_any hs x)
  have h' := Lib.hid h
  obtain ⟨c0, c1, c2, c3, c4, c5, c6⟩ := h.op.c
  have g0 := h.deq.c0
  have g1 := h.deq.c1
  rw [decide_eq_true hx] at sw
  clear h hx
  generalize (doAcc L (.swap b tt (up tt))).1 = L' at *
  unfold up at sw
  go_enter Try.func63, Try.ntmps63
  go_wp2
  go_region_held3 (fun w' => w'.cell? ⟨ob, 0, none⟩ = some (.pointer (some ⟨dq, 0, none⟩)) ∧ w'.cell? ⟨ob, 3, none⟩ = some (.int .u64 tt) ∧ w'.cell? ⟨dq, 0, none⟩ = some (.pointer (some ⟨hb, 0, none⟩)) ∧ w'.cell? ⟨dq, 1, none⟩ = some (.int .i64 (b : Int)))
    (first | exact ⟨c0, c3, g0, g1⟩ | exact ⟨k0, k3, l0, l1⟩ | go_keep)
    (first
      | (go_at_call 66; refine (sw.out _).mono ?_; rintro e w2 ⟨rfl, s2⟩; obtain ⟨k0, k1, k2, k3, k4, k5, k6⟩ := s2.op.c; have l0 := s2.deq.c0; have l1 := s2.deq.c1; obtain ⟨f1, f2, f3, f4, f5, f6⟩ := s2.op.f))
  go_wp2_with (go_at_call 64; refine (tk.out _ _ _ _ s2).mono ?_; rintro e w3 ⟨rfl, s3⟩)
  go_end0
  exact ⟨rfl, s3⟩

set_option maxHeartbeats 4000000 in
theorem stealSwap_no (h : St w0 w ob dq hb rb b c nx 0 tt bb v 0 L t) (t2 : t + 1 < 4611686018427387000) (hx : ¬ L.getD b 0 = tt) :
    Calls Try.prog 63 #[.pointer (some ⟨ob, 0, none⟩)] w fun e w' => e = .returned (.tuple #[]) ∧ St w0 w' ob dq hb rb b c nx 6 tt bb v 0 (doAcc L (.swap b tt (up tt))).1 (t + 1) := by
  have hmf : ∀ (fn : Fn) (first cap : Array Value) (w : World), (Instr.makeFunc fn first cap).run Try.prog w = .ok (.func fn first cap) w := fun _ _ _ _ => rfl
  have sw := Lib.hid (fun n => (h.drewN n).swap 0 b tt (up tt) (by omega) (by have := h.len; omega) (by omega) (by omega) t2)
  unfold spanV at sw
  have h' := Lib.hid h
  obtain ⟨c0, c1, c2, c3, c4, c5, c6⟩ := h.op.c
  have g0 := h.deq.c0
  have g1 := h.deq.c1
  rw [decide_eq_false hx] at sw
  clear h hx
  generalize (doAcc L (.swap b tt (up tt))).1 = L' at *
  unfold up at sw
  go_enter Try.func63, Try.ntmps63
  go_wp2
  go_region_held3 (fun w' => w'.cell? ⟨ob, 0, none⟩ = some (.pointer (some ⟨dq, 0, none⟩)) ∧ w'.cell? ⟨ob, 3, none⟩ = some (.int .u64 tt) ∧ w'.cell? ⟨dq, 0, none⟩ = some (.pointer (some ⟨hb, 0, none⟩)) ∧ w'.cell? ⟨dq, 1, none⟩ = some (.int .i64 (b : Int)))
    (first | exact ⟨c0, c3, g0, g1⟩ | exact ⟨k0, k3, l0, l1⟩ | go_keep)
    (first
      | (go_at_call 66; refine (sw.out _).mono ?_; rintro e w2 ⟨rfl, s2⟩; obtain ⟨k0, k1, k2, k3, k4, k5, k6⟩ := s2.op.c; have l0 := s2.deq.c0; have l1 := s2.deq.c1; obtain ⟨f1, f2, f3, f4, f5, f6⟩ := s2.op.f))
  go_wp2
  go_end0
  exact ⟨rfl, s2.set2 6⟩

set_option maxHeartbeats 4000000 in
theorem stealBottom_none (h : St w0 w ob dq hb rb b c nx 0 tt bb v 0 L t) (t2 : t + 1 < 4611686018427387000) (hx : L.getD (b + 1) 0 ≤ tt) :
    Calls Try.prog 53 #[.pointer (some ⟨ob, 0, none⟩)] w fun e w' => e = .returned (.tuple #[]) ∧ St w0 w' ob dq hb rb b c nx 4 tt (L.getD (b + 1) 0) v 0 L (t + 1) := by
  have hmf : ∀ (fn : Fn) (first cap : Array Value) (w : World), (Instr.makeFunc fn first cap).run Try.prog w = .ok (.func fn first cap) w := fun _ _ _ _ => rfl
  have ld := Lib.hid (h.load 1 (b + 1) (by omega) (by have := h.len; omega) (by omega) (by omega) t2)
  unfold spanV at ld
  have h' := Lib.hid h
  obtain ⟨c0, c1, c2, c3, c4, c5, c6⟩ := h.op.c
  have g0 := h.deq.c0
  have g1 := h.deq.c1
  clear h
  generalize hxx : L.getD (b + 1) 0 = x at *
  clear hxx
  go_enter Try.func53, Try.ntmps53
  go_wp2_with (go_at_call 50; refine (ld.out).mono ?_; rintro e w2 ⟨rfl, s2⟩; clear c0 c1 c2 c3 c4 c5 c6; obtain ⟨k0, k1, k2, k3, k4, k5, k6⟩ := s2.op.c; have l0 := s2.deq.c0; have l1 := s2.deq.c1; obtain ⟨f1, f2, f3, f4, f5, f6⟩ := s2.op.f; have q3' := Lib.hid (s2.set4 x))
  clear k0 k1 k2 k3 k4 k5 k6 f1 f2 f3 f4 f5 f6
  generalize w2.setCell { block := ob, off := 4 } (Value.int IntKind.u64 x) = w3 at q3' ⊢
  clear s2
  obtain ⟨k0, k1, k2, k3, k4, k5, k6⟩ := q3'.out.op.c
  go_quiet (fail)
  have q4' := Lib.hid (q3'.out.drewN nq)
  clear k0 k1 k2 k3 k4 k5 k6 q3'
  generalize w3.drewN nq = w4 at q4' ⊢
  obtain ⟨k0, k1, k2, k3, k4, k5, k6⟩ := q4'.out.op.c
  obtain ⟨f1, f2, f3, f4, f5, f6⟩ := q4'.out.op.f
  go_wp2
  refine bodyPost_ret (results_none rfl _ _ _) rfl ?_
  exact ⟨rfl, q4'.out.set2 4⟩

set_option maxHeartbeats 4000000 in
theorem stealBottom_on (h : St w0 w ob dq hb rb b c nx 0 tt bb v 0 L t) (t2 : t + 1 < 4611686018427387000) (hx : ¬ L.getD (b + 1) 0 ≤ tt) :
    Calls Try.prog 53 #[.pointer (some ⟨ob, 0, none⟩)] w fun e w' => e = .returned (.tuple #[]) ∧ St w0 w' ob dq hb rb b c (mv 57 ob) 0 tt (L.getD (b + 1) 0) v 0 L (t + 1) := by
  have hmf : ∀ (fn : Fn) (first cap : Array Value) (w : World), (Instr.makeFunc fn first cap).run Try.prog w = .ok (.func fn first cap) w := fun _ _ _ _ => rfl
  have ld := Lib.hid (h.load 1 (b + 1) (by omega) (by have := h.len; omega) (by omega) (by omega) t2)
  unfold spanV at ld
  have h' := Lib.hid h
  obtain ⟨c0, c1, c2, c3, c4, c5, c6⟩ := h.op.c
  have g0 := h.deq.c0
  have g1 := h.deq.c1
  clear h
  generalize hxx : L.getD (b + 1) 0 = x at *
  clear hxx
  go_enter Try.func53, Try.ntmps53
  go_wp2_with (go_at_call 50; refine (ld.out).mono ?_; rintro e w2 ⟨rfl, s2⟩; clear c0 c1 c2 c3 c4 c5 c6; obtain ⟨k0, k1, k2, k3, k4, k5, k6⟩ := s2.op.c; have l0 := s2.deq.c0; have l1 := s2.deq.c1; obtain ⟨f1, f2, f3, f4, f5, f6⟩ := s2.op.f; have q3' := Lib.hid (s2.set4 x))
  clear k0 k1 k2 k3 k4 k5 k6 f1 f2 f3 f4 f5 f6
  generalize w2.setCell { block := ob, off := 4 } (Value.int IntKind.u64 x) = w3 at q3' ⊢
  clear s2
  obtain ⟨k0, k1, k2, k3, k4, k5, k6⟩ := q3'.out.op.c
  go_quiet (fail)
  have q4' := Lib.hid (q3'.out.drewN nq)
  clear k0 k1 k2 k3 k4 k5 k6 q3'
  generalize w3.drewN nq = w4 at q4' ⊢
  obtain ⟨k0, k1, k2, k3, k4, k5, k6⟩ := q4'.out.op.c
  obtain ⟨f1, f2, f3, f4, f5, f6⟩ := q4'.out.op.f
  go_wp2
  go_end0
  exact ⟨rfl, q4'.out.set1 _⟩

end
end Go.Proofs.Ythebfnmihjbajaa.Dq
