/- like: an operation of the developers' beside what the document wants of it. -/
import Derived.Test.YtpnpbgcndlfobaaRingLl
import Derived.Test.YtpnpbgcndlfobaaRingW
import Derived.WalkSpells
namespace Go.Proofs.Ytpnpbgcndlfobaa
open Go.RowKit

theorem over_true {w : World} {ob rg : Nat} {nx : Value} {out at_ v val tk : Int} (h : OpC w ob rg nx out at_ v val tk) (ho : out ≠ 0) :
    Calls Try.prog 15 #[.pointer (some ⟨ob, 0, none⟩)] w fun e w' => e = .returned (.bool true) ∧ w = w' := by
  have := over_any h
  rwa [show (out != 0) = true by simp [ho]] at this
set_option maxRecDepth 100000 in
set_option maxHeartbeats 4000000 in
theorem like_not {w : World} {ob rg b c : Nat} {s : OS} (h : OpIn w ob rg s) (ht : s.tk) (ho : ¬ s.isOver) :
    Calls Try.prog 20 #[.pointer (some ⟨ob, 0, none⟩), wantOf b c s] w fun e w' => e = .returned (.bool true) ∧ Only Nil w w' := by
  obtain ⟨nx, a, y, hC, hs⟩ := h
  have e0 : s.o = 0 := by cases s <;> first | rfl | exact (ho trivial).elim
  have e1 : s.x = 0 := by cases s <;> first | rfl | exact (ho trivial).elim
  have e2 : s.k = 0 := by cases s <;> first | rfl | exact (ho trivial).elim
  rw [e0, e1, e2] at hC
  rw [wantOf_acc b c s ho]
  obtain ⟨x1, x2, x3, x4, hx4⟩ := accWant_form (acc b c s)
  rw [hx4]
  clear hx4 e0 e1 e2 hs ho ht
  have hC' := Lib.hid hC
  clear hC
  go_enter Try.func20, Try.ntmps20
  go_wp2_with fail
  have ow := Lib.hid ((Only.refl Nil w).alloc (.cells #[.bool false, .int .i64 x1, .int .i64 x2, .int .u64 x3, .int .u64 x4, .int .i64 0, .int .u64 0, .int .u64 0] 49))
  have hC1 := Lib.hid (hC'.out.keep ow.out (fun h => h))
  have bT := Lib.hid (heap_new w (.cells #[.bool false, .int .i64 x1, .int .i64 x2, .int .u64 x3, .int .u64 x4, .int .i64 0, .int .u64 0, .int .u64 0] 49))
  generalize w.alloc (.cells #[.bool false, .int .i64 x1, .int .i64 x2, .int .u64 x3, .int .u64 x4, .int .i64 0, .int .u64 0, .int .u64 0] 49) = W1 at ow hC1 bT ⊢
  clear hC'
  have z0 : W1.cell? ⟨w.heap.size, 0, none⟩ = some (.bool false) := (by simp [World.cell?, bT.out])
  have ov := Lib.hid (fun n => over_false (hC1.out.drewN n))
  go_quiet ((go_at_call 15; exact quiet_same (ov.out _)))
  have ow2 := Lib.hid (ow.out.drewN nq)
  have hC2 := Lib.hid (hC1.out.drewN nq)
  have z2 : (W1.drewN nq).cell? ⟨w.heap.size, 0, none⟩ = some (.bool false) := z0
  clear ow hC1 bT z0 ov
  generalize W1.drewN nq = W2 at ow2 hC2 z2 ⊢
  go_wp2_with fail
  have ot := Lib.hid (outcome_any hC2.out)
  have va := Lib.hid (ovalue_any hC2.out)
  have tk := Lib.hid (ticket_any hC2.out)
  go_at_call 35
  (with_reducible refine (ot.out).mono ?_)
  rintro e w3 ⟨rfl, rfl⟩
  go_wp2_with (first | (go_at_call 43; (with_reducible refine (va.out).mono ?_); rintro e w3 ⟨rfl, rfl⟩) | (go_at_call 36; (with_reducible refine (tk.out).mono ?_); rintro e w3 ⟨rfl, rfl⟩))
  go_ret
  exact ⟨rfl, ow2.out⟩
set_option maxRecDepth 100000 in
set_option maxHeartbeats 4000000 in
theorem like_over {w : World} {ob rg b c : Nat} {s : OS} (h : OpIn w ob rg s) (ht : s.tk) (ho : s.isOver) :
    Calls Try.prog 20 #[.pointer (some ⟨ob, 0, none⟩), wantOf b c s] w fun e w' => e = .returned (.bool true) ∧ Only Nil w w' := by
  obtain ⟨nx, a, y, hC, hs⟩ := h
  have hk : s.o ≠ 0 := by cases s <;> first | exact ho.elim | (simp only [OS.tk] at ht; simp only [OS.o]; omega)
  have hw : wantOf b c s = .agg #[.bool true, .int .i64 0, .int .i64 0, .int .u64 0, .int .u64 0, .int .i64 s.o, .int .u64 s.x, .int .u64 s.k] := by cases s <;> first | exact ho.elim | rfl
  rw [hw]
  clear hw hs ho ht
  generalize s.o = so at hC hk ⊢
  generalize s.x = sx at hC ⊢
  generalize s.k = sk at hC ⊢
  have hC' := Lib.hid hC
  clear hC
  go_enter Try.func20, Try.ntmps20
  go_wp2_with fail
  have ow := Lib.hid ((Only.refl Nil w).alloc (.cells #[.bool true, .int .i64 0, .int .i64 0, .int .u64 0, .int .u64 0, .int .i64 so, .int .u64 sx, .int .u64 sk] 49))
  have hC1 := Lib.hid (hC'.out.keep ow.out (fun h => h))
  have bT := Lib.hid (heap_new w (.cells #[.bool true, .int .i64 0, .int .i64 0, .int .u64 0, .int .u64 0, .int .i64 so, .int .u64 sx, .int .u64 sk] 49))
  generalize w.alloc (.cells #[.bool true, .int .i64 0, .int .i64 0, .int .u64 0, .int .u64 0, .int .i64 so, .int .u64 sx, .int .u64 sk] 49) = W1 at ow hC1 bT ⊢
  clear hC'
  have z0 : W1.cell? ⟨w.heap.size, 0, none⟩ = some (.bool true) := (by simp [World.cell?, bT.out])
  have z5 : W1.cell? ⟨w.heap.size, 5, none⟩ = some (.int .i64 so) := (by simp [World.cell?, bT.out])
  have z6 : W1.cell? ⟨w.heap.size, 6, none⟩ = some (.int .u64 sx) := (by simp [World.cell?, bT.out])
  have z7 : W1.cell? ⟨w.heap.size, 7, none⟩ = some (.int .u64 sk) := (by simp [World.cell?, bT.out])
  have ov := Lib.hid (fun n => over_true (hC1.out.drewN n) hk)
  go_quiet ((go_at_call 15; exact quiet_same (ov.out _)))
  have ow2 := Lib.hid (ow.out.drewN nq)
  have hC2 := Lib.hid (hC1.out.drewN nq)
  have z2 : (W1.drewN nq).cell? ⟨w.heap.size, 0, none⟩ = some (.bool true) := z0
  have y5 : (W1.drewN nq).cell? ⟨w.heap.size, 5, none⟩ = some (.int .i64 so) := z5
  have y6 : (W1.drewN nq).cell? ⟨w.heap.size, 6, none⟩ = some (.int .u64 sx) := z6
  have y7 : (W1.drewN nq).cell? ⟨w.heap.size, 7, none⟩ = some (.int .u64 sk) := z7
  clear ow hC1 bT z0 ov z5 z6 z7 hk
  generalize W1.drewN nq = W2 at ow2 hC2 z2 y5 y6 y7 ⊢
  go_wp2_with fail
  have ot := Lib.hid (fun n => outcome_any (hC2.out.drewN n))
  have va := Lib.hid (fun n => ovalue_any (hC2.out.drewN n))
  have tk := Lib.hid (fun n => ticket_any (hC2.out.drewN n))
  go_quiet (first | (go_at_call 35; exact quiet_same (ot.out _)) | (go_at_call 43; exact quiet_same (va.out _)) | (go_at_call 36; exact quiet_same (tk.out _)))
  go_wp2
  go_ret
  exact ⟨rfl, ow2.out.drewN _⟩
end Go.Proofs.Ytpnpbgcndlfobaa
