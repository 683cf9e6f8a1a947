/- The document's own functions of a gate (trouperef05): what it wants next, after what its accesses have answered. -/
import Derived.Test.YtokopocldicnmaaGtA
import Derived.WalkSpells
import Derived.BigQuiet
import Derived.Deep.QuietTactic
import Derived.Deep.RegionHeld3
import Derived.IntWalk
namespace Go.Proofs.Ytokopocldicnmaa.Gt
open Go.RowKit

theorem wt_even (c : Nat) (x : Int) : 0 ≤ wt c x ∧ wt c x + 1 < 18446744073709551616 := by unfold wt; rw [IntKind.wrap_u64]; omega
theorem due_0 (c : Nat) (x : Int) : due c 0 x = wt c x := by have := wt_even c x; unfold due; rw [IntKind.wrap_u64]; omega
theorem due_1 (c : Nat) (x : Int) : due c 1 x = wt c x + 1 := by have := wt_even c x; unfold due; rw [IntKind.wrap_u64]; omega
theorem gwait_any (w : World) (b c t : Nat) (ht : t < 18446744073709551616) (hc : 0 < c) (hc2 : c ≤ 64) :
    Calls Try.prog 70 #[.agg #[.int .i64 (b : Int), .int .i64 (c : Int)], .int .u64 (t : Int)] w fun e w' => e = .returned (.int .u64 (wt c (t : Int))) ∧ Only Nil w w' := by
  have fin := Lib.hid ((Only.refl Nil w).alloc (.cells #[.int .i64 (b : Int), .int .i64 (c : Int)] 47))
  have e1 : IntKind.u64.wrap (c : Int) = (c : Int) := by rw [IntKind.wrap_u64]; omega
  have e2 : Int.tdiv (t : Int) (c : Int) = ((t / c : Nat) : Int) := rfl
  have e3 : ¬ ((c : Int) = 0) := by omega
  have hm := Nat.div_le_self t c
  have e4 : wt c (t : Int) = IntKind.u64.wrap (2 * ((t / c : Nat) : Int)) := rfl
  rw [e4]
  clear e4
  generalize hr : t / c = r at e2 hm ⊢
  have hr' : (r : Int) < 18446744073709551616 := by omega
  have e5 : IntKind.u64.wrap (r : Int) = (r : Int) := by rw [IntKind.wrap_u64]; omega
  clear hr hm ht
  go_enter Try.func70, Try.ntmps70
  go_wp2
  go_ret
  exact ⟨rfl, fin.out⟩

set_option maxHeartbeats 2000000 in
theorem last_t3 (w : World) (b c : Nat) (v : Int) (a : Option Addr) (cap n T : Nat) (sl m : Int) (hm : m = 3) (hs : 0 ≤ sl ∧ sl ≤ 100000) :
    Calls Try.prog 71 #[.agg #[.int .i64 (b : Int), .int .i64 (c : Int)], .agg #[.int .i64 2, .int .u64 v, .slice a n cap], .int .i64 m, .int .u64 (T : Int), .int .i64 sl] w fun e w' => e = .returned (.agg #[.bool false, .int .i64 1, .int .i64 (sl + 1), .int .u64 0, .int .u64 0, .int .i64 0, .int .u64 0, .int .u64 0]) ∧ Only Nil w w' := by
  obtain ⟨hs1, hs2⟩ := hs
  subst hm
  go_enter Try.func71, Try.ntmps71
  go_upto_region 1 with (fail)
  obtain ⟨n1, n2, n3, n4⟩ := three_new w (.cells #[.int .i64 (b : Int), .int .i64 (c : Int)] 47) (.cells #[.int .i64 2, .int .u64 v, .slice a n cap] 59) (.cells #[.bool false, .int .i64 0, .int .i64 0, .int .u64 0, .int .u64 0, .int .i64 0, .int .u64 0, .int .u64 0] 64)
  generalize (((w.alloc (.cells #[.int .i64 (b : Int), .int .i64 (c : Int)] 47)).alloc (.cells #[.int .i64 2, .int .u64 v, .slice a n cap] 59)).alloc (.cells #[.bool false, .int .i64 0, .int .i64 0, .int .u64 0, .int .u64 0, .int .i64 0, .int .u64 0, .int .u64 0] 64)) = Z at *
  have k0 : Z.cell? ⟨w.heap.size + 1, 0, none⟩ = some (.int .i64 2) := by simp [World.cell?, n2]
  have n4' := Lib.hid n4
  have n3' := Lib.hid n3
  obtain ⟨c0, c1, c2, c3, c4, c5, c6, c7, f0, f1, f2, f3, f4, f5, f6, f7⟩ := want_cells n3
  clear n1 n2 n3 n4
  go_wp2
  refine bodyPost_ret (results_agg rfl _ _ (w.heap.size + 1 + 1) [.bool false, .int .i64 1, .int .i64 (sl + 1), .int .u64 0, .int .u64 0, .int .i64 0, .int .u64 0, .int .u64 0] Try.isAgg64 Try.sizeOf64 rfl (set8_heap n3'.out (.bool false) (.int .i64 1) (.int .i64 (sl + 1)) (.int .u64 0) (.int .u64 0) (.int .i64 0) (.int .u64 0) (.int .u64 0))) rfl ?_
  exact ⟨rfl, n4'.out.then (set8_only _ _ (.bool false) (.int .i64 1) (.int .i64 (sl + 1)) (.int .u64 0) (.int .u64 0) (.int .i64 0) (.int .u64 0) (.int .u64 0)) (fun q hq hl => by omega)⟩

set_option maxHeartbeats 2000000 in
theorem last_t4 (w : World) (b c : Nat) (v : Int) (a : Option Addr) (cap n T : Nat) (sl m : Int) (hm : m = 4) (hT : T < 18446744073709551616) (hc : 0 < c) (hc2 : c ≤ 64) (hs : 0 ≤ sl ∧ sl ≤ 100000) :
    Calls Try.prog 71 #[.agg #[.int .i64 (b : Int), .int .i64 (c : Int)], .agg #[.int .i64 2, .int .u64 v, .slice a n cap], .int .i64 m, .int .u64 (T : Int), .int .i64 sl] w fun e w' => e = .returned (.agg #[.bool false, .int .i64 2, .int .i64 sl, .int .u64 (IntKind.u64.wrap (wt c (T : Int) + 2)), .int .u64 0, .int .i64 0, .int .u64 0, .int .u64 0]) ∧ Only Nil w w' := by
  have wq := Lib.hid (fun w => gwait_any w b c T hT hc hc2)
  have hw := wt_even c (T : Int)
  obtain ⟨hs1, hs2⟩ := hs
  subst hm
  have hw1 : IntKind.u64.wrap (wt c (T : Int) + 1) = wt c (T : Int) + 1 := by rw [IntKind.wrap_u64]; omega
  clear hw
  generalize wt c (T : Int) = W at *
  clear hT hc hc2
  go_enter Try.func71, Try.ntmps71
  go_upto_region 1 with (fail)
  obtain ⟨n1, n2, n3, n4⟩ := three_new w (.cells #[.int .i64 (b : Int), .int .i64 (c : Int)] 47) (.cells #[.int .i64 2, .int .u64 v, .slice a n cap] 59) (.cells #[.bool false, .int .i64 0, .int .i64 0, .int .u64 0, .int .u64 0, .int .i64 0, .int .u64 0, .int .u64 0] 64)
  generalize (((w.alloc (.cells #[.int .i64 (b : Int), .int .i64 (c : Int)] 47)).alloc (.cells #[.int .i64 2, .int .u64 v, .slice a n cap] 59)).alloc (.cells #[.bool false, .int .i64 0, .int .i64 0, .int .u64 0, .int .u64 0, .int .i64 0, .int .u64 0, .int .u64 0] 64)) = Z at *
  have k0 : Z.cell? ⟨w.heap.size + 1, 0, none⟩ = some (.int .i64 2) := by simp [World.cell?, n2]
  have r0 : Z.cell? ⟨w.heap.size, 0, none⟩ = some (.int .i64 (b : Int)) := by simp [World.cell?, n1]
  have r1 : Z.cell? ⟨w.heap.size, 1, none⟩ = some (.int .i64 (c : Int)) := by simp [World.cell?, n1]
  have n4' := Lib.hid n4
  have n3' := Lib.hid n3
  have bl := Lib.hid (fun (w' : World) (o : Only Nil Z w') => (show w'.heap[w.heap.size + 1 + 1]? = some (.cells #[.bool false, .int .i64 0, .int .i64 0, .int .u64 0, .int .u64 0, .int .i64 0, .int .u64 0, .int .u64 0] 64) from (o.block _ (lt_of_block n3) (fun h => h)).trans n3))
  obtain ⟨c0, c1, c2, c3, c4, c5, c6, c7, f0, f1, f2, f3, f4, f5, f6, f7⟩ := want_cells n3
  clear n1 n2 n3 n4
  go_wp2_with (go_at_call 70; (with_reducible refine (wq.out _).mono ?_); rintro e w1 ⟨rfl, o1⟩; clear c0 c1 c2 c3 c4 c5 c6 c7 f0 f1 f2 f3 f4 f5 f6 f7; have o1' := Lib.hid o1; obtain ⟨c0, c1, c2, c3, c4, c5, c6, c7, f0, f1, f2, f3, f4, f5, f6, f7⟩ := want_cells (bl.out _ o1))
  refine bodyPost_ret (results_agg rfl _ _ (w.heap.size + 1 + 1) [.bool false, .int .i64 2, .int .i64 sl, .int .u64 (IntKind.u64.wrap (W + 2)), .int .u64 0, .int .i64 0, .int .u64 0, .int .u64 0] Try.isAgg64 Try.sizeOf64 rfl (set8_heap (bl.out _ o1'.out) (.bool false) (.int .i64 2) (.int .i64 sl) (.int .u64 (IntKind.u64.wrap (W + 2))) (.int .u64 0) (.int .i64 0) (.int .u64 0) (.int .u64 0))) rfl ?_
  exact ⟨rfl, (n4'.out.trans o1'.out).then (set8_only _ _ (.bool false) (.int .i64 2) (.int .i64 sl) (.int .u64 (IntKind.u64.wrap (W + 2))) (.int .u64 0) (.int .i64 0) (.int .u64 0) (.int .u64 0)) (fun q hq hl => by omega)⟩

set_option maxHeartbeats 2000000 in
theorem last_t5 (w : World) (b c : Nat) (v : Int) (a : Option Addr) (cap n T : Nat) (sl m : Int) (log : List Int) (hm : 5 ≤ m) (hs : 0 ≤ sl ∧ sl ≤ 100000) (hl : LogIn w a log) (hn : log.length = n) (n5 : 5 ≤ n) (n9 : n ≤ 1000000) :
    Calls Try.prog 71 #[.agg #[.int .i64 (b : Int), .int .i64 (c : Int)], .agg #[.int .i64 2, .int .u64 v, .slice a n cap], .int .i64 m, .int .u64 (T : Int), .int .i64 sl] w fun e w' => e = .returned (.agg #[.bool true, .int .i64 0, .int .i64 0, .int .u64 0, .int .u64 0, .int .i64 1, .int .u64 (log.getD (n - 2) 0), .int .u64 0]) ∧ Only Nil w w' := by
  obtain ⟨hs1, hs2⟩ := hs
  have d3 : (m == 3) = false := by simp; omega
  have d4 : (m == 4) = false := by simp; omega
  clear hm
  obtain ⟨xv, hxv⟩ : ∃ xv, log.getD (n - 2) 0 = xv := ⟨_, rfl⟩
  rw [hxv]
  have hxv' := Lib.hid hxv
  clear hxv
  go_enter Try.func71, Try.ntmps71
  go_upto_region 1 with (fail)
  obtain ⟨n1, n2, n3, n4⟩ := three_new w (.cells #[.int .i64 (b : Int), .int .i64 (c : Int)] 47) (.cells #[.int .i64 2, .int .u64 v, .slice a n cap] 59) (.cells #[.bool false, .int .i64 0, .int .i64 0, .int .u64 0, .int .u64 0, .int .i64 0, .int .u64 0, .int .u64 0] 64)
  generalize (((w.alloc (.cells #[.int .i64 (b : Int), .int .i64 (c : Int)] 47)).alloc (.cells #[.int .i64 2, .int .u64 v, .slice a n cap] 59)).alloc (.cells #[.bool false, .int .i64 0, .int .i64 0, .int .u64 0, .int .u64 0, .int .i64 0, .int .u64 0, .int .u64 0] 64)) = Z at *
  have lW := Lib.hid (hl.keep n4 (fun _ _ _ h => h.elim))
  obtain ⟨g, hg0, _, hg⟩ := lW.out (n - 2) (by omega)
  subst hg0
  have x0 := hg (n - 2) (by omega)
  have tn : ((n : Int) - 2).toNat = n - 2 := by omega
  have tl : (0 : Int) ≤ (n : Int) - 2 := by omega
  have tl2 : (n : Int) - 2 < (n : Int) := by omega
  have twr : IntKind.i64.wrap ((n : Int) - 2) = (n : Int) - 2 := IntWalk.i64_in _ (by omega)
  rw [hxv'.out] at x0
  have tl3 : (2 : Int) ≤ (n : Int) := by omega
  clear hg hl hn n5 n9
  have k0 : Z.cell? ⟨w.heap.size + 1, 0, none⟩ = some (.int .i64 2) := by simp [World.cell?, n2]
  have k2 : Z.cell? ⟨w.heap.size + 1, 2, none⟩ = some (.slice (some ⟨g, 0, none⟩) n cap) := by simp [World.cell?, n2]
  have n4' := Lib.hid n4
  have n3' := Lib.hid n3
  obtain ⟨c0, c1, c2, c3, c4, c5, c6, c7, f0, f1, f2, f3, f4, f5, f6, f7⟩ := want_cells n3
  clear n1 n2 n3 n4
  go_wp2
  refine bodyPost_ret (results_agg rfl _ _ (w.heap.size + 1 + 1) [.bool true, .int .i64 0, .int .i64 0, .int .u64 0, .int .u64 0, .int .i64 1, .int .u64 (xv), .int .u64 0] Try.isAgg64 Try.sizeOf64 rfl (set8_heap n3'.out (.bool true) (.int .i64 0) (.int .i64 0) (.int .u64 0) (.int .u64 0) (.int .i64 1) (.int .u64 (xv)) (.int .u64 0))) rfl ?_
  exact ⟨rfl, n4'.out.then (set8_only _ _ (.bool true) (.int .i64 0) (.int .i64 0) (.int .u64 0) (.int .u64 0) (.int .i64 1) (.int .u64 (xv)) (.int .u64 0)) (fun q hq hl => by omega)⟩

set_option maxHeartbeats 2000000 in
theorem last_p3 (w : World) (b c : Nat) (v : Int) (a : Option Addr) (cap n T : Nat) (sl m : Int) (hm : m = 3) (hs : 0 ≤ sl ∧ sl ≤ 100000) :
    Calls Try.prog 71 #[.agg #[.int .i64 (b : Int), .int .i64 (c : Int)], .agg #[.int .i64 1, .int .u64 v, .slice a n cap], .int .i64 m, .int .u64 (T : Int), .int .i64 sl] w fun e w' => e = .returned (.agg #[.bool false, .int .i64 2, .int .i64 (sl + 1), .int .u64 v, .int .u64 0, .int .i64 0, .int .u64 0, .int .u64 0]) ∧ Only Nil w w' := by
  obtain ⟨hs1, hs2⟩ := hs
  subst hm
  go_enter Try.func71, Try.ntmps71
  go_upto_region 1 with (fail)
  obtain ⟨n1, n2, n3, n4⟩ := three_new w (.cells #[.int .i64 (b : Int), .int .i64 (c : Int)] 47) (.cells #[.int .i64 1, .int .u64 v, .slice a n cap] 59) (.cells #[.bool false, .int .i64 0, .int .i64 0, .int .u64 0, .int .u64 0, .int .i64 0, .int .u64 0, .int .u64 0] 64)
  generalize (((w.alloc (.cells #[.int .i64 (b : Int), .int .i64 (c : Int)] 47)).alloc (.cells #[.int .i64 1, .int .u64 v, .slice a n cap] 59)).alloc (.cells #[.bool false, .int .i64 0, .int .i64 0, .int .u64 0, .int .u64 0, .int .i64 0, .int .u64 0, .int .u64 0] 64)) = Z at *
  have k0 : Z.cell? ⟨w.heap.size + 1, 0, none⟩ = some (.int .i64 1) := by simp [World.cell?, n2]
  have k1 : Z.cell? ⟨w.heap.size + 1, 1, none⟩ = some (.int .u64 v) := by simp [World.cell?, n2]
  have n4' := Lib.hid n4
  have n3' := Lib.hid n3
  obtain ⟨c0, c1, c2, c3, c4, c5, c6, c7, f0, f1, f2, f3, f4, f5, f6, f7⟩ := want_cells n3
  clear n1 n2 n3 n4
  go_wp2
  refine bodyPost_ret (results_agg rfl _ _ (w.heap.size + 1 + 1) [.bool false, .int .i64 2, .int .i64 (sl + 1), .int .u64 v, .int .u64 0, .int .i64 0, .int .u64 0, .int .u64 0] Try.isAgg64 Try.sizeOf64 rfl (set8_heap n3'.out (.bool false) (.int .i64 2) (.int .i64 (sl + 1)) (.int .u64 v) (.int .u64 0) (.int .i64 0) (.int .u64 0) (.int .u64 0))) rfl ?_
  exact ⟨rfl, n4'.out.then (set8_only _ _ (.bool false) (.int .i64 2) (.int .i64 (sl + 1)) (.int .u64 v) (.int .u64 0) (.int .i64 0) (.int .u64 0) (.int .u64 0)) (fun q hq hl => by omega)⟩

set_option maxHeartbeats 2000000 in
theorem last_p4 (w : World) (b c : Nat) (v : Int) (a : Option Addr) (cap n T : Nat) (sl m : Int) (hm : m = 4) (hT : T < 18446744073709551616) (hc : 0 < c) (hc2 : c ≤ 64) (hs : 0 ≤ sl ∧ sl ≤ 100000) :
    Calls Try.prog 71 #[.agg #[.int .i64 (b : Int), .int .i64 (c : Int)], .agg #[.int .i64 1, .int .u64 v, .slice a n cap], .int .i64 m, .int .u64 (T : Int), .int .i64 sl] w fun e w' => e = .returned (.agg #[.bool false, .int .i64 2, .int .i64 sl, .int .u64 (wt c (T : Int) + 1), .int .u64 0, .int .i64 0, .int .u64 0, .int .u64 0]) ∧ Only Nil w w' := by
  have wq := Lib.hid (fun w => gwait_any w b c T hT hc hc2)
  have hw := wt_even c (T : Int)
  obtain ⟨hs1, hs2⟩ := hs
  subst hm
  have hw1 : IntKind.u64.wrap (wt c (T : Int) + 1) = wt c (T : Int) + 1 := by rw [IntKind.wrap_u64]; omega
  clear hw
  generalize wt c (T : Int) = W at *
  clear hT hc hc2
  go_enter Try.func71, Try.ntmps71
  go_upto_region 1 with (fail)
  obtain ⟨n1, n2, n3, n4⟩ := three_new w (.cells #[.int .i64 (b : Int), .int .i64 (c : Int)] 47) (.cells #[.int .i64 1, .int .u64 v, .slice a n cap] 59) (.cells #[.bool false, .int .i64 0, .int .i64 0, .int .u64 0, .int .u64 0, .int .i64 0, .int .u64 0, .int .u64 0] 64)
  generalize (((w.alloc (.cells #[.int .i64 (b : Int), .int .i64 (c : Int)] 47)).alloc (.cells #[.int .i64 1, .int .u64 v, .slice a n cap] 59)).alloc (.cells #[.bool false, .int .i64 0, .int .i64 0, .int .u64 0, .int .u64 0, .int .i64 0, .int .u64 0, .int .u64 0] 64)) = Z at *
  have k0 : Z.cell? ⟨w.heap.size + 1, 0, none⟩ = some (.int .i64 1) := by simp [World.cell?, n2]
  have r0 : Z.cell? ⟨w.heap.size, 0, none⟩ = some (.int .i64 (b : Int)) := by simp [World.cell?, n1]
  have r1 : Z.cell? ⟨w.heap.size, 1, none⟩ = some (.int .i64 (c : Int)) := by simp [World.cell?, n1]
  have n4' := Lib.hid n4
  have n3' := Lib.hid n3
  have bl := Lib.hid (fun (w' : World) (o : Only Nil Z w') => (show w'.heap[w.heap.size + 1 + 1]? = some (.cells #[.bool false, .int .i64 0, .int .i64 0, .int .u64 0, .int .u64 0, .int .i64 0, .int .u64 0, .int .u64 0] 64) from (o.block _ (lt_of_block n3) (fun h => h)).trans n3))
  obtain ⟨c0, c1, c2, c3, c4, c5, c6, c7, f0, f1, f2, f3, f4, f5, f6, f7⟩ := want_cells n3
  clear n1 n2 n3 n4
  go_wp2_with (go_at_call 70; (with_reducible refine (wq.out _).mono ?_); rintro e w1 ⟨rfl, o1⟩; clear c0 c1 c2 c3 c4 c5 c6 c7 f0 f1 f2 f3 f4 f5 f6 f7; have o1' := Lib.hid o1; obtain ⟨c0, c1, c2, c3, c4, c5, c6, c7, f0, f1, f2, f3, f4, f5, f6, f7⟩ := want_cells (bl.out _ o1))
  refine bodyPost_ret (results_agg rfl _ _ (w.heap.size + 1 + 1) [.bool false, .int .i64 2, .int .i64 sl, .int .u64 (W + 1), .int .u64 0, .int .i64 0, .int .u64 0, .int .u64 0] Try.isAgg64 Try.sizeOf64 rfl (set8_heap (bl.out _ o1'.out) (.bool false) (.int .i64 2) (.int .i64 sl) (.int .u64 (W + 1)) (.int .u64 0) (.int .i64 0) (.int .u64 0) (.int .u64 0))) rfl ?_
  exact ⟨rfl, (n4'.out.trans o1'.out).then (set8_only _ _ (.bool false) (.int .i64 2) (.int .i64 sl) (.int .u64 (W + 1)) (.int .u64 0) (.int .i64 0) (.int .u64 0) (.int .u64 0)) (fun q hq hl => by omega)⟩

set_option maxHeartbeats 2000000 in
theorem last_p5 (w : World) (b c : Nat) (v : Int) (a : Option Addr) (cap n T : Nat) (sl m : Int) (hm : 5 ≤ m) (hs : 0 ≤ sl ∧ sl ≤ 100000) :
    Calls Try.prog 71 #[.agg #[.int .i64 (b : Int), .int .i64 (c : Int)], .agg #[.int .i64 1, .int .u64 v, .slice a n cap], .int .i64 m, .int .u64 (T : Int), .int .i64 sl] w fun e w' => e = .returned (.agg #[.bool true, .int .i64 0, .int .i64 0, .int .u64 0, .int .u64 0, .int .i64 1, .int .u64 0, .int .u64 0]) ∧ Only Nil w w' := by
  obtain ⟨hs1, hs2⟩ := hs
  have d3 : (m == 3) = false := by simp; omega
  have d4 : (m == 4) = false := by simp; omega
  clear hm
  go_enter Try.func71, Try.ntmps71
  go_upto_region 1 with (fail)
  obtain ⟨n1, n2, n3, n4⟩ := three_new w (.cells #[.int .i64 (b : Int), .int .i64 (c : Int)] 47) (.cells #[.int .i64 1, .int .u64 v, .slice a n cap] 59) (.cells #[.bool false, .int .i64 0, .int .i64 0, .int .u64 0, .int .u64 0, .int .i64 0, .int .u64 0, .int .u64 0] 64)
  generalize (((w.alloc (.cells #[.int .i64 (b : Int), .int .i64 (c : Int)] 47)).alloc (.cells #[.int .i64 1, .int .u64 v, .slice a n cap] 59)).alloc (.cells #[.bool false, .int .i64 0, .int .i64 0, .int .u64 0, .int .u64 0, .int .i64 0, .int .u64 0, .int .u64 0] 64)) = Z at *
  have k0 : Z.cell? ⟨w.heap.size + 1, 0, none⟩ = some (.int .i64 1) := by simp [World.cell?, n2]
  have n4' := Lib.hid n4
  have n3' := Lib.hid n3
  obtain ⟨c0, c1, c2, c3, c4, c5, c6, c7, f0, f1, f2, f3, f4, f5, f6, f7⟩ := want_cells n3
  clear n1 n2 n3 n4
  go_wp2
  refine bodyPost_ret (results_agg rfl _ _ (w.heap.size + 1 + 1) [.bool true, .int .i64 0, .int .i64 0, .int .u64 0, .int .u64 0, .int .i64 1, .int .u64 0, .int .u64 0] Try.isAgg64 Try.sizeOf64 rfl (set8_heap n3'.out (.bool true) (.int .i64 0) (.int .i64 0) (.int .u64 0) (.int .u64 0) (.int .i64 1) (.int .u64 0) (.int .u64 0))) rfl ?_
  exact ⟨rfl, n4'.out.then (set8_only _ _ (.bool true) (.int .i64 0) (.int .i64 0) (.int .u64 0) (.int .u64 0) (.int .i64 1) (.int .u64 0) (.int .u64 0)) (fun q hq hl => by omega)⟩
end Go.Proofs.Ytokopocldicnmaa.Gt
