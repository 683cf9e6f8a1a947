/- The document's Next of a bell's operation, whatever it was answered: one contract. -/
import Derived.Test.YtfhbgabblegecaaBlN
import Derived.Test.YtfhbgabblegecaaBlOtW
namespace Go.Proofs.Ytfhbgabblegecaa.Bl
open Go.RowKit

set_option maxRecDepth 100000 in
set_option maxHeartbeats 8000000 in
theorem rnext_ring (w : World) (b n : Nat) (vu : Int) (a : Option Addr) (cap : Nat) (log : List Int) (hn0 : 0 < n) (hn8 : n ≤ 8) (hb : b ≤ 1000) (hl : LogIn w a log) (hf : Fits n (.look 0) log) (hlen : log.length ≤ 1000000) :
    Calls Try.prog 23 #[.agg #[.int .i64 (b : Int), .int .i64 (n : Int)], .agg #[.int .i64 4, .int .u64 vu, .slice a log.length cap]] w fun e w' => e = .returned (wantOf b (runL n (.look 0) log)) ∧ Only Nil w w' := by
  have rg := Lib.hid (fun w' (h : LogIn w' a log) => rring_any w' b n a cap log hn0 hn8 hb h hf hlen)
  obtain ⟨x0, x1, x2, x3, x4, x5, x6, x7, hx⟩ := wantOf_agg b (runL n (.look 0) log)
  rw [hx] at rg ⊢
  have hl' := Lib.hid hl
  clear hl hf hx hn0 hn8 hb
  generalize log.length = m at hlen rg ⊢
  have hlen' : (m : Int) ≤ 1000000 := by omega
  go_enter Try.func23, Try.ntmps23
  go_upto_region 1 with (fail)
  obtain ⟨n1, n2, n3, n4⟩ := three_new w (.cells #[.int .i64 (b : Int), .int .i64 (n : Int)] 25) (.cells #[.int .i64 4, .int .u64 vu, .slice a m cap] 43) (.cells #[.bool false, .int .i64 0, .int .i64 0, .int .u64 0, .int .u64 0, .int .i64 0, .int .u64 0, .int .u64 0] 48)
  generalize (((w.alloc (.cells #[.int .i64 (b : Int), .int .i64 (n : Int)] 25)).alloc (.cells #[.int .i64 4, .int .u64 vu, .slice a m cap] 43)).alloc (.cells #[.bool false, .int .i64 0, .int .i64 0, .int .u64 0, .int .u64 0, .int .i64 0, .int .u64 0, .int .u64 0] 48)) = Z at *
  have lW := Lib.hid (hl'.out.keep n4 (fun _ _ _ h => h.elim))
  have bl := Lib.hid (fun (w' : World) (o : Only Nil Z w') => (o.block _ (lt_of_block n3) (fun h => h)).trans n3)
  obtain ⟨c0, c1, c2, c3, c4, c5, c6, c7, f0, f1, f2, f3, f4, f5, f6, f7⟩ := want_cells n3
  have bW0 := Lib.hid n3
  have n4' := Lib.hid n4
  have r0 : Z.cell? ⟨w.heap.size, 0, none⟩ = some (.int .i64 (b : Int)) := (by simp [World.cell?, n1])
  have r1 : Z.cell? ⟨w.heap.size, 1, none⟩ = some (.int .i64 (n : Int)) := (by simp [World.cell?, n1])
  have k0 : Z.cell? ⟨w.heap.size + 1, 0, none⟩ = some (.int .i64 4) := (by simp [World.cell?, n2])
  have k1 : Z.cell? ⟨w.heap.size + 1, 1, none⟩ = some (.int .u64 vu) := (by simp [World.cell?, n2])
  have k2 : Z.cell? ⟨w.heap.size + 1, 2, none⟩ = some (.slice a m cap) := (by simp [World.cell?, n2])
  clear n1 n2 n3 n4
  go_wp2_with (go_at_call 49; (with_reducible refine (rg.out _ lW.out).mono ?_); rintro e w3 ⟨rfl, o3⟩; obtain ⟨c0, c1, c2, c3, c4, c5, c6, c7, f0, f1, f2, f3, f4, f5, f6, f7⟩ := want_cells (bl.out _ o3))
  refine bodyPost_ret (results_agg rfl _ _ (w.heap.size + 1 + 1) [(.bool x0), (.int .i64 x1), (.int .i64 x2), (.int .u64 x3), (.int .u64 x4), (.int .i64 x5), (.int .u64 x6), (.int .u64 x7)] Try.isAgg48 Try.sizeOf48 rfl (set8_heap (bl.out _ o3) (.bool x0) (.int .i64 x1) (.int .i64 x2) (.int .u64 x3) (.int .u64 x4) (.int .i64 x5) (.int .u64 x6) (.int .u64 x7))) rfl ?_
  exact ⟨by simp, (n4'.out.trans o3).then (set8_only _ _ (.bool x0) (.int .i64 x1) (.int .i64 x2) (.int .u64 x3) (.int .u64 x4) (.int .i64 x5) (.int .u64 x6) (.int .u64 x7)) (fun q hq hl => by omega)⟩

set_option maxRecDepth 100000 in
set_option maxHeartbeats 8000000 in
theorem rnext_sleep_out (w : World) (b n : Nat) (vu : Int) (a : Option Addr) (cap : Nat) (len : Nat) (hn8 : n ≤ 8) (hb : b ≤ 1000) (hv : (n : Int) ≤ vu) :
    Calls Try.prog 23 #[.agg #[.int .i64 (b : Int), .int .i64 (n : Int)], .agg #[.int .i64 1, .int .u64 vu, .slice a len cap]] w fun e w' => e = .returned (.agg #[(.bool true), (.int .i64 0), (.int .i64 0), (.int .u64 0), (.int .u64 0), (.int .i64 4), (.int .u64 0), (.int .u64 0)]) ∧ Only Nil w w' := by
  have hni : (n : Int) ≤ 8 := by omega
  have hbi : (b : Int) ≤ 1000 := by omega
  have wn : IntKind.u64.wrap (n : Int) = (n : Int) := by rw [IntKind.wrap_u64]; omega
  clear hn8 hb
  go_enter Try.func23, Try.ntmps23
  go_upto_region 1 with (fail)
  obtain ⟨n1, n2, n3, n4⟩ := three_new w (.cells #[.int .i64 (b : Int), .int .i64 (n : Int)] 25) (.cells #[.int .i64 1, .int .u64 vu, .slice a len cap] 43) (.cells #[.bool false, .int .i64 0, .int .i64 0, .int .u64 0, .int .u64 0, .int .i64 0, .int .u64 0, .int .u64 0] 48)
  generalize (((w.alloc (.cells #[.int .i64 (b : Int), .int .i64 (n : Int)] 25)).alloc (.cells #[.int .i64 1, .int .u64 vu, .slice a len cap] 43)).alloc (.cells #[.bool false, .int .i64 0, .int .i64 0, .int .u64 0, .int .u64 0, .int .i64 0, .int .u64 0, .int .u64 0] 48)) = Z at *
  obtain ⟨c0, c1, c2, c3, c4, c5, c6, c7, f0, f1, f2, f3, f4, f5, f6, f7⟩ := want_cells n3
  have bW0 := Lib.hid n3
  have n4' := Lib.hid n4
  have r0 : Z.cell? ⟨w.heap.size, 0, none⟩ = some (.int .i64 (b : Int)) := (by simp [World.cell?, n1])
  have r1 : Z.cell? ⟨w.heap.size, 1, none⟩ = some (.int .i64 (n : Int)) := (by simp [World.cell?, n1])
  have k0 : Z.cell? ⟨w.heap.size + 1, 0, none⟩ = some (.int .i64 1) := (by simp [World.cell?, n2])
  have k1 : Z.cell? ⟨w.heap.size + 1, 1, none⟩ = some (.int .u64 vu) := (by simp [World.cell?, n2])
  have k2 : Z.cell? ⟨w.heap.size + 1, 2, none⟩ = some (.slice a len cap) := (by simp [World.cell?, n2])
  clear n1 n2 n3 n4
  go_wp2_with (fail)
  refine bodyPost_ret (results_agg rfl _ _ (w.heap.size + 1 + 1) [(.bool true), (.int .i64 0), (.int .i64 0), (.int .u64 0), (.int .u64 0), (.int .i64 4), (.int .u64 0), (.int .u64 0)] Try.isAgg48 Try.sizeOf48 rfl (set8_heap bW0.out (.bool true) (.int .i64 0) (.int .i64 0) (.int .u64 0) (.int .u64 0) (.int .i64 4) (.int .u64 0) (.int .u64 0))) rfl ?_
  exact ⟨by simp, n4'.out.then (set8_only _ _ (.bool true) (.int .i64 0) (.int .i64 0) (.int .u64 0) (.int .u64 0) (.int .i64 4) (.int .u64 0) (.int .u64 0)) (fun q hq hl => by omega)⟩

set_option maxRecDepth 100000 in
set_option maxHeartbeats 8000000 in
theorem rnext_sleep_first (w : World) (b n : Nat) (vu : Int) (a : Option Addr) (cap : Nat) (hn8 : n ≤ 8) (hb : b ≤ 1000) (hv : 0 ≤ vu ∧ vu < (n : Int)) :
    Calls Try.prog 23 #[.agg #[.int .i64 (b : Int), .int .i64 (n : Int)], .agg #[.int .i64 1, .int .u64 vu, .slice a 0 cap]] w fun e w' => e = .returned (.agg #[(.bool false), (.int .i64 2), (.int .i64 ((b : Int) + vu)), (.int .u64 1), (.int .u64 0), (.int .i64 0), (.int .u64 0), (.int .u64 0)]) ∧ Only Nil w w' := by
  have hni : (n : Int) ≤ 8 := by omega
  have hbi : (b : Int) ≤ 1000 := by omega
  have wn : IntKind.u64.wrap (n : Int) = (n : Int) := by rw [IntKind.wrap_u64]; omega
  have wv : IntKind.i64.wrap vu = vu := IntWalk.i64_in _ (by omega)
  have wb : IntKind.i64.wrap ((b : Int) + vu) = (b : Int) + vu := IntWalk.i64_in _ (by omega)
  have hvn : ¬ ((n : Int) ≤ vu) := by omega
  clear hn8 hb hv
  go_enter Try.func23, Try.ntmps23
  go_upto_region 1 with (fail)
  obtain ⟨n1, n2, n3, n4⟩ := three_new w (.cells #[.int .i64 (b : Int), .int .i64 (n : Int)] 25) (.cells #[.int .i64 1, .int .u64 vu, .slice a 0 cap] 43) (.cells #[.bool false, .int .i64 0, .int .i64 0, .int .u64 0, .int .u64 0, .int .i64 0, .int .u64 0, .int .u64 0] 48)
  generalize (((w.alloc (.cells #[.int .i64 (b : Int), .int .i64 (n : Int)] 25)).alloc (.cells #[.int .i64 1, .int .u64 vu, .slice a 0 cap] 43)).alloc (.cells #[.bool false, .int .i64 0, .int .i64 0, .int .u64 0, .int .u64 0, .int .i64 0, .int .u64 0, .int .u64 0] 48)) = Z at *
  obtain ⟨c0, c1, c2, c3, c4, c5, c6, c7, f0, f1, f2, f3, f4, f5, f6, f7⟩ := want_cells n3
  have bW0 := Lib.hid n3
  have n4' := Lib.hid n4
  have r0 : Z.cell? ⟨w.heap.size, 0, none⟩ = some (.int .i64 (b : Int)) := (by simp [World.cell?, n1])
  have r1 : Z.cell? ⟨w.heap.size, 1, none⟩ = some (.int .i64 (n : Int)) := (by simp [World.cell?, n1])
  have k0 : Z.cell? ⟨w.heap.size + 1, 0, none⟩ = some (.int .i64 1) := (by simp [World.cell?, n2])
  have k1 : Z.cell? ⟨w.heap.size + 1, 1, none⟩ = some (.int .u64 vu) := (by simp [World.cell?, n2])
  have k2 : Z.cell? ⟨w.heap.size + 1, 2, none⟩ = some (.slice a 0 cap) := (by simp [World.cell?, n2])
  clear n1 n2 n3 n4
  go_wp2_with (fail)
  refine bodyPost_ret (results_agg rfl _ _ (w.heap.size + 1 + 1) [(.bool false), (.int .i64 2), (.int .i64 ((b : Int) + vu)), (.int .u64 1), (.int .u64 0), (.int .i64 0), (.int .u64 0), (.int .u64 0)] Try.isAgg48 Try.sizeOf48 rfl (set8_heap bW0.out (.bool false) (.int .i64 2) (.int .i64 ((b : Int) + vu)) (.int .u64 1) (.int .u64 0) (.int .i64 0) (.int .u64 0) (.int .u64 0))) rfl ?_
  exact ⟨by simp, n4'.out.then (set8_only _ _ (.bool false) (.int .i64 2) (.int .i64 ((b : Int) + vu)) (.int .u64 1) (.int .u64 0) (.int .i64 0) (.int .u64 0) (.int .u64 0)) (fun q hq hl => by omega)⟩

set_option maxRecDepth 100000 in
set_option maxHeartbeats 8000000 in
theorem rnext_sleep_done (w : World) (b n : Nat) (vu : Int) (a : Option Addr) (cap : Nat) (y : Int) (hn8 : n ≤ 8) (hb : b ≤ 1000) (hv : 0 ≤ vu ∧ vu < (n : Int)) (hl : LogIn w a [y]) :
    Calls Try.prog 23 #[.agg #[.int .i64 (b : Int), .int .i64 (n : Int)], .agg #[.int .i64 1, .int .u64 vu, .slice a 1 cap]] w fun e w' => e = .returned (.agg #[(.bool true), (.int .i64 0), (.int .i64 0), (.int .u64 0), (.int .u64 0), (.int .i64 1), (.int .u64 0), (.int .u64 0)]) ∧ Only Nil w w' := by
  have hni : (n : Int) ≤ 8 := by omega
  have hbi : (b : Int) ≤ 1000 := by omega
  have wn : IntKind.u64.wrap (n : Int) = (n : Int) := by rw [IntKind.wrap_u64]; omega
  have wv : IntKind.i64.wrap vu = vu := IntWalk.i64_in _ (by omega)
  have wb : IntKind.i64.wrap ((b : Int) + vu) = (b : Int) + vu := IntWalk.i64_in _ (by omega)
  have hvn : ¬ ((n : Int) ≤ vu) := by omega
  have hl' := Lib.hid hl
  clear hn8 hb hv hl
  go_enter Try.func23, Try.ntmps23
  go_upto_region 1 with (fail)
  obtain ⟨n1, n2, n3, n4⟩ := three_new w (.cells #[.int .i64 (b : Int), .int .i64 (n : Int)] 25) (.cells #[.int .i64 1, .int .u64 vu, .slice a 1 cap] 43) (.cells #[.bool false, .int .i64 0, .int .i64 0, .int .u64 0, .int .u64 0, .int .i64 0, .int .u64 0, .int .u64 0] 48)
  generalize (((w.alloc (.cells #[.int .i64 (b : Int), .int .i64 (n : Int)] 25)).alloc (.cells #[.int .i64 1, .int .u64 vu, .slice a 1 cap] 43)).alloc (.cells #[.bool false, .int .i64 0, .int .i64 0, .int .u64 0, .int .u64 0, .int .i64 0, .int .u64 0, .int .u64 0] 48)) = Z at *
  have lW := Lib.hid (hl'.out.keep n4 (fun _ _ _ h => h.elim))
  obtain ⟨c0, c1, c2, c3, c4, c5, c6, c7, f0, f1, f2, f3, f4, f5, f6, f7⟩ := want_cells n3
  have bW0 := Lib.hid n3
  have n4' := Lib.hid n4
  have r0 : Z.cell? ⟨w.heap.size, 0, none⟩ = some (.int .i64 (b : Int)) := (by simp [World.cell?, n1])
  have r1 : Z.cell? ⟨w.heap.size, 1, none⟩ = some (.int .i64 (n : Int)) := (by simp [World.cell?, n1])
  have k0 : Z.cell? ⟨w.heap.size + 1, 0, none⟩ = some (.int .i64 1) := (by simp [World.cell?, n2])
  have k1 : Z.cell? ⟨w.heap.size + 1, 1, none⟩ = some (.int .u64 vu) := (by simp [World.cell?, n2])
  have k2 : Z.cell? ⟨w.heap.size + 1, 2, none⟩ = some (.slice a 1 cap) := (by simp [World.cell?, n2])
  clear n1 n2 n3 n4
  go_wp2_with (fail)
  refine bodyPost_ret (results_agg rfl _ _ (w.heap.size + 1 + 1) [(.bool true), (.int .i64 0), (.int .i64 0), (.int .u64 0), (.int .u64 0), (.int .i64 1), (.int .u64 0), (.int .u64 0)] Try.isAgg48 Try.sizeOf48 rfl (set8_heap bW0.out (.bool true) (.int .i64 0) (.int .i64 0) (.int .u64 0) (.int .u64 0) (.int .i64 1) (.int .u64 0) (.int .u64 0))) rfl ?_
  exact ⟨by simp, n4'.out.then (set8_only _ _ (.bool true) (.int .i64 0) (.int .i64 0) (.int .u64 0) (.int .u64 0) (.int .i64 1) (.int .u64 0) (.int .u64 0)) (fun q hq hl => by omega)⟩

set_option maxRecDepth 100000 in
set_option maxHeartbeats 8000000 in
theorem rnext_up_out (w : World) (b n : Nat) (vu : Int) (a : Option Addr) (cap : Nat) (len : Nat) (hn8 : n ≤ 8) (hb : b ≤ 1000) (hv : (n : Int) ≤ vu) :
    Calls Try.prog 23 #[.agg #[.int .i64 (b : Int), .int .i64 (n : Int)], .agg #[.int .i64 2, .int .u64 vu, .slice a len cap]] w fun e w' => e = .returned (.agg #[(.bool true), (.int .i64 0), (.int .i64 0), (.int .u64 0), (.int .u64 0), (.int .i64 4), (.int .u64 0), (.int .u64 0)]) ∧ Only Nil w w' := by
  have hni : (n : Int) ≤ 8 := by omega
  have hbi : (b : Int) ≤ 1000 := by omega
  have wn : IntKind.u64.wrap (n : Int) = (n : Int) := by rw [IntKind.wrap_u64]; omega
  clear hn8 hb
  go_enter Try.func23, Try.ntmps23
  go_upto_region 1 with (fail)
  obtain ⟨n1, n2, n3, n4⟩ := three_new w (.cells #[.int .i64 (b : Int), .int .i64 (n : Int)] 25) (.cells #[.int .i64 2, .int .u64 vu, .slice a len cap] 43) (.cells #[.bool false, .int .i64 0, .int .i64 0, .int .u64 0, .int .u64 0, .int .i64 0, .int .u64 0, .int .u64 0] 48)
  generalize (((w.alloc (.cells #[.int .i64 (b : Int), .int .i64 (n : Int)] 25)).alloc (.cells #[.int .i64 2, .int .u64 vu, .slice a len cap] 43)).alloc (.cells #[.bool false, .int .i64 0, .int .i64 0, .int .u64 0, .int .u64 0, .int .i64 0, .int .u64 0, .int .u64 0] 48)) = Z at *
  obtain ⟨c0, c1, c2, c3, c4, c5, c6, c7, f0, f1, f2, f3, f4, f5, f6, f7⟩ := want_cells n3
  have bW0 := Lib.hid n3
  have n4' := Lib.hid n4
  have r0 : Z.cell? ⟨w.heap.size, 0, none⟩ = some (.int .i64 (b : Int)) := (by simp [World.cell?, n1])
  have r1 : Z.cell? ⟨w.heap.size, 1, none⟩ = some (.int .i64 (n : Int)) := (by simp [World.cell?, n1])
  have k0 : Z.cell? ⟨w.heap.size + 1, 0, none⟩ = some (.int .i64 2) := (by simp [World.cell?, n2])
  have k1 : Z.cell? ⟨w.heap.size + 1, 1, none⟩ = some (.int .u64 vu) := (by simp [World.cell?, n2])
  have k2 : Z.cell? ⟨w.heap.size + 1, 2, none⟩ = some (.slice a len cap) := (by simp [World.cell?, n2])
  clear n1 n2 n3 n4
  go_wp2_with (fail)
  refine bodyPost_ret (results_agg rfl _ _ (w.heap.size + 1 + 1) [(.bool true), (.int .i64 0), (.int .i64 0), (.int .u64 0), (.int .u64 0), (.int .i64 4), (.int .u64 0), (.int .u64 0)] Try.isAgg48 Try.sizeOf48 rfl (set8_heap bW0.out (.bool true) (.int .i64 0) (.int .i64 0) (.int .u64 0) (.int .u64 0) (.int .i64 4) (.int .u64 0) (.int .u64 0))) rfl ?_
  exact ⟨by simp, n4'.out.then (set8_only _ _ (.bool true) (.int .i64 0) (.int .i64 0) (.int .u64 0) (.int .u64 0) (.int .i64 4) (.int .u64 0) (.int .u64 0)) (fun q hq hl => by omega)⟩

set_option maxRecDepth 100000 in
set_option maxHeartbeats 8000000 in
theorem rnext_up_first (w : World) (b n : Nat) (vu : Int) (a : Option Addr) (cap : Nat) (hn8 : n ≤ 8) (hb : b ≤ 1000) (hv : 0 ≤ vu ∧ vu < (n : Int)) :
    Calls Try.prog 23 #[.agg #[.int .i64 (b : Int), .int .i64 (n : Int)], .agg #[.int .i64 2, .int .u64 vu, .slice a 0 cap]] w fun e w' => e = .returned (.agg #[(.bool false), (.int .i64 2), (.int .i64 ((b : Int) + vu)), (.int .u64 0), (.int .u64 0), (.int .i64 0), (.int .u64 0), (.int .u64 0)]) ∧ Only Nil w w' := by
  have hni : (n : Int) ≤ 8 := by omega
  have hbi : (b : Int) ≤ 1000 := by omega
  have wn : IntKind.u64.wrap (n : Int) = (n : Int) := by rw [IntKind.wrap_u64]; omega
  have wv : IntKind.i64.wrap vu = vu := IntWalk.i64_in _ (by omega)
  have wb : IntKind.i64.wrap ((b : Int) + vu) = (b : Int) + vu := IntWalk.i64_in _ (by omega)
  have hvn : ¬ ((n : Int) ≤ vu) := by omega
  clear hn8 hb hv
  go_enter Try.func23, Try.ntmps23
  go_upto_region 1 with (fail)
  obtain ⟨n1, n2, n3, n4⟩ := three_new w (.cells #[.int .i64 (b : Int), .int .i64 (n : Int)] 25) (.cells #[.int .i64 2, .int .u64 vu, .slice a 0 cap] 43) (.cells #[.bool false, .int .i64 0, .int .i64 0, .int .u64 0, .int .u64 0, .int .i64 0, .int .u64 0, .int .u64 0] 48)
  generalize (((w.alloc (.cells #[.int .i64 (b : Int), .int .i64 (n : Int)] 25)).alloc (.cells #[.int .i64 2, .int .u64 vu, .slice a 0 cap] 43)).alloc (.cells #[.bool false, .int .i64 0, .int .i64 0, .int .u64 0, .int .u64 0, .int .i64 0, .int .u64 0, .int .u64 0] 48)) = Z at *
  obtain ⟨c0, c1, c2, c3, c4, c5, c6, c7, f0, f1, f2, f3, f4, f5, f6, f7⟩ := want_cells n3
  have bW0 := Lib.hid n3
  have n4' := Lib.hid n4
  have r0 : Z.cell? ⟨w.heap.size, 0, none⟩ = some (.int .i64 (b : Int)) := (by simp [World.cell?, n1])
  have r1 : Z.cell? ⟨w.heap.size, 1, none⟩ = some (.int .i64 (n : Int)) := (by simp [World.cell?, n1])
  have k0 : Z.cell? ⟨w.heap.size + 1, 0, none⟩ = some (.int .i64 2) := (by simp [World.cell?, n2])
  have k1 : Z.cell? ⟨w.heap.size + 1, 1, none⟩ = some (.int .u64 vu) := (by simp [World.cell?, n2])
  have k2 : Z.cell? ⟨w.heap.size + 1, 2, none⟩ = some (.slice a 0 cap) := (by simp [World.cell?, n2])
  clear n1 n2 n3 n4
  go_wp2_with (fail)
  refine bodyPost_ret (results_agg rfl _ _ (w.heap.size + 1 + 1) [(.bool false), (.int .i64 2), (.int .i64 ((b : Int) + vu)), (.int .u64 0), (.int .u64 0), (.int .i64 0), (.int .u64 0), (.int .u64 0)] Try.isAgg48 Try.sizeOf48 rfl (set8_heap bW0.out (.bool false) (.int .i64 2) (.int .i64 ((b : Int) + vu)) (.int .u64 0) (.int .u64 0) (.int .i64 0) (.int .u64 0) (.int .u64 0))) rfl ?_
  exact ⟨by simp, n4'.out.then (set8_only _ _ (.bool false) (.int .i64 2) (.int .i64 ((b : Int) + vu)) (.int .u64 0) (.int .u64 0) (.int .i64 0) (.int .u64 0) (.int .u64 0)) (fun q hq hl => by omega)⟩

set_option maxRecDepth 100000 in
set_option maxHeartbeats 8000000 in
theorem rnext_up_done (w : World) (b n : Nat) (vu : Int) (a : Option Addr) (cap : Nat) (y : Int) (hn8 : n ≤ 8) (hb : b ≤ 1000) (hv : 0 ≤ vu ∧ vu < (n : Int)) (hl : LogIn w a [y]) :
    Calls Try.prog 23 #[.agg #[.int .i64 (b : Int), .int .i64 (n : Int)], .agg #[.int .i64 2, .int .u64 vu, .slice a 1 cap]] w fun e w' => e = .returned (.agg #[(.bool true), (.int .i64 0), (.int .i64 0), (.int .u64 0), (.int .u64 0), (.int .i64 1), (.int .u64 0), (.int .u64 0)]) ∧ Only Nil w w' := by
  have hni : (n : Int) ≤ 8 := by omega
  have hbi : (b : Int) ≤ 1000 := by omega
  have wn : IntKind.u64.wrap (n : Int) = (n : Int) := by rw [IntKind.wrap_u64]; omega
  have wv : IntKind.i64.wrap vu = vu := IntWalk.i64_in _ (by omega)
  have wb : IntKind.i64.wrap ((b : Int) + vu) = (b : Int) + vu := IntWalk.i64_in _ (by omega)
  have hvn : ¬ ((n : Int) ≤ vu) := by omega
  have hl' := Lib.hid hl
  clear hn8 hb hv hl
  go_enter Try.func23, Try.ntmps23
  go_upto_region 1 with (fail)
  obtain ⟨n1, n2, n3, n4⟩ := three_new w (.cells #[.int .i64 (b : Int), .int .i64 (n : Int)] 25) (.cells #[.int .i64 2, .int .u64 vu, .slice a 1 cap] 43) (.cells #[.bool false, .int .i64 0, .int .i64 0, .int .u64 0, .int .u64 0, .int .i64 0, .int .u64 0, .int .u64 0] 48)
  generalize (((w.alloc (.cells #[.int .i64 (b : Int), .int .i64 (n : Int)] 25)).alloc (.cells #[.int .i64 2, .int .u64 vu, .slice a 1 cap] 43)).alloc (.cells #[.bool false, .int .i64 0, .int .i64 0, .int .u64 0, .int .u64 0, .int .i64 0, .int .u64 0, .int .u64 0] 48)) = Z at *
  have lW := Lib.hid (hl'.out.keep n4 (fun _ _ _ h => h.elim))
  obtain ⟨c0, c1, c2, c3, c4, c5, c6, c7, f0, f1, f2, f3, f4, f5, f6, f7⟩ := want_cells n3
  have bW0 := Lib.hid n3
  have n4' := Lib.hid n4
  have r0 : Z.cell? ⟨w.heap.size, 0, none⟩ = some (.int .i64 (b : Int)) := (by simp [World.cell?, n1])
  have r1 : Z.cell? ⟨w.heap.size, 1, none⟩ = some (.int .i64 (n : Int)) := (by simp [World.cell?, n1])
  have k0 : Z.cell? ⟨w.heap.size + 1, 0, none⟩ = some (.int .i64 2) := (by simp [World.cell?, n2])
  have k1 : Z.cell? ⟨w.heap.size + 1, 1, none⟩ = some (.int .u64 vu) := (by simp [World.cell?, n2])
  have k2 : Z.cell? ⟨w.heap.size + 1, 2, none⟩ = some (.slice a 1 cap) := (by simp [World.cell?, n2])
  clear n1 n2 n3 n4
  go_wp2_with (fail)
  refine bodyPost_ret (results_agg rfl _ _ (w.heap.size + 1 + 1) [(.bool true), (.int .i64 0), (.int .i64 0), (.int .u64 0), (.int .u64 0), (.int .i64 1), (.int .u64 0), (.int .u64 0)] Try.isAgg48 Try.sizeOf48 rfl (set8_heap bW0.out (.bool true) (.int .i64 0) (.int .i64 0) (.int .u64 0) (.int .u64 0) (.int .i64 1) (.int .u64 0) (.int .u64 0))) rfl ?_
  exact ⟨by simp, n4'.out.then (set8_only _ _ (.bool true) (.int .i64 0) (.int .i64 0) (.int .u64 0) (.int .u64 0) (.int .i64 1) (.int .u64 0) (.int .u64 0)) (fun q hq hl => by omega)⟩

set_option maxRecDepth 100000 in
set_option maxHeartbeats 8000000 in
theorem rnext_poll_out (w : World) (b n : Nat) (vu : Int) (a : Option Addr) (cap : Nat) (len : Nat) (hn8 : n ≤ 8) (hb : b ≤ 1000) (hv : (n : Int) ≤ vu) :
    Calls Try.prog 23 #[.agg #[.int .i64 (b : Int), .int .i64 (n : Int)], .agg #[.int .i64 3, .int .u64 vu, .slice a len cap]] w fun e w' => e = .returned (.agg #[(.bool true), (.int .i64 0), (.int .i64 0), (.int .u64 0), (.int .u64 0), (.int .i64 4), (.int .u64 0), (.int .u64 0)]) ∧ Only Nil w w' := by
  have hni : (n : Int) ≤ 8 := by omega
  have hbi : (b : Int) ≤ 1000 := by omega
  have wn : IntKind.u64.wrap (n : Int) = (n : Int) := by rw [IntKind.wrap_u64]; omega
  clear hn8 hb
  go_enter Try.func23, Try.ntmps23
  go_upto_region 1 with (fail)
  obtain ⟨n1, n2, n3, n4⟩ := three_new w (.cells #[.int .i64 (b : Int), .int .i64 (n : Int)] 25) (.cells #[.int .i64 3, .int .u64 vu, .slice a len cap] 43) (.cells #[.bool false, .int .i64 0, .int .i64 0, .int .u64 0, .int .u64 0, .int .i64 0, .int .u64 0, .int .u64 0] 48)
  generalize (((w.alloc (.cells #[.int .i64 (b : Int), .int .i64 (n : Int)] 25)).alloc (.cells #[.int .i64 3, .int .u64 vu, .slice a len cap] 43)).alloc (.cells #[.bool false, .int .i64 0, .int .i64 0, .int .u64 0, .int .u64 0, .int .i64 0, .int .u64 0, .int .u64 0] 48)) = Z at *
  obtain ⟨c0, c1, c2, c3, c4, c5, c6, c7, f0, f1, f2, f3, f4, f5, f6, f7⟩ := want_cells n3
  have bW0 := Lib.hid n3
  have n4' := Lib.hid n4
  have r0 : Z.cell? ⟨w.heap.size, 0, none⟩ = some (.int .i64 (b : Int)) := (by simp [World.cell?, n1])
  have r1 : Z.cell? ⟨w.heap.size, 1, none⟩ = some (.int .i64 (n : Int)) := (by simp [World.cell?, n1])
  have k0 : Z.cell? ⟨w.heap.size + 1, 0, none⟩ = some (.int .i64 3) := (by simp [World.cell?, n2])
  have k1 : Z.cell? ⟨w.heap.size + 1, 1, none⟩ = some (.int .u64 vu) := (by simp [World.cell?, n2])
  have k2 : Z.cell? ⟨w.heap.size + 1, 2, none⟩ = some (.slice a len cap) := (by simp [World.cell?, n2])
  clear n1 n2 n3 n4
  go_wp2_with (fail)
  refine bodyPost_ret (results_agg rfl _ _ (w.heap.size + 1 + 1) [(.bool true), (.int .i64 0), (.int .i64 0), (.int .u64 0), (.int .u64 0), (.int .i64 4), (.int .u64 0), (.int .u64 0)] Try.isAgg48 Try.sizeOf48 rfl (set8_heap bW0.out (.bool true) (.int .i64 0) (.int .i64 0) (.int .u64 0) (.int .u64 0) (.int .i64 4) (.int .u64 0) (.int .u64 0))) rfl ?_
  exact ⟨by simp, n4'.out.then (set8_only _ _ (.bool true) (.int .i64 0) (.int .i64 0) (.int .u64 0) (.int .u64 0) (.int .i64 4) (.int .u64 0) (.int .u64 0)) (fun q hq hl => by omega)⟩

set_option maxRecDepth 100000 in
set_option maxHeartbeats 8000000 in
theorem rnext_poll_first (w : World) (b n : Nat) (vu : Int) (a : Option Addr) (cap : Nat) (hn8 : n ≤ 8) (hb : b ≤ 1000) (hv : 0 ≤ vu ∧ vu < (n : Int)) :
    Calls Try.prog 23 #[.agg #[.int .i64 (b : Int), .int .i64 (n : Int)], .agg #[.int .i64 3, .int .u64 vu, .slice a 0 cap]] w fun e w' => e = .returned (.agg #[(.bool false), (.int .i64 1), (.int .i64 ((b : Int) + vu)), (.int .u64 0), (.int .u64 0), (.int .i64 0), (.int .u64 0), (.int .u64 0)]) ∧ Only Nil w w' := by
  have hni : (n : Int) ≤ 8 := by omega
  have hbi : (b : Int) ≤ 1000 := by omega
  have wn : IntKind.u64.wrap (n : Int) = (n : Int) := by rw [IntKind.wrap_u64]; omega
  have wv : IntKind.i64.wrap vu = vu := IntWalk.i64_in _ (by omega)
  have wb : IntKind.i64.wrap ((b : Int) + vu) = (b : Int) + vu := IntWalk.i64_in _ (by omega)
  have hvn : ¬ ((n : Int) ≤ vu) := by omega
  clear hn8 hb hv
  go_enter Try.func23, Try.ntmps23
  go_upto_region 1 with (fail)
  obtain ⟨n1, n2, n3, n4⟩ := three_new w (.cells #[.int .i64 (b : Int), .int .i64 (n : Int)] 25) (.cells #[.int .i64 3, .int .u64 vu, .slice a 0 cap] 43) (.cells #[.bool false, .int .i64 0, .int .i64 0, .int .u64 0, .int .u64 0, .int .i64 0, .int .u64 0, .int .u64 0] 48)
  generalize (((w.alloc (.cells #[.int .i64 (b : Int), .int .i64 (n : Int)] 25)).alloc (.cells #[.int .i64 3, .int .u64 vu, .slice a 0 cap] 43)).alloc (.cells #[.bool false, .int .i64 0, .int .i64 0, .int .u64 0, .int .u64 0, .int .i64 0, .int .u64 0, .int .u64 0] 48)) = Z at *
  obtain ⟨c0, c1, c2, c3, c4, c5, c6, c7, f0, f1, f2, f3, f4, f5, f6, f7⟩ := want_cells n3
  have bW0 := Lib.hid n3
  have n4' := Lib.hid n4
  have r0 : Z.cell? ⟨w.heap.size, 0, none⟩ = some (.int .i64 (b : Int)) := (by simp [World.cell?, n1])
  have r1 : Z.cell? ⟨w.heap.size, 1, none⟩ = some (.int .i64 (n : Int)) := (by simp [World.cell?, n1])
  have k0 : Z.cell? ⟨w.heap.size + 1, 0, none⟩ = some (.int .i64 3) := (by simp [World.cell?, n2])
  have k1 : Z.cell? ⟨w.heap.size + 1, 1, none⟩ = some (.int .u64 vu) := (by simp [World.cell?, n2])
  have k2 : Z.cell? ⟨w.heap.size + 1, 2, none⟩ = some (.slice a 0 cap) := (by simp [World.cell?, n2])
  clear n1 n2 n3 n4
  go_wp2_with (fail)
  refine bodyPost_ret (results_agg rfl _ _ (w.heap.size + 1 + 1) [(.bool false), (.int .i64 1), (.int .i64 ((b : Int) + vu)), (.int .u64 0), (.int .u64 0), (.int .i64 0), (.int .u64 0), (.int .u64 0)] Try.isAgg48 Try.sizeOf48 rfl (set8_heap bW0.out (.bool false) (.int .i64 1) (.int .i64 ((b : Int) + vu)) (.int .u64 0) (.int .u64 0) (.int .i64 0) (.int .u64 0) (.int .u64 0))) rfl ?_
  exact ⟨by simp, n4'.out.then (set8_only _ _ (.bool false) (.int .i64 1) (.int .i64 ((b : Int) + vu)) (.int .u64 0) (.int .u64 0) (.int .i64 0) (.int .u64 0) (.int .u64 0)) (fun q hq hl => by omega)⟩

set_option maxRecDepth 100000 in
set_option maxHeartbeats 8000000 in
theorem rnext_poll_yes (w : World) (b n : Nat) (vu : Int) (a : Option Addr) (cap : Nat) (y : Int) (hn8 : n ≤ 8) (hb : b ≤ 1000) (hv : 0 ≤ vu ∧ vu < (n : Int)) (hl : LogIn w a [y]) (hy : y = 0) :
    Calls Try.prog 23 #[.agg #[.int .i64 (b : Int), .int .i64 (n : Int)], .agg #[.int .i64 3, .int .u64 vu, .slice a 1 cap]] w fun e w' => e = .returned (.agg #[(.bool true), (.int .i64 0), (.int .i64 0), (.int .u64 0), (.int .u64 0), (.int .i64 1), (.int .u64 0), (.int .u64 0)]) ∧ Only Nil w w' := by
  have hni : (n : Int) ≤ 8 := by omega
  have hbi : (b : Int) ≤ 1000 := by omega
  have wn : IntKind.u64.wrap (n : Int) = (n : Int) := by rw [IntKind.wrap_u64]; omega
  have wv : IntKind.i64.wrap vu = vu := IntWalk.i64_in _ (by omega)
  have wb : IntKind.i64.wrap ((b : Int) + vu) = (b : Int) + vu := IntWalk.i64_in _ (by omega)
  have hvn : ¬ ((n : Int) ≤ vu) := by omega
  have hl' := Lib.hid hl
  clear hn8 hb hv hl
  go_enter Try.func23, Try.ntmps23
  go_upto_region 1 with (fail)
  obtain ⟨n1, n2, n3, n4⟩ := three_new w (.cells #[.int .i64 (b : Int), .int .i64 (n : Int)] 25) (.cells #[.int .i64 3, .int .u64 vu, .slice a 1 cap] 43) (.cells #[.bool false, .int .i64 0, .int .i64 0, .int .u64 0, .int .u64 0, .int .i64 0, .int .u64 0, .int .u64 0] 48)
  generalize (((w.alloc (.cells #[.int .i64 (b : Int), .int .i64 (n : Int)] 25)).alloc (.cells #[.int .i64 3, .int .u64 vu, .slice a 1 cap] 43)).alloc (.cells #[.bool false, .int .i64 0, .int .i64 0, .int .u64 0, .int .u64 0, .int .i64 0, .int .u64 0, .int .u64 0] 48)) = Z at *
  have lW := Lib.hid (hl'.out.keep n4 (fun _ _ _ h => h.elim))
  obtain ⟨c0, c1, c2, c3, c4, c5, c6, c7, f0, f1, f2, f3, f4, f5, f6, f7⟩ := want_cells n3
  have bW0 := Lib.hid n3
  have n4' := Lib.hid n4
  have r0 : Z.cell? ⟨w.heap.size, 0, none⟩ = some (.int .i64 (b : Int)) := (by simp [World.cell?, n1])
  have r1 : Z.cell? ⟨w.heap.size, 1, none⟩ = some (.int .i64 (n : Int)) := (by simp [World.cell?, n1])
  have k0 : Z.cell? ⟨w.heap.size + 1, 0, none⟩ = some (.int .i64 3) := (by simp [World.cell?, n2])
  have k1 : Z.cell? ⟨w.heap.size + 1, 1, none⟩ = some (.int .u64 vu) := (by simp [World.cell?, n2])
  have k2 : Z.cell? ⟨w.heap.size + 1, 2, none⟩ = some (.slice a 1 cap) := (by simp [World.cell?, n2])
  clear n1 n2 n3 n4
  obtain ⟨g, rfl, hg1, hg2⟩ := lW.out 0 (by simp)
  have x0 : Z.cell? ⟨g, 0, none⟩ = some (.int .u64 y) := hg2 0 (by simp)
  clear hg1 hg2
  rw [hy] at x0
  clear hy
  go_wp2_with (fail)
  refine bodyPost_ret (results_agg rfl _ _ (w.heap.size + 1 + 1) [(.bool true), (.int .i64 0), (.int .i64 0), (.int .u64 0), (.int .u64 0), (.int .i64 1), (.int .u64 0), (.int .u64 0)] Try.isAgg48 Try.sizeOf48 rfl (set8_heap bW0.out (.bool true) (.int .i64 0) (.int .i64 0) (.int .u64 0) (.int .u64 0) (.int .i64 1) (.int .u64 0) (.int .u64 0))) rfl ?_
  exact ⟨by simp, n4'.out.then (set8_only _ _ (.bool true) (.int .i64 0) (.int .i64 0) (.int .u64 0) (.int .u64 0) (.int .i64 1) (.int .u64 0) (.int .u64 0)) (fun q hq hl => by omega)⟩

set_option maxRecDepth 100000 in
set_option maxHeartbeats 8000000 in
theorem rnext_poll_no (w : World) (b n : Nat) (vu : Int) (a : Option Addr) (cap : Nat) (y : Int) (hn8 : n ≤ 8) (hb : b ≤ 1000) (hv : 0 ≤ vu ∧ vu < (n : Int)) (hl : LogIn w a [y]) (hy : (y == 0) = false) :
    Calls Try.prog 23 #[.agg #[.int .i64 (b : Int), .int .i64 (n : Int)], .agg #[.int .i64 3, .int .u64 vu, .slice a 1 cap]] w fun e w' => e = .returned (.agg #[(.bool true), (.int .i64 0), (.int .i64 0), (.int .u64 0), (.int .u64 0), (.int .i64 4), (.int .u64 0), (.int .u64 0)]) ∧ Only Nil w w' := by
  have hni : (n : Int) ≤ 8 := by omega
  have hbi : (b : Int) ≤ 1000 := by omega
  have wn : IntKind.u64.wrap (n : Int) = (n : Int) := by rw [IntKind.wrap_u64]; omega
  have wv : IntKind.i64.wrap vu = vu := IntWalk.i64_in _ (by omega)
  have wb : IntKind.i64.wrap ((b : Int) + vu) = (b : Int) + vu := IntWalk.i64_in _ (by omega)
  have hvn : ¬ ((n : Int) ≤ vu) := by omega
  have hl' := Lib.hid hl
  clear hn8 hb hv hl
  go_enter Try.func23, Try.ntmps23
  go_upto_region 1 with (fail)
  obtain ⟨n1, n2, n3, n4⟩ := three_new w (.cells #[.int .i64 (b : Int), .int .i64 (n : Int)] 25) (.cells #[.int .i64 3, .int .u64 vu, .slice a 1 cap] 43) (.cells #[.bool false, .int .i64 0, .int .i64 0, .int .u64 0, .int .u64 0, .int .i64 0, .int .u64 0, .int .u64 0] 48)
  generalize (((w.alloc (.cells #[.int .i64 (b : Int), .int .i64 (n : Int)] 25)).alloc (.cells #[.int .i64 3, .int .u64 vu, .slice a 1 cap] 43)).alloc (.cells #[.bool false, .int .i64 0, .int .i64 0, .int .u64 0, .int .u64 0, .int .i64 0, .int .u64 0, .int .u64 0] 48)) = Z at *
  have lW := Lib.hid (hl'.out.keep n4 (fun _ _ _ h => h.elim))
  obtain ⟨c0, c1, c2, c3, c4, c5, c6, c7, f0, f1, f2, f3, f4, f5, f6, f7⟩ := want_cells n3
  have bW0 := Lib.hid n3
  have n4' := Lib.hid n4
  have r0 : Z.cell? ⟨w.heap.size, 0, none⟩ = some (.int .i64 (b : Int)) := (by simp [World.cell?, n1])
  have r1 : Z.cell? ⟨w.heap.size, 1, none⟩ = some (.int .i64 (n : Int)) := (by simp [World.cell?, n1])
  have k0 : Z.cell? ⟨w.heap.size + 1, 0, none⟩ = some (.int .i64 3) := (by simp [World.cell?, n2])
  have k1 : Z.cell? ⟨w.heap.size + 1, 1, none⟩ = some (.int .u64 vu) := (by simp [World.cell?, n2])
  have k2 : Z.cell? ⟨w.heap.size + 1, 2, none⟩ = some (.slice a 1 cap) := (by simp [World.cell?, n2])
  clear n1 n2 n3 n4
  obtain ⟨g, rfl, hg1, hg2⟩ := lW.out 0 (by simp)
  have x0 : Z.cell? ⟨g, 0, none⟩ = some (.int .u64 y) := hg2 0 (by simp)
  clear hg1 hg2
  go_wp2_with (fail)
  refine bodyPost_ret (results_agg rfl _ _ (w.heap.size + 1 + 1) [(.bool true), (.int .i64 0), (.int .i64 0), (.int .u64 0), (.int .u64 0), (.int .i64 4), (.int .u64 0), (.int .u64 0)] Try.isAgg48 Try.sizeOf48 rfl (set8_heap bW0.out (.bool true) (.int .i64 0) (.int .i64 0) (.int .u64 0) (.int .u64 0) (.int .i64 4) (.int .u64 0) (.int .u64 0))) rfl ?_
  exact ⟨by simp, n4'.out.then (set8_only _ _ (.bool true) (.int .i64 0) (.int .i64 0) (.int .u64 0) (.int .u64 0) (.int .i64 4) (.int .u64 0) (.int .u64 0)) (fun q hq hl => by omega)⟩

theorem rnext_one (q : Kd) (kind : Nat) (hq : (kind : Int) = q.num) (w : World) (b n : Nat) (v : Int) (x : Nat) (a : Option Addr) (cap : Nat) (log : List Int) (hn8 : n ≤ 8) (hb : b ≤ 1000) (h63 : -9223372036854775808 ≤ v ∧ v < 9223372036854775808) (hl : LogIn w a log) (hf : Fits n (bgn q n v x) log) :
    Calls Try.prog 23 #[.agg #[.int .i64 (b : Int), .int .i64 (n : Int)], .agg #[.int .i64 (kind : Int), .int .u64 (IntKind.u64.wrap v), .slice a log.length cap]] w fun e w' => e = .returned (wantOf b (runL n (bgn q n v x) log)) ∧ Only Nil w w' := by
  rw [hq]
  by_cases hv : 0 ≤ v ∧ v < (n : Int)
  · obtain ⟨k, rfl⟩ := Int.eq_ofNat_of_zero_le hv.1
    have hk : k < n := by omega
    have wv : IntKind.u64.wrap (k : Int) = (k : Int) := by rw [IntKind.wrap_u64]; omega
    rw [wv]
    rw [bgn_in q n k x hk] at hf ⊢
    rcases run_one n q k x (x + 1) log hf with ⟨rfl, e⟩ | ⟨y, rfl, e⟩
    · rw [e]
      cases q with
      | sleep => exact (rnext_sleep_first w b n k a cap hn8 hb hv).mono fun e w' h => ⟨h.1.trans (by simp [wantOf, acc, Kd.acc, accWant]), h.2⟩
      | up => exact (rnext_up_first w b n k a cap hn8 hb hv).mono fun e w' h => ⟨h.1.trans (by simp [wantOf, acc, Kd.acc, accWant]), h.2⟩
      | poll => exact (rnext_poll_first w b n k a cap hn8 hb hv).mono fun e w' h => ⟨h.1.trans (by simp [wantOf, acc, Kd.acc, accWant]), h.2⟩
    · rw [e]
      cases q with
      | sleep => exact rnext_sleep_done w b n k a cap y hn8 hb hv hl
      | up => exact rnext_up_done w b n k a cap y hn8 hb hv hl
      | poll =>
        by_cases hy : y = 0
        · rw [show Kd.out y .poll = 1 from if_pos hy]; exact rnext_poll_yes w b n k a cap y hn8 hb hv hl hy
        · rw [show Kd.out y .poll = 4 from if_neg hy]; exact rnext_poll_no w b n k a cap y hn8 hb hv hl (by simpa using hy)
  · have e0 : bgn q n v x = .over 4 (-1) := if_neg hv
    rw [e0] at hf ⊢
    rw [runL_over]
    have hw : (n : Int) ≤ IntKind.u64.wrap v := by rw [IntKind.wrap_u64]; omega
    cases q with
    | sleep => exact rnext_sleep_out w b n _ a cap _ hn8 hb hw
    | up => exact rnext_up_out w b n _ a cap _ hn8 hb hw
    | poll => exact rnext_poll_out w b n _ a cap _ hn8 hb hw
theorem rnext_any (w : World) (b n kind : Nat) (v : Int) (x : Nat) (a : Option Addr) (cap : Nat) (log : List Int) (hk : 1 ≤ kind ∧ kind ≤ 4) (hn0 : 0 < n) (hn8 : n ≤ 8) (hb : b ≤ 1000) (h63 : -9223372036854775808 ≤ v ∧ v < 9223372036854775808) (hl : LogIn w a log) (hf : Fits n (begin n kind v x) log) (hlen : log.length ≤ 1000000) :
    Calls Try.prog 23 #[.agg #[.int .i64 (b : Int), .int .i64 (n : Int)], .agg #[.int .i64 (kind : Int), .int .u64 (IntKind.u64.wrap v), .slice a log.length cap]] w fun e w' => e = .returned (wantOf b (runL n (begin n kind v x) log)) ∧ Only Nil w w' := by
  have hcases : kind = 1 ∨ kind = 2 ∨ kind = 3 ∨ kind = 4 := by omega
  rcases hcases with rfl | rfl | rfl | rfl
  · exact rnext_one .sleep 1 rfl w b n v x a cap log hn8 hb h63 hl hf
  · exact rnext_one .up 2 rfl w b n v x a cap log hn8 hb h63 hl hf
  · exact rnext_one .poll 3 rfl w b n v x a cap log hn8 hb h63 hl hf
  · exact rnext_ring w b n _ a cap log hn0 hn8 hb hl hf hlen
end Go.Proofs.Ytfhbgabblegecaa.Bl
