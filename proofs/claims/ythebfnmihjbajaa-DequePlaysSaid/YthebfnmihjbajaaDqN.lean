/- The document's own functions of a deque (trouperef04): what it wants next, after what its accesses have answered. -/
import Derived.Test.YthebfnmihjbajaaDqB
import Derived.WalkSpells
import Derived.BigQuiet
import Derived.Deep.QuietTactic
import Derived.Deep.RegionHeld3
import Derived.IntWalk
namespace Go.Proofs.Ythebfnmihjbajaa.Dq
open Go.RowKit

theorem rslot_any (w : World) (b c : Nat) (x : Int) (hx : In64 x) (hc : 0 < c) (hc2 : c ≤ 64) (hb : b ≤ 1000) :
    Calls Try.prog 48 #[.agg #[.int .i64 (b : Int), .int .i64 (c : Int)], .int .u64 x] w fun e w' => e = .returned (.int .i64 (slotAt b c x : Int)) ∧ Only Nil w w' := by
  obtain ⟨t, rfl⟩ := Int.eq_ofNat_of_zero_le hx.1
  have fin := Lib.hid ((Only.refl Nil w).alloc (.cells #[.int .i64 (b : Int), .int .i64 (c : Int)] 31))
  have e1 : IntKind.u64.wrap (c : Int) = (c : Int) := by rw [IntKind.wrap_u64]; omega
  have e2 : Int.tmod (t : Int) (c : Int) = ((t % c : Nat) : Int) := rfl
  have e3 : ¬ ((c : Int) = 0) := by omega
  have hm := Nat.mod_lt t hc
  have e4 : (slotAt b c (t : Int) : Int) = (b : Int) + 2 + ((t % c : Nat) : Int) := by unfold slotAt; simp; omega
  rw [e4]
  clear hx
  generalize hr : t % c = r at e2 hm ⊢
  have hb' : (b : Int) ≤ 1000 := by omega
  have hr' : (r : Int) < 64 := by omega
  go_enter Try.func48, Try.ntmps48
  go_wp2
  go_quiet (fail)
  go_wp2
  go_ret
  exact ⟨rfl, fin.out.drewN _⟩
theorem rload_any (w : World) (i : Int) :
    Calls Try.prog 47 #[.int .i64 i] w fun e w' => e = .returned (.agg #[.bool false, .int .i64 1, .int .i64 i, .int .u64 0, .int .u64 0, .int .i64 0, .int .u64 0, .int .u64 0]) ∧ Only Nil w w' := by
  have fin := Lib.hid ((Only.refl Nil w).alloc (.cells #[.bool false, .int .i64 1, .int .i64 i, .int .u64 0, .int .u64 0, .int .i64 0, .int .u64 0, .int .u64 0] 49))
  have b0 := Lib.hid (heap_new w (.cells #[.bool false, .int .i64 1, .int .i64 i, .int .u64 0, .int .u64 0, .int .i64 0, .int .u64 0, .int .u64 0] 49))
  go_enter Try.func47, Try.ntmps47
  go_wp2
  refine bodyPost_ret (results_agg rfl _ _ w.heap.size [.bool false, .int .i64 1, .int .i64 i, .int .u64 0, .int .u64 0, .int .i64 0, .int .u64 0, .int .u64 0] Try.isAgg49 Try.sizeOf49 rfl b0.out) rfl ?_
  exact ⟨rfl, fin.out⟩
theorem rover_any (w : World) (o v : Int) :
    Calls Try.prog 46 #[.int .i64 o, .int .u64 v] w fun e w' => e = .returned (.agg #[.bool true, .int .i64 0, .int .i64 0, .int .u64 0, .int .u64 0, .int .i64 o, .int .u64 v, .int .u64 0]) ∧ Only Nil w w' := by
  have fin := Lib.hid ((Only.refl Nil w).alloc (.cells #[.bool true, .int .i64 0, .int .i64 0, .int .u64 0, .int .u64 0, .int .i64 o, .int .u64 v, .int .u64 0] 49))
  have b0 := Lib.hid (heap_new w (.cells #[.bool true, .int .i64 0, .int .i64 0, .int .u64 0, .int .u64 0, .int .i64 o, .int .u64 v, .int .u64 0] 49))
  go_enter Try.func46, Try.ntmps46
  go_wp2
  refine bodyPost_ret (results_agg rfl _ _ w.heap.size [.bool true, .int .i64 0, .int .i64 0, .int .u64 0, .int .u64 0, .int .i64 o, .int .u64 v, .int .u64 0] Try.isAgg49 Try.sizeOf49 rfl b0.out) rfl ?_
  exact ⟨rfl, fin.out⟩

theorem drew_heap (w : World) : w.drew.heap = w.heap := rfl
theorem far8 {w : World} {q p off : Nat} {x : Value} (h : w.cell? ⟨p, off, none⟩ = some x) (hne : p ≠ q) (y0 y1 y2 y3 y4 y5 y6 y7 : Value) :
    ((((((((w.setCell ⟨q, 0, none⟩ y0).setCell ⟨q, 1, none⟩ y1).setCell ⟨q, 2, none⟩ y2).setCell ⟨q, 3, none⟩ y3).setCell ⟨q, 4, none⟩ y4).setCell ⟨q, 5, none⟩ y5).setCell ⟨q, 6, none⟩ y6).setCell ⟨q, 7, none⟩ y7).drew.cell? ⟨p, off, none⟩ = some x := by
  have e : ∀ (w : World) (o : Nat) (y : Value), (w.setCell ⟨q, o, none⟩ y).heap[p]? = w.heap[p]? := fun w o y => Below.heap_setCell _ _ _ _ hne
  refine (World.cell?_of_block (a := ⟨p, off, none⟩) (w := w) ?_).trans h
  rw [drew_heap]
  exact (e _ 7 y7).trans ((e _ 6 y6).trans ((e _ 5 y5).trans ((e _ 4 y4).trans ((e _ 3 y3).trans ((e _ 2 y2).trans ((e _ 1 y1).trans (e _ 0 y0)))))))
theorem set8_heap_d {w : World} {q : Nat} {x0 x1 x2 x3 x4 x5 x6 x7 : Value} {t : TypeId} (h : w.heap[q]? = some (.cells [x0, x1, x2, x3, x4, x5, x6, x7].toArray t (0, 0))) (y0 y1 y2 y3 y4 y5 y6 y7 : Value) :
    (((((((((w.setCell ⟨q, 0, none⟩ y0).setCell ⟨q, 1, none⟩ y1).setCell ⟨q, 2, none⟩ y2).setCell ⟨q, 3, none⟩ y3).setCell ⟨q, 4, none⟩ y4).setCell ⟨q, 5, none⟩ y5).setCell ⟨q, 6, none⟩ y6).setCell ⟨q, 7, none⟩ y7)).drew.heap[q]? = some (.cells [y0, y1, y2, y3, y4, y5, y6, y7].toArray t (0, 0)) := by
  rw [drew_heap]; exact set8_heap h y0 y1 y2 y3 y4 y5 y6 y7
theorem log_at {w : World} {a : Option Addr} {log : List Int} (h : LogIn w a log) (h0 : 0 < log.length) : ∃ g, a = some ⟨g, 0, none⟩ ∧ g < w.heap.size ∧ ∀ w', Only Nil w w' → ∀ j, j < log.length → w'.cell? ⟨g, j, none⟩ = some (.int .u64 (log.getD j 0)) := by
  obtain ⟨g, rfl, hlt, hc⟩ := h 0 h0
  refine ⟨g, rfl, hlt, fun w' o j hj => ?_⟩
  exact (World.cell?_of_block (a := ⟨g, j, none⟩) (o.block g hlt (fun h => h))).trans (hc j hj)
set_option linter.unusedVariables false in
set_option linter.unusedSimpArgs false in
set_option maxRecDepth 100000 in
set_option maxHeartbeats 4000000 in
theorem rpush_0 (w : World) (b c : Nat) (v : Int) (a : Option Addr) (cap : Nat) (hc : 0 < c) (hc2 : c ≤ 64) (hb : b ≤ 1000) :
    Calls Try.prog 35 #[.agg #[.int .i64 (b : Int), .int .i64 (c : Int)], .agg #[.int .i64 1, .int .u64 v, .slice a 0 cap]] w fun e w' => e = .returned (wantOf b c (.push0 v)) ∧ Only Nil w w' := by
  have sl := Lib.hid (fun (w : World) (x : Int) (hx : In64 x) => rslot_any w b c x hx hc hc2 hb)
  have ec : IntKind.u64.wrap (c : Int) = (c : Int) := by rw [IntKind.wrap_u64]; omega
  have hb' : (b : Int) ≤ 1000 := by omega
  clear hc hc2 hb
  go_enter Try.func35, Try.ntmps35
  go_wp2_with (fail)
  obtain ⟨n1, n2, n3, n4⟩ := three_new w (.cells #[.int .i64 (b : Int), .int .i64 (c : Int)] 31) (.cells #[.int .i64 1, .int .u64 v, .slice a 0 cap] 44) (.cells #[.bool false, .int .i64 0, .int .i64 0, .int .u64 0, .int .u64 0, .int .i64 0, .int .u64 0, .int .u64 0] 49)
  have bl := Lib.hid (fun (w' : World) (o : Only Nil (((w.alloc (.cells #[.int .i64 (b : Int), .int .i64 (c : Int)] 31)).alloc (.cells #[.int .i64 1, .int .u64 v, .slice a 0 cap] 44)).alloc (.cells #[.bool false, .int .i64 0, .int .i64 0, .int .u64 0, .int .u64 0, .int .i64 0, .int .u64 0, .int .u64 0] 49)) w') =>
    And.intro ((o.block _ (lt_of_block n1) (fun h => h)).trans n1) (And.intro ((o.block _ (lt_of_block n2) (fun h => h)).trans n2) ((o.block _ (lt_of_block n3) (fun h => h)).trans n3)))
  have n4' := Lib.hid n4
  clear n1 n2 n3 n4
  generalize (((w.alloc (.cells #[.int .i64 (b : Int), .int .i64 (c : Int)] 31)).alloc (.cells #[.int .i64 1, .int .u64 v, .slice a 0 cap] 44)).alloc (.cells #[.bool false, .int .i64 0, .int .i64 0, .int .u64 0, .int .u64 0, .int .i64 0, .int .u64 0, .int .u64 0] 49)) = W0 at bl n4' ⊢
  have oo_w0 := Lib.hid (Only.refl Nil W0)
  obtain ⟨bR, bO, bW⟩ := bl.out W0 oo_w0.out
  have bW_ := Lib.hid bW
  obtain ⟨c0, c1, c2, c3, c4, c5, c6, c7, f0, f1, f2, f3, f4, f5, f6, f7⟩ := want_cells bW
  have r0 : W0.cell? ⟨w.heap.size, 0, none⟩ = some (.int .i64 (b : Int)) := (by simp [World.cell?, bR])
  have r1 : W0.cell? ⟨w.heap.size, 1, none⟩ = some (.int .i64 (c : Int)) := (by simp [World.cell?, bR])
  have o1 : W0.cell? ⟨w.heap.size + 1, 1, none⟩ = some (.int .u64 v) := (by simp [World.cell?, bO])
  clear bR bO bW
  go_quiet (fail)
  have oo_q0 := Lib.hid (oo_w0.out.drewN nq)
  clear c0 c1 c2 c3 c4 c5 c6 c7 f0 f1 f2 f3 f4 f5 f6 f7 r0 r1 o1
  generalize W0.drewN nq = Wq0 at oo_q0 ⊢
  obtain ⟨bR, bO, bW⟩ := bl.out Wq0 oo_q0.out
  have bW_ := Lib.hid bW
  obtain ⟨c0, c1, c2, c3, c4, c5, c6, c7, f0, f1, f2, f3, f4, f5, f6, f7⟩ := want_cells bW
  have r0 : Wq0.cell? ⟨w.heap.size, 0, none⟩ = some (.int .i64 (b : Int)) := (by simp [World.cell?, bR])
  have r1 : Wq0.cell? ⟨w.heap.size, 1, none⟩ = some (.int .i64 (c : Int)) := (by simp [World.cell?, bR])
  have o1 : Wq0.cell? ⟨w.heap.size + 1, 1, none⟩ = some (.int .u64 v) := (by simp [World.cell?, bO])
  clear bR bO bW
  go_wp2_with (first
    | (go_at_call 47; (with_reducible refine (rload_any _ _).mono ?_); rintro e_ w1 ⟨rfl, q_w1⟩
       have oo_w1 : Hid (Only Nil W0 w1) := Lib.hid (by first | exact (oo_q0.out.trans q_w1) | exact (oo_q0.out.drew.trans q_w1) | exact ((oo_q0.out.drewN _).trans q_w1))
       clear c0 c1 c2 c3 c4 c5 c6 c7 f0 f1 f2 f3 f4 f5 f6 f7 r0 r1 o1
       obtain ⟨bR, bO, bW⟩ := bl.out w1 oo_w1.out
       have bW_ := Lib.hid bW
       obtain ⟨c0, c1, c2, c3, c4, c5, c6, c7, f0, f1, f2, f3, f4, f5, f6, f7⟩ := want_cells bW
       have r0 : w1.cell? ⟨w.heap.size, 0, none⟩ = some (.int .i64 (b : Int)) := (by simp [World.cell?, bR])
       have r1 : w1.cell? ⟨w.heap.size, 1, none⟩ = some (.int .i64 (c : Int)) := (by simp [World.cell?, bR])
       have o1 : w1.cell? ⟨w.heap.size + 1, 1, none⟩ = some (.int .u64 v) := (by simp [World.cell?, bO])
       clear bR bO bW))
  refine bodyPost_ret (results_agg rfl _ _ (w.heap.size + 1 + 1) [.bool false, .int .i64 1, .int .i64 ((b : Int) + 1), .int .u64 0, .int .u64 0, .int .i64 0, .int .u64 0, .int .u64 0] Try.isAgg49 Try.sizeOf49 rfl (set8_heap bW_.out (.bool false) (.int .i64 1) (.int .i64 ((b : Int) + 1)) (.int .u64 0) (.int .u64 0) (.int .i64 0) (.int .u64 0) (.int .u64 0))) rfl ?_
  exact ⟨by simp [wantOf, acc, accWant, up, dn], ((n4'.out.trans oo_w1.out).then (set8_only _ _ (.bool false) (.int .i64 1) (.int .i64 ((b : Int) + 1)) (.int .u64 0) (.int .u64 0) (.int .i64 0) (.int .u64 0) (.int .u64 0)) (fun q hq hl => by omega))⟩

set_option linter.unusedVariables false in
set_option linter.unusedSimpArgs false in
set_option maxRecDepth 100000 in
set_option maxHeartbeats 4000000 in
theorem rpush_1 (w : World) (b c : Nat) (v : Int) (a : Option Addr) (cap : Nat) (x0 : Int) (hc : 0 < c) (hc2 : c ≤ 64) (hb : b ≤ 1000) (hx0 : In64 x0) (hl : LogIn w a [x0]) :
    Calls Try.prog 35 #[.agg #[.int .i64 (b : Int), .int .i64 (c : Int)], .agg #[.int .i64 1, .int .u64 v, .slice a 1 cap]] w fun e w' => e = .returned (wantOf b c (.push1 v x0)) ∧ Only Nil w w' := by
  have sl := Lib.hid (fun (w : World) (x : Int) (hx : In64 x) => rslot_any w b c x hx hc hc2 hb)
  have ec : IntKind.u64.wrap (c : Int) = (c : Int) := by rw [IntKind.wrap_u64]; omega
  obtain ⟨g, rfl, hgl', hg'⟩ := log_at hl (by simp)
  have hg := Lib.hid hg'
  have hgl := Lib.hid hgl'
  clear hg' hl hgl'
  have k0 := Lib.hid hx0
  have hb' : (b : Int) ≤ 1000 := by omega
  clear hc hc2 hb hx0
  go_enter Try.func35, Try.ntmps35
  go_wp2_with (fail)
  obtain ⟨n1, n2, n3, n4⟩ := three_new w (.cells #[.int .i64 (b : Int), .int .i64 (c : Int)] 31) (.cells #[.int .i64 1, .int .u64 v, .slice (some ⟨g, 0, none⟩) 1 cap] 44) (.cells #[.bool false, .int .i64 0, .int .i64 0, .int .u64 0, .int .u64 0, .int .i64 0, .int .u64 0, .int .u64 0] 49)
  have bl := Lib.hid (fun (w' : World) (o : Only Nil (((w.alloc (.cells #[.int .i64 (b : Int), .int .i64 (c : Int)] 31)).alloc (.cells #[.int .i64 1, .int .u64 v, .slice (some ⟨g, 0, none⟩) 1 cap] 44)).alloc (.cells #[.bool false, .int .i64 0, .int .i64 0, .int .u64 0, .int .u64 0, .int .i64 0, .int .u64 0, .int .u64 0] 49)) w') =>
    And.intro ((o.block _ (lt_of_block n1) (fun h => h)).trans n1) (And.intro ((o.block _ (lt_of_block n2) (fun h => h)).trans n2) ((o.block _ (lt_of_block n3) (fun h => h)).trans n3)))
  have n4' := Lib.hid n4
  clear n1 n2 n3 n4
  generalize (((w.alloc (.cells #[.int .i64 (b : Int), .int .i64 (c : Int)] 31)).alloc (.cells #[.int .i64 1, .int .u64 v, .slice (some ⟨g, 0, none⟩) 1 cap] 44)).alloc (.cells #[.bool false, .int .i64 0, .int .i64 0, .int .u64 0, .int .u64 0, .int .i64 0, .int .u64 0, .int .u64 0] 49)) = W0 at bl n4' ⊢
  have oo_w0 := Lib.hid (Only.refl Nil W0)
  obtain ⟨bR, bO, bW⟩ := bl.out W0 oo_w0.out
  have bW_ := Lib.hid bW
  obtain ⟨c0, c1, c2, c3, c4, c5, c6, c7, f0, f1, f2, f3, f4, f5, f6, f7⟩ := want_cells bW
  have r0 : W0.cell? ⟨w.heap.size, 0, none⟩ = some (.int .i64 (b : Int)) := (by simp [World.cell?, bR])
  have r1 : W0.cell? ⟨w.heap.size, 1, none⟩ = some (.int .i64 (c : Int)) := (by simp [World.cell?, bR])
  have o1 : W0.cell? ⟨w.heap.size + 1, 1, none⟩ = some (.int .u64 v) := (by simp [World.cell?, bO])
  clear bR bO bW
  have y0 : W0.cell? ⟨g, 0, none⟩ = some (.int .u64 x0) := hg.out W0 (n4'.out.trans oo_w0.out) 0 (by simp)
  go_quiet (fail)
  have oo_q0 := Lib.hid (oo_w0.out.drewN nq)
  clear c0 c1 c2 c3 c4 c5 c6 c7 f0 f1 f2 f3 f4 f5 f6 f7 r0 r1 o1 y0
  generalize W0.drewN nq = Wq0 at oo_q0 ⊢
  obtain ⟨bR, bO, bW⟩ := bl.out Wq0 oo_q0.out
  have bW_ := Lib.hid bW
  obtain ⟨c0, c1, c2, c3, c4, c5, c6, c7, f0, f1, f2, f3, f4, f5, f6, f7⟩ := want_cells bW
  have r0 : Wq0.cell? ⟨w.heap.size, 0, none⟩ = some (.int .i64 (b : Int)) := (by simp [World.cell?, bR])
  have r1 : Wq0.cell? ⟨w.heap.size, 1, none⟩ = some (.int .i64 (c : Int)) := (by simp [World.cell?, bR])
  have o1 : Wq0.cell? ⟨w.heap.size + 1, 1, none⟩ = some (.int .u64 v) := (by simp [World.cell?, bO])
  clear bR bO bW
  have y0 : Wq0.cell? ⟨g, 0, none⟩ = some (.int .u64 x0) := hg.out Wq0 (n4'.out.trans oo_q0.out) 0 (by simp)
  go_wp2_with (first
    | (go_at_call 47; (with_reducible refine (rload_any _ _).mono ?_); rintro e_ w1 ⟨rfl, q_w1⟩
       have oo_w1 : Hid (Only Nil W0 w1) := Lib.hid (by first | exact (oo_q0.out.trans q_w1) | exact (oo_q0.out.drew.trans q_w1) | exact ((oo_q0.out.drewN _).trans q_w1))
       clear c0 c1 c2 c3 c4 c5 c6 c7 f0 f1 f2 f3 f4 f5 f6 f7 r0 r1 o1 y0
       obtain ⟨bR, bO, bW⟩ := bl.out w1 oo_w1.out
       have bW_ := Lib.hid bW
       obtain ⟨c0, c1, c2, c3, c4, c5, c6, c7, f0, f1, f2, f3, f4, f5, f6, f7⟩ := want_cells bW
       have r0 : w1.cell? ⟨w.heap.size, 0, none⟩ = some (.int .i64 (b : Int)) := (by simp [World.cell?, bR])
       have r1 : w1.cell? ⟨w.heap.size, 1, none⟩ = some (.int .i64 (c : Int)) := (by simp [World.cell?, bR])
       have o1 : w1.cell? ⟨w.heap.size + 1, 1, none⟩ = some (.int .u64 v) := (by simp [World.cell?, bO])
       clear bR bO bW
       have y0 : w1.cell? ⟨g, 0, none⟩ = some (.int .u64 x0) := hg.out w1 (n4'.out.trans oo_w1.out) 0 (by simp)))
  refine bodyPost_ret (results_agg rfl _ _ (w.heap.size + 1 + 1) [.bool false, .int .i64 1, .int .i64 (b : Int), .int .u64 0, .int .u64 0, .int .i64 0, .int .u64 0, .int .u64 0] Try.isAgg49 Try.sizeOf49 rfl (set8_heap bW_.out (.bool false) (.int .i64 1) (.int .i64 (b : Int)) (.int .u64 0) (.int .u64 0) (.int .i64 0) (.int .u64 0) (.int .u64 0))) rfl ?_
  exact ⟨by simp [wantOf, acc, accWant, up, dn], ((n4'.out.trans oo_w1.out).then (set8_only _ _ (.bool false) (.int .i64 1) (.int .i64 (b : Int)) (.int .u64 0) (.int .u64 0) (.int .i64 0) (.int .u64 0) (.int .u64 0)) (fun q hq hl => by omega))⟩

set_option linter.unusedVariables false in
set_option linter.unusedSimpArgs false in
set_option maxRecDepth 100000 in
set_option maxHeartbeats 4000000 in
theorem rpush_2f (w : World) (b c : Nat) (v : Int) (a : Option Addr) (cap : Nat) (x0 x1 : Int) (hc : 0 < c) (hc2 : c ≤ 64) (hb : b ≤ 1000) (hx0 : In64 x0) (hx1 : In64 x1) (hl : LogIn w a [x0, x1]) (hx : (c : Int) ≤ IntKind.u64.wrap (x0 - x1)) :
    Calls Try.prog 35 #[.agg #[.int .i64 (b : Int), .int .i64 (c : Int)], .agg #[.int .i64 1, .int .u64 v, .slice a 2 cap]] w fun e w' => e = .returned (wantOf b c (.over 2 0)) ∧ Only Nil w w' := by
  have sl := Lib.hid (fun (w : World) (x : Int) (hx : In64 x) => rslot_any w b c x hx hc hc2 hb)
  have ec : IntKind.u64.wrap (c : Int) = (c : Int) := by rw [IntKind.wrap_u64]; omega
  obtain ⟨g, rfl, hgl', hg'⟩ := log_at hl (by simp)
  have hg := Lib.hid hg'
  have hgl := Lib.hid hgl'
  clear hg' hl hgl'
  have k0 := Lib.hid hx0
  have k1 := Lib.hid hx1
  have hb' : (b : Int) ≤ 1000 := by omega
  clear hc hc2 hb hx0 hx1
  go_enter Try.func35, Try.ntmps35
  go_wp2_with (fail)
  obtain ⟨n1, n2, n3, n4⟩ := three_new w (.cells #[.int .i64 (b : Int), .int .i64 (c : Int)] 31) (.cells #[.int .i64 1, .int .u64 v, .slice (some ⟨g, 0, none⟩) 2 cap] 44) (.cells #[.bool false, .int .i64 0, .int .i64 0, .int .u64 0, .int .u64 0, .int .i64 0, .int .u64 0, .int .u64 0] 49)
  have bl := Lib.hid (fun (w' : World) (o : Only Nil (((w.alloc (.cells #[.int .i64 (b : Int), .int .i64 (c : Int)] 31)).alloc (.cells #[.int .i64 1, .int .u64 v, .slice (some ⟨g, 0, none⟩) 2 cap] 44)).alloc (.cells #[.bool false, .int .i64 0, .int .i64 0, .int .u64 0, .int .u64 0, .int .i64 0, .int .u64 0, .int .u64 0] 49)) w') =>
    And.intro ((o.block _ (lt_of_block n1) (fun h => h)).trans n1) (And.intro ((o.block _ (lt_of_block n2) (fun h => h)).trans n2) ((o.block _ (lt_of_block n3) (fun h => h)).trans n3)))
  have n4' := Lib.hid n4
  clear n1 n2 n3 n4
  generalize (((w.alloc (.cells #[.int .i64 (b : Int), .int .i64 (c : Int)] 31)).alloc (.cells #[.int .i64 1, .int .u64 v, .slice (some ⟨g, 0, none⟩) 2 cap] 44)).alloc (.cells #[.bool false, .int .i64 0, .int .i64 0, .int .u64 0, .int .u64 0, .int .i64 0, .int .u64 0, .int .u64 0] 49)) = W0 at bl n4' ⊢
  have oo_w0 := Lib.hid (Only.refl Nil W0)
  obtain ⟨bR, bO, bW⟩ := bl.out W0 oo_w0.out
  have bW_ := Lib.hid bW
  obtain ⟨c0, c1, c2, c3, c4, c5, c6, c7, f0, f1, f2, f3, f4, f5, f6, f7⟩ := want_cells bW
  have r0 : W0.cell? ⟨w.heap.size, 0, none⟩ = some (.int .i64 (b : Int)) := (by simp [World.cell?, bR])
  have r1 : W0.cell? ⟨w.heap.size, 1, none⟩ = some (.int .i64 (c : Int)) := (by simp [World.cell?, bR])
  have o1 : W0.cell? ⟨w.heap.size + 1, 1, none⟩ = some (.int .u64 v) := (by simp [World.cell?, bO])
  clear bR bO bW
  have y0 : W0.cell? ⟨g, 0, none⟩ = some (.int .u64 x0) := hg.out W0 (n4'.out.trans oo_w0.out) 0 (by simp)
  have y1 : W0.cell? ⟨g, 1, none⟩ = some (.int .u64 x1) := hg.out W0 (n4'.out.trans oo_w0.out) 1 (by simp)
  go_quiet (fail)
  have oo_q0 := Lib.hid (oo_w0.out.drewN nq)
  clear c0 c1 c2 c3 c4 c5 c6 c7 f0 f1 f2 f3 f4 f5 f6 f7 r0 r1 o1 y0 y1
  generalize W0.drewN nq = Wq0 at oo_q0 ⊢
  obtain ⟨bR, bO, bW⟩ := bl.out Wq0 oo_q0.out
  have bW_ := Lib.hid bW
  obtain ⟨c0, c1, c2, c3, c4, c5, c6, c7, f0, f1, f2, f3, f4, f5, f6, f7⟩ := want_cells bW
  have r0 : Wq0.cell? ⟨w.heap.size, 0, none⟩ = some (.int .i64 (b : Int)) := (by simp [World.cell?, bR])
  have r1 : Wq0.cell? ⟨w.heap.size, 1, none⟩ = some (.int .i64 (c : Int)) := (by simp [World.cell?, bR])
  have o1 : Wq0.cell? ⟨w.heap.size + 1, 1, none⟩ = some (.int .u64 v) := (by simp [World.cell?, bO])
  clear bR bO bW
  have y0 : Wq0.cell? ⟨g, 0, none⟩ = some (.int .u64 x0) := hg.out Wq0 (n4'.out.trans oo_q0.out) 0 (by simp)
  have y1 : Wq0.cell? ⟨g, 1, none⟩ = some (.int .u64 x1) := hg.out Wq0 (n4'.out.trans oo_q0.out) 1 (by simp)
  go_wp2_with (first
    | (go_at_call 46; (with_reducible refine (rover_any _ _ _).mono ?_); rintro e_ w1 ⟨rfl, q_w1⟩
       have oo_w1 : Hid (Only Nil W0 w1) := Lib.hid (by first | exact (oo_q0.out.trans q_w1) | exact (oo_q0.out.drew.trans q_w1) | exact ((oo_q0.out.drewN _).trans q_w1))
       clear c0 c1 c2 c3 c4 c5 c6 c7 f0 f1 f2 f3 f4 f5 f6 f7 r0 r1 o1 y0 y1
       obtain ⟨bR, bO, bW⟩ := bl.out w1 oo_w1.out
       have bW_ := Lib.hid bW
       obtain ⟨c0, c1, c2, c3, c4, c5, c6, c7, f0, f1, f2, f3, f4, f5, f6, f7⟩ := want_cells bW
       have r0 : w1.cell? ⟨w.heap.size, 0, none⟩ = some (.int .i64 (b : Int)) := (by simp [World.cell?, bR])
       have r1 : w1.cell? ⟨w.heap.size, 1, none⟩ = some (.int .i64 (c : Int)) := (by simp [World.cell?, bR])
       have o1 : w1.cell? ⟨w.heap.size + 1, 1, none⟩ = some (.int .u64 v) := (by simp [World.cell?, bO])
       clear bR bO bW
       have y0 : w1.cell? ⟨g, 0, none⟩ = some (.int .u64 x0) := hg.out w1 (n4'.out.trans oo_w1.out) 0 (by simp)
       have y1 : w1.cell? ⟨g, 1, none⟩ = some (.int .u64 x1) := hg.out w1 (n4'.out.trans oo_w1.out) 1 (by simp)))
  refine bodyPost_ret (results_agg rfl _ _ (w.heap.size + 1 + 1) [.bool true, .int .i64 0, .int .i64 0, .int .u64 0, .int .u64 0, .int .i64 2, .int .u64 0, .int .u64 0] Try.isAgg49 Try.sizeOf49 rfl (set8_heap bW_.out (.bool true) (.int .i64 0) (.int .i64 0) (.int .u64 0) (.int .u64 0) (.int .i64 2) (.int .u64 0) (.int .u64 0))) rfl ?_
  exact ⟨by simp [wantOf, acc, accWant, up, dn], ((n4'.out.trans oo_w1.out).then (set8_only _ _ (.bool true) (.int .i64 0) (.int .i64 0) (.int .u64 0) (.int .u64 0) (.int .i64 2) (.int .u64 0) (.int .u64 0)) (fun q hq hl => by omega))⟩

set_option linter.unusedVariables false in
set_option linter.unusedSimpArgs false in
set_option maxRecDepth 100000 in
set_option maxHeartbeats 4000000 in
theorem rpush_2 (w : World) (b c : Nat) (v : Int) (a : Option Addr) (cap : Nat) (x0 x1 : Int) (hc : 0 < c) (hc2 : c ≤ 64) (hb : b ≤ 1000) (hx0 : In64 x0) (hx1 : In64 x1) (hl : LogIn w a [x0, x1]) (hx : ¬ (c : Int) ≤ IntKind.u64.wrap (x0 - x1)) :
    Calls Try.prog 35 #[.agg #[.int .i64 (b : Int), .int .i64 (c : Int)], .agg #[.int .i64 1, .int .u64 v, .slice a 2 cap]] w fun e w' => e = .returned (wantOf b c (.push2 v x0)) ∧ Only Nil w w' := by
  have sl := Lib.hid (fun (w : World) (x : Int) (hx : In64 x) => rslot_any w b c x hx hc hc2 hb)
  have ec : IntKind.u64.wrap (c : Int) = (c : Int) := by rw [IntKind.wrap_u64]; omega
  obtain ⟨g, rfl, hgl', hg'⟩ := log_at hl (by simp)
  have hg := Lib.hid hg'
  have hgl := Lib.hid hgl'
  clear hg' hl hgl'
  have k0 := Lib.hid hx0
  have k1 := Lib.hid hx1
  have hb' : (b : Int) ≤ 1000 := by omega
  clear hc hc2 hb hx0 hx1
  go_enter Try.func35, Try.ntmps35
  go_wp2_with (fail)
  obtain ⟨n1, n2, n3, n4⟩ := three_new w (.cells #[.int .i64 (b : Int), .int .i64 (c : Int)] 31) (.cells #[.int .i64 1, .int .u64 v, .slice (some ⟨g, 0, none⟩) 2 cap] 44) (.cells #[.bool false, .int .i64 0, .int .i64 0, .int .u64 0, .int .u64 0, .int .i64 0, .int .u64 0, .int .u64 0] 49)
  have bl := Lib.hid (fun (w' : World) (o : Only Nil (((w.alloc (.cells #[.int .i64 (b : Int), .int .i64 (c : Int)] 31)).alloc (.cells #[.int .i64 1, .int .u64 v, .slice (some ⟨g, 0, none⟩) 2 cap] 44)).alloc (.cells #[.bool false, .int .i64 0, .int .i64 0, .int .u64 0, .int .u64 0, .int .i64 0, .int .u64 0, .int .u64 0] 49)) w') =>
    And.intro ((o.block _ (lt_of_block n1) (fun h => h)).trans n1) (And.intro ((o.block _ (lt_of_block n2) (fun h => h)).trans n2) ((o.block _ (lt_of_block n3) (fun h => h)).trans n3)))
  have n4' := Lib.hid n4
  clear n1 n2 n3 n4
  generalize (((w.alloc (.cells #[.int .i64 (b : Int), .int .i64 (c : Int)] 31)).alloc (.cells #[.int .i64 1, .int .u64 v, .slice (some ⟨g, 0, none⟩) 2 cap] 44)).alloc (.cells #[.bool false, .int .i64 0, .int .i64 0, .int .u64 0, .int .u64 0, .int .i64 0, .int .u64 0, .int .u64 0] 49)) = W0 at bl n4' ⊢
  have oo_w0 := Lib.hid (Only.refl Nil W0)
  obtain ⟨bR, bO, bW⟩ := bl.out W0 oo_w0.out
  have bW_ := Lib.hid bW
  obtain ⟨c0, c1, c2, c3, c4, c5, c6, c7, f0, f1, f2, f3, f4, f5, f6, f7⟩ := want_cells bW
  have r0 : W0.cell? ⟨w.heap.size, 0, none⟩ = some (.int .i64 (b : Int)) := (by simp [World.cell?, bR])
  have r1 : W0.cell? ⟨w.heap.size, 1, none⟩ = some (.int .i64 (c : Int)) := (by simp [World.cell?, bR])
  have o1 : W0.cell? ⟨w.heap.size + 1, 1, none⟩ = some (.int .u64 v) := (by simp [World.cell?, bO])
  clear bR bO bW
  have y0 : W0.cell? ⟨g, 0, none⟩ = some (.int .u64 x0) := hg.out W0 (n4'.out.trans oo_w0.out) 0 (by simp)
  have y1 : W0.cell? ⟨g, 1, none⟩ = some (.int .u64 x1) := hg.out W0 (n4'.out.trans oo_w0.out) 1 (by simp)
  go_quiet (fail)
  have oo_q0 := Lib.hid (oo_w0.out.drewN nq)
  clear c0 c1 c2 c3 c4 c5 c6 c7 f0 f1 f2 f3 f4 f5 f6 f7 r0 r1 o1 y0 y1
  generalize W0.drewN nq = Wq0 at oo_q0 ⊢
  obtain ⟨bR, bO, bW⟩ := bl.out Wq0 oo_q0.out
  have bW_ := Lib.hid bW
  obtain ⟨c0, c1, c2, c3, c4, c5, c6, c7, f0, f1, f2, f3, f4, f5, f6, f7⟩ := want_cells bW
  have r0 : Wq0.cell? ⟨w.heap.size, 0, none⟩ = some (.int .i64 (b : Int)) := (by simp [World.cell?, bR])
  have r1 : Wq0.cell? ⟨w.heap.size, 1, none⟩ = some (.int .i64 (c : Int)) := (by simp [World.cell?, bR])
  have o1 : Wq0.cell? ⟨w.heap.size + 1, 1, none⟩ = some (.int .u64 v) := (by simp [World.cell?, bO])
  clear bR bO bW
  have y0 : Wq0.cell? ⟨g, 0, none⟩ = some (.int .u64 x0) := hg.out Wq0 (n4'.out.trans oo_q0.out) 0 (by simp)
  have y1 : Wq0.cell? ⟨g, 1, none⟩ = some (.int .u64 x1) := hg.out Wq0 (n4'.out.trans oo_q0.out) 1 (by simp)
  go_wp2_with (fail)
  go_region_with (first
    | (go_at_call 48; (with_reducible refine (sl.out _ _ k0.out).mono ?_); rintro e_ w1 ⟨rfl, q_w1⟩
       have oo_w1 : Hid (Only Nil W0 w1) := Lib.hid (by first | exact (oo_q0.out.trans q_w1) | exact (oo_q0.out.drew.trans q_w1) | exact ((oo_q0.out.drewN _).trans q_w1))
       clear c0 c1 c2 c3 c4 c5 c6 c7 f0 f1 f2 f3 f4 f5 f6 f7 r0 r1 o1 y0 y1
       obtain ⟨bR, bO, bW⟩ := bl.out w1 oo_w1.out
       have bW_ := Lib.hid bW
       obtain ⟨c0, c1, c2, c3, c4, c5, c6, c7, f0, f1, f2, f3, f4, f5, f6, f7⟩ := want_cells bW
       have r0 : w1.cell? ⟨w.heap.size, 0, none⟩ = some (.int .i64 (b : Int)) := (by simp [World.cell?, bR])
       have r1 : w1.cell? ⟨w.heap.size, 1, none⟩ = some (.int .i64 (c : Int)) := (by simp [World.cell?, bR])
       have o1 : w1.cell? ⟨w.heap.size + 1, 1, none⟩ = some (.int .u64 v) := (by simp [World.cell?, bO])
       clear bR bO bW
       have y0 : w1.cell? ⟨g, 0, none⟩ = some (.int .u64 x0) := hg.out w1 (n4'.out.trans oo_w1.out) 0 (by simp)
       have y1 : w1.cell? ⟨g, 1, none⟩ = some (.int .u64 x1) := hg.out w1 (n4'.out.trans oo_w1.out) 1 (by simp)))
  all_goals (
  go_wp2
  refine bodyPost_ret (results_agg rfl _ _ (w.heap.size + 1 + 1) [.bool false, .int .i64 2, .int .i64 (slotAt b c x0 : Int), .int .u64 v, .int .u64 0, .int .i64 0, .int .u64 0, .int .u64 0] Try.isAgg49 Try.sizeOf49 rfl (set8_heap bW_.out (.bool false) (.int .i64 2) (.int .i64 (slotAt b c x0 : Int)) (.int .u64 v) (.int .u64 0) (.int .i64 0) (.int .u64 0) (.int .u64 0))) rfl ?_
  first | exact ⟨by simp [wantOf, acc, accWant, up, dn], ((n4'.out.trans oo_w1.out).then (set8_only _ _ (.bool false) (.int .i64 2) (.int .i64 (slotAt b c x0 : Int)) (.int .u64 v) (.int .u64 0) (.int .i64 0) (.int .u64 0) (.int .u64 0)) (fun q hq hl => by omega))⟩ | exact ⟨by simp [wantOf, acc, accWant, up, dn], ((n4'.out.trans oo_w1.out).then (set8_only _ _ (.bool false) (.int .i64 2) (.int .i64 (slotAt b c x0 : Int)) (.int .u64 v) (.int .u64 0) (.int .i64 0) (.int .u64 0) (.int .u64 0)) (fun q hq hl => by omega)).drew⟩ | exact ⟨by simp [wantOf, acc, accWant, up, dn], ((n4'.out.trans oo_w1.out).then (set8_only _ _ (.bool false) (.int .i64 2) (.int .i64 (slotAt b c x0 : Int)) (.int .u64 v) (.int .u64 0) (.int .i64 0) (.int .u64 0) (.int .u64 0)) (fun q hq hl => by omega)).drewN _⟩)

set_option linter.unusedVariables false in
set_option linter.unusedSimpArgs false in
set_option maxRecDepth 100000 in
set_option maxHeartbeats 4000000 in
theorem rpush_3 (w : World) (b c : Nat) (v : Int) (a : Option Addr) (cap : Nat) (x0 x1 x2 : Int) (hc : 0 < c) (hc2 : c ≤ 64) (hb : b ≤ 1000) (hx0 : In64 x0) (hx1 : In64 x1) (hx2 : In64 x2) (hl : LogIn w a [x0, x1, x2]) (hx : ¬ (c : Int) ≤ IntKind.u64.wrap (x0 - x1)) :
    Calls Try.prog 35 #[.agg #[.int .i64 (b : Int), .int .i64 (c : Int)], .agg #[.int .i64 1, .int .u64 v, .slice a 3 cap]] w fun e w' => e = .returned (wantOf b c (.push3 x0)) ∧ Only Nil w w' := by
  have sl := Lib.hid (fun (w : World) (x : Int) (hx : In64 x) => rslot_any w b c x hx hc hc2 hb)
  have ec : IntKind.u64.wrap (c : Int) = (c : Int) := by rw [IntKind.wrap_u64]; omega
  obtain ⟨g, rfl, hgl', hg'⟩ := log_at hl (by simp)
  have hg := Lib.hid hg'
  have hgl := Lib.hid hgl'
  clear hg' hl hgl'
  have k0 := Lib.hid hx0
  have k1 := Lib.hid hx1
  have k2 := Lib.hid hx2
  have hb' : (b : Int) ≤ 1000 := by omega
  have hwb : IntKind.i64.wrap ((b : Int) + 1) = (b : Int) + 1 := IntWalk.i64_in _ (by omega)
  clear hc hc2 hb hx0 hx1 hx2
  go_enter Try.func35, Try.ntmps35
  go_wp2_with (fail)
  obtain ⟨n1, n2, n3, n4⟩ := three_new w (.cells #[.int .i64 (b : Int), .int .i64 (c : Int)] 31) (.cells #[.int .i64 1, .int .u64 v, .slice (some ⟨g, 0, none⟩) 3 cap] 44) (.cells #[.bool false, .int .i64 0, .int .i64 0, .int .u64 0, .int .u64 0, .int .i64 0, .int .u64 0, .int .u64 0] 49)
  have bl := Lib.hid (fun (w' : World) (o : Only Nil (((w.alloc (.cells #[.int .i64 (b : Int), .int .i64 (c : Int)] 31)).alloc (.cells #[.int .i64 1, .int .u64 v, .slice (some ⟨g, 0, none⟩) 3 cap] 44)).alloc (.cells #[.bool false, .int .i64 0, .int .i64 0, .int .u64 0, .int .u64 0, .int .i64 0, .int .u64 0, .int .u64 0] 49)) w') =>
    And.intro ((o.block _ (lt_of_block n1) (fun h => h)).trans n1) (And.intro ((o.block _ (lt_of_block n2) (fun h => h)).trans n2) ((o.block _ (lt_of_block n3) (fun h => h)).trans n3)))
  have n4' := Lib.hid n4
  clear n1 n2 n3 n4
  generalize (((w.alloc (.cells #[.int .i64 (b : Int), .int .i64 (c : Int)] 31)).alloc (.cells #[.int .i64 1, .int .u64 v, .slice (some ⟨g, 0, none⟩) 3 cap] 44)).alloc (.cells #[.bool false, .int .i64 0, .int .i64 0, .int .u64 0, .int .u64 0, .int .i64 0, .int .u64 0, .int .u64 0] 49)) = W0 at bl n4' ⊢
  have oo_w0 := Lib.hid (Only.refl Nil W0)
  obtain ⟨bR, bO, bW⟩ := bl.out W0 oo_w0.out
  have bW_ := Lib.hid bW
  obtain ⟨c0, c1, c2, c3, c4, c5, c6, c7, f0, f1, f2, f3, f4, f5, f6, f7⟩ := want_cells bW
  have r0 : W0.cell? ⟨w.heap.size, 0, none⟩ = some (.int .i64 (b : Int)) := (by simp [World.cell?, bR])
  have r1 : W0.cell? ⟨w.heap.size, 1, none⟩ = some (.int .i64 (c : Int)) := (by simp [World.cell?, bR])
  have o1 : W0.cell? ⟨w.heap.size + 1, 1, none⟩ = some (.int .u64 v) := (by simp [World.cell?, bO])
  clear bR bO bW
  have y0 : W0.cell? ⟨g, 0, none⟩ = some (.int .u64 x0) := hg.out W0 (n4'.out.trans oo_w0.out) 0 (by simp)
  have y1 : W0.cell? ⟨g, 1, none⟩ = some (.int .u64 x1) := hg.out W0 (n4'.out.trans oo_w0.out) 1 (by simp)
  have y2 : W0.cell? ⟨g, 2, none⟩ = some (.int .u64 x2) := hg.out W0 (n4'.out.trans oo_w0.out) 2 (by simp)
  go_quiet (fail)
  have oo_q0 := Lib.hid (oo_w0.out.drewN nq)
  clear c0 c1 c2 c3 c4 c5 c6 c7 f0 f1 f2 f3 f4 f5 f6 f7 r0 r1 o1 y0 y1 y2
  generalize W0.drewN nq = Wq0 at oo_q0 ⊢
  obtain ⟨bR, bO, bW⟩ := bl.out Wq0 oo_q0.out
  have bW_ := Lib.hid bW
  obtain ⟨c0, c1, c2, c3, c4, c5, c6, c7, f0, f1, f2, f3, f4, f5, f6, f7⟩ := want_cells bW
  have r0 : Wq0.cell? ⟨w.heap.size, 0, none⟩ = some (.int .i64 (b : Int)) := (by simp [World.cell?, bR])
  have r1 : Wq0.cell? ⟨w.heap.size, 1, none⟩ = some (.int .i64 (c : Int)) := (by simp [World.cell?, bR])
  have o1 : Wq0.cell? ⟨w.heap.size + 1, 1, none⟩ = some (.int .u64 v) := (by simp [World.cell?, bO])
  clear bR bO bW
  have y0 : Wq0.cell? ⟨g, 0, none⟩ = some (.int .u64 x0) := hg.out Wq0 (n4'.out.trans oo_q0.out) 0 (by simp)
  have y1 : Wq0.cell? ⟨g, 1, none⟩ = some (.int .u64 x1) := hg.out Wq0 (n4'.out.trans oo_q0.out) 1 (by simp)
  have y2 : Wq0.cell? ⟨g, 2, none⟩ = some (.int .u64 x2) := hg.out Wq0 (n4'.out.trans oo_q0.out) 2 (by simp)
  go_wp2_with (fail)
  refine wp_region_held_drew (S := fun w' => w'.cell? ⟨w.heap.size, 0, none⟩ = some (.int .i64 (b : Int)) ∧ w'.cell? ⟨g, 0, none⟩ = some (.int .u64 x0)) (by kernel_rfl) ⟨r0, y0⟩ (fun hHeld => ?_)
  refine wpAnyH_take (i := 0) (v := ?v0) rfl (by kernel_rfl) (by kernel_rfl) (by kernel_rfl) (fun _ _ _ h => h) (Or.inl ⟨by rfl, ?h0⟩) (by assumption) ?r0
  case h0 => (intro w hSw; (try dsimp only at hSw); (try obtain ⟨s1, s2⟩ := hSw); first | (go_simp; done) | (go_simp; with_reducible rfl))
  try simp only [Act.put, List.setIfInBounds_toArray, List.set_cons_zero, List.set_cons_succ]
  refine wpAnyH_take (i := 1) (v := ?v1) rfl (by kernel_rfl) (by kernel_rfl) (by kernel_rfl) (fun _ _ _ h => h) (Or.inl ⟨by rfl, ?h1⟩) (by assumption) ?r1
  case h1 => (intro w hSw; (try dsimp only at hSw); (try obtain ⟨s1, s2⟩ := hSw); first | (go_simp; done) | (go_simp; with_reducible rfl))
  try simp only [Act.put, List.setIfInBounds_toArray, List.set_cons_zero, List.set_cons_succ]
  refine wpAnyH_take (i := 2) (v := ?v2) rfl (by kernel_rfl) (by kernel_rfl) (by kernel_rfl) (fun _ _ _ h => h) (Or.inl ⟨by rfl, ?h2⟩) (by assumption) ?r2
  case h2 => (intro w hSw; (try dsimp only at hSw); (try obtain ⟨s1, s2⟩ := hSw); first | (go_simp; done) | (go_simp; with_reducible rfl))
  try simp only [Act.put, List.setIfInBounds_toArray, List.set_cons_zero, List.set_cons_succ]
  refine wpAnyH_take (i := 3) (v := ?v3) rfl (by kernel_rfl) (by kernel_rfl) (by kernel_rfl) (fun _ _ _ h => h) (Or.inl ⟨by rfl, ?h3⟩) (by assumption) ?r3
  case h3 => (intro w hSw; (try dsimp only at hSw); (try obtain ⟨s1, s2⟩ := hSw); first | (go_simp; done) | (go_simp; with_reducible rfl))
  try simp only [Act.put, List.setIfInBounds_toArray, List.set_cons_zero, List.set_cons_succ]
  refine wpAnyH_take (i := 4) (v := ?v4) rfl (by kernel_rfl) (by kernel_rfl) (by kernel_rfl) (fun _ _ _ h => h) (Or.inl ⟨by rfl, ?h4⟩) (by assumption) ?r4
  case h4 => (intro w hSw; (try dsimp only at hSw); (try obtain ⟨s1, s2⟩ := hSw); first | (go_simp; done) | (go_simp; with_reducible rfl))
  try simp only [Act.put, List.setIfInBounds_toArray, List.set_cons_zero, List.set_cons_succ]
  refine wpAnyH_take (i := 5) (v := ?v5) rfl (by kernel_rfl) (by kernel_rfl) (by kernel_rfl) (fun _ _ _ h => h) (Or.inl ⟨by rfl, ?h5⟩) (by assumption) ?r5
  case h5 => (intro w hSw; (try dsimp only at hSw); (try obtain ⟨s1, s2⟩ := hSw); first | (go_simp; done) | (go_simp; with_reducible rfl))
  try simp only [Act.put, List.setIfInBounds_toArray, List.set_cons_zero, List.set_cons_succ]
  refine wpAnyH_take (i := 6) (v := ?v6) rfl (by kernel_rfl) (by kernel_rfl) (by kernel_rfl) (fun _ _ _ h => h) (Or.inl ⟨by rfl, ?h6⟩) (by assumption) ?r6
  case h6 => (intro w hSw; (try dsimp only at hSw); (try obtain ⟨s1, s2⟩ := hSw); first | (go_simp; done) | (go_simp; with_reducible rfl))
  try simp only [Act.put, List.setIfInBounds_toArray, List.set_cons_zero, List.set_cons_succ]
  refine wpAnyH_take (i := 7) (v := ?v7) rfl (by kernel_rfl) (by kernel_rfl) (by kernel_rfl) (fun _ _ _ h => h) (Or.inl ⟨by rfl, ?h7⟩) (by assumption) ?r7
  case h7 => (intro w hSw; (try dsimp only at hSw); (try obtain ⟨s1, s2⟩ := hSw); first | (go_simp; done) | (go_simp; with_reducible rfl))
  try simp only [Act.put, List.setIfInBounds_toArray, List.set_cons_zero, List.set_cons_succ]
  refine wpAnyH_ready (rs := [8]) (by kernel_rfl) (by simp) ?_
  refine AllReadyH.cons rfl (fun K1 hK1 => ?_) AllReadyH.nil
  go_simp
  refine hK1.out _ _ ?s1 (fun hHeld1 => ?_)
  case s1 => exact ⟨far8 r0 (by omega) _ _ _ _ _ _ _ _, far8 y0 (Nat.ne_of_lt (Nat.lt_of_lt_of_le hgl.out (by omega))) _ _ _ _ _ _ _ _⟩
  clear hK1 K1
  try simp only [Act.put, List.setIfInBounds_toArray, List.set_cons_zero, List.set_cons_succ]
  refine wpAnyH_done (by kernel_rfl) ?_ _
  go_wp2_with fail
  refine bodyPost_ret (results_agg rfl _ _ (w.heap.size + 1 + 1) [.bool false, .int .i64 2, .int .i64 ((b : Int) + 1), .int .u64 (IntKind.u64.wrap (x0 + 1)), .int .u64 0, .int .i64 0, .int .u64 0, .int .u64 0] Try.isAgg49 Try.sizeOf49 rfl (set8_heap_d bW_.out (.bool false) (.int .i64 2) (.int .i64 ((b : Int) + 1)) (.int .u64 (IntKind.u64.wrap (x0 + 1))) (.int .u64 0) (.int .i64 0) (.int .u64 0) (.int .u64 0))) rfl ?_
  exact ⟨by simp [wantOf, acc, accWant, up, dn], ((n4'.out.trans oo_q0.out).then (set8_only _ _ (.bool false) (.int .i64 2) (.int .i64 ((b : Int) + 1)) (.int .u64 (IntKind.u64.wrap (x0 + 1))) (.int .u64 0) (.int .i64 0) (.int .u64 0) (.int .u64 0)) (fun q hq hl => by omega)).drew⟩

set_option linter.unusedVariables false in
set_option linter.unusedSimpArgs false in
set_option maxRecDepth 100000 in
set_option maxHeartbeats 4000000 in
theorem rpush_4 (w : World) (b c : Nat) (v : Int) (a : Option Addr) (cap : Nat) (x0 x1 x2 x3 : Int) (hc : 0 < c) (hc2 : c ≤ 64) (hb : b ≤ 1000) (hx0 : In64 x0) (hx1 : In64 x1) (hx2 : In64 x2) (hx3 : In64 x3) (hl : LogIn w a [x0, x1, x2, x3]) (hx : ¬ (c : Int) ≤ IntKind.u64.wrap (x0 - x1)) :
    Calls Try.prog 35 #[.agg #[.int .i64 (b : Int), .int .i64 (c : Int)], .agg #[.int .i64 1, .int .u64 v, .slice a 4 cap]] w fun e w' => e = .returned (wantOf b c (.over 1 0)) ∧ Only Nil w w' := by
  have sl := Lib.hid (fun (w : World) (x : Int) (hx : In64 x) => rslot_any w b c x hx hc hc2 hb)
  have ec : IntKind.u64.wrap (c : Int) = (c : Int) := by rw [IntKind.wrap_u64]; omega
  obtain ⟨g, rfl, hgl', hg'⟩ := log_at hl (by simp)
  have hg := Lib.hid hg'
  have hgl := Lib.hid hgl'
  clear hg' hl hgl'
  have k0 := Lib.hid hx0
  have k1 := Lib.hid hx1
  have k2 := Lib.hid hx2
  have k3 := Lib.hid hx3
  have hb' : (b : Int) ≤ 1000 := by omega
  clear hc hc2 hb hx0 hx1 hx2 hx3
  go_enter Try.func35, Try.ntmps35
  go_wp2_with (fail)
  obtain ⟨n1, n2, n3, n4⟩ := three_new w (.cells #[.int .i64 (b : Int), .int .i64 (c : Int)] 31) (.cells #[.int .i64 1, .int .u64 v, .slice (some ⟨g, 0, none⟩) 4 cap] 44) (.cells #[.bool false, .int .i64 0, .int .i64 0, .int .u64 0, .int .u64 0, .int .i64 0, .int .u64 0, .int .u64 0] 49)
  have bl := Lib.hid (fun (w' : World) (o : Only Nil (((w.alloc (.cells #[.int .i64 (b : Int), .int .i64 (c : Int)] 31)).alloc (.cells #[.int .i64 1, .int .u64 v, .slice (some ⟨g, 0, none⟩) 4 cap] 44)).alloc (.cells #[.bool false, .int .i64 0, .int .i64 0, .int .u64 0, .int .u64 0, .int .i64 0, .int .u64 0, .int .u64 0] 49)) w') =>
    And.intro ((o.block _ (lt_of_block n1) (fun h => h)).trans n1) (And.intro ((o.block _ (lt_of_block n2) (fun h => h)).trans n2) ((o.block _ (lt_of_block n3) (fun h => h)).trans n3)))
  have n4' := Lib.hid n4
  clear n1 n2 n3 n4
  generalize (((w.alloc (.cells #[.int .i64 (b : Int), .int .i64 (c : Int)] 31)).alloc (.cells #[.int .i64 1, .int .u64 v, .slice (some ⟨g, 0, none⟩) 4 cap] 44)).alloc (.cells #[.bool false, .int .i64 0, .int .i64 0, .int .u64 0, .int .u64 0, .int .i64 0, .int .u64 0, .int .u64 0] 49)) = W0 at bl n4' ⊢
  have oo_w0 := Lib.hid (Only.refl Nil W0)
  obtain ⟨bR, bO, bW⟩ := bl.out W0 oo_w0.out
  have bW_ := Lib.hid bW
  obtain ⟨c0, c1, c2, c3, c4, c5, c6, c7, f0, f1, f2, f3, f4, f5, f6, f7⟩ := want_cells bW
  have r0 : W0.cell? ⟨w.heap.size, 0, none⟩ = some (.int .i64 (b : Int)) := (by simp [World.cell?, bR])
  have r1 : W0.cell? ⟨w.heap.size, 1, none⟩ = some (.int .i64 (c : Int)) := (by simp [World.cell?, bR])
  have o1 : W0.cell? ⟨w.heap.size + 1, 1, none⟩ = some (.int .u64 v) := (by simp [World.cell?, bO])
  clear bR bO bW
  have y0 : W0.cell? ⟨g, 0, none⟩ = some (.int .u64 x0) := hg.out W0 (n4'.out.trans oo_w0.out) 0 (by simp)
  have y1 : W0.cell? ⟨g, 1, none⟩ = some (.int .u64 x1) := hg.out W0 (n4'.out.trans oo_w0.out) 1 (by simp)
  have y2 : W0.cell? ⟨g, 2, none⟩ = some (.int .u64 x2) := hg.out W0 (n4'.out.trans oo_w0.out) 2 (by simp)
  have y3 : W0.cell? ⟨g, 3, none⟩ = some (.int .u64 x3) := hg.out W0 (n4'.out.trans oo_w0.out) 3 (by simp)
  go_quiet (fail)
  have oo_q0 := Lib.hid (oo_w0.out.drewN nq)
  clear c0 c1 c2 c3 c4 c5 c6 c7 f0 f1 f2 f3 f4 f5 f6 f7 r0 r1 o1 y0 y1 y2 y3
  generalize W0.drewN nq = Wq0 at oo_q0 ⊢
  obtain ⟨bR, bO, bW⟩ := bl.out Wq0 oo_q0.out
  have bW_ := Lib.hid bW
  obtain ⟨c0, c1, c2, c3, c4, c5, c6, c7, f0, f1, f2, f3, f4, f5, f6, f7⟩ := want_cells bW
  have r0 : Wq0.cell? ⟨w.heap.size, 0, none⟩ = some (.int .i64 (b : Int)) := (by simp [World.cell?, bR])
  have r1 : Wq0.cell? ⟨w.heap.size, 1, none⟩ = some (.int .i64 (c : Int)) := (by simp [World.cell?, bR])
  have o1 : Wq0.cell? ⟨w.heap.size + 1, 1, none⟩ = some (.int .u64 v) := (by simp [World.cell?, bO])
  clear bR bO bW
  have y0 : Wq0.cell? ⟨g, 0, none⟩ = some (.int .u64 x0) := hg.out Wq0 (n4'.out.trans oo_q0.out) 0 (by simp)
  have y1 : Wq0.cell? ⟨g, 1, none⟩ = some (.int .u64 x1) := hg.out Wq0 (n4'.out.trans oo_q0.out) 1 (by simp)
  have y2 : Wq0.cell? ⟨g, 2, none⟩ = some (.int .u64 x2) := hg.out Wq0 (n4'.out.trans oo_q0.out) 2 (by simp)
  have y3 : Wq0.cell? ⟨g, 3, none⟩ = some (.int .u64 x3) := hg.out Wq0 (n4'.out.trans oo_q0.out) 3 (by simp)
  go_wp2_with (first
    | (go_at_call 46; (with_reducible refine (rover_any _ _ _).mono ?_); rintro e_ w1 ⟨rfl, q_w1⟩
       have oo_w1 : Hid (Only Nil W0 w1) := Lib.hid (by first | exact (oo_q0.out.trans q_w1) | exact (oo_q0.out.drew.trans q_w1) | exact ((oo_q0.out.drewN _).trans q_w1))
       clear c0 c1 c2 c3 c4 c5 c6 c7 f0 f1 f2 f3 f4 f5 f6 f7 r0 r1 o1 y0 y1 y2 y3
       obtain ⟨bR, bO, bW⟩ := bl.out w1 oo_w1.out
       have bW_ := Lib.hid bW
       obtain ⟨c0, c1, c2, c3, c4, c5, c6, c7, f0, f1, f2, f3, f4, f5, f6, f7⟩ := want_cells bW
       have r0 : w1.cell? ⟨w.heap.size, 0, none⟩ = some (.int .i64 (b : Int)) := (by simp [World.cell?, bR])
       have r1 : w1.cell? ⟨w.heap.size, 1, none⟩ = some (.int .i64 (c : Int)) := (by simp [World.cell?, bR])
       have o1 : w1.cell? ⟨w.heap.size + 1, 1, none⟩ = some (.int .u64 v) := (by simp [World.cell?, bO])
       clear bR bO bW
       have y0 : w1.cell? ⟨g, 0, none⟩ = some (.int .u64 x0) := hg.out w1 (n4'.out.trans oo_w1.out) 0 (by simp)
       have y1 : w1.cell? ⟨g, 1, none⟩ = some (.int .u64 x1) := hg.out w1 (n4'.out.trans oo_w1.out) 1 (by simp)
       have y2 : w1.cell? ⟨g, 2, none⟩ = some (.int .u64 x2) := hg.out w1 (n4'.out.trans oo_w1.out) 2 (by simp)
       have y3 : w1.cell? ⟨g, 3, none⟩ = some (.int .u64 x3) := hg.out w1 (n4'.out.trans oo_w1.out) 3 (by simp)))
  refine bodyPost_ret (results_agg rfl _ _ (w.heap.size + 1 + 1) [.bool true, .int .i64 0, .int .i64 0, .int .u64 0, .int .u64 0, .int .i64 1, .int .u64 0, .int .u64 0] Try.isAgg49 Try.sizeOf49 rfl (set8_heap bW_.out (.bool true) (.int .i64 0) (.int .i64 0) (.int .u64 0) (.int .u64 0) (.int .i64 1) (.int .u64 0) (.int .u64 0))) rfl ?_
  exact ⟨by simp [wantOf, acc, accWant, up, dn], ((n4'.out.trans oo_w1.out).then (set8_only _ _ (.bool true) (.int .i64 0) (.int .i64 0) (.int .u64 0) (.int .u64 0) (.int .i64 1) (.int .u64 0) (.int .u64 0)) (fun q hq hl => by omega))⟩

set_option linter.unusedVariables false in
set_option linter.unusedSimpArgs false in
set_option maxRecDepth 100000 in
set_option maxHeartbeats 4000000 in
theorem rpop_0 (w : World) (b c : Nat) (v : Int) (a : Option Addr) (cap : Nat) (hc : 0 < c) (hc2 : c ≤ 64) (hb : b ≤ 1000) :
    Calls Try.prog 36 #[.agg #[.int .i64 (b : Int), .int .i64 (c : Int)], .agg #[.int .i64 2, .int .u64 v, .slice a 0 cap]] w fun e w' => e = .returned (wantOf b c (.pop0)) ∧ Only Nil w w' := by
  have sl := Lib.hid (fun (w : World) (x : Int) (hx : In64 x) => rslot_any w b c x hx hc hc2 hb)
  have ec : IntKind.u64.wrap (c : Int) = (c : Int) := by rw [IntKind.wrap_u64]; omega
  have hb' : (b : Int) ≤ 1000 := by omega
  clear hc hc2 hb
  go_enter Try.func36, Try.ntmps36
  go_wp2_with (fail)
  obtain ⟨n1, n2, n3, n4⟩ := three_new w (.cells #[.int .i64 (b : Int), .int .i64 (c : Int)] 31) (.cells #[.int .i64 2, .int .u64 v, .slice a 0 cap] 44) (.cells #[.bool false, .int .i64 0, .int .i64 0, .int .u64 0, .int .u64 0, .int .i64 0, .int .u64 0, .int .u64 0] 49)
  have bl := Lib.hid (fun (w' : World) (o : Only Nil (((w.alloc (.cells #[.int .i64 (b : Int), .int .i64 (c : Int)] 31)).alloc (.cells #[.int .i64 2, .int .u64 v, .slice a 0 cap] 44)).alloc (.cells #[.bool false, .int .i64 0, .int .i64 0, .int .u64 0, .int .u64 0, .int .i64 0, .int .u64 0, .int .u64 0] 49)) w') =>
    And.intro ((o.block _ (lt_of_block n1) (fun h => h)).trans n1) (And.intro ((o.block _ (lt_of_block n2) (fun h => h)).trans n2) ((o.block _ (lt_of_block n3) (fun h => h)).trans n3)))
  have n4' := Lib.hid n4
  clear n1 n2 n3 n4
  generalize (((w.alloc (.cells #[.int .i64 (b : Int), .int .i64 (c : Int)] 31)).alloc (.cells #[.int .i64 2, .int .u64 v, .slice a 0 cap] 44)).alloc (.cells #[.bool false, .int .i64 0, .int .i64 0, .int .u64 0, .int .u64 0, .int .i64 0, .int .u64 0, .int .u64 0] 49)) = W0 at bl n4' ⊢
  have oo_w0 := Lib.hid (Only.refl Nil W0)
  obtain ⟨bR, bO, bW⟩ := bl.out W0 oo_w0.out
  have bW_ := Lib.hid bW
  obtain ⟨c0, c1, c2, c3, c4, c5, c6, c7, f0, f1, f2, f3, f4, f5, f6, f7⟩ := want_cells bW
  have r0 : W0.cell? ⟨w.heap.size, 0, none⟩ = some (.int .i64 (b : Int)) := (by simp [World.cell?, bR])
  have r1 : W0.cell? ⟨w.heap.size, 1, none⟩ = some (.int .i64 (c : Int)) := (by simp [World.cell?, bR])
  have o1 : W0.cell? ⟨w.heap.size + 1, 1, none⟩ = some (.int .u64 v) := (by simp [World.cell?, bO])
  clear bR bO bW
  go_wp2_with (first
    | (go_at_call 47; (with_reducible refine (rload_any _ _).mono ?_); rintro e_ w1 ⟨rfl, q_w1⟩
       have oo_w1 : Hid (Only Nil W0 w1) := Lib.hid (by first | exact (oo_w0.out.trans q_w1) | exact (oo_w0.out.drew.trans q_w1) | exact ((oo_w0.out.drewN _).trans q_w1))
       clear c0 c1 c2 c3 c4 c5 c6 c7 f0 f1 f2 f3 f4 f5 f6 f7 r0 r1 o1
       obtain ⟨bR, bO, bW⟩ := bl.out w1 oo_w1.out
       have bW_ := Lib.hid bW
       obtain ⟨c0, c1, c2, c3, c4, c5, c6, c7, f0, f1, f2, f3, f4, f5, f6, f7⟩ := want_cells bW
       have r0 : w1.cell? ⟨w.heap.size, 0, none⟩ = some (.int .i64 (b : Int)) := (by simp [World.cell?, bR])
       have r1 : w1.cell? ⟨w.heap.size, 1, none⟩ = some (.int .i64 (c : Int)) := (by simp [World.cell?, bR])
       have o1 : w1.cell? ⟨w.heap.size + 1, 1, none⟩ = some (.int .u64 v) := (by simp [World.cell?, bO])
       clear bR bO bW))
  refine bodyPost_ret (results_agg rfl _ _ (w.heap.size + 1 + 1) [.bool false, .int .i64 1, .int .i64 ((b : Int) + 1), .int .u64 0, .int .u64 0, .int .i64 0, .int .u64 0, .int .u64 0] Try.isAgg49 Try.sizeOf49 rfl (set8_heap bW_.out (.bool false) (.int .i64 1) (.int .i64 ((b : Int) + 1)) (.int .u64 0) (.int .u64 0) (.int .i64 0) (.int .u64 0) (.int .u64 0))) rfl ?_
  exact ⟨by simp [wantOf, acc, accWant, up, dn], ((n4'.out.trans oo_w1.out).then (set8_only _ _ (.bool false) (.int .i64 1) (.int .i64 ((b : Int) + 1)) (.int .u64 0) (.int .u64 0) (.int .i64 0) (.int .u64 0) (.int .u64 0)) (fun q hq hl => by omega))⟩

set_option linter.unusedVariables false in
set_option linter.unusedSimpArgs false in
set_option maxRecDepth 100000 in
set_option maxHeartbeats 4000000 in
theorem rpop_1 (w : World) (b c : Nat) (v : Int) (a : Option Addr) (cap : Nat) (x0 : Int) (hc : 0 < c) (hc2 : c ≤ 64) (hb : b ≤ 1000) (hx0 : In64 x0) (hl : LogIn w a [x0]) :
    Calls Try.prog 36 #[.agg #[.int .i64 (b : Int), .int .i64 (c : Int)], .agg #[.int .i64 2, .int .u64 v, .slice a 1 cap]] w fun e w' => e = .returned (wantOf b c (.pop1 x0)) ∧ Only Nil w w' := by
  have sl := Lib.hid (fun (w : World) (x : Int) (hx : In64 x) => rslot_any w b c x hx hc hc2 hb)
  have ec : IntKind.u64.wrap (c : Int) = (c : Int) := by rw [IntKind.wrap_u64]; omega
  obtain ⟨g, rfl, hgl', hg'⟩ := log_at hl (by simp)
  have hg := Lib.hid hg'
  have hgl := Lib.hid hgl'
  clear hg' hl hgl'
  have k0 := Lib.hid hx0
  have hb' : (b : Int) ≤ 1000 := by omega
  have hwb : IntKind.i64.wrap ((b : Int) + 1) = (b : Int) + 1 := IntWalk.i64_in _ (by omega)
  clear hc hc2 hb hx0
  go_enter Try.func36, Try.ntmps36
  go_wp2_with (fail)
  obtain ⟨n1, n2, n3, n4⟩ := three_new w (.cells #[.int .i64 (b : Int), .int .i64 (c : Int)] 31) (.cells #[.int .i64 2, .int .u64 v, .slice (some ⟨g, 0, none⟩) 1 cap] 44) (.cells #[.bool false, .int .i64 0, .int .i64 0, .int .u64 0, .int .u64 0, .int .i64 0, .int .u64 0, .int .u64 0] 49)
  have bl := Lib.hid (fun (w' : World) (o : Only Nil (((w.alloc (.cells #[.int .i64 (b : Int), .int .i64 (c : Int)] 31)).alloc (.cells #[.int .i64 2, .int .u64 v, .slice (some ⟨g, 0, none⟩) 1 cap] 44)).alloc (.cells #[.bool false, .int .i64 0, .int .i64 0, .int .u64 0, .int .u64 0, .int .i64 0, .int .u64 0, .int .u64 0] 49)) w') =>
    And.intro ((o.block _ (lt_of_block n1) (fun h => h)).trans n1) (And.intro ((o.block _ (lt_of_block n2) (fun h => h)).trans n2) ((o.block _ (lt_of_block n3) (fun h => h)).trans n3)))
  have n4' := Lib.hid n4
  clear n1 n2 n3 n4
  generalize (((w.alloc (.cells #[.int .i64 (b : Int), .int .i64 (c : Int)] 31)).alloc (.cells #[.int .i64 2, .int .u64 v, .slice (some ⟨g, 0, none⟩) 1 cap] 44)).alloc (.cells #[.bool false, .int .i64 0, .int .i64 0, .int .u64 0, .int .u64 0, .int .i64 0, .int .u64 0, .int .u64 0] 49)) = W0 at bl n4' ⊢
  have oo_w0 := Lib.hid (Only.refl Nil W0)
  obtain ⟨bR, bO, bW⟩ := bl.out W0 oo_w0.out
  have bW_ := Lib.hid bW
  obtain ⟨c0, c1, c2, c3, c4, c5, c6, c7, f0, f1, f2, f3, f4, f5, f6, f7⟩ := want_cells bW
  have r0 : W0.cell? ⟨w.heap.size, 0, none⟩ = some (.int .i64 (b : Int)) := (by simp [World.cell?, bR])
  have r1 : W0.cell? ⟨w.heap.size, 1, none⟩ = some (.int .i64 (c : Int)) := (by simp [World.cell?, bR])
  have o1 : W0.cell? ⟨w.heap.size + 1, 1, none⟩ = some (.int .u64 v) := (by simp [World.cell?, bO])
  clear bR bO bW
  have y0 : W0.cell? ⟨g, 0, none⟩ = some (.int .u64 x0) := hg.out W0 (n4'.out.trans oo_w0.out) 0 (by simp)
  go_wp2_with (fail)
  refine wp_region_held_drew (S := fun w' => w'.cell? ⟨w.heap.size, 0, none⟩ = some (.int .i64 (b : Int)) ∧ w'.cell? ⟨g, 0, none⟩ = some (.int .u64 x0)) (by kernel_rfl) ⟨r0, y0⟩ (fun hHeld => ?_)
  refine wpAnyH_take (i := 0) (v := ?v0) rfl (by kernel_rfl) (by kernel_rfl) (by kernel_rfl) (fun _ _ _ h => h) (Or.inl ⟨by rfl, ?h0⟩) (by assumption) ?r0
  case h0 => (intro w hSw; (try dsimp only at hSw); (try obtain ⟨s1, s2⟩ := hSw); first | (go_simp; done) | (go_simp; with_reducible rfl))
  try simp only [Act.put, List.setIfInBounds_toArray, List.set_cons_zero, List.set_cons_succ]
  refine wpAnyH_take (i := 1) (v := ?v1) rfl (by kernel_rfl) (by kernel_rfl) (by kernel_rfl) (fun _ _ _ h => h) (Or.inl ⟨by rfl, ?h1⟩) (by assumption) ?r1
  case h1 => (intro w hSw; (try dsimp only at hSw); (try obtain ⟨s1, s2⟩ := hSw); first | (go_simp; done) | (go_simp; with_reducible rfl))
  try simp only [Act.put, List.setIfInBounds_toArray, List.set_cons_zero, List.set_cons_succ]
  refine wpAnyH_take (i := 2) (v := ?v2) rfl (by kernel_rfl) (by kernel_rfl) (by kernel_rfl) (fun _ _ _ h => h) (Or.inl ⟨by rfl, ?h2⟩) (by assumption) ?r2
  case h2 => (intro w hSw; (try dsimp only at hSw); (try obtain ⟨s1, s2⟩ := hSw); first | (go_simp; done) | (go_simp; with_reducible rfl))
  try simp only [Act.put, List.setIfInBounds_toArray, List.set_cons_zero, List.set_cons_succ]
  refine wpAnyH_take (i := 3) (v := ?v3) rfl (by kernel_rfl) (by kernel_rfl) (by kernel_rfl) (fun _ _ _ h => h) (Or.inl ⟨by rfl, ?h3⟩) (by assumption) ?r3
  case h3 => (intro w hSw; (try dsimp only at hSw); (try obtain ⟨s1, s2⟩ := hSw); first | (go_simp; done) | (go_simp; with_reducible rfl))
  try simp only [Act.put, List.setIfInBounds_toArray, List.set_cons_zero, List.set_cons_succ]
  refine wpAnyH_take (i := 4) (v := ?v4) rfl (by kernel_rfl) (by kernel_rfl) (by kernel_rfl) (fun _ _ _ h => h) (Or.inl ⟨by rfl, ?h4⟩) (by assumption) ?r4
  case h4 => (intro w hSw; (try dsimp only at hSw); (try obtain ⟨s1, s2⟩ := hSw); first | (go_simp; done) | (go_simp; with_reducible rfl))
  try simp only [Act.put, List.setIfInBounds_toArray, List.set_cons_zero, List.set_cons_succ]
  refine wpAnyH_take (i := 5) (v := ?v5) rfl (by kernel_rfl) (by kernel_rfl) (by kernel_rfl) (fun _ _ _ h => h) (Or.inl ⟨by rfl, ?h5⟩) (by assumption) ?r5
  case h5 => (intro w hSw; (try dsimp only at hSw); (try obtain ⟨s1, s2⟩ := hSw); first | (go_simp; done) | (go_simp; with_reducible rfl))
  try simp only [Act.put, List.setIfInBounds_toArray, List.set_cons_zero, List.set_cons_succ]
  refine wpAnyH_take (i := 6) (v := ?v6) rfl (by kernel_rfl) (by kernel_rfl) (by kernel_rfl) (fun _ _ _ h => h) (Or.inl ⟨by rfl, ?h6⟩) (by assumption) ?r6
  case h6 => (intro w hSw; (try dsimp only at hSw); (try obtain ⟨s1, s2⟩ := hSw); first | (go_simp; done) | (go_simp; with_reducible rfl))
  try simp only [Act.put, List.setIfInBounds_toArray, List.set_cons_zero, List.set_cons_succ]
  refine wpAnyH_take (i := 7) (v := ?v7) rfl (by kernel_rfl) (by kernel_rfl) (by kernel_rfl) (fun _ _ _ h => h) (Or.inl ⟨by rfl, ?h7⟩) (by assumption) ?r7
  case h7 => (intro w hSw; (try dsimp only at hSw); (try obtain ⟨s1, s2⟩ := hSw); first | (go_simp; done) | (go_simp; with_reducible rfl))
  try simp only [Act.put, List.setIfInBounds_toArray, List.set_cons_zero, List.set_cons_succ]
  refine wpAnyH_ready (rs := [8]) (by kernel_rfl) (by simp) ?_
  refine AllReadyH.cons rfl (fun K1 hK1 => ?_) AllReadyH.nil
  go_simp
  refine hK1.out _ _ ?s1 (fun hHeld1 => ?_)
  case s1 => exact ⟨far8 r0 (by omega) _ _ _ _ _ _ _ _, far8 y0 (Nat.ne_of_lt (Nat.lt_of_lt_of_le hgl.out (by omega))) _ _ _ _ _ _ _ _⟩
  clear hK1 K1
  try simp only [Act.put, List.setIfInBounds_toArray, List.set_cons_zero, List.set_cons_succ]
  refine wpAnyH_done (by kernel_rfl) ?_ _
  go_wp2_with fail
  refine bodyPost_ret (results_agg rfl _ _ (w.heap.size + 1 + 1) [.bool false, .int .i64 2, .int .i64 ((b : Int) + 1), .int .u64 (IntKind.u64.wrap (x0 - 1)), .int .u64 0, .int .i64 0, .int .u64 0, .int .u64 0] Try.isAgg49 Try.sizeOf49 rfl (set8_heap_d bW_.out (.bool false) (.int .i64 2) (.int .i64 ((b : Int) + 1)) (.int .u64 (IntKind.u64.wrap (x0 - 1))) (.int .u64 0) (.int .i64 0) (.int .u64 0) (.int .u64 0))) rfl ?_
  exact ⟨by simp [wantOf, acc, accWant, up, dn], ((n4'.out.trans oo_w0.out).then (set8_only _ _ (.bool false) (.int .i64 2) (.int .i64 ((b : Int) + 1)) (.int .u64 (IntKind.u64.wrap (x0 - 1))) (.int .u64 0) (.int .i64 0) (.int .u64 0) (.int .u64 0)) (fun q hq hl => by omega)).drew⟩

set_option linter.unusedVariables false in
set_option linter.unusedSimpArgs false in
set_option maxRecDepth 100000 in
set_option maxHeartbeats 4000000 in
theorem rpop_2 (w : World) (b c : Nat) (v : Int) (a : Option Addr) (cap : Nat) (x0 x1 : Int) (hc : 0 < c) (hc2 : c ≤ 64) (hb : b ≤ 1000) (hx0 : In64 x0) (hx1 : In64 x1) (hl : LogIn w a [x0, x1]) :
    Calls Try.prog 36 #[.agg #[.int .i64 (b : Int), .int .i64 (c : Int)], .agg #[.int .i64 2, .int .u64 v, .slice a 2 cap]] w fun e w' => e = .returned (wantOf b c (.pop2 x0)) ∧ Only Nil w w' := by
  have sl := Lib.hid (fun (w : World) (x : Int) (hx : In64 x) => rslot_any w b c x hx hc hc2 hb)
  have ec : IntKind.u64.wrap (c : Int) = (c : Int) := by rw [IntKind.wrap_u64]; omega
  obtain ⟨g, rfl, hgl', hg'⟩ := log_at hl (by simp)
  have hg := Lib.hid hg'
  have hgl := Lib.hid hgl'
  clear hg' hl hgl'
  have k0 := Lib.hid hx0
  have k1 := Lib.hid hx1
  have hb' : (b : Int) ≤ 1000 := by omega
  clear hc hc2 hb hx0 hx1
  go_enter Try.func36, Try.ntmps36
  go_wp2_with (fail)
  obtain ⟨n1, n2, n3, n4⟩ := three_new w (.cells #[.int .i64 (b : Int), .int .i64 (c : Int)] 31) (.cells #[.int .i64 2, .int .u64 v, .slice (some ⟨g, 0, none⟩) 2 cap] 44) (.cells #[.bool false, .int .i64 0, .int .i64 0, .int .u64 0, .int .u64 0, .int .i64 0, .int .u64 0, .int .u64 0] 49)
  have bl := Lib.hid (fun (w' : World) (o : Only Nil (((w.alloc (.cells #[.int .i64 (b : Int), .int .i64 (c : Int)] 31)).alloc (.cells #[.int .i64 2, .int .u64 v, .slice (some ⟨g, 0, none⟩) 2 cap] 44)).alloc (.cells #[.bool false, .int .i64 0, .int .i64 0, .int .u64 0, .int .u64 0, .int .i64 0, .int .u64 0, .int .u64 0] 49)) w') =>
    And.intro ((o.block _ (lt_of_block n1) (fun h => h)).trans n1) (And.intro ((o.block _ (lt_of_block n2) (fun h => h)).trans n2) ((o.block _ (lt_of_block n3) (fun h => h)).trans n3)))
  have n4' := Lib.hid n4
  clear n1 n2 n3 n4
  generalize (((w.alloc (.cells #[.int .i64 (b : Int), .int .i64 (c : Int)] 31)).alloc (.cells #[.int .i64 2, .int .u64 v, .slice (some ⟨g, 0, none⟩) 2 cap] 44)).alloc (.cells #[.bool false, .int .i64 0, .int .i64 0, .int .u64 0, .int .u64 0, .int .i64 0, .int .u64 0, .int .u64 0] 49)) = W0 at bl n4' ⊢
  have oo_w0 := Lib.hid (Only.refl Nil W0)
  obtain ⟨bR, bO, bW⟩ := bl.out W0 oo_w0.out
  have bW_ := Lib.hid bW
  obtain ⟨c0, c1, c2, c3, c4, c5, c6, c7, f0, f1, f2, f3, f4, f5, f6, f7⟩ := want_cells bW
  have r0 : W0.cell? ⟨w.heap.size, 0, none⟩ = some (.int .i64 (b : Int)) := (by simp [World.cell?, bR])
  have r1 : W0.cell? ⟨w.heap.size, 1, none⟩ = some (.int .i64 (c : Int)) := (by simp [World.cell?, bR])
  have o1 : W0.cell? ⟨w.heap.size + 1, 1, none⟩ = some (.int .u64 v) := (by simp [World.cell?, bO])
  clear bR bO bW
  have y0 : W0.cell? ⟨g, 0, none⟩ = some (.int .u64 x0) := hg.out W0 (n4'.out.trans oo_w0.out) 0 (by simp)
  have y1 : W0.cell? ⟨g, 1, none⟩ = some (.int .u64 x1) := hg.out W0 (n4'.out.trans oo_w0.out) 1 (by simp)
  go_wp2_with (first
    | (go_at_call 47; (with_reducible refine (rload_any _ _).mono ?_); rintro e_ w1 ⟨rfl, q_w1⟩
       have oo_w1 : Hid (Only Nil W0 w1) := Lib.hid (by first | exact (oo_w0.out.trans q_w1) | exact (oo_w0.out.drew.trans q_w1) | exact ((oo_w0.out.drewN _).trans q_w1))
       clear c0 c1 c2 c3 c4 c5 c6 c7 f0 f1 f2 f3 f4 f5 f6 f7 r0 r1 o1 y0 y1
       obtain ⟨bR, bO, bW⟩ := bl.out w1 oo_w1.out
       have bW_ := Lib.hid bW
       obtain ⟨c0, c1, c2, c3, c4, c5, c6, c7, f0, f1, f2, f3, f4, f5, f6, f7⟩ := want_cells bW
       have r0 : w1.cell? ⟨w.heap.size, 0, none⟩ = some (.int .i64 (b : Int)) := (by simp [World.cell?, bR])
       have r1 : w1.cell? ⟨w.heap.size, 1, none⟩ = some (.int .i64 (c : Int)) := (by simp [World.cell?, bR])
       have o1 : w1.cell? ⟨w.heap.size + 1, 1, none⟩ = some (.int .u64 v) := (by simp [World.cell?, bO])
       clear bR bO bW
       have y0 : w1.cell? ⟨g, 0, none⟩ = some (.int .u64 x0) := hg.out w1 (n4'.out.trans oo_w1.out) 0 (by simp)
       have y1 : w1.cell? ⟨g, 1, none⟩ = some (.int .u64 x1) := hg.out w1 (n4'.out.trans oo_w1.out) 1 (by simp)))
  refine bodyPost_ret (results_agg rfl _ _ (w.heap.size + 1 + 1) [.bool false, .int .i64 1, .int .i64 (b : Int), .int .u64 0, .int .u64 0, .int .i64 0, .int .u64 0, .int .u64 0] Try.isAgg49 Try.sizeOf49 rfl (set8_heap bW_.out (.bool false) (.int .i64 1) (.int .i64 (b : Int)) (.int .u64 0) (.int .u64 0) (.int .i64 0) (.int .u64 0) (.int .u64 0))) rfl ?_
  exact ⟨by simp [wantOf, acc, accWant, up, dn], ((n4'.out.trans oo_w1.out).then (set8_only _ _ (.bool false) (.int .i64 1) (.int .i64 (b : Int)) (.int .u64 0) (.int .u64 0) (.int .i64 0) (.int .u64 0) (.int .u64 0)) (fun q hq hl => by omega))⟩

set_option linter.unusedVariables false in
set_option linter.unusedSimpArgs false in
set_option maxRecDepth 100000 in
set_option maxHeartbeats 4000000 in
theorem rpop_3n (w : World) (b c : Nat) (v : Int) (a : Option Addr) (cap : Nat) (x0 x1 x2 : Int) (hc : 0 < c) (hc2 : c ≤ 64) (hb : b ≤ 1000) (hx0 : In64 x0) (hx1 : In64 x1) (hx2 : In64 x2) (hl : LogIn w a [x0, x1, x2]) (hx : IntKind.u64.wrap (x0 - 1) < x2) :
    Calls Try.prog 36 #[.agg #[.int .i64 (b : Int), .int .i64 (c : Int)], .agg #[.int .i64 2, .int .u64 v, .slice a 3 cap]] w fun e w' => e = .returned (wantOf b c (.popN x0)) ∧ Only Nil w w' := by
  have sl := Lib.hid (fun (w : World) (x : Int) (hx : In64 x) => rslot_any w b c x hx hc hc2 hb)
  have ec : IntKind.u64.wrap (c : Int) = (c : Int) := by rw [IntKind.wrap_u64]; omega
  obtain ⟨g, rfl, hgl', hg'⟩ := log_at hl (by simp)
  have hg := Lib.hid hg'
  have hgl := Lib.hid hgl'
  clear hg' hl hgl'
  have k0 := Lib.hid hx0
  have k1 := Lib.hid hx1
  have k2 := Lib.hid hx2
  have hb' : (b : Int) ≤ 1000 := by omega
  clear hc hc2 hb hx0 hx1 hx2
  go_enter Try.func36, Try.ntmps36
  go_wp2_with (fail)
  obtain ⟨n1, n2, n3, n4⟩ := three_new w (.cells #[.int .i64 (b : Int), .int .i64 (c : Int)] 31) (.cells #[.int .i64 2, .int .u64 v, .slice (some ⟨g, 0, none⟩) 3 cap] 44) (.cells #[.bool false, .int .i64 0, .int .i64 0, .int .u64 0, .int .u64 0, .int .i64 0, .int .u64 0, .int .u64 0] 49)
  have bl := Lib.hid (fun (w' : World) (o : Only Nil (((w.alloc (.cells #[.int .i64 (b : Int), .int .i64 (c : Int)] 31)).alloc (.cells #[.int .i64 2, .int .u64 v, .slice (some ⟨g, 0, none⟩) 3 cap] 44)).alloc (.cells #[.bool false, .int .i64 0, .int .i64 0, .int .u64 0, .int .u64 0, .int .i64 0, .int .u64 0, .int .u64 0] 49)) w') =>
    And.intro ((o.block _ (lt_of_block n1) (fun h => h)).trans n1) (And.intro ((o.block _ (lt_of_block n2) (fun h => h)).trans n2) ((o.block _ (lt_of_block n3) (fun h => h)).trans n3)))
  have n4' := Lib.hid n4
  clear n1 n2 n3 n4
  generalize (((w.alloc (.cells #[.int .i64 (b : Int), .int .i64 (c : Int)] 31)).alloc (.cells #[.int .i64 2, .int .u64 v, .slice (some ⟨g, 0, none⟩) 3 cap] 44)).alloc (.cells #[.bool false, .int .i64 0, .int .i64 0, .int .u64 0, .int .u64 0, .int .i64 0, .int .u64 0, .int .u64 0] 49)) = W0 at bl n4' ⊢
  have oo_w0 := Lib.hid (Only.refl Nil W0)
  obtain ⟨bR, bO, bW⟩ := bl.out W0 oo_w0.out
  have bW_ := Lib.hid bW
  obtain ⟨c0, c1, c2, c3, c4, c5, c6, c7, f0, f1, f2, f3, f4, f5, f6, f7⟩ := want_cells bW
  have r0 : W0.cell? ⟨w.heap.size, 0, none⟩ = some (.int .i64 (b : Int)) := (by simp [World.cell?, bR])
  have r1 : W0.cell? ⟨w.heap.size, 1, none⟩ = some (.int .i64 (c : Int)) := (by simp [World.cell?, bR])
  have o1 : W0.cell? ⟨w.heap.size + 1, 1, none⟩ = some (.int .u64 v) := (by simp [World.cell?, bO])
  clear bR bO bW
  have y0 : W0.cell? ⟨g, 0, none⟩ = some (.int .u64 x0) := hg.out W0 (n4'.out.trans oo_w0.out) 0 (by simp)
  have y1 : W0.cell? ⟨g, 1, none⟩ = some (.int .u64 x1) := hg.out W0 (n4'.out.trans oo_w0.out) 1 (by simp)
  have y2 : W0.cell? ⟨g, 2, none⟩ = some (.int .u64 x2) := hg.out W0 (n4'.out.trans oo_w0.out) 2 (by simp)
  go_quiet (fail)
  have oo_q0 := Lib.hid (oo_w0.out.drewN nq)
  clear c0 c1 c2 c3 c4 c5 c6 c7 f0 f1 f2 f3 f4 f5 f6 f7 r0 r1 o1 y0 y1 y2
  generalize W0.drewN nq = Wq0 at oo_q0 ⊢
  obtain ⟨bR, bO, bW⟩ := bl.out Wq0 oo_q0.out
  have bW_ := Lib.hid bW
  obtain ⟨c0, c1, c2, c3, c4, c5, c6, c7, f0, f1, f2, f3, f4, f5, f6, f7⟩ := want_cells bW
  have r0 : Wq0.cell? ⟨w.heap.size, 0, none⟩ = some (.int .i64 (b : Int)) := (by simp [World.cell?, bR])
  have r1 : Wq0.cell? ⟨w.heap.size, 1, none⟩ = some (.int .i64 (c : Int)) := (by simp [World.cell?, bR])
  have o1 : Wq0.cell? ⟨w.heap.size + 1, 1, none⟩ = some (.int .u64 v) := (by simp [World.cell?, bO])
  clear bR bO bW
  have y0 : Wq0.cell? ⟨g, 0, none⟩ = some (.int .u64 x0) := hg.out Wq0 (n4'.out.trans oo_q0.out) 0 (by simp)
  have y1 : Wq0.cell? ⟨g, 1, none⟩ = some (.int .u64 x1) := hg.out Wq0 (n4'.out.trans oo_q0.out) 1 (by simp)
  have y2 : Wq0.cell? ⟨g, 2, none⟩ = some (.int .u64 x2) := hg.out Wq0 (n4'.out.trans oo_q0.out) 2 (by simp)
  have p0 := r0
  have p1 := r1
  have oo_a0 : Hid (Only Nil W0 (Wq0.alloc (.cells #[.bool false, .int .i64 2, .int .i64 ((b : Int) + 1), .int .u64 x0, .int .u64 0, .int .i64 0, .int .u64 0, .int .u64 0] 49))) := Lib.hid (oo_q0.out.alloc _)
  clear c0 c1 c2 c3 c4 c5 c6 c7 f0 f1 f2 f3 f4 f5 f6 f7 r0 r1 o1 y0 y1 y2
  obtain ⟨bR, bO, bW⟩ := bl.out (Wq0.alloc (.cells #[.bool false, .int .i64 2, .int .i64 ((b : Int) + 1), .int .u64 x0, .int .u64 0, .int .i64 0, .int .u64 0, .int .u64 0] 49)) oo_a0.out
  have bW_ := Lib.hid bW
  obtain ⟨c0, c1, c2, c3, c4, c5, c6, c7, f0, f1, f2, f3, f4, f5, f6, f7⟩ := want_cells bW
  have r0 : (Wq0.alloc (.cells #[.bool false, .int .i64 2, .int .i64 ((b : Int) + 1), .int .u64 x0, .int .u64 0, .int .i64 0, .int .u64 0, .int .u64 0] 49)).cell? ⟨w.heap.size, 0, none⟩ = some (.int .i64 (b : Int)) := (by simp [World.cell?, bR])
  have r1 : (Wq0.alloc (.cells #[.bool false, .int .i64 2, .int .i64 ((b : Int) + 1), .int .u64 x0, .int .u64 0, .int .i64 0, .int .u64 0, .int .u64 0] 49)).cell? ⟨w.heap.size, 1, none⟩ = some (.int .i64 (c : Int)) := (by simp [World.cell?, bR])
  have o1 : (Wq0.alloc (.cells #[.bool false, .int .i64 2, .int .i64 ((b : Int) + 1), .int .u64 x0, .int .u64 0, .int .i64 0, .int .u64 0, .int .u64 0] 49)).cell? ⟨w.heap.size + 1, 1, none⟩ = some (.int .u64 v) := (by simp [World.cell?, bO])
  clear bR bO bW
  have y0 : (Wq0.alloc (.cells #[.bool false, .int .i64 2, .int .i64 ((b : Int) + 1), .int .u64 x0, .int .u64 0, .int .i64 0, .int .u64 0, .int .u64 0] 49)).cell? ⟨g, 0, none⟩ = some (.int .u64 x0) := hg.out (Wq0.alloc (.cells #[.bool false, .int .i64 2, .int .i64 ((b : Int) + 1), .int .u64 x0, .int .u64 0, .int .i64 0, .int .u64 0, .int .u64 0] 49)) (n4'.out.trans oo_a0.out) 0 (by simp)
  have y1 : (Wq0.alloc (.cells #[.bool false, .int .i64 2, .int .i64 ((b : Int) + 1), .int .u64 x0, .int .u64 0, .int .i64 0, .int .u64 0, .int .u64 0] 49)).cell? ⟨g, 1, none⟩ = some (.int .u64 x1) := hg.out (Wq0.alloc (.cells #[.bool false, .int .i64 2, .int .i64 ((b : Int) + 1), .int .u64 x0, .int .u64 0, .int .i64 0, .int .u64 0, .int .u64 0] 49)) (n4'.out.trans oo_a0.out) 1 (by simp)
  have y2 : (Wq0.alloc (.cells #[.bool false, .int .i64 2, .int .i64 ((b : Int) + 1), .int .u64 x0, .int .u64 0, .int .i64 0, .int .u64 0, .int .u64 0] 49)).cell? ⟨g, 2, none⟩ = some (.int .u64 x2) := hg.out (Wq0.alloc (.cells #[.bool false, .int .i64 2, .int .i64 ((b : Int) + 1), .int .u64 x0, .int .u64 0, .int .i64 0, .int .u64 0, .int .u64 0] 49)) (n4'.out.trans oo_a0.out) 2 (by simp)
  go_wp2
  refine bodyPost_ret (results_agg rfl _ _ (w.heap.size + 1 + 1) [.bool false, .int .i64 2, .int .i64 ((b : Int) + 1), .int .u64 x0, .int .u64 0, .int .i64 0, .int .u64 0, .int .u64 0] Try.isAgg49 Try.sizeOf49 rfl (set8_heap bW_.out (.bool false) (.int .i64 2) (.int .i64 ((b : Int) + 1)) (.int .u64 x0) (.int .u64 0) (.int .i64 0) (.int .u64 0) (.int .u64 0))) rfl ?_
  exact ⟨by simp [wantOf, acc, accWant, up, dn], ((n4'.out.trans oo_a0.out).then (set8_only _ _ (.bool false) (.int .i64 2) (.int .i64 ((b : Int) + 1)) (.int .u64 x0) (.int .u64 0) (.int .i64 0) (.int .u64 0) (.int .u64 0)) (fun q hq hl => by omega))⟩

set_option linter.unusedVariables false in
set_option linter.unusedSimpArgs false in
set_option maxRecDepth 100000 in
set_option maxHeartbeats 4000000 in
theorem rpop_3s (w : World) (b c : Nat) (v : Int) (a : Option Addr) (cap : Nat) (x0 x1 x2 : Int) (hc : 0 < c) (hc2 : c ≤ 64) (hb : b ≤ 1000) (hx0 : In64 x0) (hx1 : In64 x1) (hx2 : In64 x2) (hl : LogIn w a [x0, x1, x2]) (hx : x2 < IntKind.u64.wrap (x0 - 1)) :
    Calls Try.prog 36 #[.agg #[.int .i64 (b : Int), .int .i64 (c : Int)], .agg #[.int .i64 2, .int .u64 v, .slice a 3 cap]] w fun e w' => e = .returned (wantOf b c (.popS x0)) ∧ Only Nil w w' := by
  have sl := Lib.hid (fun (w : World) (x : Int) (hx : In64 x) => rslot_any w b c x hx hc hc2 hb)
  have ec : IntKind.u64.wrap (c : Int) = (c : Int) := by rw [IntKind.wrap_u64]; omega
  obtain ⟨g, rfl, hgl', hg'⟩ := log_at hl (by simp)
  have hg := Lib.hid hg'
  have hgl := Lib.hid hgl'
  clear hg' hl hgl'
  have k0 := Lib.hid hx0
  have k1 := Lib.hid hx1
  have k2 := Lib.hid hx2
  have hb' : (b : Int) ≤ 1000 := by omega
  have hy : ¬ (IntKind.u64.wrap (x0 - 1) < x2) := by omega
  have kd : Hid (In64 (IntKind.u64.wrap (x0 - 1))) := Lib.hid (dn_in x0)
  clear hc hc2 hb hx0 hx1 hx2
  go_enter Try.func36, Try.ntmps36
  go_wp2_with (fail)
  obtain ⟨n1, n2, n3, n4⟩ := three_new w (.cells #[.int .i64 (b : Int), .int .i64 (c : Int)] 31) (.cells #[.int .i64 2, .int .u64 v, .slice (some ⟨g, 0, none⟩) 3 cap] 44) (.cells #[.bool false, .int .i64 0, .int .i64 0, .int .u64 0, .int .u64 0, .int .i64 0, .int .u64 0, .int .u64 0] 49)
  have bl := Lib.hid (fun (w' : World) (o : Only Nil (((w.alloc (.cells #[.int .i64 (b : Int), .int .i64 (c : Int)] 31)).alloc (.cells #[.int .i64 2, .int .u64 v, .slice (some ⟨g, 0, none⟩) 3 cap] 44)).alloc (.cells #[.bool false, .int .i64 0, .int .i64 0, .int .u64 0, .int .u64 0, .int .i64 0, .int .u64 0, .int .u64 0] 49)) w') =>
    And.intro ((o.block _ (lt_of_block n1) (fun h => h)).trans n1) (And.intro ((o.block _ (lt_of_block n2) (fun h => h)).trans n2) ((o.block _ (lt_of_block n3) (fun h => h)).trans n3)))
  have n4' := Lib.hid n4
  clear n1 n2 n3 n4
  generalize (((w.alloc (.cells #[.int .i64 (b : Int), .int .i64 (c : Int)] 31)).alloc (.cells #[.int .i64 2, .int .u64 v, .slice (some ⟨g, 0, none⟩) 3 cap] 44)).alloc (.cells #[.bool false, .int .i64 0, .int .i64 0, .int .u64 0, .int .u64 0, .int .i64 0, .int .u64 0, .int .u64 0] 49)) = W0 at bl n4' ⊢
  have oo_w0 := Lib.hid (Only.refl Nil W0)
  obtain ⟨bR, bO, bW⟩ := bl.out W0 oo_w0.out
  have bW_ := Lib.hid bW
  obtain ⟨c0, c1, c2, c3, c4, c5, c6, c7, f0, f1, f2, f3, f4, f5, f6, f7⟩ := want_cells bW
  have r0 : W0.cell? ⟨w.heap.size, 0, none⟩ = some (.int .i64 (b : Int)) := (by simp [World.cell?, bR])
  have r1 : W0.cell? ⟨w.heap.size, 1, none⟩ = some (.int .i64 (c : Int)) := (by simp [World.cell?, bR])
  have o1 : W0.cell? ⟨w.heap.size + 1, 1, none⟩ = some (.int .u64 v) := (by simp [World.cell?, bO])
  clear bR bO bW
  have y0 : W0.cell? ⟨g, 0, none⟩ = some (.int .u64 x0) := hg.out W0 (n4'.out.trans oo_w0.out) 0 (by simp)
  have y1 : W0.cell? ⟨g, 1, none⟩ = some (.int .u64 x1) := hg.out W0 (n4'.out.trans oo_w0.out) 1 (by simp)
  have y2 : W0.cell? ⟨g, 2, none⟩ = some (.int .u64 x2) := hg.out W0 (n4'.out.trans oo_w0.out) 2 (by simp)
  go_quiet (fail)
  have oo_q0 := Lib.hid (oo_w0.out.drewN nq)
  clear c0 c1 c2 c3 c4 c5 c6 c7 f0 f1 f2 f3 f4 f5 f6 f7 r0 r1 o1 y0 y1 y2
  generalize W0.drewN nq = Wq0 at oo_q0 ⊢
  obtain ⟨bR, bO, bW⟩ := bl.out Wq0 oo_q0.out
  have bW_ := Lib.hid bW
  obtain ⟨c0, c1, c2, c3, c4, c5, c6, c7, f0, f1, f2, f3, f4, f5, f6, f7⟩ := want_cells bW
  have r0 : Wq0.cell? ⟨w.heap.size, 0, none⟩ = some (.int .i64 (b : Int)) := (by simp [World.cell?, bR])
  have r1 : Wq0.cell? ⟨w.heap.size, 1, none⟩ = some (.int .i64 (c : Int)) := (by simp [World.cell?, bR])
  have o1 : Wq0.cell? ⟨w.heap.size + 1, 1, none⟩ = some (.int .u64 v) := (by simp [World.cell?, bO])
  clear bR bO bW
  have y0 : Wq0.cell? ⟨g, 0, none⟩ = some (.int .u64 x0) := hg.out Wq0 (n4'.out.trans oo_q0.out) 0 (by simp)
  have y1 : Wq0.cell? ⟨g, 1, none⟩ = some (.int .u64 x1) := hg.out Wq0 (n4'.out.trans oo_q0.out) 1 (by simp)
  have y2 : Wq0.cell? ⟨g, 2, none⟩ = some (.int .u64 x2) := hg.out Wq0 (n4'.out.trans oo_q0.out) 2 (by simp)
  have p0 := r0
  have p1 := r1
  have oo_a0 : Hid (Only Nil W0 (Wq0.alloc (.cells #[.bool false, .int .i64 2, .int .i64 ((b : Int) + 1), .int .u64 x0, .int .u64 0, .int .i64 0, .int .u64 0, .int .u64 0] 49))) := Lib.hid (oo_q0.out.alloc _)
  clear c0 c1 c2 c3 c4 c5 c6 c7 f0 f1 f2 f3 f4 f5 f6 f7 r0 r1 o1 y0 y1 y2
  obtain ⟨bR, bO, bW⟩ := bl.out (Wq0.alloc (.cells #[.bool false, .int .i64 2, .int .i64 ((b : Int) + 1), .int .u64 x0, .int .u64 0, .int .i64 0, .int .u64 0, .int .u64 0] 49)) oo_a0.out
  have bW_ := Lib.hid bW
  obtain ⟨c0, c1, c2, c3, c4, c5, c6, c7, f0, f1, f2, f3, f4, f5, f6, f7⟩ := want_cells bW
  have r0 : (Wq0.alloc (.cells #[.bool false, .int .i64 2, .int .i64 ((b : Int) + 1), .int .u64 x0, .int .u64 0, .int .i64 0, .int .u64 0, .int .u64 0] 49)).cell? ⟨w.heap.size, 0, none⟩ = some (.int .i64 (b : Int)) := (by simp [World.cell?, bR])
  have r1 : (Wq0.alloc (.cells #[.bool false, .int .i64 2, .int .i64 ((b : Int) + 1), .int .u64 x0, .int .u64 0, .int .i64 0, .int .u64 0, .int .u64 0] 49)).cell? ⟨w.heap.size, 1, none⟩ = some (.int .i64 (c : Int)) := (by simp [World.cell?, bR])
  have o1 : (Wq0.alloc (.cells #[.bool false, .int .i64 2, .int .i64 ((b : Int) + 1), .int .u64 x0, .int .u64 0, .int .i64 0, .int .u64 0, .int .u64 0] 49)).cell? ⟨w.heap.size + 1, 1, none⟩ = some (.int .u64 v) := (by simp [World.cell?, bO])
  clear bR bO bW
  have y0 : (Wq0.alloc (.cells #[.bool false, .int .i64 2, .int .i64 ((b : Int) + 1), .int .u64 x0, .int .u64 0, .int .i64 0, .int .u64 0, .int .u64 0] 49)).cell? ⟨g, 0, none⟩ = some (.int .u64 x0) := hg.out (Wq0.alloc (.cells #[.bool false, .int .i64 2, .int .i64 ((b : Int) + 1), .int .u64 x0, .int .u64 0, .int .i64 0, .int .u64 0, .int .u64 0] 49)) (n4'.out.trans oo_a0.out) 0 (by simp)
  have y1 : (Wq0.alloc (.cells #[.bool false, .int .i64 2, .int .i64 ((b : Int) + 1), .int .u64 x0, .int .u64 0, .int .i64 0, .int .u64 0, .int .u64 0] 49)).cell? ⟨g, 1, none⟩ = some (.int .u64 x1) := hg.out (Wq0.alloc (.cells #[.bool false, .int .i64 2, .int .i64 ((b : Int) + 1), .int .u64 x0, .int .u64 0, .int .i64 0, .int .u64 0, .int .u64 0] 49)) (n4'.out.trans oo_a0.out) 1 (by simp)
  have y2 : (Wq0.alloc (.cells #[.bool false, .int .i64 2, .int .i64 ((b : Int) + 1), .int .u64 x0, .int .u64 0, .int .i64 0, .int .u64 0, .int .u64 0] 49)).cell? ⟨g, 2, none⟩ = some (.int .u64 x2) := hg.out (Wq0.alloc (.cells #[.bool false, .int .i64 2, .int .i64 ((b : Int) + 1), .int .u64 x0, .int .u64 0, .int .i64 0, .int .u64 0, .int .u64 0] 49)) (n4'.out.trans oo_a0.out) 2 (by simp)
  go_wp2_with (first
    | (go_at_call 48; (with_reducible refine (sl.out _ _ kd.out).mono ?_); rintro e_ w1 ⟨rfl, q_w1⟩
       have oo_w1 : Hid (Only Nil W0 w1) := Lib.hid (by first | exact (oo_a0.out.trans q_w1) | exact (oo_a0.out.drew.trans q_w1) | exact ((oo_a0.out.drewN _).trans q_w1))
       clear c0 c1 c2 c3 c4 c5 c6 c7 f0 f1 f2 f3 f4 f5 f6 f7 r0 r1 o1 y0 y1 y2
       obtain ⟨bR, bO, bW⟩ := bl.out w1 oo_w1.out
       have bW_ := Lib.hid bW
       obtain ⟨c0, c1, c2, c3, c4, c5, c6, c7, f0, f1, f2, f3, f4, f5, f6, f7⟩ := want_cells bW
       have r0 : w1.cell? ⟨w.heap.size, 0, none⟩ = some (.int .i64 (b : Int)) := (by simp [World.cell?, bR])
       have r1 : w1.cell? ⟨w.heap.size, 1, none⟩ = some (.int .i64 (c : Int)) := (by simp [World.cell?, bR])
       have o1 : w1.cell? ⟨w.heap.size + 1, 1, none⟩ = some (.int .u64 v) := (by simp [World.cell?, bO])
       clear bR bO bW
       have y0 : w1.cell? ⟨g, 0, none⟩ = some (.int .u64 x0) := hg.out w1 (n4'.out.trans oo_w1.out) 0 (by simp)
       have y1 : w1.cell? ⟨g, 1, none⟩ = some (.int .u64 x1) := hg.out w1 (n4'.out.trans oo_w1.out) 1 (by simp)
       have y2 : w1.cell? ⟨g, 2, none⟩ = some (.int .u64 x2) := hg.out w1 (n4'.out.trans oo_w1.out) 2 (by simp))
    | (go_at_call 47; (with_reducible refine (rload_any _ _).mono ?_); rintro e_ w2 ⟨rfl, q_w2⟩
       have oo_w2 : Hid (Only Nil W0 w2) := Lib.hid (by first | exact (oo_w1.out.trans q_w2) | exact (oo_w1.out.drew.trans q_w2) | exact ((oo_w1.out.drewN _).trans q_w2))
       clear c0 c1 c2 c3 c4 c5 c6 c7 f0 f1 f2 f3 f4 f5 f6 f7 r0 r1 o1 y0 y1 y2
       obtain ⟨bR, bO, bW⟩ := bl.out w2 oo_w2.out
       have bW_ := Lib.hid bW
       obtain ⟨c0, c1, c2, c3, c4, c5, c6, c7, f0, f1, f2, f3, f4, f5, f6, f7⟩ := want_cells bW
       have r0 : w2.cell? ⟨w.heap.size, 0, none⟩ = some (.int .i64 (b : Int)) := (by simp [World.cell?, bR])
       have r1 : w2.cell? ⟨w.heap.size, 1, none⟩ = some (.int .i64 (c : Int)) := (by simp [World.cell?, bR])
       have o1 : w2.cell? ⟨w.heap.size + 1, 1, none⟩ = some (.int .u64 v) := (by simp [World.cell?, bO])
       clear bR bO bW
       have y0 : w2.cell? ⟨g, 0, none⟩ = some (.int .u64 x0) := hg.out w2 (n4'.out.trans oo_w2.out) 0 (by simp)
       have y1 : w2.cell? ⟨g, 1, none⟩ = some (.int .u64 x1) := hg.out w2 (n4'.out.trans oo_w2.out) 1 (by simp)
       have y2 : w2.cell? ⟨g, 2, none⟩ = some (.int .u64 x2) := hg.out w2 (n4'.out.trans oo_w2.out) 2 (by simp)))
  refine bodyPost_ret (results_agg rfl _ _ (w.heap.size + 1 + 1) [.bool false, .int .i64 1, .int .i64 (slotAt b c (IntKind.u64.wrap (x0 - 1)) : Int), .int .u64 0, .int .u64 0, .int .i64 0, .int .u64 0, .int .u64 0] Try.isAgg49 Try.sizeOf49 rfl (set8_heap bW_.out (.bool false) (.int .i64 1) (.int .i64 (slotAt b c (IntKind.u64.wrap (x0 - 1)) : Int)) (.int .u64 0) (.int .u64 0) (.int .i64 0) (.int .u64 0) (.int .u64 0))) rfl ?_
  exact ⟨by simp [wantOf, acc, accWant, up, dn], ((n4'.out.trans oo_w2.out).then (set8_only _ _ (.bool false) (.int .i64 1) (.int .i64 (slotAt b c (IntKind.u64.wrap (x0 - 1)) : Int)) (.int .u64 0) (.int .u64 0) (.int .i64 0) (.int .u64 0) (.int .u64 0)) (fun q hq hl => by omega))⟩

set_option linter.unusedVariables false in
set_option linter.unusedSimpArgs false in
set_option maxRecDepth 100000 in
set_option maxHeartbeats 4000000 in
theorem rpop_3f (w : World) (b c : Nat) (v : Int) (a : Option Addr) (cap : Nat) (x0 x1 x2 : Int) (hc : 0 < c) (hc2 : c ≤ 64) (hb : b ≤ 1000) (hx0 : In64 x0) (hx1 : In64 x1) (hx2 : In64 x2) (hl : LogIn w a [x0, x1, x2]) (hx : x2 = IntKind.u64.wrap (x0 - 1)) :
    Calls Try.prog 36 #[.agg #[.int .i64 (b : Int), .int .i64 (c : Int)], .agg #[.int .i64 2, .int .u64 v, .slice a 3 cap]] w fun e w' => e = .returned (wantOf b c (.popF x0)) ∧ Only Nil w w' := by
  have sl := Lib.hid (fun (w : World) (x : Int) (hx : In64 x) => rslot_any w b c x hx hc hc2 hb)
  have ec : IntKind.u64.wrap (c : Int) = (c : Int) := by rw [IntKind.wrap_u64]; omega
  obtain ⟨g, rfl, hgl', hg'⟩ := log_at hl (by simp)
  have hg := Lib.hid hg'
  have hgl := Lib.hid hgl'
  clear hg' hl hgl'
  have k0 := Lib.hid hx0
  have k1 := Lib.hid hx1
  have k2 := Lib.hid hx2
  have hb' : (b : Int) ≤ 1000 := by omega
  have kd : Hid (In64 (IntKind.u64.wrap (x0 - 1))) := Lib.hid (dn_in x0)
  clear hc hc2 hb hx0 hx1 hx2
  go_enter Try.func36, Try.ntmps36
  go_wp2_with (fail)
  obtain ⟨n1, n2, n3, n4⟩ := three_new w (.cells #[.int .i64 (b : Int), .int .i64 (c : Int)] 31) (.cells #[.int .i64 2, .int .u64 v, .slice (some ⟨g, 0, none⟩) 3 cap] 44) (.cells #[.bool false, .int .i64 0, .int .i64 0, .int .u64 0, .int .u64 0, .int .i64 0, .int .u64 0, .int .u64 0] 49)
  have bl := Lib.hid (fun (w' : World) (o : Only Nil (((w.alloc (.cells #[.int .i64 (b : Int), .int .i64 (c : Int)] 31)).alloc (.cells #[.int .i64 2, .int .u64 v, .slice (some ⟨g, 0, none⟩) 3 cap] 44)).alloc (.cells #[.bool false, .int .i64 0, .int .i64 0, .int .u64 0, .int .u64 0, .int .i64 0, .int .u64 0, .int .u64 0] 49)) w') =>
    And.intro ((o.block _ (lt_of_block n1) (fun h => h)).trans n1) (And.intro ((o.block _ (lt_of_block n2) (fun h => h)).trans n2) ((o.block _ (lt_of_block n3) (fun h => h)).trans n3)))
  have n4' := Lib.hid n4
  clear n1 n2 n3 n4
  generalize (((w.alloc (.cells #[.int .i64 (b : Int), .int .i64 (c : Int)] 31)).alloc (.cells #[.int .i64 2, .int .u64 v, .slice (some ⟨g, 0, none⟩) 3 cap] 44)).alloc (.cells #[.bool false, .int .i64 0, .int .i64 0, .int .u64 0, .int .u64 0, .int .i64 0, .int .u64 0, .int .u64 0] 49)) = W0 at bl n4' ⊢
  have oo_w0 := Lib.hid (Only.refl Nil W0)
  obtain ⟨bR, bO, bW⟩ := bl.out W0 oo_w0.out
  have bW_ := Lib.hid bW
  obtain ⟨c0, c1, c2, c3, c4, c5, c6, c7, f0, f1, f2, f3, f4, f5, f6, f7⟩ := want_cells bW
  have r0 : W0.cell? ⟨w.heap.size, 0, none⟩ = some (.int .i64 (b : Int)) := (by simp [World.cell?, bR])
  have r1 : W0.cell? ⟨w.heap.size, 1, none⟩ = some (.int .i64 (c : Int)) := (by simp [World.cell?, bR])
  have o1 : W0.cell? ⟨w.heap.size + 1, 1, none⟩ = some (.int .u64 v) := (by simp [World.cell?, bO])
  clear bR bO bW
  have y0 : W0.cell? ⟨g, 0, none⟩ = some (.int .u64 x0) := hg.out W0 (n4'.out.trans oo_w0.out) 0 (by simp)
  have y1 : W0.cell? ⟨g, 1, none⟩ = some (.int .u64 x1) := hg.out W0 (n4'.out.trans oo_w0.out) 1 (by simp)
  have y2 : W0.cell? ⟨g, 2, none⟩ = some (.int .u64 x2) := hg.out W0 (n4'.out.trans oo_w0.out) 2 (by simp)
  go_quiet (fail)
  have oo_q0 := Lib.hid (oo_w0.out.drewN nq)
  clear c0 c1 c2 c3 c4 c5 c6 c7 f0 f1 f2 f3 f4 f5 f6 f7 r0 r1 o1 y0 y1 y2
  generalize W0.drewN nq = Wq0 at oo_q0 ⊢
  obtain ⟨bR, bO, bW⟩ := bl.out Wq0 oo_q0.out
  have bW_ := Lib.hid bW
  obtain ⟨c0, c1, c2, c3, c4, c5, c6, c7, f0, f1, f2, f3, f4, f5, f6, f7⟩ := want_cells bW
  have r0 : Wq0.cell? ⟨w.heap.size, 0, none⟩ = some (.int .i64 (b : Int)) := (by simp [World.cell?, bR])
  have r1 : Wq0.cell? ⟨w.heap.size, 1, none⟩ = some (.int .i64 (c : Int)) := (by simp [World.cell?, bR])
  have o1 : Wq0.cell? ⟨w.heap.size + 1, 1, none⟩ = some (.int .u64 v) := (by simp [World.cell?, bO])
  clear bR bO bW
  have y0 : Wq0.cell? ⟨g, 0, none⟩ = some (.int .u64 x0) := hg.out Wq0 (n4'.out.trans oo_q0.out) 0 (by simp)
  have y1 : Wq0.cell? ⟨g, 1, none⟩ = some (.int .u64 x1) := hg.out Wq0 (n4'.out.trans oo_q0.out) 1 (by simp)
  have y2 : Wq0.cell? ⟨g, 2, none⟩ = some (.int .u64 x2) := hg.out Wq0 (n4'.out.trans oo_q0.out) 2 (by simp)
  have p0 := r0
  have p1 := r1
  have oo_a0 : Hid (Only Nil W0 (Wq0.alloc (.cells #[.bool false, .int .i64 2, .int .i64 ((b : Int) + 1), .int .u64 x0, .int .u64 0, .int .i64 0, .int .u64 0, .int .u64 0] 49))) := Lib.hid (oo_q0.out.alloc _)
  clear c0 c1 c2 c3 c4 c5 c6 c7 f0 f1 f2 f3 f4 f5 f6 f7 r0 r1 o1 y0 y1 y2
  obtain ⟨bR, bO, bW⟩ := bl.out (Wq0.alloc (.cells #[.bool false, .int .i64 2, .int .i64 ((b : Int) + 1), .int .u64 x0, .int .u64 0, .int .i64 0, .int .u64 0, .int .u64 0] 49)) oo_a0.out
  have bW_ := Lib.hid bW
  obtain ⟨c0, c1, c2, c3, c4, c5, c6, c7, f0, f1, f2, f3, f4, f5, f6, f7⟩ := want_cells bW
  have r0 : (Wq0.alloc (.cells #[.bool false, .int .i64 2, .int .i64 ((b : Int) + 1), .int .u64 x0, .int .u64 0, .int .i64 0, .int .u64 0, .int .u64 0] 49)).cell? ⟨w.heap.size, 0, none⟩ = some (.int .i64 (b : Int)) := (by simp [World.cell?, bR])
  have r1 : (Wq0.alloc (.cells #[.bool false, .int .i64 2, .int .i64 ((b : Int) + 1), .int .u64 x0, .int .u64 0, .int .i64 0, .int .u64 0, .int .u64 0] 49)).cell? ⟨w.heap.size, 1, none⟩ = some (.int .i64 (c : Int)) := (by simp [World.cell?, bR])
  have o1 : (Wq0.alloc (.cells #[.bool false, .int .i64 2, .int .i64 ((b : Int) + 1), .int .u64 x0, .int .u64 0, .int .i64 0, .int .u64 0, .int .u64 0] 49)).cell? ⟨w.heap.size + 1, 1, none⟩ = some (.int .u64 v) := (by simp [World.cell?, bO])
  clear bR bO bW
  have y0 : (Wq0.alloc (.cells #[.bool false, .int .i64 2, .int .i64 ((b : Int) + 1), .int .u64 x0, .int .u64 0, .int .i64 0, .int .u64 0, .int .u64 0] 49)).cell? ⟨g, 0, none⟩ = some (.int .u64 x0) := hg.out (Wq0.alloc (.cells #[.bool false, .int .i64 2, .int .i64 ((b : Int) + 1), .int .u64 x0, .int .u64 0, .int .i64 0, .int .u64 0, .int .u64 0] 49)) (n4'.out.trans oo_a0.out) 0 (by simp)
  have y1 : (Wq0.alloc (.cells #[.bool false, .int .i64 2, .int .i64 ((b : Int) + 1), .int .u64 x0, .int .u64 0, .int .i64 0, .int .u64 0, .int .u64 0] 49)).cell? ⟨g, 1, none⟩ = some (.int .u64 x1) := hg.out (Wq0.alloc (.cells #[.bool false, .int .i64 2, .int .i64 ((b : Int) + 1), .int .u64 x0, .int .u64 0, .int .i64 0, .int .u64 0, .int .u64 0] 49)) (n4'.out.trans oo_a0.out) 1 (by simp)
  have y2 : (Wq0.alloc (.cells #[.bool false, .int .i64 2, .int .i64 ((b : Int) + 1), .int .u64 x0, .int .u64 0, .int .i64 0, .int .u64 0, .int .u64 0] 49)).cell? ⟨g, 2, none⟩ = some (.int .u64 x2) := hg.out (Wq0.alloc (.cells #[.bool false, .int .i64 2, .int .i64 ((b : Int) + 1), .int .u64 x0, .int .u64 0, .int .i64 0, .int .u64 0, .int .u64 0] 49)) (n4'.out.trans oo_a0.out) 2 (by simp)
  go_wp2_with (first
    | (go_at_call 48; (with_reducible refine (sl.out _ _ kd.out).mono ?_); rintro e_ w1 ⟨rfl, q_w1⟩
       have oo_w1 : Hid (Only Nil W0 w1) := Lib.hid (by first | exact (oo_a0.out.trans q_w1) | exact (oo_a0.out.drew.trans q_w1) | exact ((oo_a0.out.drewN _).trans q_w1))
       clear c0 c1 c2 c3 c4 c5 c6 c7 f0 f1 f2 f3 f4 f5 f6 f7 r0 r1 o1 y0 y1 y2
       obtain ⟨bR, bO, bW⟩ := bl.out w1 oo_w1.out
       have bW_ := Lib.hid bW
       obtain ⟨c0, c1, c2, c3, c4, c5, c6, c7, f0, f1, f2, f3, f4, f5, f6, f7⟩ := want_cells bW
       have r0 : w1.cell? ⟨w.heap.size, 0, none⟩ = some (.int .i64 (b : Int)) := (by simp [World.cell?, bR])
       have r1 : w1.cell? ⟨w.heap.size, 1, none⟩ = some (.int .i64 (c : Int)) := (by simp [World.cell?, bR])
       have o1 : w1.cell? ⟨w.heap.size + 1, 1, none⟩ = some (.int .u64 v) := (by simp [World.cell?, bO])
       clear bR bO bW
       have y0 : w1.cell? ⟨g, 0, none⟩ = some (.int .u64 x0) := hg.out w1 (n4'.out.trans oo_w1.out) 0 (by simp)
       have y1 : w1.cell? ⟨g, 1, none⟩ = some (.int .u64 x1) := hg.out w1 (n4'.out.trans oo_w1.out) 1 (by simp)
       have y2 : w1.cell? ⟨g, 2, none⟩ = some (.int .u64 x2) := hg.out w1 (n4'.out.trans oo_w1.out) 2 (by simp))
    | (go_at_call 47; (with_reducible refine (rload_any _ _).mono ?_); rintro e_ w2 ⟨rfl, q_w2⟩
       have oo_w2 : Hid (Only Nil W0 w2) := Lib.hid (by first | exact (oo_w1.out.trans q_w2) | exact (oo_w1.out.drew.trans q_w2) | exact ((oo_w1.out.drewN _).trans q_w2))
       clear c0 c1 c2 c3 c4 c5 c6 c7 f0 f1 f2 f3 f4 f5 f6 f7 r0 r1 o1 y0 y1 y2
       obtain ⟨bR, bO, bW⟩ := bl.out w2 oo_w2.out
       have bW_ := Lib.hid bW
       obtain ⟨c0, c1, c2, c3, c4, c5, c6, c7, f0, f1, f2, f3, f4, f5, f6, f7⟩ := want_cells bW
       have r0 : w2.cell? ⟨w.heap.size, 0, none⟩ = some (.int .i64 (b : Int)) := (by simp [World.cell?, bR])
       have r1 : w2.cell? ⟨w.heap.size, 1, none⟩ = some (.int .i64 (c : Int)) := (by simp [World.cell?, bR])
       have o1 : w2.cell? ⟨w.heap.size + 1, 1, none⟩ = some (.int .u64 v) := (by simp [World.cell?, bO])
       clear bR bO bW
       have y0 : w2.cell? ⟨g, 0, none⟩ = some (.int .u64 x0) := hg.out w2 (n4'.out.trans oo_w2.out) 0 (by simp)
       have y1 : w2.cell? ⟨g, 1, none⟩ = some (.int .u64 x1) := hg.out w2 (n4'.out.trans oo_w2.out) 1 (by simp)
       have y2 : w2.cell? ⟨g, 2, none⟩ = some (.int .u64 x2) := hg.out w2 (n4'.out.trans oo_w2.out) 2 (by simp)))
  refine bodyPost_ret (results_agg rfl _ _ (w.heap.size + 1 + 1) [.bool false, .int .i64 1, .int .i64 (slotAt b c (IntKind.u64.wrap (x0 - 1)) : Int), .int .u64 0, .int .u64 0, .int .i64 0, .int .u64 0, .int .u64 0] Try.isAgg49 Try.sizeOf49 rfl (set8_heap bW_.out (.bool false) (.int .i64 1) (.int .i64 (slotAt b c (IntKind.u64.wrap (x0 - 1)) : Int)) (.int .u64 0) (.int .u64 0) (.int .i64 0) (.int .u64 0) (.int .u64 0))) rfl ?_
  exact ⟨by simp [wantOf, acc, accWant, up, dn], ((n4'.out.trans oo_w2.out).then (set8_only _ _ (.bool false) (.int .i64 1) (.int .i64 (slotAt b c (IntKind.u64.wrap (x0 - 1)) : Int)) (.int .u64 0) (.int .u64 0) (.int .i64 0) (.int .u64 0) (.int .u64 0)) (fun q hq hl => by omega))⟩

set_option linter.unusedVariables false in
set_option linter.unusedSimpArgs false in
set_option maxRecDepth 100000 in
set_option maxHeartbeats 4000000 in
theorem rpop_4n (w : World) (b c : Nat) (v : Int) (a : Option Addr) (cap : Nat) (x0 x1 x2 x3 : Int) (hc : 0 < c) (hc2 : c ≤ 64) (hb : b ≤ 1000) (hx0 : In64 x0) (hx1 : In64 x1) (hx2 : In64 x2) (hx3 : In64 x3) (hl : LogIn w a [x0, x1, x2, x3]) (hx : IntKind.u64.wrap (x0 - 1) < x2) :
    Calls Try.prog 36 #[.agg #[.int .i64 (b : Int), .int .i64 (c : Int)], .agg #[.int .i64 2, .int .u64 v, .slice a 4 cap]] w fun e w' => e = .returned (wantOf b c (.over 4 0)) ∧ Only Nil w w' := by
  have sl := Lib.hid (fun (w : World) (x : Int) (hx : In64 x) => rslot_any w b c x hx hc hc2 hb)
  have ec : IntKind.u64.wrap (c : Int) = (c : Int) := by rw [IntKind.wrap_u64]; omega
  obtain ⟨g, rfl, hgl', hg'⟩ := log_at hl (by simp)
  have hg := Lib.hid hg'
  have hgl := Lib.hid hgl'
  clear hg' hl hgl'
  have k0 := Lib.hid hx0
  have k1 := Lib.hid hx1
  have k2 := Lib.hid hx2
  have k3 := Lib.hid hx3
  have hb' : (b : Int) ≤ 1000 := by omega
  clear hc hc2 hb hx0 hx1 hx2 hx3
  go_enter Try.func36, Try.ntmps36
  go_wp2_with (fail)
  obtain ⟨n1, n2, n3, n4⟩ := three_new w (.cells #[.int .i64 (b : Int), .int .i64 (c : Int)] 31) (.cells #[.int .i64 2, .int .u64 v, .slice (some ⟨g, 0, none⟩) 4 cap] 44) (.cells #[.bool false, .int .i64 0, .int .i64 0, .int .u64 0, .int .u64 0, .int .i64 0, .int .u64 0, .int .u64 0] 49)
  have bl := Lib.hid (fun (w' : World) (o : Only Nil (((w.alloc (.cells #[.int .i64 (b : Int), .int .i64 (c : Int)] 31)).alloc (.cells #[.int .i64 2, .int .u64 v, .slice (some ⟨g, 0, none⟩) 4 cap] 44)).alloc (.cells #[.bool false, .int .i64 0, .int .i64 0, .int .u64 0, .int .u64 0, .int .i64 0, .int .u64 0, .int .u64 0] 49)) w') =>
    And.intro ((o.block _ (lt_of_block n1) (fun h => h)).trans n1) (And.intro ((o.block _ (lt_of_block n2) (fun h => h)).trans n2) ((o.block _ (lt_of_block n3) (fun h => h)).trans n3)))
  have n4' := Lib.hid n4
  clear n1 n2 n3 n4
  generalize (((w.alloc (.cells #[.int .i64 (b : Int), .int .i64 (c : Int)] 31)).alloc (.cells #[.int .i64 2, .int .u64 v, .slice (some ⟨g, 0, none⟩) 4 cap] 44)).alloc (.cells #[.bool false, .int .i64 0, .int .i64 0, .int .u64 0, .int .u64 0, .int .i64 0, .int .u64 0, .int .u64 0] 49)) = W0 at bl n4' ⊢
  have oo_w0 := Lib.hid (Only.refl Nil W0)
  obtain ⟨bR, bO, bW⟩ := bl.out W0 oo_w0.out
  have bW_ := Lib.hid bW
  obtain ⟨c0, c1, c2, c3, c4, c5, c6, c7, f0, f1, f2, f3, f4, f5, f6, f7⟩ := want_cells bW
  have r0 : W0.cell? ⟨w.heap.size, 0, none⟩ = some (.int .i64 (b : Int)) := (by simp [World.cell?, bR])
  have r1 : W0.cell? ⟨w.heap.size, 1, none⟩ = some (.int .i64 (c : Int)) := (by simp [World.cell?, bR])
  have o1 : W0.cell? ⟨w.heap.size + 1, 1, none⟩ = some (.int .u64 v) := (by simp [World.cell?, bO])
  clear bR bO bW
  have y0 : W0.cell? ⟨g, 0, none⟩ = some (.int .u64 x0) := hg.out W0 (n4'.out.trans oo_w0.out) 0 (by simp)
  have y1 : W0.cell? ⟨g, 1, none⟩ = some (.int .u64 x1) := hg.out W0 (n4'.out.trans oo_w0.out) 1 (by simp)
  have y2 : W0.cell? ⟨g, 2, none⟩ = some (.int .u64 x2) := hg.out W0 (n4'.out.trans oo_w0.out) 2 (by simp)
  have y3 : W0.cell? ⟨g, 3, none⟩ = some (.int .u64 x3) := hg.out W0 (n4'.out.trans oo_w0.out) 3 (by simp)
  go_quiet (fail)
  have oo_q0 := Lib.hid (oo_w0.out.drewN nq)
  clear c0 c1 c2 c3 c4 c5 c6 c7 f0 f1 f2 f3 f4 f5 f6 f7 r0 r1 o1 y0 y1 y2 y3
  generalize W0.drewN nq = Wq0 at oo_q0 ⊢
  obtain ⟨bR, bO, bW⟩ := bl.out Wq0 oo_q0.out
  have bW_ := Lib.hid bW
  obtain ⟨c0, c1, c2, c3, c4, c5, c6, c7, f0, f1, f2, f3, f4, f5, f6, f7⟩ := want_cells bW
  have r0 : Wq0.cell? ⟨w.heap.size, 0, none⟩ = some (.int .i64 (b : Int)) := (by simp [World.cell?, bR])
  have r1 : Wq0.cell? ⟨w.heap.size, 1, none⟩ = some (.int .i64 (c : Int)) := (by simp [World.cell?, bR])
  have o1 : Wq0.cell? ⟨w.heap.size + 1, 1, none⟩ = some (.int .u64 v) := (by simp [World.cell?, bO])
  clear bR bO bW
  have y0 : Wq0.cell? ⟨g, 0, none⟩ = some (.int .u64 x0) := hg.out Wq0 (n4'.out.trans oo_q0.out) 0 (by simp)
  have y1 : Wq0.cell? ⟨g, 1, none⟩ = some (.int .u64 x1) := hg.out Wq0 (n4'.out.trans oo_q0.out) 1 (by simp)
  have y2 : Wq0.cell? ⟨g, 2, none⟩ = some (.int .u64 x2) := hg.out Wq0 (n4'.out.trans oo_q0.out) 2 (by simp)
  have y3 : Wq0.cell? ⟨g, 3, none⟩ = some (.int .u64 x3) := hg.out Wq0 (n4'.out.trans oo_q0.out) 3 (by simp)
  have p0 := r0
  have p1 := r1
  have oo_a0 : Hid (Only Nil W0 (Wq0.alloc (.cells #[.bool false, .int .i64 2, .int .i64 ((b : Int) + 1), .int .u64 x0, .int .u64 0, .int .i64 0, .int .u64 0, .int .u64 0] 49))) := Lib.hid (oo_q0.out.alloc _)
  clear c0 c1 c2 c3 c4 c5 c6 c7 f0 f1 f2 f3 f4 f5 f6 f7 r0 r1 o1 y0 y1 y2 y3
  obtain ⟨bR, bO, bW⟩ := bl.out (Wq0.alloc (.cells #[.bool false, .int .i64 2, .int .i64 ((b : Int) + 1), .int .u64 x0, .int .u64 0, .int .i64 0, .int .u64 0, .int .u64 0] 49)) oo_a0.out
  have bW_ := Lib.hid bW
  obtain ⟨c0, c1, c2, c3, c4, c5, c6, c7, f0, f1, f2, f3, f4, f5, f6, f7⟩ := want_cells bW
  have r0 : (Wq0.alloc (.cells #[.bool false, .int .i64 2, .int .i64 ((b : Int) + 1), .int .u64 x0, .int .u64 0, .int .i64 0, .int .u64 0, .int .u64 0] 49)).cell? ⟨w.heap.size, 0, none⟩ = some (.int .i64 (b : Int)) := (by simp [World.cell?, bR])
  have r1 : (Wq0.alloc (.cells #[.bool false, .int .i64 2, .int .i64 ((b : Int) + 1), .int .u64 x0, .int .u64 0, .int .i64 0, .int .u64 0, .int .u64 0] 49)).cell? ⟨w.heap.size, 1, none⟩ = some (.int .i64 (c : Int)) := (by simp [World.cell?, bR])
  have o1 : (Wq0.alloc (.cells #[.bool false, .int .i64 2, .int .i64 ((b : Int) + 1), .int .u64 x0, .int .u64 0, .int .i64 0, .int .u64 0, .int .u64 0] 49)).cell? ⟨w.heap.size + 1, 1, none⟩ = some (.int .u64 v) := (by simp [World.cell?, bO])
  clear bR bO bW
  have y0 : (Wq0.alloc (.cells #[.bool false, .int .i64 2, .int .i64 ((b : Int) + 1), .int .u64 x0, .int .u64 0, .int .i64 0, .int .u64 0, .int .u64 0] 49)).cell? ⟨g, 0, none⟩ = some (.int .u64 x0) := hg.out (Wq0.alloc (.cells #[.bool false, .int .i64 2, .int .i64 ((b : Int) + 1), .int .u64 x0, .int .u64 0, .int .i64 0, .int .u64 0, .int .u64 0] 49)) (n4'.out.trans oo_a0.out) 0 (by simp)
  have y1 : (Wq0.alloc (.cells #[.bool false, .int .i64 2, .int .i64 ((b : Int) + 1), .int .u64 x0, .int .u64 0, .int .i64 0, .int .u64 0, .int .u64 0] 49)).cell? ⟨g, 1, none⟩ = some (.int .u64 x1) := hg.out (Wq0.alloc (.cells #[.bool false, .int .i64 2, .int .i64 ((b : Int) + 1), .int .u64 x0, .int .u64 0, .int .i64 0, .int .u64 0, .int .u64 0] 49)) (n4'.out.trans oo_a0.out) 1 (by simp)
  have y2 : (Wq0.alloc (.cells #[.bool false, .int .i64 2, .int .i64 ((b : Int) + 1), .int .u64 x0, .int .u64 0, .int .i64 0, .int .u64 0, .int .u64 0] 49)).cell? ⟨g, 2, none⟩ = some (.int .u64 x2) := hg.out (Wq0.alloc (.cells #[.bool false, .int .i64 2, .int .i64 ((b : Int) + 1), .int .u64 x0, .int .u64 0, .int .i64 0, .int .u64 0, .int .u64 0] 49)) (n4'.out.trans oo_a0.out) 2 (by simp)
  have y3 : (Wq0.alloc (.cells #[.bool false, .int .i64 2, .int .i64 ((b : Int) + 1), .int .u64 x0, .int .u64 0, .int .i64 0, .int .u64 0, .int .u64 0] 49)).cell? ⟨g, 3, none⟩ = some (.int .u64 x3) := hg.out (Wq0.alloc (.cells #[.bool false, .int .i64 2, .int .i64 ((b : Int) + 1), .int .u64 x0, .int .u64 0, .int .i64 0, .int .u64 0, .int .u64 0] 49)) (n4'.out.trans oo_a0.out) 3 (by simp)
  go_wp2_with (first
    | (go_at_call 46; (with_reducible refine (rover_any _ _ _).mono ?_); rintro e_ w1 ⟨rfl, q_w1⟩
       have oo_w1 : Hid (Only Nil W0 w1) := Lib.hid (by first | exact (oo_a0.out.trans q_w1) | exact (oo_a0.out.drew.trans q_w1) | exact ((oo_a0.out.drewN _).trans q_w1))
       clear c0 c1 c2 c3 c4 c5 c6 c7 f0 f1 f2 f3 f4 f5 f6 f7 r0 r1 o1 y0 y1 y2 y3
       obtain ⟨bR, bO, bW⟩ := bl.out w1 oo_w1.out
       have bW_ := Lib.hid bW
       obtain ⟨c0, c1, c2, c3, c4, c5, c6, c7, f0, f1, f2, f3, f4, f5, f6, f7⟩ := want_cells bW
       have r0 : w1.cell? ⟨w.heap.size, 0, none⟩ = some (.int .i64 (b : Int)) := (by simp [World.cell?, bR])
       have r1 : w1.cell? ⟨w.heap.size, 1, none⟩ = some (.int .i64 (c : Int)) := (by simp [World.cell?, bR])
       have o1 : w1.cell? ⟨w.heap.size + 1, 1, none⟩ = some (.int .u64 v) := (by simp [World.cell?, bO])
       clear bR bO bW
       have y0 : w1.cell? ⟨g, 0, none⟩ = some (.int .u64 x0) := hg.out w1 (n4'.out.trans oo_w1.out) 0 (by simp)
       have y1 : w1.cell? ⟨g, 1, none⟩ = some (.int .u64 x1) := hg.out w1 (n4'.out.trans oo_w1.out) 1 (by simp)
       have y2 : w1.cell? ⟨g, 2, none⟩ = some (.int .u64 x2) := hg.out w1 (n4'.out.trans oo_w1.out) 2 (by simp)
       have y3 : w1.cell? ⟨g, 3, none⟩ = some (.int .u64 x3) := hg.out w1 (n4'.out.trans oo_w1.out) 3 (by simp)))
  refine bodyPost_ret (results_agg rfl _ _ (w.heap.size + 1 + 1) [.bool true, .int .i64 0, .int .i64 0, .int .u64 0, .int .u64 0, .int .i64 4, .int .u64 0, .int .u64 0] Try.isAgg49 Try.sizeOf49 rfl (set8_heap bW_.out (.bool true) (.int .i64 0) (.int .i64 0) (.int .u64 0) (.int .u64 0) (.int .i64 4) (.int .u64 0) (.int .u64 0))) rfl ?_
  exact ⟨by simp [wantOf, acc, accWant, up, dn], ((n4'.out.trans oo_w1.out).then (set8_only _ _ (.bool true) (.int .i64 0) (.int .i64 0) (.int .u64 0) (.int .u64 0) (.int .i64 4) (.int .u64 0) (.int .u64 0)) (fun q hq hl => by omega))⟩

set_option linter.unusedVariables false in
set_option linter.unusedSimpArgs false in
set_option maxRecDepth 100000 in
set_option maxHeartbeats 4000000 in
theorem rpop_4s (w : World) (b c : Nat) (v : Int) (a : Option Addr) (cap : Nat) (x0 x1 x2 x3 : Int) (hc : 0 < c) (hc2 : c ≤ 64) (hb : b ≤ 1000) (hx0 : In64 x0) (hx1 : In64 x1) (hx2 : In64 x2) (hx3 : In64 x3) (hl : LogIn w a [x0, x1, x2, x3]) (hx : x2 < IntKind.u64.wrap (x0 - 1)) :
    Calls Try.prog 36 #[.agg #[.int .i64 (b : Int), .int .i64 (c : Int)], .agg #[.int .i64 2, .int .u64 v, .slice a 4 cap]] w fun e w' => e = .returned (wantOf b c (.over 1 x3)) ∧ Only Nil w w' := by
  have sl := Lib.hid (fun (w : World) (x : Int) (hx : In64 x) => rslot_any w b c x hx hc hc2 hb)
  have ec : IntKind.u64.wrap (c : Int) = (c : Int) := by rw [IntKind.wrap_u64]; omega
  obtain ⟨g, rfl, hgl', hg'⟩ := log_at hl (by simp)
  have hg := Lib.hid hg'
  have hgl := Lib.hid hgl'
  clear hg' hl hgl'
  have k0 := Lib.hid hx0
  have k1 := Lib.hid hx1
  have k2 := Lib.hid hx2
  have k3 := Lib.hid hx3
  have hb' : (b : Int) ≤ 1000 := by omega
  have hy : ¬ (IntKind.u64.wrap (x0 - 1) < x2) := by omega
  clear hc hc2 hb hx0 hx1 hx2 hx3
  go_enter Try.func36, Try.ntmps36
  go_wp2_with (fail)
  obtain ⟨n1, n2, n3, n4⟩ := three_new w (.cells #[.int .i64 (b : Int), .int .i64 (c : Int)] 31) (.cells #[.int .i64 2, .int .u64 v, .slice (some ⟨g, 0, none⟩) 4 cap] 44) (.cells #[.bool false, .int .i64 0, .int .i64 0, .int .u64 0, .int .u64 0, .int .i64 0, .int .u64 0, .int .u64 0] 49)
  have bl := Lib.hid (fun (w' : World) (o : Only Nil (((w.alloc (.cells #[.int .i64 (b : Int), .int .i64 (c : Int)] 31)).alloc (.cells #[.int .i64 2, .int .u64 v, .slice (some ⟨g, 0, none⟩) 4 cap] 44)).alloc (.cells #[.bool false, .int .i64 0, .int .i64 0, .int .u64 0, .int .u64 0, .int .i64 0, .int .u64 0, .int .u64 0] 49)) w') =>
    And.intro ((o.block _ (lt_of_block n1) (fun h => h)).trans n1) (And.intro ((o.block _ (lt_of_block n2) (fun h => h)).trans n2) ((o.block _ (lt_of_block n3) (fun h => h)).trans n3)))
  have n4' := Lib.hid n4
  clear n1 n2 n3 n4
  generalize (((w.alloc (.cells #[.int .i64 (b : Int), .int .i64 (c : Int)] 31)).alloc (.cells #[.int .i64 2, .int .u64 v, .slice (some ⟨g, 0, none⟩) 4 cap] 44)).alloc (.cells #[.bool false, .int .i64 0, .int .i64 0, .int .u64 0, .int .u64 0, .int .i64 0, .int .u64 0, .int .u64 0] 49)) = W0 at bl n4' ⊢
  have oo_w0 := Lib.hid (Only.refl Nil W0)
  obtain ⟨bR, bO, bW⟩ := bl.out W0 oo_w0.out
  have bW_ := Lib.hid bW
  obtain ⟨c0, c1, c2, c3, c4, c5, c6, c7, f0, f1, f2, f3, f4, f5, f6, f7⟩ := want_cells bW
  have r0 : W0.cell? ⟨w.heap.size, 0, none⟩ = some (.int .i64 (b : Int)) := (by simp [World.cell?, bR])
  have r1 : W0.cell? ⟨w.heap.size, 1, none⟩ = some (.int .i64 (c : Int)) := (by simp [World.cell?, bR])
  have o1 : W0.cell? ⟨w.heap.size + 1, 1, none⟩ = some (.int .u64 v) := (by simp [World.cell?, bO])
  clear bR bO bW
  have y0 : W0.cell? ⟨g, 0, none⟩ = some (.int .u64 x0) := hg.out W0 (n4'.out.trans oo_w0.out) 0 (by simp)
  have y1 : W0.cell? ⟨g, 1, none⟩ = some (.int .u64 x1) := hg.out W0 (n4'.out.trans oo_w0.out) 1 (by simp)
  have y2 : W0.cell? ⟨g, 2, none⟩ = some (.int .u64 x2) := hg.out W0 (n4'.out.trans oo_w0.out) 2 (by simp)
  have y3 : W0.cell? ⟨g, 3, none⟩ = some (.int .u64 x3) := hg.out W0 (n4'.out.trans oo_w0.out) 3 (by simp)
  go_quiet (fail)
  have oo_q0 := Lib.hid (oo_w0.out.drewN nq)
  clear c0 c1 c2 c3 c4 c5 c6 c7 f0 f1 f2 f3 f4 f5 f6 f7 r0 r1 o1 y0 y1 y2 y3
  generalize W0.drewN nq = Wq0 at oo_q0 ⊢
  obtain ⟨bR, bO, bW⟩ := bl.out Wq0 oo_q0.out
  have bW_ := Lib.hid bW
  obtain ⟨c0, c1, c2, c3, c4, c5, c6, c7, f0, f1, f2, f3, f4, f5, f6, f7⟩ := want_cells bW
  have r0 : Wq0.cell? ⟨w.heap.size, 0, none⟩ = some (.int .i64 (b : Int)) := (by simp [World.cell?, bR])
  have r1 : Wq0.cell? ⟨w.heap.size, 1, none⟩ = some (.int .i64 (c : Int)) := (by simp [World.cell?, bR])
  have o1 : Wq0.cell? ⟨w.heap.size + 1, 1, none⟩ = some (.int .u64 v) := (by simp [World.cell?, bO])
  clear bR bO bW
  have y0 : Wq0.cell? ⟨g, 0, none⟩ = some (.int .u64 x0) := hg.out Wq0 (n4'.out.trans oo_q0.out) 0 (by simp)
  have y1 : Wq0.cell? ⟨g, 1, none⟩ = some (.int .u64 x1) := hg.out Wq0 (n4'.out.trans oo_q0.out) 1 (by simp)
  have y2 : Wq0.cell? ⟨g, 2, none⟩ = some (.int .u64 x2) := hg.out Wq0 (n4'.out.trans oo_q0.out) 2 (by simp)
  have y3 : Wq0.cell? ⟨g, 3, none⟩ = some (.int .u64 x3) := hg.out Wq0 (n4'.out.trans oo_q0.out) 3 (by simp)
  have p0 := r0
  have p1 := r1
  have oo_a0 : Hid (Only Nil W0 (Wq0.alloc (.cells #[.bool false, .int .i64 2, .int .i64 ((b : Int) + 1), .int .u64 x0, .int .u64 0, .int .i64 0, .int .u64 0, .int .u64 0] 49))) := Lib.hid (oo_q0.out.alloc _)
  clear c0 c1 c2 c3 c4 c5 c6 c7 f0 f1 f2 f3 f4 f5 f6 f7 r0 r1 o1 y0 y1 y2 y3
  obtain ⟨bR, bO, bW⟩ := bl.out (Wq0.alloc (.cells #[.bool false, .int .i64 2, .int .i64 ((b : Int) + 1), .int .u64 x0, .int .u64 0, .int .i64 0, .int .u64 0, .int .u64 0] 49)) oo_a0.out
  have bW_ := Lib.hid bW
  obtain ⟨c0, c1, c2, c3, c4, c5, c6, c7, f0, f1, f2, f3, f4, f5, f6, f7⟩ := want_cells bW
  have r0 : (Wq0.alloc (.cells #[.bool false, .int .i64 2, .int .i64 ((b : Int) + 1), .int .u64 x0, .int .u64 0, .int .i64 0, .int .u64 0, .int .u64 0] 49)).cell? ⟨w.heap.size, 0, none⟩ = some (.int .i64 (b : Int)) := (by simp [World.cell?, bR])
  have r1 : (Wq0.alloc (.cells #[.bool false, .int .i64 2, .int .i64 ((b : Int) + 1), .int .u64 x0, .int .u64 0, .int .i64 0, .int .u64 0, .int .u64 0] 49)).cell? ⟨w.heap.size, 1, none⟩ = some (.int .i64 (c : Int)) := (by simp [World.cell?, bR])
  have o1 : (Wq0.alloc (.cells #[.bool false, .int .i64 2, .int .i64 ((b : Int) + 1), .int .u64 x0, .int .u64 0, .int .i64 0, .int .u64 0, .int .u64 0] 49)).cell? ⟨w.heap.size + 1, 1, none⟩ = some (.int .u64 v) := (by simp [World.cell?, bO])
  clear bR bO bW
  have y0 : (Wq0.alloc (.cells #[.bool false, .int .i64 2, .int .i64 ((b : Int) + 1), .int .u64 x0, .int .u64 0, .int .i64 0, .int .u64 0, .int .u64 0] 49)).cell? ⟨g, 0, none⟩ = some (.int .u64 x0) := hg.out (Wq0.alloc (.cells #[.bool false, .int .i64 2, .int .i64 ((b : Int) + 1), .int .u64 x0, .int .u64 0, .int .i64 0, .int .u64 0, .int .u64 0] 49)) (n4'.out.trans oo_a0.out) 0 (by simp)
  have y1 : (Wq0.alloc (.cells #[.bool false, .int .i64 2, .int .i64 ((b : Int) + 1), .int .u64 x0, .int .u64 0, .int .i64 0, .int .u64 0, .int .u64 0] 49)).cell? ⟨g, 1, none⟩ = some (.int .u64 x1) := hg.out (Wq0.alloc (.cells #[.bool false, .int .i64 2, .int .i64 ((b : Int) + 1), .int .u64 x0, .int .u64 0, .int .i64 0, .int .u64 0, .int .u64 0] 49)) (n4'.out.trans oo_a0.out) 1 (by simp)
  have y2 : (Wq0.alloc (.cells #[.bool false, .int .i64 2, .int .i64 ((b : Int) + 1), .int .u64 x0, .int .u64 0, .int .i64 0, .int .u64 0, .int .u64 0] 49)).cell? ⟨g, 2, none⟩ = some (.int .u64 x2) := hg.out (Wq0.alloc (.cells #[.bool false, .int .i64 2, .int .i64 ((b : Int) + 1), .int .u64 x0, .int .u64 0, .int .i64 0, .int .u64 0, .int .u64 0] 49)) (n4'.out.trans oo_a0.out) 2 (by simp)
  have y3 : (Wq0.alloc (.cells #[.bool false, .int .i64 2, .int .i64 ((b : Int) + 1), .int .u64 x0, .int .u64 0, .int .i64 0, .int .u64 0, .int .u64 0] 49)).cell? ⟨g, 3, none⟩ = some (.int .u64 x3) := hg.out (Wq0.alloc (.cells #[.bool false, .int .i64 2, .int .i64 ((b : Int) + 1), .int .u64 x0, .int .u64 0, .int .i64 0, .int .u64 0, .int .u64 0] 49)) (n4'.out.trans oo_a0.out) 3 (by simp)
  go_wp2_with (first
    | (go_at_call 46; (with_reducible refine (rover_any _ _ _).mono ?_); rintro e_ w1 ⟨rfl, q_w1⟩
       have oo_w1 : Hid (Only Nil W0 w1) := Lib.hid (by first | exact (oo_a0.out.trans q_w1) | exact (oo_a0.out.drew.trans q_w1) | exact ((oo_a0.out.drewN _).trans q_w1))
       clear c0 c1 c2 c3 c4 c5 c6 c7 f0 f1 f2 f3 f4 f5 f6 f7 r0 r1 o1 y0 y1 y2 y3
       obtain ⟨bR, bO, bW⟩ := bl.out w1 oo_w1.out
       have bW_ := Lib.hid bW
       obtain ⟨c0, c1, c2, c3, c4, c5, c6, c7, f0, f1, f2, f3, f4, f5, f6, f7⟩ := want_cells bW
       have r0 : w1.cell? ⟨w.heap.size, 0, none⟩ = some (.int .i64 (b : Int)) := (by simp [World.cell?, bR])
       have r1 : w1.cell? ⟨w.heap.size, 1, none⟩ = some (.int .i64 (c : Int)) := (by simp [World.cell?, bR])
       have o1 : w1.cell? ⟨w.heap.size + 1, 1, none⟩ = some (.int .u64 v) := (by simp [World.cell?, bO])
       clear bR bO bW
       have y0 : w1.cell? ⟨g, 0, none⟩ = some (.int .u64 x0) := hg.out w1 (n4'.out.trans oo_w1.out) 0 (by simp)
       have y1 : w1.cell? ⟨g, 1, none⟩ = some (.int .u64 x1) := hg.out w1 (n4'.out.trans oo_w1.out) 1 (by simp)
       have y2 : w1.cell? ⟨g, 2, none⟩ = some (.int .u64 x2) := hg.out w1 (n4'.out.trans oo_w1.out) 2 (by simp)
       have y3 : w1.cell? ⟨g, 3, none⟩ = some (.int .u64 x3) := hg.out w1 (n4'.out.trans oo_w1.out) 3 (by simp)))
  refine bodyPost_ret (results_agg rfl _ _ (w.heap.size + 1 + 1) [.bool true, .int .i64 0, .int .i64 0, .int .u64 0, .int .u64 0, .int .i64 1, .int .u64 x3, .int .u64 0] Try.isAgg49 Try.sizeOf49 rfl (set8_heap bW_.out (.bool true) (.int .i64 0) (.int .i64 0) (.int .u64 0) (.int .u64 0) (.int .i64 1) (.int .u64 x3) (.int .u64 0))) rfl ?_
  exact ⟨by simp [wantOf, acc, accWant, up, dn], ((n4'.out.trans oo_w1.out).then (set8_only _ _ (.bool true) (.int .i64 0) (.int .i64 0) (.int .u64 0) (.int .u64 0) (.int .i64 1) (.int .u64 x3) (.int .u64 0)) (fun q hq hl => by omega))⟩

set_option linter.unusedVariables false in
set_option linter.unusedSimpArgs false in
set_option maxRecDepth 100000 in
set_option maxHeartbeats 4000000 in
theorem rpop_4f (w : World) (b c : Nat) (v : Int) (a : Option Addr) (cap : Nat) (x0 x1 x2 x3 : Int) (hc : 0 < c) (hc2 : c ≤ 64) (hb : b ≤ 1000) (hx0 : In64 x0) (hx1 : In64 x1) (hx2 : In64 x2) (hx3 : In64 x3) (hl : LogIn w a [x0, x1, x2, x3]) (hx : x2 = IntKind.u64.wrap (x0 - 1)) :
    Calls Try.prog 36 #[.agg #[.int .i64 (b : Int), .int .i64 (c : Int)], .agg #[.int .i64 2, .int .u64 v, .slice a 4 cap]] w fun e w' => e = .returned (wantOf b c (.popR x0 x3)) ∧ Only Nil w w' := by
  have sl := Lib.hid (fun (w : World) (x : Int) (hx : In64 x) => rslot_any w b c x hx hc hc2 hb)
  have ec : IntKind.u64.wrap (c : Int) = (c : Int) := by rw [IntKind.wrap_u64]; omega
  obtain ⟨g, rfl, hgl', hg'⟩ := log_at hl (by simp)
  have hg := Lib.hid hg'
  have hgl := Lib.hid hgl'
  clear hg' hl hgl'
  have k0 := Lib.hid hx0
  have k1 := Lib.hid hx1
  have k2 := Lib.hid hx2
  have k3 := Lib.hid hx3
  have hb' : (b : Int) ≤ 1000 := by omega
  clear hc hc2 hb hx0 hx1 hx2 hx3
  go_enter Try.func36, Try.ntmps36
  go_wp2_with (fail)
  obtain ⟨n1, n2, n3, n4⟩ := three_new w (.cells #[.int .i64 (b : Int), .int .i64 (c : Int)] 31) (.cells #[.int .i64 2, .int .u64 v, .slice (some ⟨g, 0, none⟩) 4 cap] 44) (.cells #[.bool false, .int .i64 0, .int .i64 0, .int .u64 0, .int .u64 0, .int .i64 0, .int .u64 0, .int .u64 0] 49)
  have bl := Lib.hid (fun (w' : World) (o : Only Nil (((w.alloc (.cells #[.int .i64 (b : Int), .int .i64 (c : Int)] 31)).alloc (.cells #[.int .i64 2, .int .u64 v, .slice (some ⟨g, 0, none⟩) 4 cap] 44)).alloc (.cells #[.bool false, .int .i64 0, .int .i64 0, .int .u64 0, .int .u64 0, .int .i64 0, .int .u64 0, .int .u64 0] 49)) w') =>
    And.intro ((o.block _ (lt_of_block n1) (fun h => h)).trans n1) (And.intro ((o.block _ (lt_of_block n2) (fun h => h)).trans n2) ((o.block _ (lt_of_block n3) (fun h => h)).trans n3)))
  have n4' := Lib.hid n4
  clear n1 n2 n3 n4
  generalize (((w.alloc (.cells #[.int .i64 (b : Int), .int .i64 (c : Int)] 31)).alloc (.cells #[.int .i64 2, .int .u64 v, .slice (some ⟨g, 0, none⟩) 4 cap] 44)).alloc (.cells #[.bool false, .int .i64 0, .int .i64 0, .int .u64 0, .int .u64 0, .int .i64 0, .int .u64 0, .int .u64 0] 49)) = W0 at bl n4' ⊢
  have oo_w0 := Lib.hid (Only.refl Nil W0)
  obtain ⟨bR, bO, bW⟩ := bl.out W0 oo_w0.out
  have bW_ := Lib.hid bW
  obtain ⟨c0, c1, c2, c3, c4, c5, c6, c7, f0, f1, f2, f3, f4, f5, f6, f7⟩ := want_cells bW
  have r0 : W0.cell? ⟨w.heap.size, 0, none⟩ = some (.int .i64 (b : Int)) := (by simp [World.cell?, bR])
  have r1 : W0.cell? ⟨w.heap.size, 1, none⟩ = some (.int .i64 (c : Int)) := (by simp [World.cell?, bR])
  have o1 : W0.cell? ⟨w.heap.size + 1, 1, none⟩ = some (.int .u64 v) := (by simp [World.cell?, bO])
  clear bR bO bW
  have y0 : W0.cell? ⟨g, 0, none⟩ = some (.int .u64 x0) := hg.out W0 (n4'.out.trans oo_w0.out) 0 (by simp)
  have y1 : W0.cell? ⟨g, 1, none⟩ = some (.int .u64 x1) := hg.out W0 (n4'.out.trans oo_w0.out) 1 (by simp)
  have y2 : W0.cell? ⟨g, 2, none⟩ = some (.int .u64 x2) := hg.out W0 (n4'.out.trans oo_w0.out) 2 (by simp)
  have y3 : W0.cell? ⟨g, 3, none⟩ = some (.int .u64 x3) := hg.out W0 (n4'.out.trans oo_w0.out) 3 (by simp)
  go_quiet (fail)
  have oo_q0 := Lib.hid (oo_w0.out.drewN nq)
  clear c0 c1 c2 c3 c4 c5 c6 c7 f0 f1 f2 f3 f4 f5 f6 f7 r0 r1 o1 y0 y1 y2 y3
  generalize W0.drewN nq = Wq0 at oo_q0 ⊢
  obtain ⟨bR, bO, bW⟩ := bl.out Wq0 oo_q0.out
  have bW_ := Lib.hid bW
  obtain ⟨c0, c1, c2, c3, c4, c5, c6, c7, f0, f1, f2, f3, f4, f5, f6, f7⟩ := want_cells bW
  have r0 : Wq0.cell? ⟨w.heap.size, 0, none⟩ = some (.int .i64 (b : Int)) := (by simp [World.cell?, bR])
  have r1 : Wq0.cell? ⟨w.heap.size, 1, none⟩ = some (.int .i64 (c : Int)) := (by simp [World.cell?, bR])
  have o1 : Wq0.cell? ⟨w.heap.size + 1, 1, none⟩ = some (.int .u64 v) := (by simp [World.cell?, bO])
  clear bR bO bW
  have y0 : Wq0.cell? ⟨g, 0, none⟩ = some (.int .u64 x0) := hg.out Wq0 (n4'.out.trans oo_q0.out) 0 (by simp)
  have y1 : Wq0.cell? ⟨g, 1, none⟩ = some (.int .u64 x1) := hg.out Wq0 (n4'.out.trans oo_q0.out) 1 (by simp)
  have y2 : Wq0.cell? ⟨g, 2, none⟩ = some (.int .u64 x2) := hg.out Wq0 (n4'.out.trans oo_q0.out) 2 (by simp)
  have y3 : Wq0.cell? ⟨g, 3, none⟩ = some (.int .u64 x3) := hg.out Wq0 (n4'.out.trans oo_q0.out) 3 (by simp)
  have p0 := r0
  have p1 := r1
  have oo_a0 : Hid (Only Nil W0 (Wq0.alloc (.cells #[.bool false, .int .i64 2, .int .i64 ((b : Int) + 1), .int .u64 x0, .int .u64 0, .int .i64 0, .int .u64 0, .int .u64 0] 49))) := Lib.hid (oo_q0.out.alloc _)
  clear c0 c1 c2 c3 c4 c5 c6 c7 f0 f1 f2 f3 f4 f5 f6 f7 r0 r1 o1 y0 y1 y2 y3
  obtain ⟨bR, bO, bW⟩ := bl.out (Wq0.alloc (.cells #[.bool false, .int .i64 2, .int .i64 ((b : Int) + 1), .int .u64 x0, .int .u64 0, .int .i64 0, .int .u64 0, .int .u64 0] 49)) oo_a0.out
  have bW_ := Lib.hid bW
  obtain ⟨c0, c1, c2, c3, c4, c5, c6, c7, f0, f1, f2, f3, f4, f5, f6, f7⟩ := want_cells bW
  have r0 : (Wq0.alloc (.cells #[.bool false, .int .i64 2, .int .i64 ((b : Int) + 1), .int .u64 x0, .int .u64 0, .int .i64 0, .int .u64 0, .int .u64 0] 49)).cell? ⟨w.heap.size, 0, none⟩ = some (.int .i64 (b : Int)) := (by simp [World.cell?, bR])
  have r1 : (Wq0.alloc (.cells #[.bool false, .int .i64 2, .int .i64 ((b : Int) + 1), .int .u64 x0, .int .u64 0, .int .i64 0, .int .u64 0, .int .u64 0] 49)).cell? ⟨w.heap.size, 1, none⟩ = some (.int .i64 (c : Int)) := (by simp [World.cell?, bR])
  have o1 : (Wq0.alloc (.cells #[.bool false, .int .i64 2, .int .i64 ((b : Int) + 1), .int .u64 x0, .int .u64 0, .int .i64 0, .int .u64 0, .int .u64 0] 49)).cell? ⟨w.heap.size + 1, 1, none⟩ = some (.int .u64 v) := (by simp [World.cell?, bO])
  clear bR bO bW
  have y0 : (Wq0.alloc (.cells #[.bool false, .int .i64 2, .int .i64 ((b : Int) + 1), .int .u64 x0, .int .u64 0, .int .i64 0, .int .u64 0, .int .u64 0] 49)).cell? ⟨g, 0, none⟩ = some (.int .u64 x0) := hg.out (Wq0.alloc (.cells #[.bool false, .int .i64 2, .int .i64 ((b : Int) + 1), .int .u64 x0, .int .u64 0, .int .i64 0, .int .u64 0, .int .u64 0] 49)) (n4'.out.trans oo_a0.out) 0 (by simp)
  have y1 : (Wq0.alloc (.cells #[.bool false, .int .i64 2, .int .i64 ((b : Int) + 1), .int .u64 x0, .int .u64 0, .int .i64 0, .int .u64 0, .int .u64 0] 49)).cell? ⟨g, 1, none⟩ = some (.int .u64 x1) := hg.out (Wq0.alloc (.cells #[.bool false, .int .i64 2, .int .i64 ((b : Int) + 1), .int .u64 x0, .int .u64 0, .int .i64 0, .int .u64 0, .int .u64 0] 49)) (n4'.out.trans oo_a0.out) 1 (by simp)
  have y2 : (Wq0.alloc (.cells #[.bool false, .int .i64 2, .int .i64 ((b : Int) + 1), .int .u64 x0, .int .u64 0, .int .i64 0, .int .u64 0, .int .u64 0] 49)).cell? ⟨g, 2, none⟩ = some (.int .u64 x2) := hg.out (Wq0.alloc (.cells #[.bool false, .int .i64 2, .int .i64 ((b : Int) + 1), .int .u64 x0, .int .u64 0, .int .i64 0, .int .u64 0, .int .u64 0] 49)) (n4'.out.trans oo_a0.out) 2 (by simp)
  have y3 : (Wq0.alloc (.cells #[.bool false, .int .i64 2, .int .i64 ((b : Int) + 1), .int .u64 x0, .int .u64 0, .int .i64 0, .int .u64 0, .int .u64 0] 49)).cell? ⟨g, 3, none⟩ = some (.int .u64 x3) := hg.out (Wq0.alloc (.cells #[.bool false, .int .i64 2, .int .i64 ((b : Int) + 1), .int .u64 x0, .int .u64 0, .int .i64 0, .int .u64 0, .int .u64 0] 49)) (n4'.out.trans oo_a0.out) 3 (by simp)
  go_wp2
  refine bodyPost_ret (results_agg rfl _ _ (w.heap.size + 1 + 1) [.bool false, .int .i64 3, .int .i64 (b : Int), .int .u64 (IntKind.u64.wrap (x0 - 1)), .int .u64 (IntKind.u64.wrap (IntKind.u64.wrap (x0 - 1) + 1)), .int .i64 0, .int .u64 0, .int .u64 0] Try.isAgg49 Try.sizeOf49 rfl (set8_heap bW_.out (.bool false) (.int .i64 3) (.int .i64 (b : Int)) (.int .u64 (IntKind.u64.wrap (x0 - 1))) (.int .u64 (IntKind.u64.wrap (IntKind.u64.wrap (x0 - 1) + 1))) (.int .i64 0) (.int .u64 0) (.int .u64 0))) rfl ?_
  exact ⟨by simp [wantOf, acc, accWant, up, dn], ((n4'.out.trans oo_a0.out).then (set8_only _ _ (.bool false) (.int .i64 3) (.int .i64 (b : Int)) (.int .u64 (IntKind.u64.wrap (x0 - 1))) (.int .u64 (IntKind.u64.wrap (IntKind.u64.wrap (x0 - 1) + 1))) (.int .i64 0) (.int .u64 0) (.int .u64 0)) (fun q hq hl => by omega))⟩

set_option linter.unusedVariables false in
set_option linter.unusedSimpArgs false in
set_option maxRecDepth 100000 in
set_option maxHeartbeats 4000000 in
theorem rpop_5 (w : World) (b c : Nat) (v : Int) (a : Option Addr) (cap : Nat) (x0 x1 x2 x3 x4 : Int) (hc : 0 < c) (hc2 : c ≤ 64) (hb : b ≤ 1000) (hx0 : In64 x0) (hx1 : In64 x1) (hx2 : In64 x2) (hx3 : In64 x3) (hx4 : In64 x4) (hl : LogIn w a [x0, x1, x2, x3, x4]) (hx : x2 = IntKind.u64.wrap (x0 - 1)) (st : OS) (hst : wantOf b c st = accWant (.store (b + 1) x0)) :
    Calls Try.prog 36 #[.agg #[.int .i64 (b : Int), .int .i64 (c : Int)], .agg #[.int .i64 2, .int .u64 v, .slice a 5 cap]] w fun e w' => e = .returned (wantOf b c (st)) ∧ Only Nil w w' := by
  have sl := Lib.hid (fun (w : World) (x : Int) (hx : In64 x) => rslot_any w b c x hx hc hc2 hb)
  have ec : IntKind.u64.wrap (c : Int) = (c : Int) := by rw [IntKind.wrap_u64]; omega
  obtain ⟨g, rfl, hgl', hg'⟩ := log_at hl (by simp)
  have hg := Lib.hid hg'
  have hgl := Lib.hid hgl'
  clear hg' hl hgl'
  have k0 := Lib.hid hx0
  have k1 := Lib.hid hx1
  have k2 := Lib.hid hx2
  have k3 := Lib.hid hx3
  have k4 := Lib.hid hx4
  have hb' : (b : Int) ≤ 1000 := by omega
  clear hc hc2 hb hx0 hx1 hx2 hx3 hx4
  go_enter Try.func36, Try.ntmps36
  go_wp2_with (fail)
  obtain ⟨n1, n2, n3, n4⟩ := three_new w (.cells #[.int .i64 (b : Int), .int .i64 (c : Int)] 31) (.cells #[.int .i64 2, .int .u64 v, .slice (some ⟨g, 0, none⟩) 5 cap] 44) (.cells #[.bool false, .int .i64 0, .int .i64 0, .int .u64 0, .int .u64 0, .int .i64 0, .int .u64 0, .int .u64 0] 49)
  have bl := Lib.hid (fun (w' : World) (o : Only Nil (((w.alloc (.cells #[.int .i64 (b : Int), .int .i64 (c : Int)] 31)).alloc (.cells #[.int .i64 2, .int .u64 v, .slice (some ⟨g, 0, none⟩) 5 cap] 44)).alloc (.cells #[.bool false, .int .i64 0, .int .i64 0, .int .u64 0, .int .u64 0, .int .i64 0, .int .u64 0, .int .u64 0] 49)) w') =>
    And.intro ((o.block _ (lt_of_block n1) (fun h => h)).trans n1) (And.intro ((o.block _ (lt_of_block n2) (fun h => h)).trans n2) ((o.block _ (lt_of_block n3) (fun h => h)).trans n3)))
  have n4' := Lib.hid n4
  clear n1 n2 n3 n4
  generalize (((w.alloc (.cells #[.int .i64 (b : Int), .int .i64 (c : Int)] 31)).alloc (.cells #[.int .i64 2, .int .u64 v, .slice (some ⟨g, 0, none⟩) 5 cap] 44)).alloc (.cells #[.bool false, .int .i64 0, .int .i64 0, .int .u64 0, .int .u64 0, .int .i64 0, .int .u64 0, .int .u64 0] 49)) = W0 at bl n4' ⊢
  have oo_w0 := Lib.hid (Only.refl Nil W0)
  obtain ⟨bR, bO, bW⟩ := bl.out W0 oo_w0.out
  have bW_ := Lib.hid bW
  obtain ⟨c0, c1, c2, c3, c4, c5, c6, c7, f0, f1, f2, f3, f4, f5, f6, f7⟩ := want_cells bW
  have r0 : W0.cell? ⟨w.heap.size, 0, none⟩ = some (.int .i64 (b : Int)) := (by simp [World.cell?, bR])
  have r1 : W0.cell? ⟨w.heap.size, 1, none⟩ = some (.int .i64 (c : Int)) := (by simp [World.cell?, bR])
  have o1 : W0.cell? ⟨w.heap.size + 1, 1, none⟩ = some (.int .u64 v) := (by simp [World.cell?, bO])
  clear bR bO bW
  have y0 : W0.cell? ⟨g, 0, none⟩ = some (.int .u64 x0) := hg.out W0 (n4'.out.trans oo_w0.out) 0 (by simp)
  have y1 : W0.cell? ⟨g, 1, none⟩ = some (.int .u64 x1) := hg.out W0 (n4'.out.trans oo_w0.out) 1 (by simp)
  have y2 : W0.cell? ⟨g, 2, none⟩ = some (.int .u64 x2) := hg.out W0 (n4'.out.trans oo_w0.out) 2 (by simp)
  have y3 : W0.cell? ⟨g, 3, none⟩ = some (.int .u64 x3) := hg.out W0 (n4'.out.trans oo_w0.out) 3 (by simp)
  have y4 : W0.cell? ⟨g, 4, none⟩ = some (.int .u64 x4) := hg.out W0 (n4'.out.trans oo_w0.out) 4 (by simp)
  go_quiet (fail)
  have oo_q0 := Lib.hid (oo_w0.out.drewN nq)
  clear c0 c1 c2 c3 c4 c5 c6 c7 f0 f1 f2 f3 f4 f5 f6 f7 r0 r1 o1 y0 y1 y2 y3 y4
  generalize W0.drewN nq = Wq0 at oo_q0 ⊢
  obtain ⟨bR, bO, bW⟩ := bl.out Wq0 oo_q0.out
  have bW_ := Lib.hid bW
  obtain ⟨c0, c1, c2, c3, c4, c5, c6, c7, f0, f1, f2, f3, f4, f5, f6, f7⟩ := want_cells bW
  have r0 : Wq0.cell? ⟨w.heap.size, 0, none⟩ = some (.int .i64 (b : Int)) := (by simp [World.cell?, bR])
  have r1 : Wq0.cell? ⟨w.heap.size, 1, none⟩ = some (.int .i64 (c : Int)) := (by simp [World.cell?, bR])
  have o1 : Wq0.cell? ⟨w.heap.size + 1, 1, none⟩ = some (.int .u64 v) := (by simp [World.cell?, bO])
  clear bR bO bW
  have y0 : Wq0.cell? ⟨g, 0, none⟩ = some (.int .u64 x0) := hg.out Wq0 (n4'.out.trans oo_q0.out) 0 (by simp)
  have y1 : Wq0.cell? ⟨g, 1, none⟩ = some (.int .u64 x1) := hg.out Wq0 (n4'.out.trans oo_q0.out) 1 (by simp)
  have y2 : Wq0.cell? ⟨g, 2, none⟩ = some (.int .u64 x2) := hg.out Wq0 (n4'.out.trans oo_q0.out) 2 (by simp)
  have y3 : Wq0.cell? ⟨g, 3, none⟩ = some (.int .u64 x3) := hg.out Wq0 (n4'.out.trans oo_q0.out) 3 (by simp)
  have y4 : Wq0.cell? ⟨g, 4, none⟩ = some (.int .u64 x4) := hg.out Wq0 (n4'.out.trans oo_q0.out) 4 (by simp)
  have p0 := r0
  have p1 := r1
  have oo_a0 : Hid (Only Nil W0 (Wq0.alloc (.cells #[.bool false, .int .i64 2, .int .i64 ((b : Int) + 1), .int .u64 x0, .int .u64 0, .int .i64 0, .int .u64 0, .int .u64 0] 49))) := Lib.hid (oo_q0.out.alloc _)
  clear c0 c1 c2 c3 c4 c5 c6 c7 f0 f1 f2 f3 f4 f5 f6 f7 r0 r1 o1 y0 y1 y2 y3 y4
  obtain ⟨bR, bO, bW⟩ := bl.out (Wq0.alloc (.cells #[.bool false, .int .i64 2, .int .i64 ((b : Int) + 1), .int .u64 x0, .int .u64 0, .int .i64 0, .int .u64 0, .int .u64 0] 49)) oo_a0.out
  have bW_ := Lib.hid bW
  obtain ⟨c0, c1, c2, c3, c4, c5, c6, c7, f0, f1, f2, f3, f4, f5, f6, f7⟩ := want_cells bW
  have r0 : (Wq0.alloc (.cells #[.bool false, .int .i64 2, .int .i64 ((b : Int) + 1), .int .u64 x0, .int .u64 0, .int .i64 0, .int .u64 0, .int .u64 0] 49)).cell? ⟨w.heap.size, 0, none⟩ = some (.int .i64 (b : Int)) := (by simp [World.cell?, bR])
  have r1 : (Wq0.alloc (.cells #[.bool false, .int .i64 2, .int .i64 ((b : Int) + 1), .int .u64 x0, .int .u64 0, .int .i64 0, .int .u64 0, .int .u64 0] 49)).cell? ⟨w.heap.size, 1, none⟩ = some (.int .i64 (c : Int)) := (by simp [World.cell?, bR])
  have o1 : (Wq0.alloc (.cells #[.bool false, .int .i64 2, .int .i64 ((b : Int) + 1), .int .u64 x0, .int .u64 0, .int .i64 0, .int .u64 0, .int .u64 0] 49)).cell? ⟨w.heap.size + 1, 1, none⟩ = some (.int .u64 v) := (by simp [World.cell?, bO])
  clear bR bO bW
  have y0 : (Wq0.alloc (.cells #[.bool false, .int .i64 2, .int .i64 ((b : Int) + 1), .int .u64 x0, .int .u64 0, .int .i64 0, .int .u64 0, .int .u64 0] 49)).cell? ⟨g, 0, none⟩ = some (.int .u64 x0) := hg.out (Wq0.alloc (.cells #[.bool false, .int .i64 2, .int .i64 ((b : Int) + 1), .int .u64 x0, .int .u64 0, .int .i64 0, .int .u64 0, .int .u64 0] 49)) (n4'.out.trans oo_a0.out) 0 (by simp)
  have y1 : (Wq0.alloc (.cells #[.bool false, .int .i64 2, .int .i64 ((b : Int) + 1), .int .u64 x0, .int .u64 0, .int .i64 0, .int .u64 0, .int .u64 0] 49)).cell? ⟨g, 1, none⟩ = some (.int .u64 x1) := hg.out (Wq0.alloc (.cells #[.bool false, .int .i64 2, .int .i64 ((b : Int) + 1), .int .u64 x0, .int .u64 0, .int .i64 0, .int .u64 0, .int .u64 0] 49)) (n4'.out.trans oo_a0.out) 1 (by simp)
  have y2 : (Wq0.alloc (.cells #[.bool false, .int .i64 2, .int .i64 ((b : Int) + 1), .int .u64 x0, .int .u64 0, .int .i64 0, .int .u64 0, .int .u64 0] 49)).cell? ⟨g, 2, none⟩ = some (.int .u64 x2) := hg.out (Wq0.alloc (.cells #[.bool false, .int .i64 2, .int .i64 ((b : Int) + 1), .int .u64 x0, .int .u64 0, .int .i64 0, .int .u64 0, .int .u64 0] 49)) (n4'.out.trans oo_a0.out) 2 (by simp)
  have y3 : (Wq0.alloc (.cells #[.bool false, .int .i64 2, .int .i64 ((b : Int) + 1), .int .u64 x0, .int .u64 0, .int .i64 0, .int .u64 0, .int .u64 0] 49)).cell? ⟨g, 3, none⟩ = some (.int .u64 x3) := hg.out (Wq0.alloc (.cells #[.bool false, .int .i64 2, .int .i64 ((b : Int) + 1), .int .u64 x0, .int .u64 0, .int .i64 0, .int .u64 0, .int .u64 0] 49)) (n4'.out.trans oo_a0.out) 3 (by simp)
  have y4 : (Wq0.alloc (.cells #[.bool false, .int .i64 2, .int .i64 ((b : Int) + 1), .int .u64 x0, .int .u64 0, .int .i64 0, .int .u64 0, .int .u64 0] 49)).cell? ⟨g, 4, none⟩ = some (.int .u64 x4) := hg.out (Wq0.alloc (.cells #[.bool false, .int .i64 2, .int .i64 ((b : Int) + 1), .int .u64 x0, .int .u64 0, .int .i64 0, .int .u64 0, .int .u64 0] 49)) (n4'.out.trans oo_a0.out) 4 (by simp)
  go_wp2
  refine bodyPost_ret (results_agg rfl _ _ (w.heap.size + 1 + 1) [.bool false, .int .i64 2, .int .i64 ((b : Int) + 1), .int .u64 x0, .int .u64 0, .int .i64 0, .int .u64 0, .int .u64 0] Try.isAgg49 Try.sizeOf49 rfl (set8_heap bW_.out (.bool false) (.int .i64 2) (.int .i64 ((b : Int) + 1)) (.int .u64 x0) (.int .u64 0) (.int .i64 0) (.int .u64 0) (.int .u64 0))) rfl ?_
  exact ⟨by simp [hst, accWant], ((n4'.out.trans oo_a0.out).then (set8_only _ _ (.bool false) (.int .i64 2) (.int .i64 ((b : Int) + 1)) (.int .u64 x0) (.int .u64 0) (.int .i64 0) (.int .u64 0) (.int .u64 0)) (fun q hq hl => by omega))⟩

set_option linter.unusedVariables false in
set_option linter.unusedSimpArgs false in
set_option maxRecDepth 100000 in
set_option maxHeartbeats 4000000 in
theorem rpop_6y (w : World) (b c : Nat) (v : Int) (a : Option Addr) (cap : Nat) (x0 x1 x2 x3 x4 x5 : Int) (hc : 0 < c) (hc2 : c ≤ 64) (hb : b ≤ 1000) (hx0 : In64 x0) (hx1 : In64 x1) (hx2 : In64 x2) (hx3 : In64 x3) (hx4 : In64 x4) (hx5 : In64 x5) (hl : LogIn w a [x0, x1, x2, x3, x4, x5]) (hx : x2 = IntKind.u64.wrap (x0 - 1)) (hz : x4 = 1) :
    Calls Try.prog 36 #[.agg #[.int .i64 (b : Int), .int .i64 (c : Int)], .agg #[.int .i64 2, .int .u64 v, .slice a 6 cap]] w fun e w' => e = .returned (wantOf b c (.over 1 x3)) ∧ Only Nil w w' := by
  have sl := Lib.hid (fun (w : World) (x : Int) (hx : In64 x) => rslot_any w b c x hx hc hc2 hb)
  have ec : IntKind.u64.wrap (c : Int) = (c : Int) := by rw [IntKind.wrap_u64]; omega
  obtain ⟨g, rfl, hgl', hg'⟩ := log_at hl (by simp)
  have hg := Lib.hid hg'
  have hgl := Lib.hid hgl'
  clear hg' hl hgl'
  have k0 := Lib.hid hx0
  have k1 := Lib.hid hx1
  have k2 := Lib.hid hx2
  have k3 := Lib.hid hx3
  have k4 := Lib.hid hx4
  have k5 := Lib.hid hx5
  have hb' : (b : Int) ≤ 1000 := by omega
  clear hc hc2 hb hx0 hx1 hx2 hx3 hx4 hx5
  go_enter Try.func36, Try.ntmps36
  go_wp2_with (fail)
  obtain ⟨n1, n2, n3, n4⟩ := three_new w (.cells #[.int .i64 (b : Int), .int .i64 (c : Int)] 31) (.cells #[.int .i64 2, .int .u64 v, .slice (some ⟨g, 0, none⟩) 6 cap] 44) (.cells #[.bool false, .int .i64 0, .int .i64 0, .int .u64 0, .int .u64 0, .int .i64 0, .int .u64 0, .int .u64 0] 49)
  have bl := Lib.hid (fun (w' : World) (o : Only Nil (((w.alloc (.cells #[.int .i64 (b : Int), .int .i64 (c : Int)] 31)).alloc (.cells #[.int .i64 2, .int .u64 v, .slice (some ⟨g, 0, none⟩) 6 cap] 44)).alloc (.cells #[.bool false, .int .i64 0, .int .i64 0, .int .u64 0, .int .u64 0, .int .i64 0, .int .u64 0, .int .u64 0] 49)) w') =>
    And.intro ((o.block _ (lt_of_block n1) (fun h => h)).trans n1) (And.intro ((o.block _ (lt_of_block n2) (fun h => h)).trans n2) ((o.block _ (lt_of_block n3) (fun h => h)).trans n3)))
  have n4' := Lib.hid n4
  clear n1 n2 n3 n4
  generalize (((w.alloc (.cells #[.int .i64 (b : Int), .int .i64 (c : Int)] 31)).alloc (.cells #[.int .i64 2, .int .u64 v, .slice (some ⟨g, 0, none⟩) 6 cap] 44)).alloc (.cells #[.bool false, .int .i64 0, .int .i64 0, .int .u64 0, .int .u64 0, .int .i64 0, .int .u64 0, .int .u64 0] 49)) = W0 at bl n4' ⊢
  have oo_w0 := Lib.hid (Only.refl Nil W0)
  obtain ⟨bR, bO, bW⟩ := bl.out W0 oo_w0.out
  have bW_ := Lib.hid bW
  obtain ⟨c0, c1, c2, c3, c4, c5, c6, c7, f0, f1, f2, f3, f4, f5, f6, f7⟩ := want_cells bW
  have r0 : W0.cell? ⟨w.heap.size, 0, none⟩ = some (.int .i64 (b : Int)) := (by simp [World.cell?, bR])
  have r1 : W0.cell? ⟨w.heap.size, 1, none⟩ = some (.int .i64 (c : Int)) := (by simp [World.cell?, bR])
  have o1 : W0.cell? ⟨w.heap.size + 1, 1, none⟩ = some (.int .u64 v) := (by simp [World.cell?, bO])
  clear bR bO bW
  have y0 : W0.cell? ⟨g, 0, none⟩ = some (.int .u64 x0) := hg.out W0 (n4'.out.trans oo_w0.out) 0 (by simp)
  have y1 : W0.cell? ⟨g, 1, none⟩ = some (.int .u64 x1) := hg.out W0 (n4'.out.trans oo_w0.out) 1 (by simp)
  have y2 : W0.cell? ⟨g, 2, none⟩ = some (.int .u64 x2) := hg.out W0 (n4'.out.trans oo_w0.out) 2 (by simp)
  have y3 : W0.cell? ⟨g, 3, none⟩ = some (.int .u64 x3) := hg.out W0 (n4'.out.trans oo_w0.out) 3 (by simp)
  have y4 : W0.cell? ⟨g, 4, none⟩ = some (.int .u64 x4) := hg.out W0 (n4'.out.trans oo_w0.out) 4 (by simp)
  have y5 : W0.cell? ⟨g, 5, none⟩ = some (.int .u64 x5) := hg.out W0 (n4'.out.trans oo_w0.out) 5 (by simp)
  go_quiet (fail)
  have oo_q0 := Lib.hid (oo_w0.out.drewN nq)
  clear c0 c1 c2 c3 c4 c5 c6 c7 f0 f1 f2 f3 f4 f5 f6 f7 r0 r1 o1 y0 y1 y2 y3 y4 y5
  generalize W0.drewN nq = Wq0 at oo_q0 ⊢
  obtain ⟨bR, bO, bW⟩ := bl.out Wq0 oo_q0.out
  have bW_ := Lib.hid bW
  obtain ⟨c0, c1, c2, c3, c4, c5, c6, c7, f0, f1, f2, f3, f4, f5, f6, f7⟩ := want_cells bW
  have r0 : Wq0.cell? ⟨w.heap.size, 0, none⟩ = some (.int .i64 (b : Int)) := (by simp [World.cell?, bR])
  have r1 : Wq0.cell? ⟨w.heap.size, 1, none⟩ = some (.int .i64 (c : Int)) := (by simp [World.cell?, bR])
  have o1 : Wq0.cell? ⟨w.heap.size + 1, 1, none⟩ = some (.int .u64 v) := (by simp [World.cell?, bO])
  clear bR bO bW
  have y0 : Wq0.cell? ⟨g, 0, none⟩ = some (.int .u64 x0) := hg.out Wq0 (n4'.out.trans oo_q0.out) 0 (by simp)
  have y1 : Wq0.cell? ⟨g, 1, none⟩ = some (.int .u64 x1) := hg.out Wq0 (n4'.out.trans oo_q0.out) 1 (by simp)
  have y2 : Wq0.cell? ⟨g, 2, none⟩ = some (.int .u64 x2) := hg.out Wq0 (n4'.out.trans oo_q0.out) 2 (by simp)
  have y3 : Wq0.cell? ⟨g, 3, none⟩ = some (.int .u64 x3) := hg.out Wq0 (n4'.out.trans oo_q0.out) 3 (by simp)
  have y4 : Wq0.cell? ⟨g, 4, none⟩ = some (.int .u64 x4) := hg.out Wq0 (n4'.out.trans oo_q0.out) 4 (by simp)
  have y5 : Wq0.cell? ⟨g, 5, none⟩ = some (.int .u64 x5) := hg.out Wq0 (n4'.out.trans oo_q0.out) 5 (by simp)
  have p0 := r0
  have p1 := r1
  have oo_a0 : Hid (Only Nil W0 (Wq0.alloc (.cells #[.bool false, .int .i64 2, .int .i64 ((b : Int) + 1), .int .u64 x0, .int .u64 0, .int .i64 0, .int .u64 0, .int .u64 0] 49))) := Lib.hid (oo_q0.out.alloc _)
  clear c0 c1 c2 c3 c4 c5 c6 c7 f0 f1 f2 f3 f4 f5 f6 f7 r0 r1 o1 y0 y1 y2 y3 y4 y5
  obtain ⟨bR, bO, bW⟩ := bl.out (Wq0.alloc (.cells #[.bool false, .int .i64 2, .int .i64 ((b : Int) + 1), .int .u64 x0, .int .u64 0, .int .i64 0, .int .u64 0, .int .u64 0] 49)) oo_a0.out
  have bW_ := Lib.hid bW
  obtain ⟨c0, c1, c2, c3, c4, c5, c6, c7, f0, f1, f2, f3, f4, f5, f6, f7⟩ := want_cells bW
  have r0 : (Wq0.alloc (.cells #[.bool false, .int .i64 2, .int .i64 ((b : Int) + 1), .int .u64 x0, .int .u64 0, .int .i64 0, .int .u64 0, .int .u64 0] 49)).cell? ⟨w.heap.size, 0, none⟩ = some (.int .i64 (b : Int)) := (by simp [World.cell?, bR])
  have r1 : (Wq0.alloc (.cells #[.bool false, .int .i64 2, .int .i64 ((b : Int) + 1), .int .u64 x0, .int .u64 0, .int .i64 0, .int .u64 0, .int .u64 0] 49)).cell? ⟨w.heap.size, 1, none⟩ = some (.int .i64 (c : Int)) := (by simp [World.cell?, bR])
  have o1 : (Wq0.alloc (.cells #[.bool false, .int .i64 2, .int .i64 ((b : Int) + 1), .int .u64 x0, .int .u64 0, .int .i64 0, .int .u64 0, .int .u64 0] 49)).cell? ⟨w.heap.size + 1, 1, none⟩ = some (.int .u64 v) := (by simp [World.cell?, bO])
  clear bR bO bW
  have y0 : (Wq0.alloc (.cells #[.bool false, .int .i64 2, .int .i64 ((b : Int) + 1), .int .u64 x0, .int .u64 0, .int .i64 0, .int .u64 0, .int .u64 0] 49)).cell? ⟨g, 0, none⟩ = some (.int .u64 x0) := hg.out (Wq0.alloc (.cells #[.bool false, .int .i64 2, .int .i64 ((b : Int) + 1), .int .u64 x0, .int .u64 0, .int .i64 0, .int .u64 0, .int .u64 0] 49)) (n4'.out.trans oo_a0.out) 0 (by simp)
  have y1 : (Wq0.alloc (.cells #[.bool false, .int .i64 2, .int .i64 ((b : Int) + 1), .int .u64 x0, .int .u64 0, .int .i64 0, .int .u64 0, .int .u64 0] 49)).cell? ⟨g, 1, none⟩ = some (.int .u64 x1) := hg.out (Wq0.alloc (.cells #[.bool false, .int .i64 2, .int .i64 ((b : Int) + 1), .int .u64 x0, .int .u64 0, .int .i64 0, .int .u64 0, .int .u64 0] 49)) (n4'.out.trans oo_a0.out) 1 (by simp)
  have y2 : (Wq0.alloc (.cells #[.bool false, .int .i64 2, .int .i64 ((b : Int) + 1), .int .u64 x0, .int .u64 0, .int .i64 0, .int .u64 0, .int .u64 0] 49)).cell? ⟨g, 2, none⟩ = some (.int .u64 x2) := hg.out (Wq0.alloc (.cells #[.bool false, .int .i64 2, .int .i64 ((b : Int) + 1), .int .u64 x0, .int .u64 0, .int .i64 0, .int .u64 0, .int .u64 0] 49)) (n4'.out.trans oo_a0.out) 2 (by simp)
  have y3 : (Wq0.alloc (.cells #[.bool false, .int .i64 2, .int .i64 ((b : Int) + 1), .int .u64 x0, .int .u64 0, .int .i64 0, .int .u64 0, .int .u64 0] 49)).cell? ⟨g, 3, none⟩ = some (.int .u64 x3) := hg.out (Wq0.alloc (.cells #[.bool false, .int .i64 2, .int .i64 ((b : Int) + 1), .int .u64 x0, .int .u64 0, .int .i64 0, .int .u64 0, .int .u64 0] 49)) (n4'.out.trans oo_a0.out) 3 (by simp)
  have y4 : (Wq0.alloc (.cells #[.bool false, .int .i64 2, .int .i64 ((b : Int) + 1), .int .u64 x0, .int .u64 0, .int .i64 0, .int .u64 0, .int .u64 0] 49)).cell? ⟨g, 4, none⟩ = some (.int .u64 x4) := hg.out (Wq0.alloc (.cells #[.bool false, .int .i64 2, .int .i64 ((b : Int) + 1), .int .u64 x0, .int .u64 0, .int .i64 0, .int .u64 0, .int .u64 0] 49)) (n4'.out.trans oo_a0.out) 4 (by simp)
  have y5 : (Wq0.alloc (.cells #[.bool false, .int .i64 2, .int .i64 ((b : Int) + 1), .int .u64 x0, .int .u64 0, .int .i64 0, .int .u64 0, .int .u64 0] 49)).cell? ⟨g, 5, none⟩ = some (.int .u64 x5) := hg.out (Wq0.alloc (.cells #[.bool false, .int .i64 2, .int .i64 ((b : Int) + 1), .int .u64 x0, .int .u64 0, .int .i64 0, .int .u64 0, .int .u64 0] 49)) (n4'.out.trans oo_a0.out) 5 (by simp)
  go_wp2_with (first
    | (go_at_call 46; (with_reducible refine (rover_any _ _ _).mono ?_); rintro e_ w1 ⟨rfl, q_w1⟩
       have oo_w1 : Hid (Only Nil W0 w1) := Lib.hid (by first | exact (oo_a0.out.trans q_w1) | exact (oo_a0.out.drew.trans q_w1) | exact ((oo_a0.out.drewN _).trans q_w1))
       clear c0 c1 c2 c3 c4 c5 c6 c7 f0 f1 f2 f3 f4 f5 f6 f7 r0 r1 o1 y0 y1 y2 y3 y4 y5
       obtain ⟨bR, bO, bW⟩ := bl.out w1 oo_w1.out
       have bW_ := Lib.hid bW
       obtain ⟨c0, c1, c2, c3, c4, c5, c6, c7, f0, f1, f2, f3, f4, f5, f6, f7⟩ := want_cells bW
       have r0 : w1.cell? ⟨w.heap.size, 0, none⟩ = some (.int .i64 (b : Int)) := (by simp [World.cell?, bR])
       have r1 : w1.cell? ⟨w.heap.size, 1, none⟩ = some (.int .i64 (c : Int)) := (by simp [World.cell?, bR])
       have o1 : w1.cell? ⟨w.heap.size + 1, 1, none⟩ = some (.int .u64 v) := (by simp [World.cell?, bO])
       clear bR bO bW
       have y0 : w1.cell? ⟨g, 0, none⟩ = some (.int .u64 x0) := hg.out w1 (n4'.out.trans oo_w1.out) 0 (by simp)
       have y1 : w1.cell? ⟨g, 1, none⟩ = some (.int .u64 x1) := hg.out w1 (n4'.out.trans oo_w1.out) 1 (by simp)
       have y2 : w1.cell? ⟨g, 2, none⟩ = some (.int .u64 x2) := hg.out w1 (n4'.out.trans oo_w1.out) 2 (by simp)
       have y3 : w1.cell? ⟨g, 3, none⟩ = some (.int .u64 x3) := hg.out w1 (n4'.out.trans oo_w1.out) 3 (by simp)
       have y4 : w1.cell? ⟨g, 4, none⟩ = some (.int .u64 x4) := hg.out w1 (n4'.out.trans oo_w1.out) 4 (by simp)
       have y5 : w1.cell? ⟨g, 5, none⟩ = some (.int .u64 x5) := hg.out w1 (n4'.out.trans oo_w1.out) 5 (by simp)))
  refine bodyPost_ret (results_agg rfl _ _ (w.heap.size + 1 + 1) [.bool true, .int .i64 0, .int .i64 0, .int .u64 0, .int .u64 0, .int .i64 1, .int .u64 x3, .int .u64 0] Try.isAgg49 Try.sizeOf49 rfl (set8_heap bW_.out (.bool true) (.int .i64 0) (.int .i64 0) (.int .u64 0) (.int .u64 0) (.int .i64 1) (.int .u64 x3) (.int .u64 0))) rfl ?_
  exact ⟨by simp [wantOf, acc, accWant, up, dn], ((n4'.out.trans oo_w1.out).then (set8_only _ _ (.bool true) (.int .i64 0) (.int .i64 0) (.int .u64 0) (.int .u64 0) (.int .i64 1) (.int .u64 x3) (.int .u64 0)) (fun q hq hl => by omega))⟩

set_option linter.unusedVariables false in
set_option linter.unusedSimpArgs false in
set_option maxRecDepth 100000 in
set_option maxHeartbeats 4000000 in
theorem rpop_6n (w : World) (b c : Nat) (v : Int) (a : Option Addr) (cap : Nat) (x0 x1 x2 x3 x4 x5 : Int) (hc : 0 < c) (hc2 : c ≤ 64) (hb : b ≤ 1000) (hx0 : In64 x0) (hx1 : In64 x1) (hx2 : In64 x2) (hx3 : In64 x3) (hx4 : In64 x4) (hx5 : In64 x5) (hl : LogIn w a [x0, x1, x2, x3, x4, x5]) (hx : x2 = IntKind.u64.wrap (x0 - 1)) (hz : x4 = 0) :
    Calls Try.prog 36 #[.agg #[.int .i64 (b : Int), .int .i64 (c : Int)], .agg #[.int .i64 2, .int .u64 v, .slice a 6 cap]] w fun e w' => e = .returned (wantOf b c (.over 4 0)) ∧ Only Nil w w' := by
  have sl := Lib.hid (fun (w : World) (x : Int) (hx : In64 x) => rslot_any w b c x hx hc hc2 hb)
  have ec : IntKind.u64.wrap (c : Int) = (c : Int) := by rw [IntKind.wrap_u64]; omega
  obtain ⟨g, rfl, hgl', hg'⟩ := log_at hl (by simp)
  have hg := Lib.hid hg'
  have hgl := Lib.hid hgl'
  clear hg' hl hgl'
  have k0 := Lib.hid hx0
  have k1 := Lib.hid hx1
  have k2 := Lib.hid hx2
  have k3 := Lib.hid hx3
  have k4 := Lib.hid hx4
  have k5 := Lib.hid hx5
  have hb' : (b : Int) ≤ 1000 := by omega
  clear hc hc2 hb hx0 hx1 hx2 hx3 hx4 hx5
  go_enter Try.func36, Try.ntmps36
  go_wp2_with (fail)
  obtain ⟨n1, n2, n3, n4⟩ := three_new w (.cells #[.int .i64 (b : Int), .int .i64 (c : Int)] 31) (.cells #[.int .i64 2, .int .u64 v, .slice (some ⟨g, 0, none⟩) 6 cap] 44) (.cells #[.bool false, .int .i64 0, .int .i64 0, .int .u64 0, .int .u64 0, .int .i64 0, .int .u64 0, .int .u64 0] 49)
  have bl := Lib.hid (fun (w' : World) (o : Only Nil (((w.alloc (.cells #[.int .i64 (b : Int), .int .i64 (c : Int)] 31)).alloc (.cells #[.int .i64 2, .int .u64 v, .slice (some ⟨g, 0, none⟩) 6 cap] 44)).alloc (.cells #[.bool false, .int .i64 0, .int .i64 0, .int .u64 0, .int .u64 0, .int .i64 0, .int .u64 0, .int .u64 0] 49)) w') =>
    And.intro ((o.block _ (lt_of_block n1) (fun h => h)).trans n1) (And.intro ((o.block _ (lt_of_block n2) (fun h => h)).trans n2) ((o.block _ (lt_of_block n3) (fun h => h)).trans n3)))
  have n4' := Lib.hid n4
  clear n1 n2 n3 n4
  generalize (((w.alloc (.cells #[.int .i64 (b : Int), .int .i64 (c : Int)] 31)).alloc (.cells #[.int .i64 2, .int .u64 v, .slice (some ⟨g, 0, none⟩) 6 cap] 44)).alloc (.cells #[.bool false, .int .i64 0, .int .i64 0, .int .u64 0, .int .u64 0, .int .i64 0, .int .u64 0, .int .u64 0] 49)) = W0 at bl n4' ⊢
  have oo_w0 := Lib.hid (Only.refl Nil W0)
  obtain ⟨bR, bO, bW⟩ := bl.out W0 oo_w0.out
  have bW_ := Lib.hid bW
  obtain ⟨c0, c1, c2, c3, c4, c5, c6, c7, f0, f1, f2, f3, f4, f5, f6, f7⟩ := want_cells bW
  have r0 : W0.cell? ⟨w.heap.size, 0, none⟩ = some (.int .i64 (b : Int)) := (by simp [World.cell?, bR])
  have r1 : W0.cell? ⟨w.heap.size, 1, none⟩ = some (.int .i64 (c : Int)) := (by simp [World.cell?, bR])
  have o1 : W0.cell? ⟨w.heap.size + 1, 1, none⟩ = some (.int .u64 v) := (by simp [World.cell?, bO])
  clear bR bO bW
  have y0 : W0.cell? ⟨g, 0, none⟩ = some (.int .u64 x0) := hg.out W0 (n4'.out.trans oo_w0.out) 0 (by simp)
  have y1 : W0.cell? ⟨g, 1, none⟩ = some (.int .u64 x1) := hg.out W0 (n4'.out.trans oo_w0.out) 1 (by simp)
  have y2 : W0.cell? ⟨g, 2, none⟩ = some (.int .u64 x2) := hg.out W0 (n4'.out.trans oo_w0.out) 2 (by simp)
  have y3 : W0.cell? ⟨g, 3, none⟩ = some (.int .u64 x3) := hg.out W0 (n4'.out.trans oo_w0.out) 3 (by simp)
  have y4 : W0.cell? ⟨g, 4, none⟩ = some (.int .u64 x4) := hg.out W0 (n4'.out.trans oo_w0.out) 4 (by simp)
  have y5 : W0.cell? ⟨g, 5, none⟩ = some (.int .u64 x5) := hg.out W0 (n4'.out.trans oo_w0.out) 5 (by simp)
  go_quiet (fail)
  have oo_q0 := Lib.hid (oo_w0.out.drewN nq)
  clear c0 c1 c2 c3 c4 c5 c6 c7 f0 f1 f2 f3 f4 f5 f6 f7 r0 r1 o1 y0 y1 y2 y3 y4 y5
  generalize W0.drewN nq = Wq0 at oo_q0 ⊢
  obtain ⟨bR, bO, bW⟩ := bl.out Wq0 oo_q0.out
  have bW_ := Lib.hid bW
  obtain ⟨c0, c1, c2, c3, c4, c5, c6, c7, f0, f1, f2, f3, f4, f5, f6, f7⟩ := want_cells bW
  have r0 : Wq0.cell? ⟨w.heap.size, 0, none⟩ = some (.int .i64 (b : Int)) := (by simp [World.cell?, bR])
  have r1 : Wq0.cell? ⟨w.heap.size, 1, none⟩ = some (.int .i64 (c : Int)) := (by simp [World.cell?, bR])
  have o1 : Wq0.cell? ⟨w.heap.size + 1, 1, none⟩ = some (.int .u64 v) := (by simp [World.cell?, bO])
  clear bR bO bW
  have y0 : Wq0.cell? ⟨g, 0, none⟩ = some (.int .u64 x0) := hg.out Wq0 (n4'.out.trans oo_q0.out) 0 (by simp)
  have y1 : Wq0.cell? ⟨g, 1, none⟩ = some (.int .u64 x1) := hg.out Wq0 (n4'.out.trans oo_q0.out) 1 (by simp)
  have y2 : Wq0.cell? ⟨g, 2, none⟩ = some (.int .u64 x2) := hg.out Wq0 (n4'.out.trans oo_q0.out) 2 (by simp)
  have y3 : Wq0.cell? ⟨g, 3, none⟩ = some (.int .u64 x3) := hg.out Wq0 (n4'.out.trans oo_q0.out) 3 (by simp)
  have y4 : Wq0.cell? ⟨g, 4, none⟩ = some (.int .u64 x4) := hg.out Wq0 (n4'.out.trans oo_q0.out) 4 (by simp)
  have y5 : Wq0.cell? ⟨g, 5, none⟩ = some (.int .u64 x5) := hg.out Wq0 (n4'.out.trans oo_q0.out) 5 (by simp)
  have p0 := r0
  have p1 := r1
  have oo_a0 : Hid (Only Nil W0 (Wq0.alloc (.cells #[.bool false, .int .i64 2, .int .i64 ((b : Int) + 1), .int .u64 x0, .int .u64 0, .int .i64 0, .int .u64 0, .int .u64 0] 49))) := Lib.hid (oo_q0.out.alloc _)
  clear c0 c1 c2 c3 c4 c5 c6 c7 f0 f1 f2 f3 f4 f5 f6 f7 r0 r1 o1 y0 y1 y2 y3 y4 y5
  obtain ⟨bR, bO, bW⟩ := bl.out (Wq0.alloc (.cells #[.bool false, .int .i64 2, .int .i64 ((b : Int) + 1), .int .u64 x0, .int .u64 0, .int .i64 0, .int .u64 0, .int .u64 0] 49)) oo_a0.out
  have bW_ := Lib.hid bW
  obtain ⟨c0, c1, c2, c3, c4, c5, c6, c7, f0, f1, f2, f3, f4, f5, f6, f7⟩ := want_cells bW
  have r0 : (Wq0.alloc (.cells #[.bool false, .int .i64 2, .int .i64 ((b : Int) + 1), .int .u64 x0, .int .u64 0, .int .i64 0, .int .u64 0, .int .u64 0] 49)).cell? ⟨w.heap.size, 0, none⟩ = some (.int .i64 (b : Int)) := (by simp [World.cell?, bR])
  have r1 : (Wq0.alloc (.cells #[.bool false, .int .i64 2, .int .i64 ((b : Int) + 1), .int .u64 x0, .int .u64 0, .int .i64 0, .int .u64 0, .int .u64 0] 49)).cell? ⟨w.heap.size, 1, none⟩ = some (.int .i64 (c : Int)) := (by simp [World.cell?, bR])
  have o1 : (Wq0.alloc (.cells #[.bool false, .int .i64 2, .int .i64 ((b : Int) + 1), .int .u64 x0, .int .u64 0, .int .i64 0, .int .u64 0, .int .u64 0] 49)).cell? ⟨w.heap.size + 1, 1, none⟩ = some (.int .u64 v) := (by simp [World.cell?, bO])
  clear bR bO bW
  have y0 : (Wq0.alloc (.cells #[.bool false, .int .i64 2, .int .i64 ((b : Int) + 1), .int .u64 x0, .int .u64 0, .int .i64 0, .int .u64 0, .int .u64 0] 49)).cell? ⟨g, 0, none⟩ = some (.int .u64 x0) := hg.out (Wq0.alloc (.cells #[.bool false, .int .i64 2, .int .i64 ((b : Int) + 1), .int .u64 x0, .int .u64 0, .int .i64 0, .int .u64 0, .int .u64 0] 49)) (n4'.out.trans oo_a0.out) 0 (by simp)
  have y1 : (Wq0.alloc (.cells #[.bool false, .int .i64 2, .int .i64 ((b : Int) + 1), .int .u64 x0, .int .u64 0, .int .i64 0, .int .u64 0, .int .u64 0] 49)).cell? ⟨g, 1, none⟩ = some (.int .u64 x1) := hg.out (Wq0.alloc (.cells #[.bool false, .int .i64 2, .int .i64 ((b : Int) + 1), .int .u64 x0, .int .u64 0, .int .i64 0, .int .u64 0, .int .u64 0] 49)) (n4'.out.trans oo_a0.out) 1 (by simp)
  have y2 : (Wq0.alloc (.cells #[.bool false, .int .i64 2, .int .i64 ((b : Int) + 1), .int .u64 x0, .int .u64 0, .int .i64 0, .int .u64 0, .int .u64 0] 49)).cell? ⟨g, 2, none⟩ = some (.int .u64 x2) := hg.out (Wq0.alloc (.cells #[.bool false, .int .i64 2, .int .i64 ((b : Int) + 1), .int .u64 x0, .int .u64 0, .int .i64 0, .int .u64 0, .int .u64 0] 49)) (n4'.out.trans oo_a0.out) 2 (by simp)
  have y3 : (Wq0.alloc (.cells #[.bool false, .int .i64 2, .int .i64 ((b : Int) + 1), .int .u64 x0, .int .u64 0, .int .i64 0, .int .u64 0, .int .u64 0] 49)).cell? ⟨g, 3, none⟩ = some (.int .u64 x3) := hg.out (Wq0.alloc (.cells #[.bool false, .int .i64 2, .int .i64 ((b : Int) + 1), .int .u64 x0, .int .u64 0, .int .i64 0, .int .u64 0, .int .u64 0] 49)) (n4'.out.trans oo_a0.out) 3 (by simp)
  have y4 : (Wq0.alloc (.cells #[.bool false, .int .i64 2, .int .i64 ((b : Int) + 1), .int .u64 x0, .int .u64 0, .int .i64 0, .int .u64 0, .int .u64 0] 49)).cell? ⟨g, 4, none⟩ = some (.int .u64 x4) := hg.out (Wq0.alloc (.cells #[.bool false, .int .i64 2, .int .i64 ((b : Int) + 1), .int .u64 x0, .int .u64 0, .int .i64 0, .int .u64 0, .int .u64 0] 49)) (n4'.out.trans oo_a0.out) 4 (by simp)
  have y5 : (Wq0.alloc (.cells #[.bool false, .int .i64 2, .int .i64 ((b : Int) + 1), .int .u64 x0, .int .u64 0, .int .i64 0, .int .u64 0, .int .u64 0] 49)).cell? ⟨g, 5, none⟩ = some (.int .u64 x5) := hg.out (Wq0.alloc (.cells #[.bool false, .int .i64 2, .int .i64 ((b : Int) + 1), .int .u64 x0, .int .u64 0, .int .i64 0, .int .u64 0, .int .u64 0] 49)) (n4'.out.trans oo_a0.out) 5 (by simp)
  go_wp2_with (first
    | (go_at_call 46; (with_reducible refine (rover_any _ _ _).mono ?_); rintro e_ w1 ⟨rfl, q_w1⟩
       have oo_w1 : Hid (Only Nil W0 w1) := Lib.hid (by first | exact (oo_a0.out.trans q_w1) | exact (oo_a0.out.drew.trans q_w1) | exact ((oo_a0.out.drewN _).trans q_w1))
       clear c0 c1 c2 c3 c4 c5 c6 c7 f0 f1 f2 f3 f4 f5 f6 f7 r0 r1 o1 y0 y1 y2 y3 y4 y5
       obtain ⟨bR, bO, bW⟩ := bl.out w1 oo_w1.out
       have bW_ := Lib.hid bW
       obtain ⟨c0, c1, c2, c3, c4, c5, c6, c7, f0, f1, f2, f3, f4, f5, f6, f7⟩ := want_cells bW
       have r0 : w1.cell? ⟨w.heap.size, 0, none⟩ = some (.int .i64 (b : Int)) := (by simp [World.cell?, bR])
       have r1 : w1.cell? ⟨w.heap.size, 1, none⟩ = some (.int .i64 (c : Int)) := (by simp [World.cell?, bR])
       have o1 : w1.cell? ⟨w.heap.size + 1, 1, none⟩ = some (.int .u64 v) := (by simp [World.cell?, bO])
       clear bR bO bW
       have y0 : w1.cell? ⟨g, 0, none⟩ = some (.int .u64 x0) := hg.out w1 (n4'.out.trans oo_w1.out) 0 (by simp)
       have y1 : w1.cell? ⟨g, 1, none⟩ = some (.int .u64 x1) := hg.out w1 (n4'.out.trans oo_w1.out) 1 (by simp)
       have y2 : w1.cell? ⟨g, 2, none⟩ = some (.int .u64 x2) := hg.out w1 (n4'.out.trans oo_w1.out) 2 (by simp)
       have y3 : w1.cell? ⟨g, 3, none⟩ = some (.int .u64 x3) := hg.out w1 (n4'.out.trans oo_w1.out) 3 (by simp)
       have y4 : w1.cell? ⟨g, 4, none⟩ = some (.int .u64 x4) := hg.out w1 (n4'.out.trans oo_w1.out) 4 (by simp)
       have y5 : w1.cell? ⟨g, 5, none⟩ = some (.int .u64 x5) := hg.out w1 (n4'.out.trans oo_w1.out) 5 (by simp)))
  refine bodyPost_ret (results_agg rfl _ _ (w.heap.size + 1 + 1) [.bool true, .int .i64 0, .int .i64 0, .int .u64 0, .int .u64 0, .int .i64 4, .int .u64 0, .int .u64 0] Try.isAgg49 Try.sizeOf49 rfl (set8_heap bW_.out (.bool true) (.int .i64 0) (.int .i64 0) (.int .u64 0) (.int .u64 0) (.int .i64 4) (.int .u64 0) (.int .u64 0))) rfl ?_
  exact ⟨by simp [wantOf, acc, accWant, up, dn], ((n4'.out.trans oo_w1.out).then (set8_only _ _ (.bool true) (.int .i64 0) (.int .i64 0) (.int .u64 0) (.int .u64 0) (.int .i64 4) (.int .u64 0) (.int .u64 0)) (fun q hq hl => by omega))⟩

set_option linter.unusedVariables false in
set_option linter.unusedSimpArgs false in
set_option maxRecDepth 100000 in
set_option maxHeartbeats 4000000 in
theorem rsteal_0 (w : World) (b c : Nat) (v : Int) (a : Option Addr) (cap : Nat) (hc : 0 < c) (hc2 : c ≤ 64) (hb : b ≤ 1000) :
    Calls Try.prog 37 #[.agg #[.int .i64 (b : Int), .int .i64 (c : Int)], .agg #[.int .i64 3, .int .u64 v, .slice a 0 cap]] w fun e w' => e = .returned (wantOf b c (.st0)) ∧ Only Nil w w' := by
  have sl := Lib.hid (fun (w : World) (x : Int) (hx : In64 x) => rslot_any w b c x hx hc hc2 hb)
  have ec : IntKind.u64.wrap (c : Int) = (c : Int) := by rw [IntKind.wrap_u64]; omega
  have hb' : (b : Int) ≤ 1000 := by omega
  clear hc hc2 hb
  go_enter Try.func37, Try.ntmps37
  go_wp2_with (fail)
  obtain ⟨n1, n2, n3, n4⟩ := three_new w (.cells #[.int .i64 (b : Int), .int .i64 (c : Int)] 31) (.cells #[.int .i64 3, .int .u64 v, .slice a 0 cap] 44) (.cells #[.bool false, .int .i64 0, .int .i64 0, .int .u64 0, .int .u64 0, .int .i64 0, .int .u64 0, .int .u64 0] 49)
  have bl := Lib.hid (fun (w' : World) (o : Only Nil (((w.alloc (.cells #[.int .i64 (b : Int), .int .i64 (c : Int)] 31)).alloc (.cells #[.int .i64 3, .int .u64 v, .slice a 0 cap] 44)).alloc (.cells #[.bool false, .int .i64 0, .int .i64 0, .int .u64 0, .int .u64 0, .int .i64 0, .int .u64 0, .int .u64 0] 49)) w') =>
    And.intro ((o.block _ (lt_of_block n1) (fun h => h)).trans n1) (And.intro ((o.block _ (lt_of_block n2) (fun h => h)).trans n2) ((o.block _ (lt_of_block n3) (fun h => h)).trans n3)))
  have n4' := Lib.hid n4
  clear n1 n2 n3 n4
  generalize (((w.alloc (.cells #[.int .i64 (b : Int), .int .i64 (c : Int)] 31)).alloc (.cells #[.int .i64 3, .int .u64 v, .slice a 0 cap] 44)).alloc (.cells #[.bool false, .int .i64 0, .int .i64 0, .int .u64 0, .int .u64 0, .int .i64 0, .int .u64 0, .int .u64 0] 49)) = W0 at bl n4' ⊢
  have oo_w0 := Lib.hid (Only.refl Nil W0)
  obtain ⟨bR, bO, bW⟩ := bl.out W0 oo_w0.out
  have bW_ := Lib.hid bW
  obtain ⟨c0, c1, c2, c3, c4, c5, c6, c7, f0, f1, f2, f3, f4, f5, f6, f7⟩ := want_cells bW
  have r0 : W0.cell? ⟨w.heap.size, 0, none⟩ = some (.int .i64 (b : Int)) := (by simp [World.cell?, bR])
  have r1 : W0.cell? ⟨w.heap.size, 1, none⟩ = some (.int .i64 (c : Int)) := (by simp [World.cell?, bR])
  have o1 : W0.cell? ⟨w.heap.size + 1, 1, none⟩ = some (.int .u64 v) := (by simp [World.cell?, bO])
  clear bR bO bW
  go_quiet (fail)
  have oo_q0 := Lib.hid (oo_w0.out.drewN nq)
  clear c0 c1 c2 c3 c4 c5 c6 c7 f0 f1 f2 f3 f4 f5 f6 f7 r0 r1 o1
  generalize W0.drewN nq = Wq0 at oo_q0 ⊢
  obtain ⟨bR, bO, bW⟩ := bl.out Wq0 oo_q0.out
  have bW_ := Lib.hid bW
  obtain ⟨c0, c1, c2, c3, c4, c5, c6, c7, f0, f1, f2, f3, f4, f5, f6, f7⟩ := want_cells bW
  have r0 : Wq0.cell? ⟨w.heap.size, 0, none⟩ = some (.int .i64 (b : Int)) := (by simp [World.cell?, bR])
  have r1 : Wq0.cell? ⟨w.heap.size, 1, none⟩ = some (.int .i64 (c : Int)) := (by simp [World.cell?, bR])
  have o1 : Wq0.cell? ⟨w.heap.size + 1, 1, none⟩ = some (.int .u64 v) := (by simp [World.cell?, bO])
  clear bR bO bW
  go_wp2_with (first
    | (go_at_call 47; (with_reducible refine (rload_any _ _).mono ?_); rintro e_ w1 ⟨rfl, q_w1⟩
       have oo_w1 : Hid (Only Nil W0 w1) := Lib.hid (by first | exact (oo_q0.out.trans q_w1) | exact (oo_q0.out.drew.trans q_w1) | exact ((oo_q0.out.drewN _).trans q_w1))
       clear c0 c1 c2 c3 c4 c5 c6 c7 f0 f1 f2 f3 f4 f5 f6 f7 r0 r1 o1
       obtain ⟨bR, bO, bW⟩ := bl.out w1 oo_w1.out
       have bW_ := Lib.hid bW
       obtain ⟨c0, c1, c2, c3, c4, c5, c6, c7, f0, f1, f2, f3, f4, f5, f6, f7⟩ := want_cells bW
       have r0 : w1.cell? ⟨w.heap.size, 0, none⟩ = some (.int .i64 (b : Int)) := (by simp [World.cell?, bR])
       have r1 : w1.cell? ⟨w.heap.size, 1, none⟩ = some (.int .i64 (c : Int)) := (by simp [World.cell?, bR])
       have o1 : w1.cell? ⟨w.heap.size + 1, 1, none⟩ = some (.int .u64 v) := (by simp [World.cell?, bO])
       clear bR bO bW))
  refine bodyPost_ret (results_agg rfl _ _ (w.heap.size + 1 + 1) [.bool false, .int .i64 1, .int .i64 (b : Int), .int .u64 0, .int .u64 0, .int .i64 0, .int .u64 0, .int .u64 0] Try.isAgg49 Try.sizeOf49 rfl (set8_heap bW_.out (.bool false) (.int .i64 1) (.int .i64 (b : Int)) (.int .u64 0) (.int .u64 0) (.int .i64 0) (.int .u64 0) (.int .u64 0))) rfl ?_
  exact ⟨by simp [wantOf, acc, accWant, up, dn], ((n4'.out.trans oo_w1.out).then (set8_only _ _ (.bool false) (.int .i64 1) (.int .i64 (b : Int)) (.int .u64 0) (.int .u64 0) (.int .i64 0) (.int .u64 0) (.int .u64 0)) (fun q hq hl => by omega))⟩

set_option linter.unusedVariables false in
set_option linter.unusedSimpArgs false in
set_option maxRecDepth 100000 in
set_option maxHeartbeats 4000000 in
theorem rsteal_1 (w : World) (b c : Nat) (v : Int) (a : Option Addr) (cap : Nat) (x0 : Int) (hc : 0 < c) (hc2 : c ≤ 64) (hb : b ≤ 1000) (hx0 : In64 x0) (hl : LogIn w a [x0]) :
    Calls Try.prog 37 #[.agg #[.int .i64 (b : Int), .int .i64 (c : Int)], .agg #[.int .i64 3, .int .u64 v, .slice a 1 cap]] w fun e w' => e = .returned (wantOf b c (.st1 x0)) ∧ Only Nil w w' := by
  have sl := Lib.hid (fun (w : World) (x : Int) (hx : In64 x) => rslot_any w b c x hx hc hc2 hb)
  have ec : IntKind.u64.wrap (c : Int) = (c : Int) := by rw [IntKind.wrap_u64]; omega
  obtain ⟨g, rfl, hgl', hg'⟩ := log_at hl (by simp)
  have hg := Lib.hid hg'
  have hgl := Lib.hid hgl'
  clear hg' hl hgl'
  have k0 := Lib.hid hx0
  have hb' : (b : Int) ≤ 1000 := by omega
  clear hc hc2 hb hx0
  go_enter Try.func37, Try.ntmps37
  go_wp2_with (fail)
  obtain ⟨n1, n2, n3, n4⟩ := three_new w (.cells #[.int .i64 (b : Int), .int .i64 (c : Int)] 31) (.cells #[.int .i64 3, .int .u64 v, .slice (some ⟨g, 0, none⟩) 1 cap] 44) (.cells #[.bool false, .int .i64 0, .int .i64 0, .int .u64 0, .int .u64 0, .int .i64 0, .int .u64 0, .int .u64 0] 49)
  have bl := Lib.hid (fun (w' : World) (o : Only Nil (((w.alloc (.cells #[.int .i64 (b : Int), .int .i64 (c : Int)] 31)).alloc (.cells #[.int .i64 3, .int .u64 v, .slice (some ⟨g, 0, none⟩) 1 cap] 44)).alloc (.cells #[.bool false, .int .i64 0, .int .i64 0, .int .u64 0, .int .u64 0, .int .i64 0, .int .u64 0, .int .u64 0] 49)) w') =>
    And.intro ((o.block _ (lt_of_block n1) (fun h => h)).trans n1) (And.intro ((o.block _ (lt_of_block n2) (fun h => h)).trans n2) ((o.block _ (lt_of_block n3) (fun h => h)).trans n3)))
  have n4' := Lib.hid n4
  clear n1 n2 n3 n4
  generalize (((w.alloc (.cells #[.int .i64 (b : Int), .int .i64 (c : Int)] 31)).alloc (.cells #[.int .i64 3, .int .u64 v, .slice (some ⟨g, 0, none⟩) 1 cap] 44)).alloc (.cells #[.bool false, .int .i64 0, .int .i64 0, .int .u64 0, .int .u64 0, .int .i64 0, .int .u64 0, .int .u64 0] 49)) = W0 at bl n4' ⊢
  have oo_w0 := Lib.hid (Only.refl Nil W0)
  obtain ⟨bR, bO, bW⟩ := bl.out W0 oo_w0.out
  have bW_ := Lib.hid bW
  obtain ⟨c0, c1, c2, c3, c4, c5, c6, c7, f0, f1, f2, f3, f4, f5, f6, f7⟩ := want_cells bW
  have r0 : W0.cell? ⟨w.heap.size, 0, none⟩ = some (.int .i64 (b : Int)) := (by simp [World.cell?, bR])
  have r1 : W0.cell? ⟨w.heap.size, 1, none⟩ = some (.int .i64 (c : Int)) := (by simp [World.cell?, bR])
  have o1 : W0.cell? ⟨w.heap.size + 1, 1, none⟩ = some (.int .u64 v) := (by simp [World.cell?, bO])
  clear bR bO bW
  have y0 : W0.cell? ⟨g, 0, none⟩ = some (.int .u64 x0) := hg.out W0 (n4'.out.trans oo_w0.out) 0 (by simp)
  go_quiet (fail)
  have oo_q0 := Lib.hid (oo_w0.out.drewN nq)
  clear c0 c1 c2 c3 c4 c5 c6 c7 f0 f1 f2 f3 f4 f5 f6 f7 r0 r1 o1 y0
  generalize W0.drewN nq = Wq0 at oo_q0 ⊢
  obtain ⟨bR, bO, bW⟩ := bl.out Wq0 oo_q0.out
  have bW_ := Lib.hid bW
  obtain ⟨c0, c1, c2, c3, c4, c5, c6, c7, f0, f1, f2, f3, f4, f5, f6, f7⟩ := want_cells bW
  have r0 : Wq0.cell? ⟨w.heap.size, 0, none⟩ = some (.int .i64 (b : Int)) := (by simp [World.cell?, bR])
  have r1 : Wq0.cell? ⟨w.heap.size, 1, none⟩ = some (.int .i64 (c : Int)) := (by simp [World.cell?, bR])
  have o1 : Wq0.cell? ⟨w.heap.size + 1, 1, none⟩ = some (.int .u64 v) := (by simp [World.cell?, bO])
  clear bR bO bW
  have y0 : Wq0.cell? ⟨g, 0, none⟩ = some (.int .u64 x0) := hg.out Wq0 (n4'.out.trans oo_q0.out) 0 (by simp)
  go_wp2_with (first
    | (go_at_call 47; (with_reducible refine (rload_any _ _).mono ?_); rintro e_ w1 ⟨rfl, q_w1⟩
       have oo_w1 : Hid (Only Nil W0 w1) := Lib.hid (by first | exact (oo_q0.out.trans q_w1) | exact (oo_q0.out.drew.trans q_w1) | exact ((oo_q0.out.drewN _).trans q_w1))
       clear c0 c1 c2 c3 c4 c5 c6 c7 f0 f1 f2 f3 f4 f5 f6 f7 r0 r1 o1 y0
       obtain ⟨bR, bO, bW⟩ := bl.out w1 oo_w1.out
       have bW_ := Lib.hid bW
       obtain ⟨c0, c1, c2, c3, c4, c5, c6, c7, f0, f1, f2, f3, f4, f5, f6, f7⟩ := want_cells bW
       have r0 : w1.cell? ⟨w.heap.size, 0, none⟩ = some (.int .i64 (b : Int)) := (by simp [World.cell?, bR])
       have r1 : w1.cell? ⟨w.heap.size, 1, none⟩ = some (.int .i64 (c : Int)) := (by simp [World.cell?, bR])
       have o1 : w1.cell? ⟨w.heap.size + 1, 1, none⟩ = some (.int .u64 v) := (by simp [World.cell?, bO])
       clear bR bO bW
       have y0 : w1.cell? ⟨g, 0, none⟩ = some (.int .u64 x0) := hg.out w1 (n4'.out.trans oo_w1.out) 0 (by simp)))
  refine bodyPost_ret (results_agg rfl _ _ (w.heap.size + 1 + 1) [.bool false, .int .i64 1, .int .i64 ((b : Int) + 1), .int .u64 0, .int .u64 0, .int .i64 0, .int .u64 0, .int .u64 0] Try.isAgg49 Try.sizeOf49 rfl (set8_heap bW_.out (.bool false) (.int .i64 1) (.int .i64 ((b : Int) + 1)) (.int .u64 0) (.int .u64 0) (.int .i64 0) (.int .u64 0) (.int .u64 0))) rfl ?_
  exact ⟨by simp [wantOf, acc, accWant, up, dn], ((n4'.out.trans oo_w1.out).then (set8_only _ _ (.bool false) (.int .i64 1) (.int .i64 ((b : Int) + 1)) (.int .u64 0) (.int .u64 0) (.int .i64 0) (.int .u64 0) (.int .u64 0)) (fun q hq hl => by omega))⟩

set_option linter.unusedVariables false in
set_option linter.unusedSimpArgs false in
set_option maxRecDepth 100000 in
set_option maxHeartbeats 4000000 in
theorem rsteal_2n (w : World) (b c : Nat) (v : Int) (a : Option Addr) (cap : Nat) (x0 x1 : Int) (hc : 0 < c) (hc2 : c ≤ 64) (hb : b ≤ 1000) (hx0 : In64 x0) (hx1 : In64 x1) (hl : LogIn w a [x0, x1]) (hx : x1 ≤ x0) :
    Calls Try.prog 37 #[.agg #[.int .i64 (b : Int), .int .i64 (c : Int)], .agg #[.int .i64 3, .int .u64 v, .slice a 2 cap]] w fun e w' => e = .returned (wantOf b c (.over 4 0)) ∧ Only Nil w w' := by
  have sl := Lib.hid (fun (w : World) (x : Int) (hx : In64 x) => rslot_any w b c x hx hc hc2 hb)
  have ec : IntKind.u64.wrap (c : Int) = (c : Int) := by rw [IntKind.wrap_u64]; omega
  obtain ⟨g, rfl, hgl', hg'⟩ := log_at hl (by simp)
  have hg := Lib.hid hg'
  have hgl := Lib.hid hgl'
  clear hg' hl hgl'
  have k0 := Lib.hid hx0
  have k1 := Lib.hid hx1
  have hb' : (b : Int) ≤ 1000 := by omega
  clear hc hc2 hb hx0 hx1
  go_enter Try.func37, Try.ntmps37
  go_wp2_with (fail)
  obtain ⟨n1, n2, n3, n4⟩ := three_new w (.cells #[.int .i64 (b : Int), .int .i64 (c : Int)] 31) (.cells #[.int .i64 3, .int .u64 v, .slice (some ⟨g, 0, none⟩) 2 cap] 44) (.cells #[.bool false, .int .i64 0, .int .i64 0, .int .u64 0, .int .u64 0, .int .i64 0, .int .u64 0, .int .u64 0] 49)
  have bl := Lib.hid (fun (w' : World) (o : Only Nil (((w.alloc (.cells #[.int .i64 (b : Int), .int .i64 (c : Int)] 31)).alloc (.cells #[.int .i64 3, .int .u64 v, .slice (some ⟨g, 0, none⟩) 2 cap] 44)).alloc (.cells #[.bool false, .int .i64 0, .int .i64 0, .int .u64 0, .int .u64 0, .int .i64 0, .int .u64 0, .int .u64 0] 49)) w') =>
    And.intro ((o.block _ (lt_of_block n1) (fun h => h)).trans n1) (And.intro ((o.block _ (lt_of_block n2) (fun h => h)).trans n2) ((o.block _ (lt_of_block n3) (fun h => h)).trans n3)))
  have n4' := Lib.hid n4
  clear n1 n2 n3 n4
  generalize (((w.alloc (.cells #[.int .i64 (b : Int), .int .i64 (c : Int)] 31)).alloc (.cells #[.int .i64 3, .int .u64 v, .slice (some ⟨g, 0, none⟩) 2 cap] 44)).alloc (.cells #[.bool false, .int .i64 0, .int .i64 0, .int .u64 0, .int .u64 0, .int .i64 0, .int .u64 0, .int .u64 0] 49)) = W0 at bl n4' ⊢
  have oo_w0 := Lib.hid (Only.refl Nil W0)
  obtain ⟨bR, bO, bW⟩ := bl.out W0 oo_w0.out
  have bW_ := Lib.hid bW
  obtain ⟨c0, c1, c2, c3, c4, c5, c6, c7, f0, f1, f2, f3, f4, f5, f6, f7⟩ := want_cells bW
  have r0 : W0.cell? ⟨w.heap.size, 0, none⟩ = some (.int .i64 (b : Int)) := (by simp [World.cell?, bR])
  have r1 : W0.cell? ⟨w.heap.size, 1, none⟩ = some (.int .i64 (c : Int)) := (by simp [World.cell?, bR])
  have o1 : W0.cell? ⟨w.heap.size + 1, 1, none⟩ = some (.int .u64 v) := (by simp [World.cell?, bO])
  clear bR bO bW
  have y0 : W0.cell? ⟨g, 0, none⟩ = some (.int .u64 x0) := hg.out W0 (n4'.out.trans oo_w0.out) 0 (by simp)
  have y1 : W0.cell? ⟨g, 1, none⟩ = some (.int .u64 x1) := hg.out W0 (n4'.out.trans oo_w0.out) 1 (by simp)
  go_quiet (fail)
  have oo_q0 := Lib.hid (oo_w0.out.drewN nq)
  clear c0 c1 c2 c3 c4 c5 c6 c7 f0 f1 f2 f3 f4 f5 f6 f7 r0 r1 o1 y0 y1
  generalize W0.drewN nq = Wq0 at oo_q0 ⊢
  obtain ⟨bR, bO, bW⟩ := bl.out Wq0 oo_q0.out
  have bW_ := Lib.hid bW
  obtain ⟨c0, c1, c2, c3, c4, c5, c6, c7, f0, f1, f2, f3, f4, f5, f6, f7⟩ := want_cells bW
  have r0 : Wq0.cell? ⟨w.heap.size, 0, none⟩ = some (.int .i64 (b : Int)) := (by simp [World.cell?, bR])
  have r1 : Wq0.cell? ⟨w.heap.size, 1, none⟩ = some (.int .i64 (c : Int)) := (by simp [World.cell?, bR])
  have o1 : Wq0.cell? ⟨w.heap.size + 1, 1, none⟩ = some (.int .u64 v) := (by simp [World.cell?, bO])
  clear bR bO bW
  have y0 : Wq0.cell? ⟨g, 0, none⟩ = some (.int .u64 x0) := hg.out Wq0 (n4'.out.trans oo_q0.out) 0 (by simp)
  have y1 : Wq0.cell? ⟨g, 1, none⟩ = some (.int .u64 x1) := hg.out Wq0 (n4'.out.trans oo_q0.out) 1 (by simp)
  go_wp2_with (first
    | (go_at_call 46; (with_reducible refine (rover_any _ _ _).mono ?_); rintro e_ w1 ⟨rfl, q_w1⟩
       have oo_w1 : Hid (Only Nil W0 w1) := Lib.hid (by first | exact (oo_q0.out.trans q_w1) | exact (oo_q0.out.drew.trans q_w1) | exact ((oo_q0.out.drewN _).trans q_w1))
       clear c0 c1 c2 c3 c4 c5 c6 c7 f0 f1 f2 f3 f4 f5 f6 f7 r0 r1 o1 y0 y1
       obtain ⟨bR, bO, bW⟩ := bl.out w1 oo_w1.out
       have bW_ := Lib.hid bW
       obtain ⟨c0, c1, c2, c3, c4, c5, c6, c7, f0, f1, f2, f3, f4, f5, f6, f7⟩ := want_cells bW
       have r0 : w1.cell? ⟨w.heap.size, 0, none⟩ = some (.int .i64 (b : Int)) := (by simp [World.cell?, bR])
       have r1 : w1.cell? ⟨w.heap.size, 1, none⟩ = some (.int .i64 (c : Int)) := (by simp [World.cell?, bR])
       have o1 : w1.cell? ⟨w.heap.size + 1, 1, none⟩ = some (.int .u64 v) := (by simp [World.cell?, bO])
       clear bR bO bW
       have y0 : w1.cell? ⟨g, 0, none⟩ = some (.int .u64 x0) := hg.out w1 (n4'.out.trans oo_w1.out) 0 (by simp)
       have y1 : w1.cell? ⟨g, 1, none⟩ = some (.int .u64 x1) := hg.out w1 (n4'.out.trans oo_w1.out) 1 (by simp)))
  refine bodyPost_ret (results_agg rfl _ _ (w.heap.size + 1 + 1) [.bool true, .int .i64 0, .int .i64 0, .int .u64 0, .int .u64 0, .int .i64 4, .int .u64 0, .int .u64 0] Try.isAgg49 Try.sizeOf49 rfl (set8_heap bW_.out (.bool true) (.int .i64 0) (.int .i64 0) (.int .u64 0) (.int .u64 0) (.int .i64 4) (.int .u64 0) (.int .u64 0))) rfl ?_
  exact ⟨by simp [wantOf, acc, accWant, up, dn], ((n4'.out.trans oo_w1.out).then (set8_only _ _ (.bool true) (.int .i64 0) (.int .i64 0) (.int .u64 0) (.int .u64 0) (.int .i64 4) (.int .u64 0) (.int .u64 0)) (fun q hq hl => by omega))⟩

set_option linter.unusedVariables false in
set_option linter.unusedSimpArgs false in
set_option maxRecDepth 100000 in
set_option maxHeartbeats 4000000 in
theorem rsteal_2 (w : World) (b c : Nat) (v : Int) (a : Option Addr) (cap : Nat) (x0 x1 : Int) (hc : 0 < c) (hc2 : c ≤ 64) (hb : b ≤ 1000) (hx0 : In64 x0) (hx1 : In64 x1) (hl : LogIn w a [x0, x1]) (hx : ¬ x1 ≤ x0) :
    Calls Try.prog 37 #[.agg #[.int .i64 (b : Int), .int .i64 (c : Int)], .agg #[.int .i64 3, .int .u64 v, .slice a 2 cap]] w fun e w' => e = .returned (wantOf b c (.st2 x0)) ∧ Only Nil w w' := by
  have sl := Lib.hid (fun (w : World) (x : Int) (hx : In64 x) => rslot_any w b c x hx hc hc2 hb)
  have ec : IntKind.u64.wrap (c : Int) = (c : Int) := by rw [IntKind.wrap_u64]; omega
  obtain ⟨g, rfl, hgl', hg'⟩ := log_at hl (by simp)
  have hg := Lib.hid hg'
  have hgl := Lib.hid hgl'
  clear hg' hl hgl'
  have k0 := Lib.hid hx0
  have k1 := Lib.hid hx1
  have hb' : (b : Int) ≤ 1000 := by omega
  clear hc hc2 hb hx0 hx1
  go_enter Try.func37, Try.ntmps37
  go_wp2_with (fail)
  obtain ⟨n1, n2, n3, n4⟩ := three_new w (.cells #[.int .i64 (b : Int), .int .i64 (c : Int)] 31) (.cells #[.int .i64 3, .int .u64 v, .slice (some ⟨g, 0, none⟩) 2 cap] 44) (.cells #[.bool false, .int .i64 0, .int .i64 0, .int .u64 0, .int .u64 0, .int .i64 0, .int .u64 0, .int .u64 0] 49)
  have bl := Lib.hid (fun (w' : World) (o : Only Nil (((w.alloc (.cells #[.int .i64 (b : Int), .int .i64 (c : Int)] 31)).alloc (.cells #[.int .i64 3, .int .u64 v, .slice (some ⟨g, 0, none⟩) 2 cap] 44)).alloc (.cells #[.bool false, .int .i64 0, .int .i64 0, .int .u64 0, .int .u64 0, .int .i64 0, .int .u64 0, .int .u64 0] 49)) w') =>
    And.intro ((o.block _ (lt_of_block n1) (fun h => h)).trans n1) (And.intro ((o.block _ (lt_of_block n2) (fun h => h)).trans n2) ((o.block _ (lt_of_block n3) (fun h => h)).trans n3)))
  have n4' := Lib.hid n4
  clear n1 n2 n3 n4
  generalize (((w.alloc (.cells #[.int .i64 (b : Int), .int .i64 (c : Int)] 31)).alloc (.cells #[.int .i64 3, .int .u64 v, .slice (some ⟨g, 0, none⟩) 2 cap] 44)).alloc (.cells #[.bool false, .int .i64 0, .int .i64 0, .int .u64 0, .int .u64 0, .int .i64 0, .int .u64 0, .int .u64 0] 49)) = W0 at bl n4' ⊢
  have oo_w0 := Lib.hid (Only.refl Nil W0)
  obtain ⟨bR, bO, bW⟩ := bl.out W0 oo_w0.out
  have bW_ := Lib.hid bW
  obtain ⟨c0, c1, c2, c3, c4, c5, c6, c7, f0, f1, f2, f3, f4, f5, f6, f7⟩ := want_cells bW
  have r0 : W0.cell? ⟨w.heap.size, 0, none⟩ = some (.int .i64 (b : Int)) := (by simp [World.cell?, bR])
  have r1 : W0.cell? ⟨w.heap.size, 1, none⟩ = some (.int .i64 (c : Int)) := (by simp [World.cell?, bR])
  have o1 : W0.cell? ⟨w.heap.size + 1, 1, none⟩ = some (.int .u64 v) := (by simp [World.cell?, bO])
  clear bR bO bW
  have y0 : W0.cell? ⟨g, 0, none⟩ = some (.int .u64 x0) := hg.out W0 (n4'.out.trans oo_w0.out) 0 (by simp)
  have y1 : W0.cell? ⟨g, 1, none⟩ = some (.int .u64 x1) := hg.out W0 (n4'.out.trans oo_w0.out) 1 (by simp)
  go_quiet (fail)
  have oo_q0 := Lib.hid (oo_w0.out.drewN nq)
  clear c0 c1 c2 c3 c4 c5 c6 c7 f0 f1 f2 f3 f4 f5 f6 f7 r0 r1 o1 y0 y1
  generalize W0.drewN nq = Wq0 at oo_q0 ⊢
  obtain ⟨bR, bO, bW⟩ := bl.out Wq0 oo_q0.out
  have bW_ := Lib.hid bW
  obtain ⟨c0, c1, c2, c3, c4, c5, c6, c7, f0, f1, f2, f3, f4, f5, f6, f7⟩ := want_cells bW
  have r0 : Wq0.cell? ⟨w.heap.size, 0, none⟩ = some (.int .i64 (b : Int)) := (by simp [World.cell?, bR])
  have r1 : Wq0.cell? ⟨w.heap.size, 1, none⟩ = some (.int .i64 (c : Int)) := (by simp [World.cell?, bR])
  have o1 : Wq0.cell? ⟨w.heap.size + 1, 1, none⟩ = some (.int .u64 v) := (by simp [World.cell?, bO])
  clear bR bO bW
  have y0 : Wq0.cell? ⟨g, 0, none⟩ = some (.int .u64 x0) := hg.out Wq0 (n4'.out.trans oo_q0.out) 0 (by simp)
  have y1 : Wq0.cell? ⟨g, 1, none⟩ = some (.int .u64 x1) := hg.out Wq0 (n4'.out.trans oo_q0.out) 1 (by simp)
  go_wp2_with (fail)
  go_region_with (first
    | (go_at_call 48; (with_reducible refine (sl.out _ _ k0.out).mono ?_); rintro e_ w1 ⟨rfl, q_w1⟩
       have oo_w1 : Hid (Only Nil W0 w1) := Lib.hid (by first | exact (oo_q0.out.trans q_w1) | exact (oo_q0.out.drew.trans q_w1) | exact ((oo_q0.out.drewN _).trans q_w1))
       clear c0 c1 c2 c3 c4 c5 c6 c7 f0 f1 f2 f3 f4 f5 f6 f7 r0 r1 o1 y0 y1
       obtain ⟨bR, bO, bW⟩ := bl.out w1 oo_w1.out
       have bW_ := Lib.hid bW
       obtain ⟨c0, c1, c2, c3, c4, c5, c6, c7, f0, f1, f2, f3, f4, f5, f6, f7⟩ := want_cells bW
       have r0 : w1.cell? ⟨w.heap.size, 0, none⟩ = some (.int .i64 (b : Int)) := (by simp [World.cell?, bR])
       have r1 : w1.cell? ⟨w.heap.size, 1, none⟩ = some (.int .i64 (c : Int)) := (by simp [World.cell?, bR])
       have o1 : w1.cell? ⟨w.heap.size + 1, 1, none⟩ = some (.int .u64 v) := (by simp [World.cell?, bO])
       clear bR bO bW
       have y0 : w1.cell? ⟨g, 0, none⟩ = some (.int .u64 x0) := hg.out w1 (n4'.out.trans oo_w1.out) 0 (by simp)
       have y1 : w1.cell? ⟨g, 1, none⟩ = some (.int .u64 x1) := hg.out w1 (n4'.out.trans oo_w1.out) 1 (by simp))
    | (go_at_call 47; (with_reducible refine (rload_any _ _).mono ?_); rintro e_ w2 ⟨rfl, q_w2⟩
       have oo_w2 : Hid (Only Nil W0 w2) := Lib.hid (by first | exact (oo_w1.out.trans q_w2) | exact (oo_w1.out.drew.trans q_w2) | exact ((oo_w1.out.drewN _).trans q_w2))
       clear c0 c1 c2 c3 c4 c5 c6 c7 f0 f1 f2 f3 f4 f5 f6 f7 r0 r1 o1 y0 y1
       obtain ⟨bR, bO, bW⟩ := bl.out w2 oo_w2.out
       have bW_ := Lib.hid bW
       obtain ⟨c0, c1, c2, c3, c4, c5, c6, c7, f0, f1, f2, f3, f4, f5, f6, f7⟩ := want_cells bW
       have r0 : w2.cell? ⟨w.heap.size, 0, none⟩ = some (.int .i64 (b : Int)) := (by simp [World.cell?, bR])
       have r1 : w2.cell? ⟨w.heap.size, 1, none⟩ = some (.int .i64 (c : Int)) := (by simp [World.cell?, bR])
       have o1 : w2.cell? ⟨w.heap.size + 1, 1, none⟩ = some (.int .u64 v) := (by simp [World.cell?, bO])
       clear bR bO bW
       have y0 : w2.cell? ⟨g, 0, none⟩ = some (.int .u64 x0) := hg.out w2 (n4'.out.trans oo_w2.out) 0 (by simp)
       have y1 : w2.cell? ⟨g, 1, none⟩ = some (.int .u64 x1) := hg.out w2 (n4'.out.trans oo_w2.out) 1 (by simp)))
  all_goals (
  go_wp2
  refine bodyPost_ret (results_agg rfl _ _ (w.heap.size + 1 + 1) [.bool false, .int .i64 1, .int .i64 (slotAt b c x0 : Int), .int .u64 0, .int .u64 0, .int .i64 0, .int .u64 0, .int .u64 0] Try.isAgg49 Try.sizeOf49 rfl (set8_heap bW_.out (.bool false) (.int .i64 1) (.int .i64 (slotAt b c x0 : Int)) (.int .u64 0) (.int .u64 0) (.int .i64 0) (.int .u64 0) (.int .u64 0))) rfl ?_
  first | exact ⟨by simp [wantOf, acc, accWant, up, dn], ((n4'.out.trans oo_w2.out).then (set8_only _ _ (.bool false) (.int .i64 1) (.int .i64 (slotAt b c x0 : Int)) (.int .u64 0) (.int .u64 0) (.int .i64 0) (.int .u64 0) (.int .u64 0)) (fun q hq hl => by omega))⟩ | exact ⟨by simp [wantOf, acc, accWant, up, dn], ((n4'.out.trans oo_w2.out).then (set8_only _ _ (.bool false) (.int .i64 1) (.int .i64 (slotAt b c x0 : Int)) (.int .u64 0) (.int .u64 0) (.int .i64 0) (.int .u64 0) (.int .u64 0)) (fun q hq hl => by omega)).drew⟩ | exact ⟨by simp [wantOf, acc, accWant, up, dn], ((n4'.out.trans oo_w2.out).then (set8_only _ _ (.bool false) (.int .i64 1) (.int .i64 (slotAt b c x0 : Int)) (.int .u64 0) (.int .u64 0) (.int .i64 0) (.int .u64 0) (.int .u64 0)) (fun q hq hl => by omega)).drewN _⟩)

set_option linter.unusedVariables false in
set_option linter.unusedSimpArgs false in
set_option maxRecDepth 100000 in
set_option maxHeartbeats 4000000 in
theorem rsteal_3 (w : World) (b c : Nat) (v : Int) (a : Option Addr) (cap : Nat) (x0 x1 x2 : Int) (hc : 0 < c) (hc2 : c ≤ 64) (hb : b ≤ 1000) (hx0 : In64 x0) (hx1 : In64 x1) (hx2 : In64 x2) (hl : LogIn w a [x0, x1, x2]) (hx : ¬ x1 ≤ x0) :
    Calls Try.prog 37 #[.agg #[.int .i64 (b : Int), .int .i64 (c : Int)], .agg #[.int .i64 3, .int .u64 v, .slice a 3 cap]] w fun e w' => e = .returned (wantOf b c (.st3 x0 x2)) ∧ Only Nil w w' := by
  have sl := Lib.hid (fun (w : World) (x : Int) (hx : In64 x) => rslot_any w b c x hx hc hc2 hb)
  have ec : IntKind.u64.wrap (c : Int) = (c : Int) := by rw [IntKind.wrap_u64]; omega
  obtain ⟨g, rfl, hgl', hg'⟩ := log_at hl (by simp)
  have hg := Lib.hid hg'
  have hgl := Lib.hid hgl'
  clear hg' hl hgl'
  have k0 := Lib.hid hx0
  have k1 := Lib.hid hx1
  have k2 := Lib.hid hx2
  have hb' : (b : Int) ≤ 1000 := by omega
  have hwb : IntKind.i64.wrap ((b : Int) + 1) = (b : Int) + 1 := IntWalk.i64_in _ (by omega)
  clear hc hc2 hb hx0 hx1 hx2
  go_enter Try.func37, Try.ntmps37
  go_wp2_with (fail)
  obtain ⟨n1, n2, n3, n4⟩ := three_new w (.cells #[.int .i64 (b : Int), .int .i64 (c : Int)] 31) (.cells #[.int .i64 3, .int .u64 v, .slice (some ⟨g, 0, none⟩) 3 cap] 44) (.cells #[.bool false, .int .i64 0, .int .i64 0, .int .u64 0, .int .u64 0, .int .i64 0, .int .u64 0, .int .u64 0] 49)
  have bl := Lib.hid (fun (w' : World) (o : Only Nil (((w.alloc (.cells #[.int .i64 (b : Int), .int .i64 (c : Int)] 31)).alloc (.cells #[.int .i64 3, .int .u64 v, .slice (some ⟨g, 0, none⟩) 3 cap] 44)).alloc (.cells #[.bool false, .int .i64 0, .int .i64 0, .int .u64 0, .int .u64 0, .int .i64 0, .int .u64 0, .int .u64 0] 49)) w') =>
    And.intro ((o.block _ (lt_of_block n1) (fun h => h)).trans n1) (And.intro ((o.block _ (lt_of_block n2) (fun h => h)).trans n2) ((o.block _ (lt_of_block n3) (fun h => h)).trans n3)))
  have n4' := Lib.hid n4
  clear n1 n2 n3 n4
  generalize (((w.alloc (.cells #[.int .i64 (b : Int), .int .i64 (c : Int)] 31)).alloc (.cells #[.int .i64 3, .int .u64 v, .slice (some ⟨g, 0, none⟩) 3 cap] 44)).alloc (.cells #[.bool false, .int .i64 0, .int .i64 0, .int .u64 0, .int .u64 0, .int .i64 0, .int .u64 0, .int .u64 0] 49)) = W0 at bl n4' ⊢
  have oo_w0 := Lib.hid (Only.refl Nil W0)
  obtain ⟨bR, bO, bW⟩ := bl.out W0 oo_w0.out
  have bW_ := Lib.hid bW
  obtain ⟨c0, c1, c2, c3, c4, c5, c6, c7, f0, f1, f2, f3, f4, f5, f6, f7⟩ := want_cells bW
  have r0 : W0.cell? ⟨w.heap.size, 0, none⟩ = some (.int .i64 (b : Int)) := (by simp [World.cell?, bR])
  have r1 : W0.cell? ⟨w.heap.size, 1, none⟩ = some (.int .i64 (c : Int)) := (by simp [World.cell?, bR])
  have o1 : W0.cell? ⟨w.heap.size + 1, 1, none⟩ = some (.int .u64 v) := (by simp [World.cell?, bO])
  clear bR bO bW
  have y0 : W0.cell? ⟨g, 0, none⟩ = some (.int .u64 x0) := hg.out W0 (n4'.out.trans oo_w0.out) 0 (by simp)
  have y1 : W0.cell? ⟨g, 1, none⟩ = some (.int .u64 x1) := hg.out W0 (n4'.out.trans oo_w0.out) 1 (by simp)
  have y2 : W0.cell? ⟨g, 2, none⟩ = some (.int .u64 x2) := hg.out W0 (n4'.out.trans oo_w0.out) 2 (by simp)
  go_quiet (fail)
  have oo_q0 := Lib.hid (oo_w0.out.drewN nq)
  clear c0 c1 c2 c3 c4 c5 c6 c7 f0 f1 f2 f3 f4 f5 f6 f7 r0 r1 o1 y0 y1 y2
  generalize W0.drewN nq = Wq0 at oo_q0 ⊢
  obtain ⟨bR, bO, bW⟩ := bl.out Wq0 oo_q0.out
  have bW_ := Lib.hid bW
  obtain ⟨c0, c1, c2, c3, c4, c5, c6, c7, f0, f1, f2, f3, f4, f5, f6, f7⟩ := want_cells bW
  have r0 : Wq0.cell? ⟨w.heap.size, 0, none⟩ = some (.int .i64 (b : Int)) := (by simp [World.cell?, bR])
  have r1 : Wq0.cell? ⟨w.heap.size, 1, none⟩ = some (.int .i64 (c : Int)) := (by simp [World.cell?, bR])
  have o1 : Wq0.cell? ⟨w.heap.size + 1, 1, none⟩ = some (.int .u64 v) := (by simp [World.cell?, bO])
  clear bR bO bW
  have y0 : Wq0.cell? ⟨g, 0, none⟩ = some (.int .u64 x0) := hg.out Wq0 (n4'.out.trans oo_q0.out) 0 (by simp)
  have y1 : Wq0.cell? ⟨g, 1, none⟩ = some (.int .u64 x1) := hg.out Wq0 (n4'.out.trans oo_q0.out) 1 (by simp)
  have y2 : Wq0.cell? ⟨g, 2, none⟩ = some (.int .u64 x2) := hg.out Wq0 (n4'.out.trans oo_q0.out) 2 (by simp)
  go_wp2_with (fail)
  refine wp_region_held_drew (S := fun w' => w'.cell? ⟨w.heap.size, 0, none⟩ = some (.int .i64 (b : Int)) ∧ w'.cell? ⟨g, 0, none⟩ = some (.int .u64 x0)) (by kernel_rfl) ⟨r0, y0⟩ (fun hHeld => ?_)
  refine wpAnyH_take (i := 0) (v := ?v0) rfl (by kernel_rfl) (by kernel_rfl) (by kernel_rfl) (fun _ _ _ h => h) (Or.inl ⟨by rfl, ?h0⟩) (by assumption) ?r0
  case h0 => (intro w hSw; (try dsimp only at hSw); (try obtain ⟨s1, s2⟩ := hSw); first | (go_simp; done) | (go_simp; with_reducible rfl))
  try simp only [Act.put, List.setIfInBounds_toArray, List.set_cons_zero, List.set_cons_succ]
  refine wpAnyH_take (i := 1) (v := ?v1) rfl (by kernel_rfl) (by kernel_rfl) (by kernel_rfl) (fun _ _ _ h => h) (Or.inl ⟨by rfl, ?h1⟩) (by assumption) ?r1
  case h1 => (intro w hSw; (try dsimp only at hSw); (try obtain ⟨s1, s2⟩ := hSw); first | (go_simp; done) | (go_simp; with_reducible rfl))
  try simp only [Act.put, List.setIfInBounds_toArray, List.set_cons_zero, List.set_cons_succ]
  refine wpAnyH_take (i := 2) (v := ?v2) rfl (by kernel_rfl) (by kernel_rfl) (by kernel_rfl) (fun _ _ _ h => h) (Or.inl ⟨by rfl, ?h2⟩) (by assumption) ?r2
  case h2 => (intro w hSw; (try dsimp only at hSw); (try obtain ⟨s1, s2⟩ := hSw); first | (go_simp; done) | (go_simp; with_reducible rfl))
  try simp only [Act.put, List.setIfInBounds_toArray, List.set_cons_zero, List.set_cons_succ]
  refine wpAnyH_take (i := 3) (v := ?v3) rfl (by kernel_rfl) (by kernel_rfl) (by kernel_rfl) (fun _ _ _ h => h) (Or.inl ⟨by rfl, ?h3⟩) (by assumption) ?r3
  case h3 => (intro w hSw; (try dsimp only at hSw); (try obtain ⟨s1, s2⟩ := hSw); first | (go_simp; done) | (go_simp; with_reducible rfl))
  try simp only [Act.put, List.setIfInBounds_toArray, List.set_cons_zero, List.set_cons_succ]
  refine wpAnyH_take (i := 4) (v := ?v4) rfl (by kernel_rfl) (by kernel_rfl) (by kernel_rfl) (fun _ _ _ h => h) (Or.inl ⟨by rfl, ?h4⟩) (by assumption) ?r4
  case h4 => (intro w hSw; (try dsimp only at hSw); (try obtain ⟨s1, s2⟩ := hSw); first | (go_simp; done) | (go_simp; with_reducible rfl))
  try simp only [Act.put, List.setIfInBounds_toArray, List.set_cons_zero, List.set_cons_succ]
  refine wpAnyH_take (i := 5) (v := ?v5) rfl (by kernel_rfl) (by kernel_rfl) (by kernel_rfl) (fun _ _ _ h => h) (Or.inl ⟨by rfl, ?h5⟩) (by assumption) ?r5
  case h5 => (intro w hSw; (try dsimp only at hSw); (try obtain ⟨s1, s2⟩ := hSw); first | (go_simp; done) | (go_simp; with_reducible rfl))
  try simp only [Act.put, List.setIfInBounds_toArray, List.set_cons_zero, List.set_cons_succ]
  refine wpAnyH_take (i := 6) (v := ?v6) rfl (by kernel_rfl) (by kernel_rfl) (by kernel_rfl) (fun _ _ _ h => h) (Or.inl ⟨by rfl, ?h6⟩) (by assumption) ?r6
  case h6 => (intro w hSw; (try dsimp only at hSw); (try obtain ⟨s1, s2⟩ := hSw); first | (go_simp; done) | (go_simp; with_reducible rfl))
  try simp only [Act.put, List.setIfInBounds_toArray, List.set_cons_zero, List.set_cons_succ]
  refine wpAnyH_take (i := 7) (v := ?v7) rfl (by kernel_rfl) (by kernel_rfl) (by kernel_rfl) (fun _ _ _ h => h) (Or.inl ⟨by rfl, ?h7⟩) (by assumption) ?r7
  case h7 => (intro w hSw; (try dsimp only at hSw); (try obtain ⟨s1, s2⟩ := hSw); first | (go_simp; done) | (go_simp; with_reducible rfl))
  try simp only [Act.put, List.setIfInBounds_toArray, List.set_cons_zero, List.set_cons_succ]
  refine wpAnyH_take (i := 8) (v := ?v8) rfl (by kernel_rfl) (by kernel_rfl) (by kernel_rfl) (fun _ _ _ h => h) (Or.inl ⟨by rfl, ?h8⟩) (by assumption) ?r8
  case h8 => (intro w hSw; (try dsimp only at hSw); (try obtain ⟨s1, s2⟩ := hSw); first | (go_simp; done) | (go_simp; with_reducible rfl))
  try simp only [Act.put, List.setIfInBounds_toArray, List.set_cons_zero, List.set_cons_succ]
  refine wpAnyH_take (i := 9) (v := ?v9) rfl (by kernel_rfl) (by kernel_rfl) (by kernel_rfl) (fun _ _ _ h => h) (Or.inl ⟨by rfl, ?h9⟩) (by assumption) ?r9
  case h9 => (intro w hSw; (try dsimp only at hSw); (try obtain ⟨s1, s2⟩ := hSw); first | (go_simp; done) | (go_simp; with_reducible rfl))
  try simp only [Act.put, List.setIfInBounds_toArray, List.set_cons_zero, List.set_cons_succ]
  refine wpAnyH_ready (rs := [10]) (by kernel_rfl) (by simp) ?_
  refine AllReadyH.cons rfl (fun K1 hK1 => ?_) AllReadyH.nil
  go_simp
  refine hK1.out _ _ ?s1 (fun hHeld1 => ?_)
  case s1 => exact ⟨far8 r0 (by omega) _ _ _ _ _ _ _ _, far8 y0 (Nat.ne_of_lt (Nat.lt_of_lt_of_le hgl.out (by omega))) _ _ _ _ _ _ _ _⟩
  clear hK1 K1
  try simp only [Act.put, List.setIfInBounds_toArray, List.set_cons_zero, List.set_cons_succ]
  refine wpAnyH_done (by kernel_rfl) ?_ _
  go_wp2_with fail
  refine bodyPost_ret (results_agg rfl _ _ (w.heap.size + 1 + 1) [.bool false, .int .i64 3, .int .i64 (b : Int), .int .u64 x0, .int .u64 (IntKind.u64.wrap (x0 + 1)), .int .i64 0, .int .u64 0, .int .u64 0] Try.isAgg49 Try.sizeOf49 rfl (set8_heap_d bW_.out (.bool false) (.int .i64 3) (.int .i64 (b : Int)) (.int .u64 x0) (.int .u64 (IntKind.u64.wrap (x0 + 1))) (.int .i64 0) (.int .u64 0) (.int .u64 0))) rfl ?_
  exact ⟨by simp [wantOf, acc, accWant, up, dn], ((n4'.out.trans oo_q0.out).then (set8_only _ _ (.bool false) (.int .i64 3) (.int .i64 (b : Int)) (.int .u64 x0) (.int .u64 (IntKind.u64.wrap (x0 + 1))) (.int .i64 0) (.int .u64 0) (.int .u64 0)) (fun q hq hl => by omega)).drew⟩

set_option linter.unusedVariables false in
set_option linter.unusedSimpArgs false in
set_option maxRecDepth 100000 in
set_option maxHeartbeats 4000000 in
theorem rsteal_4y (w : World) (b c : Nat) (v : Int) (a : Option Addr) (cap : Nat) (x0 x1 x2 x3 : Int) (hc : 0 < c) (hc2 : c ≤ 64) (hb : b ≤ 1000) (hx0 : In64 x0) (hx1 : In64 x1) (hx2 : In64 x2) (hx3 : In64 x3) (hl : LogIn w a [x0, x1, x2, x3]) (hx : ¬ x1 ≤ x0) (hz : x3 = 1) :
    Calls Try.prog 37 #[.agg #[.int .i64 (b : Int), .int .i64 (c : Int)], .agg #[.int .i64 3, .int .u64 v, .slice a 4 cap]] w fun e w' => e = .returned (wantOf b c (.over 1 x2)) ∧ Only Nil w w' := by
  have sl := Lib.hid (fun (w : World) (x : Int) (hx : In64 x) => rslot_any w b c x hx hc hc2 hb)
  have ec : IntKind.u64.wrap (c : Int) = (c : Int) := by rw [IntKind.wrap_u64]; omega
  obtain ⟨g, rfl, hgl', hg'⟩ := log_at hl (by simp)
  have hg := Lib.hid hg'
  have hgl := Lib.hid hgl'
  clear hg' hl hgl'
  have k0 := Lib.hid hx0
  have k1 := Lib.hid hx1
  have k2 := Lib.hid hx2
  have k3 := Lib.hid hx3
  have hb' : (b : Int) ≤ 1000 := by omega
  clear hc hc2 hb hx0 hx1 hx2 hx3
  go_enter Try.func37, Try.ntmps37
  go_wp2_with (fail)
  obtain ⟨n1, n2, n3, n4⟩ := three_new w (.cells #[.int .i64 (b : Int), .int .i64 (c : Int)] 31) (.cells #[.int .i64 3, .int .u64 v, .slice (some ⟨g, 0, none⟩) 4 cap] 44) (.cells #[.bool false, .int .i64 0, .int .i64 0, .int .u64 0, .int .u64 0, .int .i64 0, .int .u64 0, .int .u64 0] 49)
  have bl := Lib.hid (fun (w' : World) (o : Only Nil (((w.alloc (.cells #[.int .i64 (b : Int), .int .i64 (c : Int)] 31)).alloc (.cells #[.int .i64 3, .int .u64 v, .slice (some ⟨g, 0, none⟩) 4 cap] 44)).alloc (.cells #[.bool false, .int .i64 0, .int .i64 0, .int .u64 0, .int .u64 0, .int .i64 0, .int .u64 0, .int .u64 0] 49)) w') =>
    And.intro ((o.block _ (lt_of_block n1) (fun h => h)).trans n1) (And.intro ((o.block _ (lt_of_block n2) (fun h => h)).trans n2) ((o.block _ (lt_of_block n3) (fun h => h)).trans n3)))
  have n4' := Lib.hid n4
  clear n1 n2 n3 n4
  generalize (((w.alloc (.cells #[.int .i64 (b : Int), .int .i64 (c : Int)] 31)).alloc (.cells #[.int .i64 3, .int .u64 v, .slice (some ⟨g, 0, none⟩) 4 cap] 44)).alloc (.cells #[.bool false, .int .i64 0, .int .i64 0, .int .u64 0, .int .u64 0, .int .i64 0, .int .u64 0, .int .u64 0] 49)) = W0 at bl n4' ⊢
  have oo_w0 := Lib.hid (Only.refl Nil W0)
  obtain ⟨bR, bO, bW⟩ := bl.out W0 oo_w0.out
  have bW_ := Lib.hid bW
  obtain ⟨c0, c1, c2, c3, c4, c5, c6, c7, f0, f1, f2, f3, f4, f5, f6, f7⟩ := want_cells bW
  have r0 : W0.cell? ⟨w.heap.size, 0, none⟩ = some (.int .i64 (b : Int)) := (by simp [World.cell?, bR])
  have r1 : W0.cell? ⟨w.heap.size, 1, none⟩ = some (.int .i64 (c : Int)) := (by simp [World.cell?, bR])
  have o1 : W0.cell? ⟨w.heap.size + 1, 1, none⟩ = some (.int .u64 v) := (by simp [World.cell?, bO])
  clear bR bO bW
  have y0 : W0.cell? ⟨g, 0, none⟩ = some (.int .u64 x0) := hg.out W0 (n4'.out.trans oo_w0.out) 0 (by simp)
  have y1 : W0.cell? ⟨g, 1, none⟩ = some (.int .u64 x1) := hg.out W0 (n4'.out.trans oo_w0.out) 1 (by simp)
  have y2 : W0.cell? ⟨g, 2, none⟩ = some (.int .u64 x2) := hg.out W0 (n4'.out.trans oo_w0.out) 2 (by simp)
  have y3 : W0.cell? ⟨g, 3, none⟩ = some (.int .u64 x3) := hg.out W0 (n4'.out.trans oo_w0.out) 3 (by simp)
  go_quiet (fail)
  have oo_q0 := Lib.hid (oo_w0.out.drewN nq)
  clear c0 c1 c2 c3 c4 c5 c6 c7 f0 f1 f2 f3 f4 f5 f6 f7 r0 r1 o1 y0 y1 y2 y3
  generalize W0.drewN nq = Wq0 at oo_q0 ⊢
  obtain ⟨bR, bO, bW⟩ := bl.out Wq0 oo_q0.out
  have bW_ := Lib.hid bW
  obtain ⟨c0, c1, c2, c3, c4, c5, c6, c7, f0, f1, f2, f3, f4, f5, f6, f7⟩ := want_cells bW
  have r0 : Wq0.cell? ⟨w.heap.size, 0, none⟩ = some (.int .i64 (b : Int)) := (by simp [World.cell?, bR])
  have r1 : Wq0.cell? ⟨w.heap.size, 1, none⟩ = some (.int .i64 (c : Int)) := (by simp [World.cell?, bR])
  have o1 : Wq0.cell? ⟨w.heap.size + 1, 1, none⟩ = some (.int .u64 v) := (by simp [World.cell?, bO])
  clear bR bO bW
  have y0 : Wq0.cell? ⟨g, 0, none⟩ = some (.int .u64 x0) := hg.out Wq0 (n4'.out.trans oo_q0.out) 0 (by simp)
  have y1 : Wq0.cell? ⟨g, 1, none⟩ = some (.int .u64 x1) := hg.out Wq0 (n4'.out.trans oo_q0.out) 1 (by simp)
  have y2 : Wq0.cell? ⟨g, 2, none⟩ = some (.int .u64 x2) := hg.out Wq0 (n4'.out.trans oo_q0.out) 2 (by simp)
  have y3 : Wq0.cell? ⟨g, 3, none⟩ = some (.int .u64 x3) := hg.out Wq0 (n4'.out.trans oo_q0.out) 3 (by simp)
  go_wp2_with (first
    | (go_at_call 46; (with_reducible refine (rover_any _ _ _).mono ?_); rintro e_ w1 ⟨rfl, q_w1⟩
       have oo_w1 : Hid (Only Nil W0 w1) := Lib.hid (by first | exact (oo_q0.out.trans q_w1) | exact (oo_q0.out.drew.trans q_w1) | exact ((oo_q0.out.drewN _).trans q_w1))
       clear c0 c1 c2 c3 c4 c5 c6 c7 f0 f1 f2 f3 f4 f5 f6 f7 r0 r1 o1 y0 y1 y2 y3
       obtain ⟨bR, bO, bW⟩ := bl.out w1 oo_w1.out
       have bW_ := Lib.hid bW
       obtain ⟨c0, c1, c2, c3, c4, c5, c6, c7, f0, f1, f2, f3, f4, f5, f6, f7⟩ := want_cells bW
       have r0 : w1.cell? ⟨w.heap.size, 0, none⟩ = some (.int .i64 (b : Int)) := (by simp [World.cell?, bR])
       have r1 : w1.cell? ⟨w.heap.size, 1, none⟩ = some (.int .i64 (c : Int)) := (by simp [World.cell?, bR])
       have o1 : w1.cell? ⟨w.heap.size + 1, 1, none⟩ = some (.int .u64 v) := (by simp [World.cell?, bO])
       clear bR bO bW
       have y0 : w1.cell? ⟨g, 0, none⟩ = some (.int .u64 x0) := hg.out w1 (n4'.out.trans oo_w1.out) 0 (by simp)
       have y1 : w1.cell? ⟨g, 1, none⟩ = some (.int .u64 x1) := hg.out w1 (n4'.out.trans oo_w1.out) 1 (by simp)
       have y2 : w1.cell? ⟨g, 2, none⟩ = some (.int .u64 x2) := hg.out w1 (n4'.out.trans oo_w1.out) 2 (by simp)
       have y3 : w1.cell? ⟨g, 3, none⟩ = some (.int .u64 x3) := hg.out w1 (n4'.out.trans oo_w1.out) 3 (by simp)))
  refine bodyPost_ret (results_agg rfl _ _ (w.heap.size + 1 + 1) [.bool true, .int .i64 0, .int .i64 0, .int .u64 0, .int .u64 0, .int .i64 1, .int .u64 x2, .int .u64 0] Try.isAgg49 Try.sizeOf49 rfl (set8_heap bW_.out (.bool true) (.int .i64 0) (.int .i64 0) (.int .u64 0) (.int .u64 0) (.int .i64 1) (.int .u64 x2) (.int .u64 0))) rfl ?_
  exact ⟨by simp [wantOf, acc, accWant, up, dn], ((n4'.out.trans oo_w1.out).then (set8_only _ _ (.bool true) (.int .i64 0) (.int .i64 0) (.int .u64 0) (.int .u64 0) (.int .i64 1) (.int .u64 x2) (.int .u64 0)) (fun q hq hl => by omega))⟩

set_option linter.unusedVariables false in
set_option linter.unusedSimpArgs false in
set_option maxRecDepth 100000 in
set_option maxHeartbeats 4000000 in
theorem rsteal_4n (w : World) (b c : Nat) (v : Int) (a : Option Addr) (cap : Nat) (x0 x1 x2 x3 : Int) (hc : 0 < c) (hc2 : c ≤ 64) (hb : b ≤ 1000) (hx0 : In64 x0) (hx1 : In64 x1) (hx2 : In64 x2) (hx3 : In64 x3) (hl : LogIn w a [x0, x1, x2, x3]) (hx : ¬ x1 ≤ x0) (hz : x3 = 0) :
    Calls Try.prog 37 #[.agg #[.int .i64 (b : Int), .int .i64 (c : Int)], .agg #[.int .i64 3, .int .u64 v, .slice a 4 cap]] w fun e w' => e = .returned (wantOf b c (.over 6 0)) ∧ Only Nil w w' := by
  have sl := Lib.hid (fun (w : World) (x : Int) (hx : In64 x) => rslot_any w b c x hx hc hc2 hb)
  have ec : IntKind.u64.wrap (c : Int) = (c : Int) := by rw [IntKind.wrap_u64]; omega
  obtain ⟨g, rfl, hgl', hg'⟩ := log_at hl (by simp)
  have hg := Lib.hid hg'
  have hgl := Lib.hid hgl'
  clear hg' hl hgl'
  have k0 := Lib.hid hx0
  have k1 := Lib.hid hx1
  have k2 := Lib.hid hx2
  have k3 := Lib.hid hx3
  have hb' : (b : Int) ≤ 1000 := by omega
  clear hc hc2 hb hx0 hx1 hx2 hx3
  go_enter Try.func37, Try.ntmps37
  go_wp2_with (fail)
  obtain ⟨n1, n2, n3, n4⟩ := three_new w (.cells #[.int .i64 (b : Int), .int .i64 (c : Int)] 31) (.cells #[.int .i64 3, .int .u64 v, .slice (some ⟨g, 0, none⟩) 4 cap] 44) (.cells #[.bool false, .int .i64 0, .int .i64 0, .int .u64 0, .int .u64 0, .int .i64 0, .int .u64 0, .int .u64 0] 49)
  have bl := Lib.hid (fun (w' : World) (o : Only Nil (((w.alloc (.cells #[.int .i64 (b : Int), .int .i64 (c : Int)] 31)).alloc (.cells #[.int .i64 3, .int .u64 v, .slice (some ⟨g, 0, none⟩) 4 cap] 44)).alloc (.cells #[.bool false, .int .i64 0, .int .i64 0, .int .u64 0, .int .u64 0, .int .i64 0, .int .u64 0, .int .u64 0] 49)) w') =>
    And.intro ((o.block _ (lt_of_block n1) (fun h => h)).trans n1) (And.intro ((o.block _ (lt_of_block n2) (fun h => h)).trans n2) ((o.block _ (lt_of_block n3) (fun h => h)).trans n3)))
  have n4' := Lib.hid n4
  clear n1 n2 n3 n4
  generalize (((w.alloc (.cells #[.int .i64 (b : Int), .int .i64 (c : Int)] 31)).alloc (.cells #[.int .i64 3, .int .u64 v, .slice (some ⟨g, 0, none⟩) 4 cap] 44)).alloc (.cells #[.bool false, .int .i64 0, .int .i64 0, .int .u64 0, .int .u64 0, .int .i64 0, .int .u64 0, .int .u64 0] 49)) = W0 at bl n4' ⊢
  have oo_w0 := Lib.hid (Only.refl Nil W0)
  obtain ⟨bR, bO, bW⟩ := bl.out W0 oo_w0.out
  have bW_ := Lib.hid bW
  obtain ⟨c0, c1, c2, c3, c4, c5, c6, c7, f0, f1, f2, f3, f4, f5, f6, f7⟩ := want_cells bW
  have r0 : W0.cell? ⟨w.heap.size, 0, none⟩ = some (.int .i64 (b : Int)) := (by simp [World.cell?, bR])
  have r1 : W0.cell? ⟨w.heap.size, 1, none⟩ = some (.int .i64 (c : Int)) := (by simp [World.cell?, bR])
  have o1 : W0.cell? ⟨w.heap.size + 1, 1, none⟩ = some (.int .u64 v) := (by simp [World.cell?, bO])
  clear bR bO bW
  have y0 : W0.cell? ⟨g, 0, none⟩ = some (.int .u64 x0) := hg.out W0 (n4'.out.trans oo_w0.out) 0 (by simp)
  have y1 : W0.cell? ⟨g, 1, none⟩ = some (.int .u64 x1) := hg.out W0 (n4'.out.trans oo_w0.out) 1 (by simp)
  have y2 : W0.cell? ⟨g, 2, none⟩ = some (.int .u64 x2) := hg.out W0 (n4'.out.trans oo_w0.out) 2 (by simp)
  have y3 : W0.cell? ⟨g, 3, none⟩ = some (.int .u64 x3) := hg.out W0 (n4'.out.trans oo_w0.out) 3 (by simp)
  go_quiet (fail)
  have oo_q0 := Lib.hid (oo_w0.out.drewN nq)
  clear c0 c1 c2 c3 c4 c5 c6 c7 f0 f1 f2 f3 f4 f5 f6 f7 r0 r1 o1 y0 y1 y2 y3
  generalize W0.drewN nq = Wq0 at oo_q0 ⊢
  obtain ⟨bR, bO, bW⟩ := bl.out Wq0 oo_q0.out
  have bW_ := Lib.hid bW
  obtain ⟨c0, c1, c2, c3, c4, c5, c6, c7, f0, f1, f2, f3, f4, f5, f6, f7⟩ := want_cells bW
  have r0 : Wq0.cell? ⟨w.heap.size, 0, none⟩ = some (.int .i64 (b : Int)) := (by simp [World.cell?, bR])
  have r1 : Wq0.cell? ⟨w.heap.size, 1, none⟩ = some (.int .i64 (c : Int)) := (by simp [World.cell?, bR])
  have o1 : Wq0.cell? ⟨w.heap.size + 1, 1, none⟩ = some (.int .u64 v) := (by simp [World.cell?, bO])
  clear bR bO bW
  have y0 : Wq0.cell? ⟨g, 0, none⟩ = some (.int .u64 x0) := hg.out Wq0 (n4'.out.trans oo_q0.out) 0 (by simp)
  have y1 : Wq0.cell? ⟨g, 1, none⟩ = some (.int .u64 x1) := hg.out Wq0 (n4'.out.trans oo_q0.out) 1 (by simp)
  have y2 : Wq0.cell? ⟨g, 2, none⟩ = some (.int .u64 x2) := hg.out Wq0 (n4'.out.trans oo_q0.out) 2 (by simp)
  have y3 : Wq0.cell? ⟨g, 3, none⟩ = some (.int .u64 x3) := hg.out Wq0 (n4'.out.trans oo_q0.out) 3 (by simp)
  go_wp2_with (first
    | (go_at_call 46; (with_reducible refine (rover_any _ _ _).mono ?_); rintro e_ w1 ⟨rfl, q_w1⟩
       have oo_w1 : Hid (Only Nil W0 w1) := Lib.hid (by first | exact (oo_q0.out.trans q_w1) | exact (oo_q0.out.drew.trans q_w1) | exact ((oo_q0.out.drewN _).trans q_w1))
       clear c0 c1 c2 c3 c4 c5 c6 c7 f0 f1 f2 f3 f4 f5 f6 f7 r0 r1 o1 y0 y1 y2 y3
       obtain ⟨bR, bO, bW⟩ := bl.out w1 oo_w1.out
       have bW_ := Lib.hid bW
       obtain ⟨c0, c1, c2, c3, c4, c5, c6, c7, f0, f1, f2, f3, f4, f5, f6, f7⟩ := want_cells bW
       have r0 : w1.cell? ⟨w.heap.size, 0, none⟩ = some (.int .i64 (b : Int)) := (by simp [World.cell?, bR])
       have r1 : w1.cell? ⟨w.heap.size, 1, none⟩ = some (.int .i64 (c : Int)) := (by simp [World.cell?, bR])
       have o1 : w1.cell? ⟨w.heap.size + 1, 1, none⟩ = some (.int .u64 v) := (by simp [World.cell?, bO])
       clear bR bO bW
       have y0 : w1.cell? ⟨g, 0, none⟩ = some (.int .u64 x0) := hg.out w1 (n4'.out.trans oo_w1.out) 0 (by simp)
       have y1 : w1.cell? ⟨g, 1, none⟩ = some (.int .u64 x1) := hg.out w1 (n4'.out.trans oo_w1.out) 1 (by simp)
       have y2 : w1.cell? ⟨g, 2, none⟩ = some (.int .u64 x2) := hg.out w1 (n4'.out.trans oo_w1.out) 2 (by simp)
       have y3 : w1.cell? ⟨g, 3, none⟩ = some (.int .u64 x3) := hg.out w1 (n4'.out.trans oo_w1.out) 3 (by simp)))
  refine bodyPost_ret (results_agg rfl _ _ (w.heap.size + 1 + 1) [.bool true, .int .i64 0, .int .i64 0, .int .u64 0, .int .u64 0, .int .i64 6, .int .u64 0, .int .u64 0] Try.isAgg49 Try.sizeOf49 rfl (set8_heap bW_.out (.bool true) (.int .i64 0) (.int .i64 0) (.int .u64 0) (.int .u64 0) (.int .i64 6) (.int .u64 0) (.int .u64 0))) rfl ?_
  exact ⟨by simp [wantOf, acc, accWant, up, dn], ((n4'.out.trans oo_w1.out).then (set8_only _ _ (.bool true) (.int .i64 0) (.int .i64 0) (.int .u64 0) (.int .u64 0) (.int .i64 6) (.int .u64 0) (.int .u64 0)) (fun q hq hl => by omega))⟩
end Go.Proofs.Ythebfnmihjbajaa.Dq
