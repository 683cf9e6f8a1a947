/- The document's own Next (trouperef03). -/
import Derived.Test.YtpnpbgcndlfobaaRingG
namespace Go.Proofs.Ytpnpbgcndlfobaa
open Go.RowKit

theorem wantOf_agg (b c : Nat) (s : OS) : ∃ (x0 : Bool) (x1 x2 x3 x4 x5 x6 x7 : Int), wantOf b c s = .agg #[.bool x0, .int .i64 x1, .int .i64 x2, .int .u64 x3, .int .u64 x4, .int .i64 x5, .int .u64 x6, .int .u64 x7] := by
  have h : ∀ a, ∃ (x0 : Bool) (x1 x2 x3 x4 x5 x6 x7 : Int), accWant a = .agg #[.bool x0, .int .i64 x1, .int .i64 x2, .int .u64 x3, .int .u64 x4, .int .i64 x5, .int .u64 x6, .int .u64 x7] := by
    intro a
    cases a <;> exact ⟨_, _, _, _, _, _, _, _, rfl⟩
  cases s <;> first | exact ⟨_, _, _, _, _, _, _, _, rfl⟩ | (simp only [wantOf]; exact h _)

set_option maxRecDepth 100000 in
set_option maxHeartbeats 2000000 in
theorem rnext_put (w : World) (b c : Nat) (v : Int) (a : Option Addr) (cap : Nat) (log : List Int) (hc : 0 < c) (hc2 : c ≤ 64) (hb : b ≤ 1000) (hl : LogIn w a log) (hok : LogOk log) (hlen : log.length ≤ 1000000) :
    Calls Try.prog 21 #[.agg #[.int .i64 (b : Int), .int .i64 (c : Int)], .agg #[.int .i64 1, .int .u64 v, .slice a log.length cap]] w fun e w' => e = .returned (wantOf b c (runL c (.put0 v) log)) ∧ Only Nil w w' := by
  have hl' := Lib.hid hl
  have con := Lib.hid (fun (w' : World) (h : LogIn w' a log) => rput_any w' b c v a cap log hc hc2 hb h hok hlen)
  clear hl hok
  generalize runL c (.put0 v) log = fin at con ⊢
  obtain ⟨x0, x1, x2, x3, x4, x5, x6, x7, hx⟩ := wantOf_agg b c fin
  rw [hx] at con ⊢
  clear hx
  generalize log.length = n at hlen con ⊢
  have hlen' : (n : Int) ≤ 1000000 := by omega
  go_enter Try.func21, Try.ntmps21
  go_wp2_with fail
  obtain ⟨n1, n2, n3, n4⟩ := three_new w (.cells #[.int .i64 (b : Int), .int .i64 (c : Int)] 31) (.cells #[.int .i64 1, .int .u64 v, .slice a n cap] 44) (.cells #[.bool false, .int .i64 0, .int .i64 0, .int .u64 0, .int .u64 0, .int .i64 0, .int .u64 0, .int .u64 0] 49)
  have lW := Lib.hid (hl'.out.keep n4 (fun _ _ _ h => h.elim))
  have bl := Lib.hid (fun (w' : World) (o : Only Nil (((w.alloc (.cells #[.int .i64 (b : Int), .int .i64 (c : Int)] 31)).alloc (.cells #[.int .i64 1, .int .u64 v, .slice a n cap] 44)).alloc (.cells #[.bool false, .int .i64 0, .int .i64 0, .int .u64 0, .int .u64 0, .int .i64 0, .int .u64 0, .int .u64 0] 49)) w') =>
    And.intro ((o.block _ (lt_of_block n1) (fun h => h)).trans n1) (And.intro ((o.block _ (lt_of_block n2) (fun h => h)).trans n2) ((o.block _ (lt_of_block n3) (fun h => h)).trans n3)))
  have n4' := Lib.hid n4
  clear n1 n2 n3 n4 hl'
  generalize (((w.alloc (.cells #[.int .i64 (b : Int), .int .i64 (c : Int)] 31)).alloc (.cells #[.int .i64 1, .int .u64 v, .slice a n cap] 44)).alloc (.cells #[.bool false, .int .i64 0, .int .i64 0, .int .u64 0, .int .u64 0, .int .i64 0, .int .u64 0, .int .u64 0] 49)) = W0 at bl n4' lW ⊢
  go_at_call 44
  (with_reducible refine (con.out _ lW.out).mono ?_)
  rintro e_ w1 ⟨rfl, q1⟩
  have ho := Lib.hid q1
  obtain ⟨bR, bO, bW⟩ := bl.out w1 ho.out
  have bW0 := Lib.hid bW
  obtain ⟨c0, c1, c2, c3, c4, c5, c6, c7, f0, f1, f2, f3, f4, f5, f6, f7⟩ := want_cells bW
  have r0 : w1.cell? ⟨w.heap.size, 0, none⟩ = some (.int .i64 (b : Int)) := (by simp [World.cell?, bR])
  have r1 : w1.cell? ⟨w.heap.size, 1, none⟩ = some (.int .i64 (c : Int)) := (by simp [World.cell?, bR])
  have o1 : w1.cell? ⟨w.heap.size + 1, 1, none⟩ = some (.int .u64 v) := (by simp [World.cell?, bO])
  clear bR bO bW
  go_wp2
  refine bodyPost_ret (results_agg rfl _ _ (w.heap.size + 1 + 1) [.bool x0, .int .i64 x1, .int .i64 x2, .int .u64 x3, .int .u64 x4, .int .i64 x5, .int .u64 x6, .int .u64 x7] Try.isAgg49 Try.sizeOf49 rfl (set8_heap bW0.out (.bool x0) (.int .i64 x1) (.int .i64 x2) (.int .u64 x3) (.int .u64 x4) (.int .i64 x5) (.int .u64 x6) (.int .u64 x7))) rfl ?_
  exact ⟨rfl, (n4'.out.trans ho.out).then (set8_only _ _ (.bool x0) (.int .i64 x1) (.int .i64 x2) (.int .u64 x3) (.int .u64 x4) (.int .i64 x5) (.int .u64 x6) (.int .u64 x7)) (fun q hq hl => by omega)⟩

set_option maxRecDepth 100000 in
set_option maxHeartbeats 2000000 in
theorem rnext_close (w : World) (b c : Nat) (v : Int) (a : Option Addr) (cap : Nat) (log : List Int) (hl : LogIn w a log) (hok : LogOk log) (hlen : log.length ≤ 1000000) (hsw : ∀ i t, i < log.length → runL c .close0 (log.take i) = .close1 t → log.getD i 0 = 0 ∨ log.getD i 0 = 1) :
    Calls Try.prog 21 #[.agg #[.int .i64 (b : Int), .int .i64 (c : Int)], .agg #[.int .i64 4, .int .u64 v, .slice a log.length cap]] w fun e w' => e = .returned (wantOf b c (runL c .close0 log)) ∧ Only Nil w w' := by
  have hl' := Lib.hid hl
  have con := Lib.hid (fun (w' : World) (h : LogIn w' a log) => rshut_any w' b c v a cap log h hok hlen hsw)
  clear hl hok
  generalize runL c .close0 log = fin at con ⊢
  obtain ⟨x0, x1, x2, x3, x4, x5, x6, x7, hx⟩ := wantOf_agg b c fin
  rw [hx] at con ⊢
  clear hx
  generalize log.length = n at hlen con ⊢
  have hlen' : (n : Int) ≤ 1000000 := by omega
  go_enter Try.func21, Try.ntmps21
  go_wp2_with fail
  obtain ⟨n1, n2, n3, n4⟩ := three_new w (.cells #[.int .i64 (b : Int), .int .i64 (c : Int)] 31) (.cells #[.int .i64 4, .int .u64 v, .slice a n cap] 44) (.cells #[.bool false, .int .i64 0, .int .i64 0, .int .u64 0, .int .u64 0, .int .i64 0, .int .u64 0, .int .u64 0] 49)
  have lW := Lib.hid (hl'.out.keep n4 (fun _ _ _ h => h.elim))
  have bl := Lib.hid (fun (w' : World) (o : Only Nil (((w.alloc (.cells #[.int .i64 (b : Int), .int .i64 (c : Int)] 31)).alloc (.cells #[.int .i64 4, .int .u64 v, .slice a n cap] 44)).alloc (.cells #[.bool false, .int .i64 0, .int .i64 0, .int .u64 0, .int .u64 0, .int .i64 0, .int .u64 0, .int .u64 0] 49)) w') =>
    And.intro ((o.block _ (lt_of_block n1) (fun h => h)).trans n1) (And.intro ((o.block _ (lt_of_block n2) (fun h => h)).trans n2) ((o.block _ (lt_of_block n3) (fun h => h)).trans n3)))
  have n4' := Lib.hid n4
  clear n1 n2 n3 n4 hl'
  generalize (((w.alloc (.cells #[.int .i64 (b : Int), .int .i64 (c : Int)] 31)).alloc (.cells #[.int .i64 4, .int .u64 v, .slice a n cap] 44)).alloc (.cells #[.bool false, .int .i64 0, .int .i64 0, .int .u64 0, .int .u64 0, .int .i64 0, .int .u64 0, .int .u64 0] 49)) = W0 at bl n4' lW ⊢
  go_at_call 45
  (with_reducible refine (con.out _ lW.out).mono ?_)
  rintro e_ w1 ⟨rfl, q1⟩
  have ho := Lib.hid q1
  obtain ⟨bR, bO, bW⟩ := bl.out w1 ho.out
  have bW0 := Lib.hid bW
  obtain ⟨c0, c1, c2, c3, c4, c5, c6, c7, f0, f1, f2, f3, f4, f5, f6, f7⟩ := want_cells bW
  have r0 : w1.cell? ⟨w.heap.size, 0, none⟩ = some (.int .i64 (b : Int)) := (by simp [World.cell?, bR])
  have r1 : w1.cell? ⟨w.heap.size, 1, none⟩ = some (.int .i64 (c : Int)) := (by simp [World.cell?, bR])
  have o1 : w1.cell? ⟨w.heap.size + 1, 1, none⟩ = some (.int .u64 v) := (by simp [World.cell?, bO])
  clear bR bO bW
  go_wp2
  refine bodyPost_ret (results_agg rfl _ _ (w.heap.size + 1 + 1) [.bool x0, .int .i64 x1, .int .i64 x2, .int .u64 x3, .int .u64 x4, .int .i64 x5, .int .u64 x6, .int .u64 x7] Try.isAgg49 Try.sizeOf49 rfl (set8_heap bW0.out (.bool x0) (.int .i64 x1) (.int .i64 x2) (.int .u64 x3) (.int .u64 x4) (.int .i64 x5) (.int .u64 x6) (.int .u64 x7))) rfl ?_
  exact ⟨rfl, (n4'.out.trans ho.out).then (set8_only _ _ (.bool x0) (.int .i64 x1) (.int .i64 x2) (.int .u64 x3) (.int .u64 x4) (.int .i64 x5) (.int .u64 x6) (.int .u64 x7)) (fun q hq hl => by omega)⟩
end Go.Proofs.Ytpnpbgcndlfobaa
