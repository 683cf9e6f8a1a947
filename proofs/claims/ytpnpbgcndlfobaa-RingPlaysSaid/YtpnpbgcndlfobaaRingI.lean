/- The document's own Next (trouperef03) of take, look and drain. -/
import Derived.Test.YtpnpbgcndlfobaaRingH
import Derived.Deep.DeepCutAuto
namespace Go.Proofs.Ytpnpbgcndlfobaa
open Go.RowKit

set_option maxRecDepth 100000 in
set_option maxHeartbeats 2000000 in
theorem rnext_look (w : World) (b c : Nat) (v : Int) (a : Option Addr) (cap : Nat) (log : List Int) (hc : 0 < c) (hc2 : c ≤ 64) (hb : b ≤ 1000) (hl : LogIn w a log) (hok : LogOk log) (hlen : log.length ≤ 1000000)
    (hh : 0 < log.length → log.getD 0 0 < 4611686018427387904) :
    Calls Try.prog 21 #[.agg #[.int .i64 (b : Int), .int .i64 (c : Int)], .agg #[.int .i64 5, .int .u64 v, .slice a log.length cap]] w fun e w' => e = .returned (wantOf b c (runL c .look0 log)) ∧ Only Nil w w' := by
  have hl' := Lib.hid hl
  have hok' := Lib.hid hok
  have hh' := Lib.hid hh
  clear hl hok hh
  generalize hn : log.length = n at hlen ⊢
  have hn' := Lib.hid hn
  clear hn
  have hlen' : (n : Int) ≤ 1000000 := by omega
  have hb' : (b : Int) ≤ 1000 := by omega
  go_enter Try.func21, Try.ntmps21
  go_upto_if 25 with (fail)
  obtain ⟨n1, n2, n3, n4⟩ := three_new w (.cells #[.int .i64 (b : Int), .int .i64 (c : Int)] 31) (.cells #[.int .i64 5, .int .u64 v, .slice a n cap] 44) (.cells #[.bool false, .int .i64 0, .int .i64 0, .int .u64 0, .int .u64 0, .int .i64 0, .int .u64 0, .int .u64 0] 49)
  have lW := Lib.hid (hl'.out.keep n4 (fun _ _ _ h => h.elim))
  have bl := Lib.hid (fun (w' : World) (o : Only Nil (((w.alloc (.cells #[.int .i64 (b : Int), .int .i64 (c : Int)] 31)).alloc (.cells #[.int .i64 5, .int .u64 v, .slice a n cap] 44)).alloc (.cells #[.bool false, .int .i64 0, .int .i64 0, .int .u64 0, .int .u64 0, .int .i64 0, .int .u64 0, .int .u64 0] 49)) w') =>
    And.intro ((o.block _ (lt_of_block n1) (fun h => h)).trans n1) (And.intro ((o.block _ (lt_of_block n2) (fun h => h)).trans n2) ((o.block _ (lt_of_block n3) (fun h => h)).trans n3)))
  have n4' := Lib.hid n4
  clear n1 n2 n3 n4 hl'
  generalize (((w.alloc (.cells #[.int .i64 (b : Int), .int .i64 (c : Int)] 31)).alloc (.cells #[.int .i64 5, .int .u64 v, .slice a n cap] 44)).alloc (.cells #[.bool false, .int .i64 0, .int .i64 0, .int .u64 0, .int .u64 0, .int .i64 0, .int .u64 0, .int .u64 0] 49)) = W0 at bl n4' lW ⊢
  have oo_w0 := Lib.hid (Only.refl Nil W0)
  obtain ⟨bR, bO, bW⟩ := bl.out W0 oo_w0.out
  have bW_w0 := Lib.hid bW
  obtain ⟨c0, c1, c2, c3, c4, c5, c6, c7, f0, f1, f2, f3, f4, f5, f6, f7⟩ := want_cells bW
  have r0 : W0.cell? ⟨w.heap.size, 0, none⟩ = some (.int .i64 (b : Int)) := (by simp [World.cell?, bR])
  have r1 : W0.cell? ⟨w.heap.size, 1, none⟩ = some (.int .i64 (c : Int)) := (by simp [World.cell?, bR])
  have o0 : W0.cell? ⟨w.heap.size + 1, 0, none⟩ = some (.int .i64 5) := (by simp [World.cell?, bO])
  clear bR bO bW
  by_cases hK : n = 0
  · have e := Lib.hid (show runL c .look0 log = .look0 by rw [runL_all c _ log 0 (by rw [hn'.out]; exact hK.symm)]; rfl)
    have dK : ((n : Int) == 0) = true := by simp; omega
    clear hK
    go_wp2
    refine bodyPost_ret (results_agg rfl _ _ (w.heap.size + 1 + 1) [.bool false, .int .i64 1, .int .i64 ((b : Int) + 1), .int .u64 0, .int .u64 0, .int .i64 0, .int .u64 0, .int .u64 0] Try.isAgg49 Try.sizeOf49 rfl (set8_heap bW_w0.out (.bool false) (.int .i64 1) (.int .i64 ((b : Int) + 1)) (.int .u64 0) (.int .u64 0) (.int .i64 0) (.int .u64 0) (.int .u64 0))) rfl ?_
    exact ⟨by rw [e.out]; (simp [wantOf, acc, accWant]), (n4'.out.trans oo_w0.out).then (set8_only _ _ (.bool false) (.int .i64 1) (.int .i64 ((b : Int) + 1)) (.int .u64 0) (.int .u64 0) (.int .i64 0) (.int .u64 0) (.int .u64 0)) (fun q hq hl => by omega)⟩
  · have dK : ((n : Int) == 0) = false := by simp; omega
    have hKl : 0 < n := by omega
    obtain ⟨g, rfl, _, _⟩ := lW.out 0 (by rw [hn'.out]; omega)
    have gy0 : Hid (∀ wq, Only Nil W0 wq → wq.cell? ⟨g, 0, none⟩ = some (.int .u64 (log.getD 0 0))) := Lib.hid (fun wq oq => by
      obtain ⟨g', hg0, _, hgx⟩ := lW.out.keep oq (fun _ _ _ h => h.elim) 0 (by rw [hn'.out]; omega)
      simp only [Option.some.injEq, Addr.mk.injEq, and_true] at hg0
      subst hg0
      exact hgx 0 (by rw [hn'.out]; omega))
    have hy0 := hok'.out 0 (by rw [hn'.out]; omega)
    have hy1 := hh'.out (by rw [hn'.out]; omega)
    have s1 := Lib.hid (runL_take c .look0 log 0 (by rw [hn'.out]; omega))
    obtain ⟨H, hH1⟩ : ∃ H : Nat, log.getD 0 0 = (H : Int) := ⟨(log.getD 0 0).toNat, by omega⟩
    rw [hH1] at gy0 hy0 hy1 s1
    clear hH1
    have hHi : (H : Int) < 4611686018427387904 := by omega
    clear hy0 hy1
    have y0 := gy0.out _ oo_w0.out
    have q1 := Lib.hid (show runL c .look0 (log.take 1) = .turn true H by rw [show (1 : Nat) = 0 + 1 from rfl, s1.out]; simp [runL, res])
    by_cases hK1 : n = 1
    · have e := Lib.hid (show runL c .look0 log = .turn true H by rw [runL_all c _ log 1 (by rw [hn'.out]; exact hK1.symm)]; exact q1.out)
      have dK1 : ((n : Int) == 1) = true := by simp; omega
      clear hK1
      go_wp2_with (first
        | (go_at_call 46; (with_reducible refine (rturn_any _ b c H hc hc2 hb).mono ?_); rintro e_ w1 ⟨rfl, q_w1⟩
           have oo_w1 := Lib.hid (oo_w0.out.trans q_w1)
           clear c0 c1 c2 c3 c4 c5 c6 c7 f0 f1 f2 f3 f4 f5 f6 f7 r0 r1 o0 y0
           obtain ⟨bR, bO, bW⟩ := bl.out w1 oo_w1.out
           have bW_w1 := Lib.hid bW
           obtain ⟨c0, c1, c2, c3, c4, c5, c6, c7, f0, f1, f2, f3, f4, f5, f6, f7⟩ := want_cells bW
           have r0 : w1.cell? ⟨w.heap.size, 0, none⟩ = some (.int .i64 (b : Int)) := (by simp [World.cell?, bR])
           have r1 : w1.cell? ⟨w.heap.size, 1, none⟩ = some (.int .i64 (c : Int)) := (by simp [World.cell?, bR])
           have o0 : w1.cell? ⟨w.heap.size + 1, 0, none⟩ = some (.int .i64 5) := (by simp [World.cell?, bO])
           clear bR bO bW
           have y0 := gy0.out _ (oo_w1.out))
        | (go_at_call 46; (with_reducible refine (rturn_any _ b c H hc hc2 hb).mono ?_); rintro e_ w1 ⟨rfl, q_w1⟩
           have oo_w1 := Lib.hid (oo_w0.out.drew.trans q_w1)
           clear c0 c1 c2 c3 c4 c5 c6 c7 f0 f1 f2 f3 f4 f5 f6 f7 r0 r1 o0 y0
           obtain ⟨bR, bO, bW⟩ := bl.out w1 oo_w1.out
           have bW_w1 := Lib.hid bW
           obtain ⟨c0, c1, c2, c3, c4, c5, c6, c7, f0, f1, f2, f3, f4, f5, f6, f7⟩ := want_cells bW
           have r0 : w1.cell? ⟨w.heap.size, 0, none⟩ = some (.int .i64 (b : Int)) := (by simp [World.cell?, bR])
           have r1 : w1.cell? ⟨w.heap.size, 1, none⟩ = some (.int .i64 (c : Int)) := (by simp [World.cell?, bR])
           have o0 : w1.cell? ⟨w.heap.size + 1, 0, none⟩ = some (.int .i64 5) := (by simp [World.cell?, bO])
           clear bR bO bW
           have y0 := gy0.out _ (oo_w1.out))
        | (go_at_call 46; (with_reducible refine (rturn_any _ b c H hc hc2 hb).mono ?_); rintro e_ w1 ⟨rfl, q_w1⟩
           have oo_w1 := Lib.hid ((oo_w0.out.drewN _).trans q_w1)
           clear c0 c1 c2 c3 c4 c5 c6 c7 f0 f1 f2 f3 f4 f5 f6 f7 r0 r1 o0 y0
           obtain ⟨bR, bO, bW⟩ := bl.out w1 oo_w1.out
           have bW_w1 := Lib.hid bW
           obtain ⟨c0, c1, c2, c3, c4, c5, c6, c7, f0, f1, f2, f3, f4, f5, f6, f7⟩ := want_cells bW
           have r0 : w1.cell? ⟨w.heap.size, 0, none⟩ = some (.int .i64 (b : Int)) := (by simp [World.cell?, bR])
           have r1 : w1.cell? ⟨w.heap.size, 1, none⟩ = some (.int .i64 (c : Int)) := (by simp [World.cell?, bR])
           have o0 : w1.cell? ⟨w.heap.size + 1, 0, none⟩ = some (.int .i64 5) := (by simp [World.cell?, bO])
           clear bR bO bW
           have y0 := gy0.out _ (oo_w1.out)))
      refine bodyPost_ret (results_agg rfl _ _ (w.heap.size + 1 + 1) [.bool false, .int .i64 1, .int .i64 (turnAt b c H : Int), .int .u64 0, .int .u64 0, .int .i64 0, .int .u64 0, .int .u64 0] Try.isAgg49 Try.sizeOf49 rfl (set8_heap bW_w1.out (.bool false) (.int .i64 1) (.int .i64 (turnAt b c H : Int)) (.int .u64 0) (.int .u64 0) (.int .i64 0) (.int .u64 0) (.int .u64 0))) rfl ?_
      exact ⟨by rw [e.out]; rfl, (n4'.out.trans oo_w1.out).then (set8_only _ _ (.bool false) (.int .i64 1) (.int .i64 (turnAt b c H : Int)) (.int .u64 0) (.int .u64 0) (.int .i64 0) (.int .u64 0) (.int .u64 0)) (fun q hq hl => by omega)⟩
    · have dK1 : ((n : Int) == 1) = false := by simp; omega
      clear hKl
      have hKl1 : (1 : Int) < (n : Int) := by omega
      have gz0 : Hid (∀ wq, Only Nil W0 wq → wq.cell? ⟨g, 1, none⟩ = some (.int .u64 (log.getD 1 0))) := Lib.hid (fun wq oq => by
        obtain ⟨g', hg0, _, hgx⟩ := lW.out.keep oq (fun _ _ _ h => h.elim) 1 (by rw [hn'.out]; omega)
        simp only [Option.some.injEq, Addr.mk.injEq, and_true] at hg0
        subst hg0
        exact hgx 1 (by rw [hn'.out]; omega))
      have s2 := Lib.hid (runL_take c .look0 log 1 (by rw [hn'.out]; omega))
      rw [q1.out] at s2
      generalize log.getD 1 0 = x at gz0 s2
      have z0 := gz0.out _ oo_w0.out
      have rwW0 := fun w => rwait_any w b c H hc hc2 (by omega)
      have hWb := waitAt_le c H
      simp only [res] at s2
      generalize hWq : waitAt c H = W at rwW0 s2 hWb
      have hWq' := Lib.hid hWq
      have rwW := Lib.hid rwW0
      have hwk : IntKind.i64.wrap 1 = 1 := IntWalk.i64_in _ (by omega)
      have hwk' : RowKit.wrap64 1 = 1 := by first | rfl | (simp [RowKit.wrap64])
      have hw1 : IntKind.u64.wrap ((W : Int) + 1) = (W : Int) + 1 := IntWalk.u64_in _ (by omega)
      have hw2 : IntKind.u64.wrap ((W : Int) + 2) = (W : Int) + 2 := IntWalk.u64_in _ (by omega)
      have hwt : IntKind.i64.wrap ((turnAt b c H : Int) + 1) = (turnAt b c H : Int) + 1 := IntWalk.i64_in _ (by have := turnAt_lt b c H hc; omega)
      have hwH : IntKind.u64.wrap ((H : Int) + 1) = (H : Int) + 1 := IntWalk.u64_in _ (by omega)
      clear rwW0 hWq hWb hHi
      by_cases hx : x = (W : Int) + 1
      · have e := Lib.hid (show runL c .look0 log = .over 1 0 0 from runL_done c _ log 2 (by rw [show (2 : Nat) = 1 + 1 from rfl, s2.out]; rw [if_neg (by simpa using hx)]; rfl))
        have dx : (x == (W : Int) + 1) = true := by simpa using hx
        subst hx
        clear dx
        go_wp2_with (first
          | (go_at_call 47; (with_reducible refine (rwW.out _).mono ?_); rintro e_ w1 ⟨rfl, q_w1⟩
             have oo_w1 := Lib.hid (oo_w0.out.trans q_w1)
             clear c0 c1 c2 c3 c4 c5 c6 c7 f0 f1 f2 f3 f4 f5 f6 f7 r0 r1 o0 y0 z0
             obtain ⟨bR, bO, bW⟩ := bl.out w1 oo_w1.out
             have bW_w1 := Lib.hid bW
             obtain ⟨c0, c1, c2, c3, c4, c5, c6, c7, f0, f1, f2, f3, f4, f5, f6, f7⟩ := want_cells bW
             have r0 : w1.cell? ⟨w.heap.size, 0, none⟩ = some (.int .i64 (b : Int)) := (by simp [World.cell?, bR])
             have r1 : w1.cell? ⟨w.heap.size, 1, none⟩ = some (.int .i64 (c : Int)) := (by simp [World.cell?, bR])
             have o0 : w1.cell? ⟨w.heap.size + 1, 0, none⟩ = some (.int .i64 5) := (by simp [World.cell?, bO])
             clear bR bO bW
             have y0 := gy0.out _ (oo_w1.out)
             have z0 := gz0.out _ (oo_w1.out))
          | (go_at_call 47; (with_reducible refine (rwW.out _).mono ?_); rintro e_ w1 ⟨rfl, q_w1⟩
             have oo_w1 := Lib.hid (oo_w0.out.drew.trans q_w1)
             clear c0 c1 c2 c3 c4 c5 c6 c7 f0 f1 f2 f3 f4 f5 f6 f7 r0 r1 o0 y0 z0
             obtain ⟨bR, bO, bW⟩ := bl.out w1 oo_w1.out
             have bW_w1 := Lib.hid bW
             obtain ⟨c0, c1, c2, c3, c4, c5, c6, c7, f0, f1, f2, f3, f4, f5, f6, f7⟩ := want_cells bW
             have r0 : w1.cell? ⟨w.heap.size, 0, none⟩ = some (.int .i64 (b : Int)) := (by simp [World.cell?, bR])
             have r1 : w1.cell? ⟨w.heap.size, 1, none⟩ = some (.int .i64 (c : Int)) := (by simp [World.cell?, bR])
             have o0 : w1.cell? ⟨w.heap.size + 1, 0, none⟩ = some (.int .i64 5) := (by simp [World.cell?, bO])
             clear bR bO bW
             have y0 := gy0.out _ (oo_w1.out)
             have z0 := gz0.out _ (oo_w1.out))
          | (go_at_call 47; (with_reducible refine (rwW.out _).mono ?_); rintro e_ w1 ⟨rfl, q_w1⟩
             have oo_w1 := Lib.hid ((oo_w0.out.drewN _).trans q_w1)
             clear c0 c1 c2 c3 c4 c5 c6 c7 f0 f1 f2 f3 f4 f5 f6 f7 r0 r1 o0 y0 z0
             obtain ⟨bR, bO, bW⟩ := bl.out w1 oo_w1.out
             have bW_w1 := Lib.hid bW
             obtain ⟨c0, c1, c2, c3, c4, c5, c6, c7, f0, f1, f2, f3, f4, f5, f6, f7⟩ := want_cells bW
             have r0 : w1.cell? ⟨w.heap.size, 0, none⟩ = some (.int .i64 (b : Int)) := (by simp [World.cell?, bR])
             have r1 : w1.cell? ⟨w.heap.size, 1, none⟩ = some (.int .i64 (c : Int)) := (by simp [World.cell?, bR])
             have o0 : w1.cell? ⟨w.heap.size + 1, 0, none⟩ = some (.int .i64 5) := (by simp [World.cell?, bO])
             clear bR bO bW
             have y0 := gy0.out _ (oo_w1.out)
             have z0 := gz0.out _ (oo_w1.out)))
        go_region_with (first
          | (go_at_call 47; (with_reducible refine (rwW.out _).mono ?_); rintro e_ w1 ⟨rfl, q_w1⟩
             have oo_w1 := Lib.hid (oo_w0.out.trans q_w1)
             clear c0 c1 c2 c3 c4 c5 c6 c7 f0 f1 f2 f3 f4 f5 f6 f7 r0 r1 o0 y0 z0
             obtain ⟨bR, bO, bW⟩ := bl.out w1 oo_w1.out
             have bW_w1 := Lib.hid bW
             obtain ⟨c0, c1, c2, c3, c4, c5, c6, c7, f0, f1, f2, f3, f4, f5, f6, f7⟩ := want_cells bW
             have r0 : w1.cell? ⟨w.heap.size, 0, none⟩ = some (.int .i64 (b : Int)) := (by simp [World.cell?, bR])
             have r1 : w1.cell? ⟨w.heap.size, 1, none⟩ = some (.int .i64 (c : Int)) := (by simp [World.cell?, bR])
             have o0 : w1.cell? ⟨w.heap.size + 1, 0, none⟩ = some (.int .i64 5) := (by simp [World.cell?, bO])
             clear bR bO bW
             have y0 := gy0.out _ (oo_w1.out)
             have z0 := gz0.out _ (oo_w1.out))
          | (go_at_call 47; (with_reducible refine (rwW.out _).mono ?_); rintro e_ w1 ⟨rfl, q_w1⟩
             have oo_w1 := Lib.hid (oo_w0.out.drew.trans q_w1)
             clear c0 c1 c2 c3 c4 c5 c6 c7 f0 f1 f2 f3 f4 f5 f6 f7 r0 r1 o0 y0 z0
             obtain ⟨bR, bO, bW⟩ := bl.out w1 oo_w1.out
             have bW_w1 := Lib.hid bW
             obtain ⟨c0, c1, c2, c3, c4, c5, c6, c7, f0, f1, f2, f3, f4, f5, f6, f7⟩ := want_cells bW
             have r0 : w1.cell? ⟨w.heap.size, 0, none⟩ = some (.int .i64 (b : Int)) := (by simp [World.cell?, bR])
             have r1 : w1.cell? ⟨w.heap.size, 1, none⟩ = some (.int .i64 (c : Int)) := (by simp [World.cell?, bR])
             have o0 : w1.cell? ⟨w.heap.size + 1, 0, none⟩ = some (.int .i64 5) := (by simp [World.cell?, bO])
             clear bR bO bW
             have y0 := gy0.out _ (oo_w1.out)
             have z0 := gz0.out _ (oo_w1.out))
          | (go_at_call 47; (with_reducible refine (rwW.out _).mono ?_); rintro e_ w1 ⟨rfl, q_w1⟩
             have oo_w1 := Lib.hid ((oo_w0.out.drewN _).trans q_w1)
             clear c0 c1 c2 c3 c4 c5 c6 c7 f0 f1 f2 f3 f4 f5 f6 f7 r0 r1 o0 y0 z0
             obtain ⟨bR, bO, bW⟩ := bl.out w1 oo_w1.out
             have bW_w1 := Lib.hid bW
             obtain ⟨c0, c1, c2, c3, c4, c5, c6, c7, f0, f1, f2, f3, f4, f5, f6, f7⟩ := want_cells bW
             have r0 : w1.cell? ⟨w.heap.size, 0, none⟩ = some (.int .i64 (b : Int)) := (by simp [World.cell?, bR])
             have r1 : w1.cell? ⟨w.heap.size, 1, none⟩ = some (.int .i64 (c : Int)) := (by simp [World.cell?, bR])
             have o0 : w1.cell? ⟨w.heap.size + 1, 0, none⟩ = some (.int .i64 5) := (by simp [World.cell?, bO])
             clear bR bO bW
             have y0 := gy0.out _ (oo_w1.out)
             have z0 := gz0.out _ (oo_w1.out)))
        all_goals (
          go_wp2
          refine bodyPost_ret (results_agg rfl _ _ (w.heap.size + 1 + 1) [.bool true, .int .i64 0, .int .i64 0, .int .u64 0, .int .u64 0, .int .i64 1, .int .u64 0, .int .u64 0] Try.isAgg49 Try.sizeOf49 rfl (set8_heap bW_w1.out (.bool true) (.int .i64 0) (.int .i64 0) (.int .u64 0) (.int .u64 0) (.int .i64 1) (.int .u64 0) (.int .u64 0))) rfl ?_
          exact ⟨by rw [e.out]; rfl, (n4'.out.trans oo_w1.out).then (set8_only _ _ (.bool true) (.int .i64 0) (.int .i64 0) (.int .u64 0) (.int .u64 0) (.int .i64 1) (.int .u64 0) (.int .u64 0)) (fun q hq hl => by omega)⟩)
      · have e := Lib.hid (show runL c .look0 log = .over 4 0 0 from runL_done c _ log 2 (by rw [show (2 : Nat) = 1 + 1 from rfl, s2.out]; rw [if_pos hx]))
        have dx : (x == (W : Int) + 1) = false := by simpa using hx
        clear hx
        go_wp2_with fail
        go_region_with (first
          | (go_at_call 47; (with_reducible refine (rwW.out _).mono ?_); rintro e_ w1 ⟨rfl, q_w1⟩
             have oo_w1 := Lib.hid (oo_w0.out.trans q_w1)
             clear c0 c1 c2 c3 c4 c5 c6 c7 f0 f1 f2 f3 f4 f5 f6 f7 r0 r1 o0 y0 z0
             obtain ⟨bR, bO, bW⟩ := bl.out w1 oo_w1.out
             have bW_w1 := Lib.hid bW
             obtain ⟨c0, c1, c2, c3, c4, c5, c6, c7, f0, f1, f2, f3, f4, f5, f6, f7⟩ := want_cells bW
             have r0 : w1.cell? ⟨w.heap.size, 0, none⟩ = some (.int .i64 (b : Int)) := (by simp [World.cell?, bR])
             have r1 : w1.cell? ⟨w.heap.size, 1, none⟩ = some (.int .i64 (c : Int)) := (by simp [World.cell?, bR])
             have o0 : w1.cell? ⟨w.heap.size + 1, 0, none⟩ = some (.int .i64 5) := (by simp [World.cell?, bO])
             clear bR bO bW
             have y0 := gy0.out _ (oo_w1.out)
             have z0 := gz0.out _ (oo_w1.out))
          | (go_at_call 47; (with_reducible refine (rwW.out _).mono ?_); rintro e_ w1 ⟨rfl, q_w1⟩
             have oo_w1 := Lib.hid (oo_w0.out.drew.trans q_w1)
             clear c0 c1 c2 c3 c4 c5 c6 c7 f0 f1 f2 f3 f4 f5 f6 f7 r0 r1 o0 y0 z0
             obtain ⟨bR, bO, bW⟩ := bl.out w1 oo_w1.out
             have bW_w1 := Lib.hid bW
             obtain ⟨c0, c1, c2, c3, c4, c5, c6, c7, f0, f1, f2, f3, f4, f5, f6, f7⟩ := want_cells bW
             have r0 : w1.cell? ⟨w.heap.size, 0, none⟩ = some (.int .i64 (b : Int)) := (by simp [World.cell?, bR])
             have r1 : w1.cell? ⟨w.heap.size, 1, none⟩ = some (.int .i64 (c : Int)) := (by simp [World.cell?, bR])
             have o0 : w1.cell? ⟨w.heap.size + 1, 0, none⟩ = some (.int .i64 5) := (by simp [World.cell?, bO])
             clear bR bO bW
             have y0 := gy0.out _ (oo_w1.out)
             have z0 := gz0.out _ (oo_w1.out))
          | (go_at_call 47; (with_reducible refine (rwW.out _).mono ?_); rintro e_ w1 ⟨rfl, q_w1⟩
             have oo_w1 := Lib.hid ((oo_w0.out.drewN _).trans q_w1)
             clear c0 c1 c2 c3 c4 c5 c6 c7 f0 f1 f2 f3 f4 f5 f6 f7 r0 r1 o0 y0 z0
             obtain ⟨bR, bO, bW⟩ := bl.out w1 oo_w1.out
             have bW_w1 := Lib.hid bW
             obtain ⟨c0, c1, c2, c3, c4, c5, c6, c7, f0, f1, f2, f3, f4, f5, f6, f7⟩ := want_cells bW
             have r0 : w1.cell? ⟨w.heap.size, 0, none⟩ = some (.int .i64 (b : Int)) := (by simp [World.cell?, bR])
             have r1 : w1.cell? ⟨w.heap.size, 1, none⟩ = some (.int .i64 (c : Int)) := (by simp [World.cell?, bR])
             have o0 : w1.cell? ⟨w.heap.size + 1, 0, none⟩ = some (.int .i64 5) := (by simp [World.cell?, bO])
             clear bR bO bW
             have y0 := gy0.out _ (oo_w1.out)
             have z0 := gz0.out _ (oo_w1.out)))
        all_goals (
          go_wp2
          refine bodyPost_ret (results_agg rfl _ _ (w.heap.size + 1 + 1) [.bool true, .int .i64 0, .int .i64 0, .int .u64 0, .int .u64 0, .int .i64 4, .int .u64 0, .int .u64 0] Try.isAgg49 Try.sizeOf49 rfl (set8_heap bW_w1.out (.bool true) (.int .i64 0) (.int .i64 0) (.int .u64 0) (.int .u64 0) (.int .i64 4) (.int .u64 0) (.int .u64 0))) rfl ?_
          exact ⟨by rw [e.out]; rfl, (n4'.out.trans oo_w1.out).then (set8_only _ _ (.bool true) (.int .i64 0) (.int .i64 0) (.int .u64 0) (.int .u64 0) (.int .i64 4) (.int .u64 0) (.int .u64 0)) (fun q hq hl => by omega)⟩)

end Go.Proofs.Ytpnpbgcndlfobaa
