/- The document's Next of a gate, whatever the log. -/
import Derived.Test.YtokopocldicnmaaGtNa
import Derived.LoopTactic
import Derived.Deep.DeepCutAuto
namespace Go.Proofs.Ytokopocldicnmaa.Gt
open Go.RowKit

theorem runL_take (c : Nat) (s : OS) (log : List Int) (k : Nat) (hk : k < log.length) : runL c s (log.take (k + 1)) = res c (log.getD k 0) (runL c s (log.take k)) := by
  rw [List.take_succ_eq_append_getElem hk, runL_snoc]
  simp [List.getD_eq_getElem?_getD, hk]
theorem runL_all (c : Nat) (s : OS) (log : List Int) (k : Nat) (hk : k = log.length) : runL c s log = runL c s (log.take k) := by rw [hk, List.take_length]
theorem runL_done (c : Nat) (s : OS) (log : List Int) (k : Nat) {o : Nat} {x : Int} (h : runL c s (log.take k) = .over o x) : runL c s log = .over o x := by
  have : runL c s log = runL c (runL c s (log.take k)) (log.drop k) := by unfold runL; rw [← List.foldl_append, List.take_append_drop]
  rw [this, h, runL_over]
def LogOk (log : List Int) : Prop := ∀ i, i < log.length → 0 ≤ log.getD i 0 ∧ log.getD i 0 < 18446744073709551616

set_option maxRecDepth 100000 in
set_option maxHeartbeats 16000000 in
theorem rnext_put (w : World) (b c : Nat) (v : Int) (a : Option Addr) (cap : Nat) (log : List Int) (hc : 0 < c) (hc2 : c ≤ 64) (hb : b ≤ 1000) (hl : LogIn w a log) (hok : LogOk log) (hlen : log.length ≤ 1000000) :
    Calls Try.prog 31 #[.agg #[.int .i64 (b : Int), .int .i64 (c : Int)], .agg #[.int .i64 1, .int .u64 v, .slice a log.length cap]] w fun e w' => e = .returned (wantOf b c (runL c (.s0 (.put v)) log)) ∧ Only Nil w w' := by
  have hl' := Lib.hid hl
  have hok' := Lib.hid hok
  clear hl hok
  generalize hn : log.length = n at hlen ⊢
  have hn' := Lib.hid hn
  clear hn
  have hlen' : (n : Int) ≤ 1000000 := by omega
  have nlen := Lib.hid hlen
  have hbi : (b : Int) ≤ 1000 := by omega
  have hcc := Lib.hid (And.intro hc (And.intro hc2 hb))
  clear hlen hc hc2 hb
  go_enter Try.func31, Try.ntmps31
  go_upto_region 1 with (fail)
  obtain ⟨n1, n2, n3, n4⟩ := three_new w (.cells #[.int .i64 (b : Int), .int .i64 (c : Int)] 47) (.cells #[.int .i64 1, .int .u64 v, .slice a n cap] 59) (.cells #[.bool false, .int .i64 0, .int .i64 0, .int .u64 0, .int .u64 0, .int .i64 0, .int .u64 0, .int .u64 0] 64)
  generalize (((w.alloc (.cells #[.int .i64 (b : Int), .int .i64 (c : Int)] 47)).alloc (.cells #[.int .i64 1, .int .u64 v, .slice a n cap] 59)).alloc (.cells #[.bool false, .int .i64 0, .int .i64 0, .int .u64 0, .int .u64 0, .int .i64 0, .int .u64 0, .int .u64 0] 64)) = Z at *
  have lW := Lib.hid (hl'.out.keep n4 (fun _ _ _ h => h.elim))
  have bl := Lib.hid (fun (w' : World) (o : Only Nil Z w') =>
    And.intro ((o.block _ (lt_of_block n1) (fun h => h)).trans n1) (And.intro ((o.block _ (lt_of_block n2) (fun h => h)).trans n2) ((o.block _ (lt_of_block n3) (fun h => h)).trans n3)))
  have n4' := Lib.hid n4
  clear n1 n2 n3 n4 hl'
  obtain ⟨bR, bO, bW⟩ := bl.out Z (Only.refl Nil Z)
  have bWZ := Lib.hid bW
  obtain ⟨c0, c1, c2, c3, c4, c5, c6, c7, f0, f1, f2, f3, f4, f5, f6, f7⟩ := want_cells bW
  have r0 : Z.cell? ⟨w.heap.size, 0, none⟩ = some (.int .i64 (b : Int)) := (by simp [World.cell?, bR])
  have r1 : Z.cell? ⟨w.heap.size, 1, none⟩ = some (.int .i64 (c : Int)) := (by simp [World.cell?, bR])
  have k0 : Z.cell? ⟨w.heap.size + 1, 0, none⟩ = some (.int .i64 1) := (by simp [World.cell?, bO])
  have k1 : Z.cell? ⟨w.heap.size + 1, 1, none⟩ = some (.int .u64 v) := (by simp [World.cell?, bO])
  have k2 : Z.cell? ⟨w.heap.size + 1, 2, none⟩ = some (.slice a n cap) := (by simp [World.cell?, bO])
  clear bR bO bW
  go_wp2_with (fail)
  clear r0 r1 k0 k1 k2 c0 c1 c2 c3 c4 c5 c6 c7 f0 f1 f2 f3 f4 f5 f6 f7
  go_loopw [6] (fun s6 wr => ∃ (k : Nat), k ≤ n ∧ s6 = .int .i64 (k : Int) ∧ Hid (runL c (.s0 (.put v)) (log.take k) = (.s0 (.put v))) ∧ Hid (Only Nil Z wr))
    (fun s6 _ => n + 1 - (intOf s6).toNat)
  case atStart => exact ⟨0, Nat.zero_le _, rfl, Lib.hid rfl, Lib.hid (Only.refl _ _)⟩
  case round =>
    obtain ⟨k, hk, rfl, hst, ho⟩ := hrel
    by_cases hkn : k = n
    · obtain rfl : n = k := hkn.symm
      have e := Lib.hid (show runL c (.s0 (.put v)) log = (.s0 (.put v)) by rw [runL_all c _ log n hn'.out.symm]; exact hst.out)
      obtain ⟨bR, bO, bW⟩ := bl.out wr ho.out
      have bW0 := Lib.hid bW
      obtain ⟨c0, c1, c2, c3, c4, c5, c6, c7, f0, f1, f2, f3, f4, f5, f6, f7⟩ := want_cells bW
      have r0 : wr.cell? ⟨w.heap.size, 0, none⟩ = some (.int .i64 (b : Int)) := (by simp [World.cell?, bR])
      have r1 : wr.cell? ⟨w.heap.size, 1, none⟩ = some (.int .i64 (c : Int)) := (by simp [World.cell?, bR])
      have k0 : wr.cell? ⟨w.heap.size + 1, 0, none⟩ = some (.int .i64 1) := (by simp [World.cell?, bO])
      have k1 : wr.cell? ⟨w.heap.size + 1, 1, none⟩ = some (.int .u64 v) := (by simp [World.cell?, bO])
      have k2 : wr.cell? ⟨w.heap.size + 1, 2, none⟩ = some (.slice a n cap) := (by simp [World.cell?, bO])
      clear bR bO bW
      clear hk hkn
      go_wp2_with (fail)
      refine bodyPost_ret (results_agg rfl _ _ (w.heap.size + 1 + 1) [.bool false, .int .i64 1, .int .i64 (b : Int), .int .u64 0, .int .u64 0, .int .i64 0, .int .u64 0, .int .u64 0] Try.isAgg64 Try.sizeOf64 rfl (set8_heap bW0.out (.bool false) (.int .i64 1) (.int .i64 (b : Int)) (.int .u64 0) (.int .u64 0) (.int .i64 0) (.int .u64 0) (.int .u64 0))) rfl ?_
      exact ⟨by rw [e.out]; rfl, (n4'.out.trans ho.out).then (set8_only _ _ (.bool false) (.int .i64 1) (.int .i64 (b : Int)) (.int .u64 0) (.int .u64 0) (.int .i64 0) (.int .u64 0) (.int .u64 0)) (fun q hq hl => by omega)⟩
    · have hkl : k < n := by omega
      have hk1 : ¬ ((n : Int) = (k : Int)) := by omega
      have lk := Lib.hid (lW.out.keep ho.out (fun _ _ _ h => h.elim))
      obtain ⟨g, rfl, hg1, hg2⟩ := lk.out k (by rw [hn'.out]; exact hkl)
      have x0 := hg2 k (by rw [hn'.out]; exact hkl)
      have KL := Lib.hid (fun (w' : World) (o : Only Nil wr w') (j : Nat) (hj : j < n) => (World.cell?_of_block (a := ⟨g, j, none⟩) (o.block g hg1 (fun h => h))).trans (hg2 j (by rw [hn'.out]; exact hj)))
      have hT0 := hok'.out k (by rw [hn'.out]; exact hkl)
      have s1 := Lib.hid (runL_take c (.s0 (.put v)) log k (by rw [hn'.out]; exact hkl))
      rw [hst.out] at s1
      obtain ⟨T, hT1⟩ : ∃ T : Nat, log.getD k 0 = (T : Int) := ⟨(log.getD k 0).toNat, by omega⟩
      rw [hT1] at x0 hT0 s1
      have hT := Lib.hid (show T < 18446744073709551616 by omega)
      have s2 := Lib.hid (show runL c (.s0 (.put v)) (log.take (k + 1)) = .s1 (.put v) (T : Int) from s1.out)
      clear hg2 hT1 hg1 hT0 s1
      obtain ⟨bR, bO, bW⟩ := bl.out wr ho.out
      have bW0 := Lib.hid bW
      obtain ⟨c0, c1, c2, c3, c4, c5, c6, c7, f0, f1, f2, f3, f4, f5, f6, f7⟩ := want_cells bW
      have r0 : wr.cell? ⟨w.heap.size, 0, none⟩ = some (.int .i64 (b : Int)) := (by simp [World.cell?, bR])
      have r1 : wr.cell? ⟨w.heap.size, 1, none⟩ = some (.int .i64 (c : Int)) := (by simp [World.cell?, bR])
      have k0 : wr.cell? ⟨w.heap.size + 1, 0, none⟩ = some (.int .i64 1) := (by simp [World.cell?, bO])
      have k1 : wr.cell? ⟨w.heap.size + 1, 1, none⟩ = some (.int .u64 v) := (by simp [World.cell?, bO])
      have k2 : wr.cell? ⟨w.heap.size + 1, 2, none⟩ = some (.slice (some ⟨g, 0, none⟩) n cap) := (by simp [World.cell?, bO])
      clear bR bO bW
      have e1 : IntKind.u64.wrap (c : Int) = (c : Int) := by have := hcc.out; rw [IntKind.wrap_u64]; omega
      have e2 : Int.tmod (T : Int) (c : Int) = ((T % c : Nat) : Int) := rfl
      have e3 : ¬ ((c : Int) = 0) := by have := hcc.out; omega
      have hm := Nat.mod_lt T hcc.out.1
      have hcell := Lib.hid (show (turnAt b c (T : Int) : Int) = (b : Int) + 2 + 2 * ((T % c : Nat) : Int) by unfold turnAt turnIn; simp; omega)
      generalize T % c = r at e2 hm hcell
      have hr' : (r : Int) < 64 := by have := hcc.out; omega
      have q1 : IntKind.i64.wrap ((b : Int) + 2) = (b : Int) + 2 := IntWalk.i64_in _ (by omega)
      have q2 : IntKind.i64.wrap (r : Int) = (r : Int) := IntWalk.i64_in _ (by omega)
      have q3 : IntKind.i64.wrap (2 * (r : Int)) = 2 * (r : Int) := IntWalk.i64_in _ (by omega)
      have q4 : IntKind.i64.wrap ((b : Int) + 2 + 2 * (r : Int)) = (b : Int) + 2 + 2 * (r : Int) := IntWalk.i64_in _ (by omega)
      have hk2 := Lib.hid hkl
      clear hm hk hkn hkl
      go_upto_region 9 with (fail)
      go_quiet (fail)
      have o1 := Lib.hid (ho.out.drewN nq)
      have o1r := Lib.hid ((Only.refl Nil wr).drewN nq)
      clear x0 e1 e2 e3 q1 q2 q3 q4 hk1
      clear r0 r1 k0 k1 k2 c0 c1 c2 c3 c4 c5 c6 c7 f0 f1 f2 f3 f4 f5 f6 f7
      generalize wr.drewN nq = w1 at o1 o1r ⊢
      obtain ⟨bR, bO, bW⟩ := bl.out w1 o1.out
      have bW1 := Lib.hid bW
      obtain ⟨c0, c1, c2, c3, c4, c5, c6, c7, f0, f1, f2, f3, f4, f5, f6, f7⟩ := want_cells bW
      have r0 : w1.cell? ⟨w.heap.size, 0, none⟩ = some (.int .i64 (b : Int)) := (by simp [World.cell?, bR])
      have r1 : w1.cell? ⟨w.heap.size, 1, none⟩ = some (.int .i64 (c : Int)) := (by simp [World.cell?, bR])
      have k0 : w1.cell? ⟨w.heap.size + 1, 0, none⟩ = some (.int .i64 1) := (by simp [World.cell?, bO])
      have k1 : w1.cell? ⟨w.heap.size + 1, 1, none⟩ = some (.int .u64 v) := (by simp [World.cell?, bO])
      have k2 : w1.cell? ⟨w.heap.size + 1, 2, none⟩ = some (.slice (some ⟨g, 0, none⟩) n cap) := (by simp [World.cell?, bO])
      clear bR bO bW
      have sl0 : (0 : Int) ≤ (b : Int) + 2 + 2 * (r : Int) := by omega
      have sl1 : (b : Int) + 2 + 2 * (r : Int) ≤ 100000 := by omega
      generalize (b : Int) + 2 + 2 * (r : Int) = sl at hcell sl0 sl1 ⊢
      clear hr'
      by_cases hk1 : n = k + 1
      · have hd2 : ((n : Int) == (k : Int) + 1) = true := by simp; omega
        have e := Lib.hid (show runL c (.s0 (.put v)) log = .s1 (.put v) (T : Int) by rw [runL_all c _ log (k + 1) (by rw [hn'.out]; exact hk1.symm)]; exact s2.out)
        clear hk1
        go_wp2_with (fail)
        refine bodyPost_ret (results_agg rfl _ _ (w.heap.size + 1 + 1) [.bool false, .int .i64 1, .int .i64 sl, .int .u64 0, .int .u64 0, .int .i64 0, .int .u64 0, .int .u64 0] Try.isAgg64 Try.sizeOf64 rfl (set8_heap bW1.out (.bool false) (.int .i64 1) (.int .i64 sl) (.int .u64 0) (.int .u64 0) (.int .i64 0) (.int .u64 0) (.int .u64 0))) rfl ?_
        exact ⟨by rw [e.out]; simp only [wantOf, acc, accWant, hcell.out], (n4'.out.trans o1.out).then (set8_only _ _ (.bool false) (.int .i64 1) (.int .i64 sl) (.int .u64 0) (.int .u64 0) (.int .i64 0) (.int .u64 0) (.int .u64 0)) (fun q hq hl => by omega)⟩
      · have hd2 : ((n : Int) == (k : Int) + 1) = false := by simp; omega
        have kl1 : k + 1 < n := by have := hk2.out; omega
        have kl1' : (k : Int) + 1 < (n : Int) := by omega
        have x1 := KL.out w1 o1r.out (k + 1) kl1
        have hS0 := hok'.out (k + 1) (by rw [hn'.out]; exact kl1)
        have s3 := Lib.hid (runL_take c (.s0 (.put v)) log (k + 1) (by rw [hn'.out]; exact kl1))
        rw [s2.out] at s3
        obtain ⟨Sv, hSv⟩ : ∃ Sv, log.getD (k + 1) 0 = Sv := ⟨_, rfl⟩
        rw [hSv] at x1 hS0 s3
        clear hSv
        simp only [res, show Dir.lead (.put v) = 0 from rfl, due_0] at s3
        have gw := fun w => gwait_any w b c T hT.out hcc.out.1 hcc.out.2.1
        have hwe := wt_even c (T : Int)
        have tn1 : ((k : Int) + 1).toNat = k + 1 := by omega
        obtain ⟨W, hW⟩ : ∃ W, wt c (T : Int) = W := ⟨_, rfl⟩
        rw [hW] at s3 hwe
        simp only [hW] at gw
        have gw' := Lib.hid gw
        have hW' := Lib.hid hW
        have w0_ : (0 : Int) ≤ W := hwe.1
        have wk1 : IntKind.u64.wrap (W + 1) = W + 1 := by rw [IntKind.wrap_u64]; omega
        have wk0 : IntKind.u64.wrap W = W := by rw [IntKind.wrap_u64]; omega
        have hlast := Lib.hid (And.intro hT.out (And.intro hcc.out.1 hcc.out.2.1))
        have kls := Lib.hid kl1
        have hS1 := Lib.hid hS0
        clear gw hW hwe kl1 hS0
        by_cases hhi : W < Sv
        · have s4 := Lib.hid (show runL c (.s0 (.put v)) (log.take (k + 2)) = (.s0 (.put v)) by rw [show k + 2 = k + 1 + 1 by omega, s3.out, if_pos hhi])
          have d1 : decide (W < Sv) = true := decide_eq_true hhi
          clear hhi hk1
          go_wp2_with (go_at_call 70; (with_reducible refine (gw'.out _).mono ?_); rintro e_ w2 ⟨rfl, q2⟩)
          have fin := Lib.hid (o1.out.trans q2)
          go_roundw
          case rel => exact ⟨k + 2, by have := kls.out; omega, by go_num, s4, fin⟩
          case measure => have := kls.out; simp [intOf]; omega
        · have d1 : decide (W < Sv) = false := decide_eq_false hhi
          by_cases hlo : Sv < W
          · have d2 : decide (Sv < W) = true := decide_eq_true hlo
            have e := Lib.hid (show runL c (.s0 (.put v)) log = .over 2 0 from runL_done c _ log (k + 1 + 1) (by rw [s3.out, if_neg hhi, if_pos hlo]; rfl))
            clear hhi hlo hk1
            go_wp2_with (first | (go_at_call 70; (with_reducible refine (gw'.out w2).mono ?_); rintro e_ w3 ⟨rfl, q_w3⟩; have o_w3 := Lib.hid (o_w2.out.trans q_w3); clear r0 r1 k0 k1 k2 c0 c1 c2 c3 c4 c5 c6 c7 f0 f1 f2 f3 f4 f5 f6 f7; obtain ⟨bR, bO, bW⟩ := bl.out w3 o_w3.out; have bW3 := Lib.hid bW; obtain ⟨c0, c1, c2, c3, c4, c5, c6, c7, f0, f1, f2, f3, f4, f5, f6, f7⟩ := want_cells bW; have r0 : w3.cell? ⟨w.heap.size, 0, none⟩ = some (.int .i64 (b : Int)) := (by simp [World.cell?, bR]); have r1 : w3.cell? ⟨w.heap.size, 1, none⟩ = some (.int .i64 (c : Int)) := (by simp [World.cell?, bR]); have k0 : w3.cell? ⟨w.heap.size + 1, 0, none⟩ = some (.int .i64 1) := (by simp [World.cell?, bO]); have k1 : w3.cell? ⟨w.heap.size + 1, 1, none⟩ = some (.int .u64 v) := (by simp [World.cell?, bO]); have k2 : w3.cell? ⟨w.heap.size + 1, 2, none⟩ = some (.slice (some ⟨g, 0, none⟩) n cap) := (by simp [World.cell?, bO]); clear bR bO bW) | (go_at_call 70; (with_reducible refine (gw'.out w1).mono ?_); rintro e_ w2 ⟨rfl, q_w2⟩; have o_w2 := Lib.hid (o1.out.trans q_w2); clear r0 r1 k0 k1 k2 c0 c1 c2 c3 c4 c5 c6 c7 f0 f1 f2 f3 f4 f5 f6 f7; obtain ⟨bR, bO, bW⟩ := bl.out w2 o_w2.out; have bW2 := Lib.hid bW; obtain ⟨c0, c1, c2, c3, c4, c5, c6, c7, f0, f1, f2, f3, f4, f5, f6, f7⟩ := want_cells bW; have r0 : w2.cell? ⟨w.heap.size, 0, none⟩ = some (.int .i64 (b : Int)) := (by simp [World.cell?, bR]); have r1 : w2.cell? ⟨w.heap.size, 1, none⟩ = some (.int .i64 (c : Int)) := (by simp [World.cell?, bR]); have k0 : w2.cell? ⟨w.heap.size + 1, 0, none⟩ = some (.int .i64 1) := (by simp [World.cell?, bO]); have k1 : w2.cell? ⟨w.heap.size + 1, 1, none⟩ = some (.int .u64 v) := (by simp [World.cell?, bO]); have k2 : w2.cell? ⟨w.heap.size + 1, 2, none⟩ = some (.slice (some ⟨g, 0, none⟩) n cap) := (by simp [World.cell?, bO]); clear bR bO bW))
            refine bodyPost_ret (results_agg rfl _ _ (w.heap.size + 1 + 1) [.bool true, .int .i64 0, .int .i64 0, .int .u64 0, .int .u64 0, .int .i64 2, .int .u64 0, .int .u64 0] Try.isAgg64 Try.sizeOf64 rfl (set8_heap bW3.out (.bool true) (.int .i64 0) (.int .i64 0) (.int .u64 0) (.int .u64 0) (.int .i64 2) (.int .u64 0) (.int .u64 0))) rfl ?_
            exact ⟨by rw [e.out]; rfl, (n4'.out.trans o_w3.out).then (set8_only _ _ (.bool true) (.int .i64 0) (.int .i64 0) (.int .u64 0) (.int .u64 0) (.int .i64 2) (.int .u64 0) (.int .u64 0)) (fun q hq hl => by omega)⟩
          · have d2 : decide (Sv < W) = false := decide_eq_false hlo
            have s4 := Lib.hid (show runL c (.s0 (.put v)) (log.take (k + 2)) = .s2 (.put v) (T : Int) by rw [show k + 2 = k + 1 + 1 by omega, s3.out, if_neg hhi, if_neg hlo])
            clear hhi hlo hk1
            by_cases hk3 : n = k + 2
            · have hd3 : ((n : Int) == (k : Int) + 2) = true := by simp; omega
              have e := Lib.hid (show runL c (.s0 (.put v)) log = .s2 (.put v) (T : Int) by rw [runL_all c _ log (k + 2) (by rw [hn'.out]; exact hk3.symm)]; exact s4.out)
              clear hk3
              go_wp2_with (first | (go_at_call 70; (with_reducible refine (gw'.out w2).mono ?_); rintro e_ w3 ⟨rfl, q_w3⟩; have o_w3 := Lib.hid (o_w2.out.trans q_w3); clear r0 r1 k0 k1 k2 c0 c1 c2 c3 c4 c5 c6 c7 f0 f1 f2 f3 f4 f5 f6 f7; obtain ⟨bR, bO, bW⟩ := bl.out w3 o_w3.out; have bW3 := Lib.hid bW; obtain ⟨c0, c1, c2, c3, c4, c5, c6, c7, f0, f1, f2, f3, f4, f5, f6, f7⟩ := want_cells bW; have r0 : w3.cell? ⟨w.heap.size, 0, none⟩ = some (.int .i64 (b : Int)) := (by simp [World.cell?, bR]); have r1 : w3.cell? ⟨w.heap.size, 1, none⟩ = some (.int .i64 (c : Int)) := (by simp [World.cell?, bR]); have k0 : w3.cell? ⟨w.heap.size + 1, 0, none⟩ = some (.int .i64 1) := (by simp [World.cell?, bO]); have k1 : w3.cell? ⟨w.heap.size + 1, 1, none⟩ = some (.int .u64 v) := (by simp [World.cell?, bO]); have k2 : w3.cell? ⟨w.heap.size + 1, 2, none⟩ = some (.slice (some ⟨g, 0, none⟩) n cap) := (by simp [World.cell?, bO]); clear bR bO bW) | (go_at_call 70; (with_reducible refine (gw'.out w1).mono ?_); rintro e_ w2 ⟨rfl, q_w2⟩; have o_w2 := Lib.hid (o1.out.trans q_w2); clear r0 r1 k0 k1 k2 c0 c1 c2 c3 c4 c5 c6 c7 f0 f1 f2 f3 f4 f5 f6 f7; obtain ⟨bR, bO, bW⟩ := bl.out w2 o_w2.out; have bW2 := Lib.hid bW; obtain ⟨c0, c1, c2, c3, c4, c5, c6, c7, f0, f1, f2, f3, f4, f5, f6, f7⟩ := want_cells bW; have r0 : w2.cell? ⟨w.heap.size, 0, none⟩ = some (.int .i64 (b : Int)) := (by simp [World.cell?, bR]); have r1 : w2.cell? ⟨w.heap.size, 1, none⟩ = some (.int .i64 (c : Int)) := (by simp [World.cell?, bR]); have k0 : w2.cell? ⟨w.heap.size + 1, 0, none⟩ = some (.int .i64 1) := (by simp [World.cell?, bO]); have k1 : w2.cell? ⟨w.heap.size + 1, 1, none⟩ = some (.int .u64 v) := (by simp [World.cell?, bO]); have k2 : w2.cell? ⟨w.heap.size + 1, 2, none⟩ = some (.slice (some ⟨g, 0, none⟩) n cap) := (by simp [World.cell?, bO]); clear bR bO bW))
              refine bodyPost_ret (results_agg rfl _ _ (w.heap.size + 1 + 1) [.bool false, .int .i64 3, .int .i64 (b : Int), .int .u64 (T : Int), .int .u64 (IntKind.u64.wrap ((T : Int) + 1)), .int .i64 0, .int .u64 0, .int .u64 0] Try.isAgg64 Try.sizeOf64 rfl (set8_heap bW3.out (.bool false) (.int .i64 3) (.int .i64 (b : Int)) (.int .u64 (T : Int)) (.int .u64 (IntKind.u64.wrap ((T : Int) + 1))) (.int .i64 0) (.int .u64 0) (.int .u64 0))) rfl ?_
              exact ⟨by rw [e.out]; rfl, (n4'.out.trans o_w3.out).then (set8_only _ _ (.bool false) (.int .i64 3) (.int .i64 (b : Int)) (.int .u64 (T : Int)) (.int .u64 (IntKind.u64.wrap ((T : Int) + 1))) (.int .i64 0) (.int .u64 0) (.int .u64 0)) (fun q hq hl => by omega)⟩
            · have hd3 : ((n : Int) == (k : Int) + 2) = false := by simp; omega
              have kl2 : k + 2 < n := by have := kls.out; omega
              have kl2' : (k : Int) + 2 < (n : Int) := by omega
              have tn2 : ((k : Int) + 2).toNat = k + 2 := by omega
              have s5 := Lib.hid (runL_take c (.s0 (.put v)) log (k + 2) (by rw [hn'.out]; exact kl2))
              rw [s4.out] at s5
              obtain ⟨z, hz⟩ : ∃ z, log.getD (k + 2) 0 = z := ⟨_, rfl⟩
              rw [hz] at s5
              have XL := Lib.hid (fun (w' : World) (o : Only Nil wr w') => (show w'.cell? ⟨g, k + 2, none⟩ = some (.int .u64 z) from hz ▸ KL.out w' o (k + 2) kl2))
              have kl3 := Lib.hid kl2
              clear hz hk3 kl2
              by_cases hz0 : z = 0
              · have s6 := Lib.hid (show runL c (.s0 (.put v)) (log.take (k + 3)) = (.s0 (.put v)) by rw [show k + 3 = k + 2 + 1 by omega, s5.out]; simp only [res]; rw [if_pos hz0])
                subst hz0
                go_wp2_with (first | (go_at_call 70; (with_reducible refine (gw'.out w2).mono ?_); rintro e_ w3 ⟨rfl, q_w3⟩; have o_w3 := Lib.hid (o_w2.out.trans q_w3); have x2 := XL.out w3 ((o1r.out.trans q_w2).trans q_w3); clear r0 r1 k0 k1 k2 c0 c1 c2 c3 c4 c5 c6 c7 f0 f1 f2 f3 f4 f5 f6 f7; obtain ⟨bR, bO, bW⟩ := bl.out w3 o_w3.out; have bW3 := Lib.hid bW; obtain ⟨c0, c1, c2, c3, c4, c5, c6, c7, f0, f1, f2, f3, f4, f5, f6, f7⟩ := want_cells bW; have r0 : w3.cell? ⟨w.heap.size, 0, none⟩ = some (.int .i64 (b : Int)) := (by simp [World.cell?, bR]); have r1 : w3.cell? ⟨w.heap.size, 1, none⟩ = some (.int .i64 (c : Int)) := (by simp [World.cell?, bR]); have k0 : w3.cell? ⟨w.heap.size + 1, 0, none⟩ = some (.int .i64 1) := (by simp [World.cell?, bO]); have k1 : w3.cell? ⟨w.heap.size + 1, 1, none⟩ = some (.int .u64 v) := (by simp [World.cell?, bO]); have k2 : w3.cell? ⟨w.heap.size + 1, 2, none⟩ = some (.slice (some ⟨g, 0, none⟩) n cap) := (by simp [World.cell?, bO]); clear bR bO bW) | (go_at_call 70; (with_reducible refine (gw'.out w1).mono ?_); rintro e_ w2 ⟨rfl, q_w2⟩; have o_w2 := Lib.hid (o1.out.trans q_w2); clear r0 r1 k0 k1 k2 c0 c1 c2 c3 c4 c5 c6 c7 f0 f1 f2 f3 f4 f5 f6 f7; obtain ⟨bR, bO, bW⟩ := bl.out w2 o_w2.out; have bW2 := Lib.hid bW; obtain ⟨c0, c1, c2, c3, c4, c5, c6, c7, f0, f1, f2, f3, f4, f5, f6, f7⟩ := want_cells bW; have r0 : w2.cell? ⟨w.heap.size, 0, none⟩ = some (.int .i64 (b : Int)) := (by simp [World.cell?, bR]); have r1 : w2.cell? ⟨w.heap.size, 1, none⟩ = some (.int .i64 (c : Int)) := (by simp [World.cell?, bR]); have k0 : w2.cell? ⟨w.heap.size + 1, 0, none⟩ = some (.int .i64 1) := (by simp [World.cell?, bO]); have k1 : w2.cell? ⟨w.heap.size + 1, 1, none⟩ = some (.int .u64 v) := (by simp [World.cell?, bO]); have k2 : w2.cell? ⟨w.heap.size + 1, 2, none⟩ = some (.slice (some ⟨g, 0, none⟩) n cap) := (by simp [World.cell?, bO]); clear bR bO bW))
                go_roundw
                case rel => exact ⟨k + 3, by have := kl3.out; omega, by go_num, s6, o_w3⟩
                case measure => have := kl3.out; simp [intOf]; omega
              · have s6 := Lib.hid (show runL c (.s0 (.put v)) (log.take (k + 3)) = .s3 (.put v) (T : Int) by rw [show k + 3 = k + 2 + 1 by omega, s5.out]; simp only [res]; rw [if_neg hz0])
                have hzb : (z == 0) = false := by simpa using hz0
                clear hz0
                by_cases hk4 : n = k + 3
                · have hd4 : (n : Int) - (k : Int) = 3 := by omega
                  have e := Lib.hid (show runL c (.s0 (.put v)) log = .s3 (.put v) (T : Int) by rw [runL_all c _ log (k + 3) (by rw [hn'.out]; exact hk4.symm)]; exact s6.out)
                  clear hk4
                  go_wp2_with (first | (go_at_call 71; have lwN := lW.out.keep o_w3.out (fun _ _ _ h => False.elim h); (with_reducible refine (last_p3 _ b c v (some ⟨g, 0, none⟩) cap n T sl 3 rfl ⟨sl0, sl1⟩).mono ?_); clear lwN; rintro e_ w4 ⟨rfl, q_w4⟩; have o_w4 := Lib.hid (o_w3.out.trans q_w4); clear r0 r1 k0 k1 k2 c0 c1 c2 c3 c4 c5 c6 c7 f0 f1 f2 f3 f4 f5 f6 f7; obtain ⟨bR, bO, bW⟩ := bl.out w4 o_w4.out; have bW4 := Lib.hid bW; obtain ⟨c0, c1, c2, c3, c4, c5, c6, c7, f0, f1, f2, f3, f4, f5, f6, f7⟩ := want_cells bW; have r0 : w4.cell? ⟨w.heap.size, 0, none⟩ = some (.int .i64 (b : Int)) := (by simp [World.cell?, bR]); have r1 : w4.cell? ⟨w.heap.size, 1, none⟩ = some (.int .i64 (c : Int)) := (by simp [World.cell?, bR]); have k0 : w4.cell? ⟨w.heap.size + 1, 0, none⟩ = some (.int .i64 1) := (by simp [World.cell?, bO]); have k1 : w4.cell? ⟨w.heap.size + 1, 1, none⟩ = some (.int .u64 v) := (by simp [World.cell?, bO]); have k2 : w4.cell? ⟨w.heap.size + 1, 2, none⟩ = some (.slice (some ⟨g, 0, none⟩) n cap) := (by simp [World.cell?, bO]); clear bR bO bW) | (go_at_call 70; (with_reducible refine (gw'.out w2).mono ?_); rintro e_ w3 ⟨rfl, q_w3⟩; have o_w3 := Lib.hid (o_w2.out.trans q_w3); have x2 := XL.out w3 ((o1r.out.trans q_w2).trans q_w3); clear r0 r1 k0 k1 k2 c0 c1 c2 c3 c4 c5 c6 c7 f0 f1 f2 f3 f4 f5 f6 f7; obtain ⟨bR, bO, bW⟩ := bl.out w3 o_w3.out; have bW3 := Lib.hid bW; obtain ⟨c0, c1, c2, c3, c4, c5, c6, c7, f0, f1, f2, f3, f4, f5, f6, f7⟩ := want_cells bW; have r0 : w3.cell? ⟨w.heap.size, 0, none⟩ = some (.int .i64 (b : Int)) := (by simp [World.cell?, bR]); have r1 : w3.cell? ⟨w.heap.size, 1, none⟩ = some (.int .i64 (c : Int)) := (by simp [World.cell?, bR]); have k0 : w3.cell? ⟨w.heap.size + 1, 0, none⟩ = some (.int .i64 1) := (by simp [World.cell?, bO]); have k1 : w3.cell? ⟨w.heap.size + 1, 1, none⟩ = some (.int .u64 v) := (by simp [World.cell?, bO]); have k2 : w3.cell? ⟨w.heap.size + 1, 2, none⟩ = some (.slice (some ⟨g, 0, none⟩) n cap) := (by simp [World.cell?, bO]); clear bR bO bW) | (go_at_call 70; (with_reducible refine (gw'.out w1).mono ?_); rintro e_ w2 ⟨rfl, q_w2⟩; have o_w2 := Lib.hid (o1.out.trans q_w2); clear r0 r1 k0 k1 k2 c0 c1 c2 c3 c4 c5 c6 c7 f0 f1 f2 f3 f4 f5 f6 f7; obtain ⟨bR, bO, bW⟩ := bl.out w2 o_w2.out; have bW2 := Lib.hid bW; obtain ⟨c0, c1, c2, c3, c4, c5, c6, c7, f0, f1, f2, f3, f4, f5, f6, f7⟩ := want_cells bW; have r0 : w2.cell? ⟨w.heap.size, 0, none⟩ = some (.int .i64 (b : Int)) := (by simp [World.cell?, bR]); have r1 : w2.cell? ⟨w.heap.size, 1, none⟩ = some (.int .i64 (c : Int)) := (by simp [World.cell?, bR]); have k0 : w2.cell? ⟨w.heap.size + 1, 0, none⟩ = some (.int .i64 1) := (by simp [World.cell?, bO]); have k1 : w2.cell? ⟨w.heap.size + 1, 1, none⟩ = some (.int .u64 v) := (by simp [World.cell?, bO]); have k2 : w2.cell? ⟨w.heap.size + 1, 2, none⟩ = some (.slice (some ⟨g, 0, none⟩) n cap) := (by simp [World.cell?, bO]); clear bR bO bW))
                  refine bodyPost_ret (results_agg rfl _ _ (w.heap.size + 1 + 1) [.bool false, .int .i64 2, .int .i64 (sl + 1), .int .u64 v, .int .u64 0, .int .i64 0, .int .u64 0, .int .u64 0] Try.isAgg64 Try.sizeOf64 rfl (set8_heap bW4.out (.bool false) (.int .i64 2) (.int .i64 (sl + 1)) (.int .u64 v) (.int .u64 0) (.int .i64 0) (.int .u64 0) (.int .u64 0))) rfl ?_
                  exact ⟨by rw [e.out]; simp only [wantOf, acc, valAcc, accWant, ← hcell.out]; rfl, (n4'.out.trans o_w4.out).then (set8_only _ _ (.bool false) (.int .i64 2) (.int .i64 (sl + 1)) (.int .u64 v) (.int .u64 0) (.int .i64 0) (.int .u64 0) (.int .u64 0)) (fun q hq hl => by omega)⟩
                · have s7 := Lib.hid (show runL c (.s0 (.put v)) (log.take (k + 4)) = .s4 (.put v) (T : Int) (Dir.keeps (log.getD (k + 3) 0) (.put v)) by rw [show k + 4 = k + 3 + 1 by omega, runL_take c (.s0 (.put v)) log (k + 3) (by rw [hn'.out]; have := kl3.out; omega), s6.out]; rfl)
                  by_cases hk5 : n = k + 4
                  · have hd4 : (n : Int) - (k : Int) = 4 := by omega
                    have e := Lib.hid (show runL c (.s0 (.put v)) log = .s4 (.put v) (T : Int) (Dir.keeps (log.getD (k + 3) 0) (.put v)) by rw [runL_all c _ log (k + 4) (by rw [hn'.out]; exact hk5.symm)]; exact s7.out)
                    clear hk4 hk5
                    go_wp2_with (first | (go_at_call 71; have lwN := lW.out.keep o_w3.out (fun _ _ _ h => False.elim h); (with_reducible refine (last_p4 _ b c v (some ⟨g, 0, none⟩) cap n T sl 4 rfl hlast.out.1 hlast.out.2.1 hlast.out.2.2 ⟨sl0, sl1⟩).mono ?_); clear lwN; rintro e_ w4 ⟨rfl, q_w4⟩; have o_w4 := Lib.hid (o_w3.out.trans q_w4); clear r0 r1 k0 k1 k2 c0 c1 c2 c3 c4 c5 c6 c7 f0 f1 f2 f3 f4 f5 f6 f7; obtain ⟨bR, bO, bW⟩ := bl.out w4 o_w4.out; have bW4 := Lib.hid bW; obtain ⟨c0, c1, c2, c3, c4, c5, c6, c7, f0, f1, f2, f3, f4, f5, f6, f7⟩ := want_cells bW; have r0 : w4.cell? ⟨w.heap.size, 0, none⟩ = some (.int .i64 (b : Int)) := (by simp [World.cell?, bR]); have r1 : w4.cell? ⟨w.heap.size, 1, none⟩ = some (.int .i64 (c : Int)) := (by simp [World.cell?, bR]); have k0 : w4.cell? ⟨w.heap.size + 1, 0, none⟩ = some (.int .i64 1) := (by simp [World.cell?, bO]); have k1 : w4.cell? ⟨w.heap.size + 1, 1, none⟩ = some (.int .u64 v) := (by simp [World.cell?, bO]); have k2 : w4.cell? ⟨w.heap.size + 1, 2, none⟩ = some (.slice (some ⟨g, 0, none⟩) n cap) := (by simp [World.cell?, bO]); clear bR bO bW) | (go_at_call 70; (with_reducible refine (gw'.out w2).mono ?_); rintro e_ w3 ⟨rfl, q_w3⟩; have o_w3 := Lib.hid (o_w2.out.trans q_w3); have x2 := XL.out w3 ((o1r.out.trans q_w2).trans q_w3); clear r0 r1 k0 k1 k2 c0 c1 c2 c3 c4 c5 c6 c7 f0 f1 f2 f3 f4 f5 f6 f7; obtain ⟨bR, bO, bW⟩ := bl.out w3 o_w3.out; have bW3 := Lib.hid bW; obtain ⟨c0, c1, c2, c3, c4, c5, c6, c7, f0, f1, f2, f3, f4, f5, f6, f7⟩ := want_cells bW; have r0 : w3.cell? ⟨w.heap.size, 0, none⟩ = some (.int .i64 (b : Int)) := (by simp [World.cell?, bR]); have r1 : w3.cell? ⟨w.heap.size, 1, none⟩ = some (.int .i64 (c : Int)) := (by simp [World.cell?, bR]); have k0 : w3.cell? ⟨w.heap.size + 1, 0, none⟩ = some (.int .i64 1) := (by simp [World.cell?, bO]); have k1 : w3.cell? ⟨w.heap.size + 1, 1, none⟩ = some (.int .u64 v) := (by simp [World.cell?, bO]); have k2 : w3.cell? ⟨w.heap.size + 1, 2, none⟩ = some (.slice (some ⟨g, 0, none⟩) n cap) := (by simp [World.cell?, bO]); clear bR bO bW) | (go_at_call 70; (with_reducible refine (gw'.out w1).mono ?_); rintro e_ w2 ⟨rfl, q_w2⟩; have o_w2 := Lib.hid (o1.out.trans q_w2); clear r0 r1 k0 k1 k2 c0 c1 c2 c3 c4 c5 c6 c7 f0 f1 f2 f3 f4 f5 f6 f7; obtain ⟨bR, bO, bW⟩ := bl.out w2 o_w2.out; have bW2 := Lib.hid bW; obtain ⟨c0, c1, c2, c3, c4, c5, c6, c7, f0, f1, f2, f3, f4, f5, f6, f7⟩ := want_cells bW; have r0 : w2.cell? ⟨w.heap.size, 0, none⟩ = some (.int .i64 (b : Int)) := (by simp [World.cell?, bR]); have r1 : w2.cell? ⟨w.heap.size, 1, none⟩ = some (.int .i64 (c : Int)) := (by simp [World.cell?, bR]); have k0 : w2.cell? ⟨w.heap.size + 1, 0, none⟩ = some (.int .i64 1) := (by simp [World.cell?, bO]); have k1 : w2.cell? ⟨w.heap.size + 1, 1, none⟩ = some (.int .u64 v) := (by simp [World.cell?, bO]); have k2 : w2.cell? ⟨w.heap.size + 1, 2, none⟩ = some (.slice (some ⟨g, 0, none⟩) n cap) := (by simp [World.cell?, bO]); clear bR bO bW))
                    refine bodyPost_ret (results_agg rfl _ _ (w.heap.size + 1 + 1) [.bool false, .int .i64 2, .int .i64 sl, .int .u64 (wt c (T : Int) + 1), .int .u64 0, .int .i64 0, .int .u64 0, .int .u64 0] Try.isAgg64 Try.sizeOf64 rfl (set8_heap bW4.out (.bool false) (.int .i64 2) (.int .i64 sl) (.int .u64 (wt c (T : Int) + 1)) (.int .u64 0) (.int .i64 0) (.int .u64 0) (.int .u64 0))) rfl ?_
                    exact ⟨by rw [e.out]; simp only [wantOf, acc, accWant, hcell.out, show Dir.lead (.put v) = 0 from rfl, due_0, up]; rw [show IntKind.u64.wrap (wt c (T : Int) + 1) = wt c (T : Int) + 1 by have := wt_even c (T : Int); rw [IntKind.wrap_u64]; omega], (n4'.out.trans o_w4.out).then (set8_only _ _ (.bool false) (.int .i64 2) (.int .i64 sl) (.int .u64 (wt c (T : Int) + 1)) (.int .u64 0) (.int .i64 0) (.int .u64 0) (.int .u64 0)) (fun q hq hl => by omega)⟩
                  · have hm5 := Lib.hid (show 5 ≤ (n : Int) - (k : Int) by have := kl3.out; omega)
                    have hn5 := Lib.hid (show 5 ≤ n by have := kl3.out; omega)
                    have e := Lib.hid (show runL c (.s0 (.put v)) log = .over 1 0 from runL_done c _ log (k + 5) (by rw [show k + 5 = k + 4 + 1 by omega, runL_take c (.s0 (.put v)) log (k + 4) (by rw [hn'.out]; have := kl3.out; omega), s7.out]; rfl))
                    clear hk4 hk5
                    go_wp2_with (first | (go_at_call 71; have lwN := lW.out.keep o_w3.out (fun _ _ _ h => False.elim h); (with_reducible refine (last_p5 _ b c v (some ⟨g, 0, none⟩) cap n T sl _ hm5.out ⟨sl0, sl1⟩).mono ?_); clear lwN; rintro e_ w4 ⟨rfl, q_w4⟩; have o_w4 := Lib.hid (o_w3.out.trans q_w4); clear r0 r1 k0 k1 k2 c0 c1 c2 c3 c4 c5 c6 c7 f0 f1 f2 f3 f4 f5 f6 f7; obtain ⟨bR, bO, bW⟩ := bl.out w4 o_w4.out; have bW4 := Lib.hid bW; obtain ⟨c0, c1, c2, c3, c4, c5, c6, c7, f0, f1, f2, f3, f4, f5, f6, f7⟩ := want_cells bW; have r0 : w4.cell? ⟨w.heap.size, 0, none⟩ = some (.int .i64 (b : Int)) := (by simp [World.cell?, bR]); have r1 : w4.cell? ⟨w.heap.size, 1, none⟩ = some (.int .i64 (c : Int)) := (by simp [World.cell?, bR]); have k0 : w4.cell? ⟨w.heap.size + 1, 0, none⟩ = some (.int .i64 1) := (by simp [World.cell?, bO]); have k1 : w4.cell? ⟨w.heap.size + 1, 1, none⟩ = some (.int .u64 v) := (by simp [World.cell?, bO]); have k2 : w4.cell? ⟨w.heap.size + 1, 2, none⟩ = some (.slice (some ⟨g, 0, none⟩) n cap) := (by simp [World.cell?, bO]); clear bR bO bW) | (go_at_call 70; (with_reducible refine (gw'.out w2).mono ?_); rintro e_ w3 ⟨rfl, q_w3⟩; have o_w3 := Lib.hid (o_w2.out.trans q_w3); have x2 := XL.out w3 ((o1r.out.trans q_w2).trans q_w3); clear r0 r1 k0 k1 k2 c0 c1 c2 c3 c4 c5 c6 c7 f0 f1 f2 f3 f4 f5 f6 f7; obtain ⟨bR, bO, bW⟩ := bl.out w3 o_w3.out; have bW3 := Lib.hid bW; obtain ⟨c0, c1, c2, c3, c4, c5, c6, c7, f0, f1, f2, f3, f4, f5, f6, f7⟩ := want_cells bW; have r0 : w3.cell? ⟨w.heap.size, 0, none⟩ = some (.int .i64 (b : Int)) := (by simp [World.cell?, bR]); have r1 : w3.cell? ⟨w.heap.size, 1, none⟩ = some (.int .i64 (c : Int)) := (by simp [World.cell?, bR]); have k0 : w3.cell? ⟨w.heap.size + 1, 0, none⟩ = some (.int .i64 1) := (by simp [World.cell?, bO]); have k1 : w3.cell? ⟨w.heap.size + 1, 1, none⟩ = some (.int .u64 v) := (by simp [World.cell?, bO]); have k2 : w3.cell? ⟨w.heap.size + 1, 2, none⟩ = some (.slice (some ⟨g, 0, none⟩) n cap) := (by simp [World.cell?, bO]); clear bR bO bW) | (go_at_call 70; (with_reducible refine (gw'.out w1).mono ?_); rintro e_ w2 ⟨rfl, q_w2⟩; have o_w2 := Lib.hid (o1.out.trans q_w2); clear r0 r1 k0 k1 k2 c0 c1 c2 c3 c4 c5 c6 c7 f0 f1 f2 f3 f4 f5 f6 f7; obtain ⟨bR, bO, bW⟩ := bl.out w2 o_w2.out; have bW2 := Lib.hid bW; obtain ⟨c0, c1, c2, c3, c4, c5, c6, c7, f0, f1, f2, f3, f4, f5, f6, f7⟩ := want_cells bW; have r0 : w2.cell? ⟨w.heap.size, 0, none⟩ = some (.int .i64 (b : Int)) := (by simp [World.cell?, bR]); have r1 : w2.cell? ⟨w.heap.size, 1, none⟩ = some (.int .i64 (c : Int)) := (by simp [World.cell?, bR]); have k0 : w2.cell? ⟨w.heap.size + 1, 0, none⟩ = some (.int .i64 1) := (by simp [World.cell?, bO]); have k1 : w2.cell? ⟨w.heap.size + 1, 1, none⟩ = some (.int .u64 v) := (by simp [World.cell?, bO]); have k2 : w2.cell? ⟨w.heap.size + 1, 2, none⟩ = some (.slice (some ⟨g, 0, none⟩) n cap) := (by simp [World.cell?, bO]); clear bR bO bW))
                    refine bodyPost_ret (results_agg rfl _ _ (w.heap.size + 1 + 1) [.bool true, .int .i64 0, .int .i64 0, .int .u64 0, .int .u64 0, .int .i64 1, .int .u64 0, .int .u64 0] Try.isAgg64 Try.sizeOf64 rfl (set8_heap bW4.out (.bool true) (.int .i64 0) (.int .i64 0) (.int .u64 0) (.int .u64 0) (.int .i64 1) (.int .u64 0) (.int .u64 0))) rfl ?_
                    exact ⟨by rw [e.out]; rfl, (n4'.out.trans o_w4.out).then (set8_only _ _ (.bool true) (.int .i64 0) (.int .i64 0) (.int .u64 0) (.int .u64 0) (.int .i64 1) (.int .u64 0) (.int .u64 0)) (fun q hq hl => by omega)⟩

set_option maxRecDepth 100000 in
set_option maxHeartbeats 16000000 in
theorem rnext_take (w : World) (b c : Nat) (v : Int) (a : Option Addr) (cap : Nat) (log : List Int) (hc : 0 < c) (hc2 : c ≤ 64) (hb : b ≤ 1000) (hl : LogIn w a log) (hok : LogOk log) (hlen : log.length ≤ 1000000) (hov : ∀ k, k + 4 < log.length → ∀ T, runL c (.s0 .take) (log.take (k + 3)) = .s3 .take T → log.length = k + 5) :
    Calls Try.prog 31 #[.agg #[.int .i64 (b : Int), .int .i64 (c : Int)], .agg #[.int .i64 2, .int .u64 v, .slice a log.length cap]] w fun e w' => e = .returned (wantOf b c (runL c (.s0 .take) log)) ∧ Only Nil w w' := by
  have hl' := Lib.hid hl
  have hok' := Lib.hid hok
  have hov' := Lib.hid hov
  clear hl hok hov
  generalize hn : log.length = n at hlen ⊢
  have hn' := Lib.hid hn
  clear hn
  have hlen' : (n : Int) ≤ 1000000 := by omega
  have nlen := Lib.hid hlen
  have hbi : (b : Int) ≤ 1000 := by omega
  have hcc := Lib.hid (And.intro hc (And.intro hc2 hb))
  clear hlen hc hc2 hb
  go_enter Try.func31, Try.ntmps31
  go_upto_region 1 with (fail)
  obtain ⟨n1, n2, n3, n4⟩ := three_new w (.cells #[.int .i64 (b : Int), .int .i64 (c : Int)] 47) (.cells #[.int .i64 2, .int .u64 v, .slice a n cap] 59) (.cells #[.bool false, .int .i64 0, .int .i64 0, .int .u64 0, .int .u64 0, .int .i64 0, .int .u64 0, .int .u64 0] 64)
  generalize (((w.alloc (.cells #[.int .i64 (b : Int), .int .i64 (c : Int)] 47)).alloc (.cells #[.int .i64 2, .int .u64 v, .slice a n cap] 59)).alloc (.cells #[.bool false, .int .i64 0, .int .i64 0, .int .u64 0, .int .u64 0, .int .i64 0, .int .u64 0, .int .u64 0] 64)) = Z at *
  have lW := Lib.hid (hl'.out.keep n4 (fun _ _ _ h => h.elim))
  have bl := Lib.hid (fun (w' : World) (o : Only Nil Z w') =>
    And.intro ((o.block _ (lt_of_block n1) (fun h => h)).trans n1) (And.intro ((o.block _ (lt_of_block n2) (fun h => h)).trans n2) ((o.block _ (lt_of_block n3) (fun h => h)).trans n3)))
  have n4' := Lib.hid n4
  clear n1 n2 n3 n4 hl'
  obtain ⟨bR, bO, bW⟩ := bl.out Z (Only.refl Nil Z)
  have bWZ := Lib.hid bW
  obtain ⟨c0, c1, c2, c3, c4, c5, c6, c7, f0, f1, f2, f3, f4, f5, f6, f7⟩ := want_cells bW
  have r0 : Z.cell? ⟨w.heap.size, 0, none⟩ = some (.int .i64 (b : Int)) := (by simp [World.cell?, bR])
  have r1 : Z.cell? ⟨w.heap.size, 1, none⟩ = some (.int .i64 (c : Int)) := (by simp [World.cell?, bR])
  have k0 : Z.cell? ⟨w.heap.size + 1, 0, none⟩ = some (.int .i64 2) := (by simp [World.cell?, bO])
  have k1 : Z.cell? ⟨w.heap.size + 1, 1, none⟩ = some (.int .u64 v) := (by simp [World.cell?, bO])
  have k2 : Z.cell? ⟨w.heap.size + 1, 2, none⟩ = some (.slice a n cap) := (by simp [World.cell?, bO])
  clear bR bO bW
  go_wp2_with (fail)
  clear r0 r1 k0 k1 k2 c0 c1 c2 c3 c4 c5 c6 c7 f0 f1 f2 f3 f4 f5 f6 f7
  go_loopw [6] (fun s6 wr => ∃ (k : Nat), k ≤ n ∧ s6 = .int .i64 (k : Int) ∧ Hid (runL c (.s0 .take) (log.take k) = (.s0 .take)) ∧ Hid (Only Nil Z wr))
    (fun s6 _ => n + 1 - (intOf s6).toNat)
  case atStart => exact ⟨0, Nat.zero_le _, rfl, Lib.hid rfl, Lib.hid (Only.refl _ _)⟩
  case round =>
    obtain ⟨k, hk, rfl, hst, ho⟩ := hrel
    by_cases hkn : k = n
    · obtain rfl : n = k := hkn.symm
      have e := Lib.hid (show runL c (.s0 .take) log = (.s0 .take) by rw [runL_all c _ log n hn'.out.symm]; exact hst.out)
      obtain ⟨bR, bO, bW⟩ := bl.out wr ho.out
      have bW0 := Lib.hid bW
      obtain ⟨c0, c1, c2, c3, c4, c5, c6, c7, f0, f1, f2, f3, f4, f5, f6, f7⟩ := want_cells bW
      have r0 : wr.cell? ⟨w.heap.size, 0, none⟩ = some (.int .i64 (b : Int)) := (by simp [World.cell?, bR])
      have r1 : wr.cell? ⟨w.heap.size, 1, none⟩ = some (.int .i64 (c : Int)) := (by simp [World.cell?, bR])
      have k0 : wr.cell? ⟨w.heap.size + 1, 0, none⟩ = some (.int .i64 2) := (by simp [World.cell?, bO])
      have k1 : wr.cell? ⟨w.heap.size + 1, 1, none⟩ = some (.int .u64 v) := (by simp [World.cell?, bO])
      have k2 : wr.cell? ⟨w.heap.size + 1, 2, none⟩ = some (.slice a n cap) := (by simp [World.cell?, bO])
      clear bR bO bW
      clear hk hkn
      go_wp2_with (fail)
      refine bodyPost_ret (results_agg rfl _ _ (w.heap.size + 1 + 1) [.bool false, .int .i64 1, .int .i64 ((b : Int) + 1), .int .u64 0, .int .u64 0, .int .i64 0, .int .u64 0, .int .u64 0] Try.isAgg64 Try.sizeOf64 rfl (set8_heap bW0.out (.bool false) (.int .i64 1) (.int .i64 ((b : Int) + 1)) (.int .u64 0) (.int .u64 0) (.int .i64 0) (.int .u64 0) (.int .u64 0))) rfl ?_
      exact ⟨by rw [e.out]; rfl, (n4'.out.trans ho.out).then (set8_only _ _ (.bool false) (.int .i64 1) (.int .i64 ((b : Int) + 1)) (.int .u64 0) (.int .u64 0) (.int .i64 0) (.int .u64 0) (.int .u64 0)) (fun q hq hl => by omega)⟩
    · have hkl : k < n := by omega
      have hk1 : ¬ ((n : Int) = (k : Int)) := by omega
      have lk := Lib.hid (lW.out.keep ho.out (fun _ _ _ h => h.elim))
      obtain ⟨g, rfl, hg1, hg2⟩ := lk.out k (by rw [hn'.out]; exact hkl)
      have x0 := hg2 k (by rw [hn'.out]; exact hkl)
      have KL := Lib.hid (fun (w' : World) (o : Only Nil wr w') (j : Nat) (hj : j < n) => (World.cell?_of_block (a := ⟨g, j, none⟩) (o.block g hg1 (fun h => h))).trans (hg2 j (by rw [hn'.out]; exact hj)))
      have hT0 := hok'.out k (by rw [hn'.out]; exact hkl)
      have s1 := Lib.hid (runL_take c (.s0 .take) log k (by rw [hn'.out]; exact hkl))
      rw [hst.out] at s1
      obtain ⟨T, hT1⟩ : ∃ T : Nat, log.getD k 0 = (T : Int) := ⟨(log.getD k 0).toNat, by omega⟩
      rw [hT1] at x0 hT0 s1
      have hT := Lib.hid (show T < 18446744073709551616 by omega)
      have s2 := Lib.hid (show runL c (.s0 .take) (log.take (k + 1)) = .s1 .take (T : Int) from s1.out)
      clear hg2 hT1 hg1 hT0 s1
      obtain ⟨bR, bO, bW⟩ := bl.out wr ho.out
      have bW0 := Lib.hid bW
      obtain ⟨c0, c1, c2, c3, c4, c5, c6, c7, f0, f1, f2, f3, f4, f5, f6, f7⟩ := want_cells bW
      have r0 : wr.cell? ⟨w.heap.size, 0, none⟩ = some (.int .i64 (b : Int)) := (by simp [World.cell?, bR])
      have r1 : wr.cell? ⟨w.heap.size, 1, none⟩ = some (.int .i64 (c : Int)) := (by simp [World.cell?, bR])
      have k0 : wr.cell? ⟨w.heap.size + 1, 0, none⟩ = some (.int .i64 2) := (by simp [World.cell?, bO])
      have k1 : wr.cell? ⟨w.heap.size + 1, 1, none⟩ = some (.int .u64 v) := (by simp [World.cell?, bO])
      have k2 : wr.cell? ⟨w.heap.size + 1, 2, none⟩ = some (.slice (some ⟨g, 0, none⟩) n cap) := (by simp [World.cell?, bO])
      clear bR bO bW
      have e1 : IntKind.u64.wrap (c : Int) = (c : Int) := by have := hcc.out; rw [IntKind.wrap_u64]; omega
      have e2 : Int.tmod (T : Int) (c : Int) = ((T % c : Nat) : Int) := rfl
      have e3 : ¬ ((c : Int) = 0) := by have := hcc.out; omega
      have hm := Nat.mod_lt T hcc.out.1
      have hcell := Lib.hid (show (turnAt b c (T : Int) : Int) = (b : Int) + 2 + 2 * ((T % c : Nat) : Int) by unfold turnAt turnIn; simp; omega)
      generalize T % c = r at e2 hm hcell
      have hr' : (r : Int) < 64 := by have := hcc.out; omega
      have q1 : IntKind.i64.wrap ((b : Int) + 2) = (b : Int) + 2 := IntWalk.i64_in _ (by omega)
      have q2 : IntKind.i64.wrap (r : Int) = (r : Int) := IntWalk.i64_in _ (by omega)
      have q3 : IntKind.i64.wrap (2 * (r : Int)) = 2 * (r : Int) := IntWalk.i64_in _ (by omega)
      have q4 : IntKind.i64.wrap ((b : Int) + 2 + 2 * (r : Int)) = (b : Int) + 2 + 2 * (r : Int) := IntWalk.i64_in _ (by omega)
      have hk2 := Lib.hid hkl
      clear hm hk hkn hkl
      go_upto_region 9 with (fail)
      go_quiet (fail)
      have o1 := Lib.hid (ho.out.drewN nq)
      have o1r := Lib.hid ((Only.refl Nil wr).drewN nq)
      clear x0 e1 e2 e3 q1 q2 q3 q4 hk1
      clear r0 r1 k0 k1 k2 c0 c1 c2 c3 c4 c5 c6 c7 f0 f1 f2 f3 f4 f5 f6 f7
      generalize wr.drewN nq = w1 at o1 o1r ⊢
      obtain ⟨bR, bO, bW⟩ := bl.out w1 o1.out
      have bW1 := Lib.hid bW
      obtain ⟨c0, c1, c2, c3, c4, c5, c6, c7, f0, f1, f2, f3, f4, f5, f6, f7⟩ := want_cells bW
      have r0 : w1.cell? ⟨w.heap.size, 0, none⟩ = some (.int .i64 (b : Int)) := (by simp [World.cell?, bR])
      have r1 : w1.cell? ⟨w.heap.size, 1, none⟩ = some (.int .i64 (c : Int)) := (by simp [World.cell?, bR])
      have k0 : w1.cell? ⟨w.heap.size + 1, 0, none⟩ = some (.int .i64 2) := (by simp [World.cell?, bO])
      have k1 : w1.cell? ⟨w.heap.size + 1, 1, none⟩ = some (.int .u64 v) := (by simp [World.cell?, bO])
      have k2 : w1.cell? ⟨w.heap.size + 1, 2, none⟩ = some (.slice (some ⟨g, 0, none⟩) n cap) := (by simp [World.cell?, bO])
      clear bR bO bW
      have sl0 : (0 : Int) ≤ (b : Int) + 2 + 2 * (r : Int) := by omega
      have sl1 : (b : Int) + 2 + 2 * (r : Int) ≤ 100000 := by omega
      generalize (b : Int) + 2 + 2 * (r : Int) = sl at hcell sl0 sl1 ⊢
      clear hr'
      by_cases hk1 : n = k + 1
      · have hd2 : ((n : Int) == (k : Int) + 1) = true := by simp; omega
        have e := Lib.hid (show runL c (.s0 .take) log = .s1 .take (T : Int) by rw [runL_all c _ log (k + 1) (by rw [hn'.out]; exact hk1.symm)]; exact s2.out)
        clear hk1
        go_wp2_with (fail)
        refine bodyPost_ret (results_agg rfl _ _ (w.heap.size + 1 + 1) [.bool false, .int .i64 1, .int .i64 sl, .int .u64 0, .int .u64 0, .int .i64 0, .int .u64 0, .int .u64 0] Try.isAgg64 Try.sizeOf64 rfl (set8_heap bW1.out (.bool false) (.int .i64 1) (.int .i64 sl) (.int .u64 0) (.int .u64 0) (.int .i64 0) (.int .u64 0) (.int .u64 0))) rfl ?_
        exact ⟨by rw [e.out]; simp only [wantOf, acc, accWant, hcell.out], (n4'.out.trans o1.out).then (set8_only _ _ (.bool false) (.int .i64 1) (.int .i64 sl) (.int .u64 0) (.int .u64 0) (.int .i64 0) (.int .u64 0) (.int .u64 0)) (fun q hq hl => by omega)⟩
      · have hd2 : ((n : Int) == (k : Int) + 1) = false := by simp; omega
        have kl1 : k + 1 < n := by have := hk2.out; omega
        have kl1' : (k : Int) + 1 < (n : Int) := by omega
        have x1 := KL.out w1 o1r.out (k + 1) kl1
        have hS0 := hok'.out (k + 1) (by rw [hn'.out]; exact kl1)
        have s3 := Lib.hid (runL_take c (.s0 .take) log (k + 1) (by rw [hn'.out]; exact kl1))
        rw [s2.out] at s3
        obtain ⟨Sv, hSv⟩ : ∃ Sv, log.getD (k + 1) 0 = Sv := ⟨_, rfl⟩
        rw [hSv] at x1 hS0 s3
        clear hSv
        simp only [res, show Dir.lead .take = 1 from rfl, due_1] at s3
        have gw := fun w => gwait_any w b c T hT.out hcc.out.1 hcc.out.2.1
        have hwe := wt_even c (T : Int)
        have tn1 : ((k : Int) + 1).toNat = k + 1 := by omega
        obtain ⟨W, hW⟩ : ∃ W, wt c (T : Int) = W := ⟨_, rfl⟩
        rw [hW] at s3 hwe
        simp only [hW] at gw
        have gw' := Lib.hid gw
        have hW' := Lib.hid hW
        have w0_ : (0 : Int) ≤ W := hwe.1
        have wk1 : IntKind.u64.wrap (W + 1) = W + 1 := by rw [IntKind.wrap_u64]; omega
        have wk0 : IntKind.u64.wrap W = W := by rw [IntKind.wrap_u64]; omega
        have hlast := Lib.hid (And.intro hT.out (And.intro hcc.out.1 hcc.out.2.1))
        have kls := Lib.hid kl1
        have hS1 := Lib.hid hS0
        clear gw hW hwe kl1 hS0
        by_cases hhi : (W + 1) < Sv
        · have s4 := Lib.hid (show runL c (.s0 .take) (log.take (k + 2)) = (.s0 .take) by rw [show k + 2 = k + 1 + 1 by omega, s3.out, if_pos hhi])
          have d1 : decide ((W + 1) < Sv) = true := decide_eq_true hhi
          clear hhi hk1
          go_wp2_with (go_at_call 70; (with_reducible refine (gw'.out _).mono ?_); rintro e_ w2 ⟨rfl, q2⟩)
          have fin := Lib.hid (o1.out.trans q2)
          go_roundw
          case rel => exact ⟨k + 2, by have := kls.out; omega, by go_num, s4, fin⟩
          case measure => have := kls.out; simp [intOf]; omega
        · have d1 : decide ((W + 1) < Sv) = false := decide_eq_false hhi
          by_cases hlo : Sv < (W + 1)
          · have d2 : decide (Sv < (W + 1)) = true := decide_eq_true hlo
            have e := Lib.hid (show runL c (.s0 .take) log = .over 4 0 from runL_done c _ log (k + 1 + 1) (by rw [s3.out, if_neg hhi, if_pos hlo]; rfl))
            clear hhi hlo hk1
            go_wp2_with (first | (go_at_call 70; (with_reducible refine (gw'.out w2).mono ?_); rintro e_ w3 ⟨rfl, q_w3⟩; have o_w3 := Lib.hid (o_w2.out.trans q_w3); clear r0 r1 k0 k1 k2 c0 c1 c2 c3 c4 c5 c6 c7 f0 f1 f2 f3 f4 f5 f6 f7; obtain ⟨bR, bO, bW⟩ := bl.out w3 o_w3.out; have bW3 := Lib.hid bW; obtain ⟨c0, c1, c2, c3, c4, c5, c6, c7, f0, f1, f2, f3, f4, f5, f6, f7⟩ := want_cells bW; have r0 : w3.cell? ⟨w.heap.size, 0, none⟩ = some (.int .i64 (b : Int)) := (by simp [World.cell?, bR]); have r1 : w3.cell? ⟨w.heap.size, 1, none⟩ = some (.int .i64 (c : Int)) := (by simp [World.cell?, bR]); have k0 : w3.cell? ⟨w.heap.size + 1, 0, none⟩ = some (.int .i64 2) := (by simp [World.cell?, bO]); have k1 : w3.cell? ⟨w.heap.size + 1, 1, none⟩ = some (.int .u64 v) := (by simp [World.cell?, bO]); have k2 : w3.cell? ⟨w.heap.size + 1, 2, none⟩ = some (.slice (some ⟨g, 0, none⟩) n cap) := (by simp [World.cell?, bO]); clear bR bO bW) | (go_at_call 70; (with_reducible refine (gw'.out w1).mono ?_); rintro e_ w2 ⟨rfl, q_w2⟩; have o_w2 := Lib.hid (o1.out.trans q_w2); clear r0 r1 k0 k1 k2 c0 c1 c2 c3 c4 c5 c6 c7 f0 f1 f2 f3 f4 f5 f6 f7; obtain ⟨bR, bO, bW⟩ := bl.out w2 o_w2.out; have bW2 := Lib.hid bW; obtain ⟨c0, c1, c2, c3, c4, c5, c6, c7, f0, f1, f2, f3, f4, f5, f6, f7⟩ := want_cells bW; have r0 : w2.cell? ⟨w.heap.size, 0, none⟩ = some (.int .i64 (b : Int)) := (by simp [World.cell?, bR]); have r1 : w2.cell? ⟨w.heap.size, 1, none⟩ = some (.int .i64 (c : Int)) := (by simp [World.cell?, bR]); have k0 : w2.cell? ⟨w.heap.size + 1, 0, none⟩ = some (.int .i64 2) := (by simp [World.cell?, bO]); have k1 : w2.cell? ⟨w.heap.size + 1, 1, none⟩ = some (.int .u64 v) := (by simp [World.cell?, bO]); have k2 : w2.cell? ⟨w.heap.size + 1, 2, none⟩ = some (.slice (some ⟨g, 0, none⟩) n cap) := (by simp [World.cell?, bO]); clear bR bO bW))
            refine bodyPost_ret (results_agg rfl _ _ (w.heap.size + 1 + 1) [.bool true, .int .i64 0, .int .i64 0, .int .u64 0, .int .u64 0, .int .i64 4, .int .u64 0, .int .u64 0] Try.isAgg64 Try.sizeOf64 rfl (set8_heap bW3.out (.bool true) (.int .i64 0) (.int .i64 0) (.int .u64 0) (.int .u64 0) (.int .i64 4) (.int .u64 0) (.int .u64 0))) rfl ?_
            exact ⟨by rw [e.out]; rfl, (n4'.out.trans o_w3.out).then (set8_only _ _ (.bool true) (.int .i64 0) (.int .i64 0) (.int .u64 0) (.int .u64 0) (.int .i64 4) (.int .u64 0) (.int .u64 0)) (fun q hq hl => by omega)⟩
          · have d2 : decide (Sv < (W + 1)) = false := decide_eq_false hlo
            have s4 := Lib.hid (show runL c (.s0 .take) (log.take (k + 2)) = .s2 .take (T : Int) by rw [show k + 2 = k + 1 + 1 by omega, s3.out, if_neg hhi, if_neg hlo])
            clear hhi hlo hk1
            by_cases hk3 : n = k + 2
            · have hd3 : ((n : Int) == (k : Int) + 2) = true := by simp; omega
              have e := Lib.hid (show runL c (.s0 .take) log = .s2 .take (T : Int) by rw [runL_all c _ log (k + 2) (by rw [hn'.out]; exact hk3.symm)]; exact s4.out)
              clear hk3
              go_wp2_with (first | (go_at_call 70; (with_reducible refine (gw'.out w2).mono ?_); rintro e_ w3 ⟨rfl, q_w3⟩; have o_w3 := Lib.hid (o_w2.out.trans q_w3); clear r0 r1 k0 k1 k2 c0 c1 c2 c3 c4 c5 c6 c7 f0 f1 f2 f3 f4 f5 f6 f7; obtain ⟨bR, bO, bW⟩ := bl.out w3 o_w3.out; have bW3 := Lib.hid bW; obtain ⟨c0, c1, c2, c3, c4, c5, c6, c7, f0, f1, f2, f3, f4, f5, f6, f7⟩ := want_cells bW; have r0 : w3.cell? ⟨w.heap.size, 0, none⟩ = some (.int .i64 (b : Int)) := (by simp [World.cell?, bR]); have r1 : w3.cell? ⟨w.heap.size, 1, none⟩ = some (.int .i64 (c : Int)) := (by simp [World.cell?, bR]); have k0 : w3.cell? ⟨w.heap.size + 1, 0, none⟩ = some (.int .i64 2) := (by simp [World.cell?, bO]); have k1 : w3.cell? ⟨w.heap.size + 1, 1, none⟩ = some (.int .u64 v) := (by simp [World.cell?, bO]); have k2 : w3.cell? ⟨w.heap.size + 1, 2, none⟩ = some (.slice (some ⟨g, 0, none⟩) n cap) := (by simp [World.cell?, bO]); clear bR bO bW) | (go_at_call 70; (with_reducible refine (gw'.out w1).mono ?_); rintro e_ w2 ⟨rfl, q_w2⟩; have o_w2 := Lib.hid (o1.out.trans q_w2); clear r0 r1 k0 k1 k2 c0 c1 c2 c3 c4 c5 c6 c7 f0 f1 f2 f3 f4 f5 f6 f7; obtain ⟨bR, bO, bW⟩ := bl.out w2 o_w2.out; have bW2 := Lib.hid bW; obtain ⟨c0, c1, c2, c3, c4, c5, c6, c7, f0, f1, f2, f3, f4, f5, f6, f7⟩ := want_cells bW; have r0 : w2.cell? ⟨w.heap.size, 0, none⟩ = some (.int .i64 (b : Int)) := (by simp [World.cell?, bR]); have r1 : w2.cell? ⟨w.heap.size, 1, none⟩ = some (.int .i64 (c : Int)) := (by simp [World.cell?, bR]); have k0 : w2.cell? ⟨w.heap.size + 1, 0, none⟩ = some (.int .i64 2) := (by simp [World.cell?, bO]); have k1 : w2.cell? ⟨w.heap.size + 1, 1, none⟩ = some (.int .u64 v) := (by simp [World.cell?, bO]); have k2 : w2.cell? ⟨w.heap.size + 1, 2, none⟩ = some (.slice (some ⟨g, 0, none⟩) n cap) := (by simp [World.cell?, bO]); clear bR bO bW))
              refine bodyPost_ret (results_agg rfl _ _ (w.heap.size + 1 + 1) [.bool false, .int .i64 3, .int .i64 ((b : Int) + 1), .int .u64 (T : Int), .int .u64 (IntKind.u64.wrap ((T : Int) + 1)), .int .i64 0, .int .u64 0, .int .u64 0] Try.isAgg64 Try.sizeOf64 rfl (set8_heap bW3.out (.bool false) (.int .i64 3) (.int .i64 ((b : Int) + 1)) (.int .u64 (T : Int)) (.int .u64 (IntKind.u64.wrap ((T : Int) + 1))) (.int .i64 0) (.int .u64 0) (.int .u64 0))) rfl ?_
              exact ⟨by rw [e.out]; rfl, (n4'.out.trans o_w3.out).then (set8_only _ _ (.bool false) (.int .i64 3) (.int .i64 ((b : Int) + 1)) (.int .u64 (T : Int)) (.int .u64 (IntKind.u64.wrap ((T : Int) + 1))) (.int .i64 0) (.int .u64 0) (.int .u64 0)) (fun q hq hl => by omega)⟩
            · have hd3 : ((n : Int) == (k : Int) + 2) = false := by simp; omega
              have kl2 : k + 2 < n := by have := kls.out; omega
              have kl2' : (k : Int) + 2 < (n : Int) := by omega
              have tn2 : ((k : Int) + 2).toNat = k + 2 := by omega
              have s5 := Lib.hid (runL_take c (.s0 .take) log (k + 2) (by rw [hn'.out]; exact kl2))
              rw [s4.out] at s5
              obtain ⟨z, hz⟩ : ∃ z, log.getD (k + 2) 0 = z := ⟨_, rfl⟩
              rw [hz] at s5
              have XL := Lib.hid (fun (w' : World) (o : Only Nil wr w') => (show w'.cell? ⟨g, k + 2, none⟩ = some (.int .u64 z) from hz ▸ KL.out w' o (k + 2) kl2))
              have kl3 := Lib.hid kl2
              clear hz hk3 kl2
              by_cases hz0 : z = 0
              · have s6 := Lib.hid (show runL c (.s0 .take) (log.take (k + 3)) = (.s0 .take) by rw [show k + 3 = k + 2 + 1 by omega, s5.out]; simp only [res]; rw [if_pos hz0])
                subst hz0
                go_wp2_with (first | (go_at_call 70; (with_reducible refine (gw'.out w2).mono ?_); rintro e_ w3 ⟨rfl, q_w3⟩; have o_w3 := Lib.hid (o_w2.out.trans q_w3); have x2 := XL.out w3 ((o1r.out.trans q_w2).trans q_w3); clear r0 r1 k0 k1 k2 c0 c1 c2 c3 c4 c5 c6 c7 f0 f1 f2 f3 f4 f5 f6 f7; obtain ⟨bR, bO, bW⟩ := bl.out w3 o_w3.out; have bW3 := Lib.hid bW; obtain ⟨c0, c1, c2, c3, c4, c5, c6, c7, f0, f1, f2, f3, f4, f5, f6, f7⟩ := want_cells bW; have r0 : w3.cell? ⟨w.heap.size, 0, none⟩ = some (.int .i64 (b : Int)) := (by simp [World.cell?, bR]); have r1 : w3.cell? ⟨w.heap.size, 1, none⟩ = some (.int .i64 (c : Int)) := (by simp [World.cell?, bR]); have k0 : w3.cell? ⟨w.heap.size + 1, 0, none⟩ = some (.int .i64 2) := (by simp [World.cell?, bO]); have k1 : w3.cell? ⟨w.heap.size + 1, 1, none⟩ = some (.int .u64 v) := (by simp [World.cell?, bO]); have k2 : w3.cell? ⟨w.heap.size + 1, 2, none⟩ = some (.slice (some ⟨g, 0, none⟩) n cap) := (by simp [World.cell?, bO]); clear bR bO bW) | (go_at_call 70; (with_reducible refine (gw'.out w1).mono ?_); rintro e_ w2 ⟨rfl, q_w2⟩; have o_w2 := Lib.hid (o1.out.trans q_w2); clear r0 r1 k0 k1 k2 c0 c1 c2 c3 c4 c5 c6 c7 f0 f1 f2 f3 f4 f5 f6 f7; obtain ⟨bR, bO, bW⟩ := bl.out w2 o_w2.out; have bW2 := Lib.hid bW; obtain ⟨c0, c1, c2, c3, c4, c5, c6, c7, f0, f1, f2, f3, f4, f5, f6, f7⟩ := want_cells bW; have r0 : w2.cell? ⟨w.heap.size, 0, none⟩ = some (.int .i64 (b : Int)) := (by simp [World.cell?, bR]); have r1 : w2.cell? ⟨w.heap.size, 1, none⟩ = some (.int .i64 (c : Int)) := (by simp [World.cell?, bR]); have k0 : w2.cell? ⟨w.heap.size + 1, 0, none⟩ = some (.int .i64 2) := (by simp [World.cell?, bO]); have k1 : w2.cell? ⟨w.heap.size + 1, 1, none⟩ = some (.int .u64 v) := (by simp [World.cell?, bO]); have k2 : w2.cell? ⟨w.heap.size + 1, 2, none⟩ = some (.slice (some ⟨g, 0, none⟩) n cap) := (by simp [World.cell?, bO]); clear bR bO bW))
                go_roundw
                case rel => exact ⟨k + 3, by have := kl3.out; omega, by go_num, s6, o_w3⟩
                case measure => have := kl3.out; simp [intOf]; omega
              · have s6 := Lib.hid (show runL c (.s0 .take) (log.take (k + 3)) = .s3 .take (T : Int) by rw [show k + 3 = k + 2 + 1 by omega, s5.out]; simp only [res]; rw [if_neg hz0])
                have hzb : (z == 0) = false := by simpa using hz0
                clear hz0
                by_cases hk4 : n = k + 3
                · have hd4 : (n : Int) - (k : Int) = 3 := by omega
                  have e := Lib.hid (show runL c (.s0 .take) log = .s3 .take (T : Int) by rw [runL_all c _ log (k + 3) (by rw [hn'.out]; exact hk4.symm)]; exact s6.out)
                  clear hk4
                  go_wp2_with (first | (go_at_call 71; have lwN := lW.out.keep o_w3.out (fun _ _ _ h => False.elim h); (with_reducible refine (last_t3 _ b c v (some ⟨g, 0, none⟩) cap n T sl 3 rfl ⟨sl0, sl1⟩).mono ?_); clear lwN; rintro e_ w4 ⟨rfl, q_w4⟩; have o_w4 := Lib.hid (o_w3.out.trans q_w4); clear r0 r1 k0 k1 k2 c0 c1 c2 c3 c4 c5 c6 c7 f0 f1 f2 f3 f4 f5 f6 f7; obtain ⟨bR, bO, bW⟩ := bl.out w4 o_w4.out; have bW4 := Lib.hid bW; obtain ⟨c0, c1, c2, c3, c4, c5, c6, c7, f0, f1, f2, f3, f4, f5, f6, f7⟩ := want_cells bW; have r0 : w4.cell? ⟨w.heap.size, 0, none⟩ = some (.int .i64 (b : Int)) := (by simp [World.cell?, bR]); have r1 : w4.cell? ⟨w.heap.size, 1, none⟩ = some (.int .i64 (c : Int)) := (by simp [World.cell?, bR]); have k0 : w4.cell? ⟨w.heap.size + 1, 0, none⟩ = some (.int .i64 2) := (by simp [World.cell?, bO]); have k1 : w4.cell? ⟨w.heap.size + 1, 1, none⟩ = some (.int .u64 v) := (by simp [World.cell?, bO]); have k2 : w4.cell? ⟨w.heap.size + 1, 2, none⟩ = some (.slice (some ⟨g, 0, none⟩) n cap) := (by simp [World.cell?, bO]); clear bR bO bW) | (go_at_call 70; (with_reducible refine (gw'.out w2).mono ?_); rintro e_ w3 ⟨rfl, q_w3⟩; have o_w3 := Lib.hid (o_w2.out.trans q_w3); have x2 := XL.out w3 ((o1r.out.trans q_w2).trans q_w3); clear r0 r1 k0 k1 k2 c0 c1 c2 c3 c4 c5 c6 c7 f0 f1 f2 f3 f4 f5 f6 f7; obtain ⟨bR, bO, bW⟩ := bl.out w3 o_w3.out; have bW3 := Lib.hid bW; obtain ⟨c0, c1, c2, c3, c4, c5, c6, c7, f0, f1, f2, f3, f4, f5, f6, f7⟩ := want_cells bW; have r0 : w3.cell? ⟨w.heap.size, 0, none⟩ = some (.int .i64 (b : Int)) := (by simp [World.cell?, bR]); have r1 : w3.cell? ⟨w.heap.size, 1, none⟩ = some (.int .i64 (c : Int)) := (by simp [World.cell?, bR]); have k0 : w3.cell? ⟨w.heap.size + 1, 0, none⟩ = some (.int .i64 2) := (by simp [World.cell?, bO]); have k1 : w3.cell? ⟨w.heap.size + 1, 1, none⟩ = some (.int .u64 v) := (by simp [World.cell?, bO]); have k2 : w3.cell? ⟨w.heap.size + 1, 2, none⟩ = some (.slice (some ⟨g, 0, none⟩) n cap) := (by simp [World.cell?, bO]); clear bR bO bW) | (go_at_call 70; (with_reducible refine (gw'.out w1).mono ?_); rintro e_ w2 ⟨rfl, q_w2⟩; have o_w2 := Lib.hid (o1.out.trans q_w2); clear r0 r1 k0 k1 k2 c0 c1 c2 c3 c4 c5 c6 c7 f0 f1 f2 f3 f4 f5 f6 f7; obtain ⟨bR, bO, bW⟩ := bl.out w2 o_w2.out; have bW2 := Lib.hid bW; obtain ⟨c0, c1, c2, c3, c4, c5, c6, c7, f0, f1, f2, f3, f4, f5, f6, f7⟩ := want_cells bW; have r0 : w2.cell? ⟨w.heap.size, 0, none⟩ = some (.int .i64 (b : Int)) := (by simp [World.cell?, bR]); have r1 : w2.cell? ⟨w.heap.size, 1, none⟩ = some (.int .i64 (c : Int)) := (by simp [World.cell?, bR]); have k0 : w2.cell? ⟨w.heap.size + 1, 0, none⟩ = some (.int .i64 2) := (by simp [World.cell?, bO]); have k1 : w2.cell? ⟨w.heap.size + 1, 1, none⟩ = some (.int .u64 v) := (by simp [World.cell?, bO]); have k2 : w2.cell? ⟨w.heap.size + 1, 2, none⟩ = some (.slice (some ⟨g, 0, none⟩) n cap) := (by simp [World.cell?, bO]); clear bR bO bW))
                  refine bodyPost_ret (results_agg rfl _ _ (w.heap.size + 1 + 1) [.bool false, .int .i64 1, .int .i64 (sl + 1), .int .u64 0, .int .u64 0, .int .i64 0, .int .u64 0, .int .u64 0] Try.isAgg64 Try.sizeOf64 rfl (set8_heap bW4.out (.bool false) (.int .i64 1) (.int .i64 (sl + 1)) (.int .u64 0) (.int .u64 0) (.int .i64 0) (.int .u64 0) (.int .u64 0))) rfl ?_
                  exact ⟨by rw [e.out]; simp only [wantOf, acc, valAcc, accWant, ← hcell.out]; rfl, (n4'.out.trans o_w4.out).then (set8_only _ _ (.bool false) (.int .i64 1) (.int .i64 (sl + 1)) (.int .u64 0) (.int .u64 0) (.int .i64 0) (.int .u64 0) (.int .u64 0)) (fun q hq hl => by omega)⟩
                · have s7 := Lib.hid (show runL c (.s0 .take) (log.take (k + 4)) = .s4 .take (T : Int) (Dir.keeps (log.getD (k + 3) 0) .take) by rw [show k + 4 = k + 3 + 1 by omega, runL_take c (.s0 .take) log (k + 3) (by rw [hn'.out]; have := kl3.out; omega), s6.out]; rfl)
                  by_cases hk5 : n = k + 4
                  · have hd4 : (n : Int) - (k : Int) = 4 := by omega
                    have e := Lib.hid (show runL c (.s0 .take) log = .s4 .take (T : Int) (Dir.keeps (log.getD (k + 3) 0) .take) by rw [runL_all c _ log (k + 4) (by rw [hn'.out]; exact hk5.symm)]; exact s7.out)
                    clear hk4 hk5
                    go_wp2_with (first | (go_at_call 71; have lwN := lW.out.keep o_w3.out (fun _ _ _ h => False.elim h); (with_reducible refine (last_t4 _ b c v (some ⟨g, 0, none⟩) cap n T sl 4 rfl hlast.out.1 hlast.out.2.1 hlast.out.2.2 ⟨sl0, sl1⟩).mono ?_); clear lwN; rintro e_ w4 ⟨rfl, q_w4⟩; have o_w4 := Lib.hid (o_w3.out.trans q_w4); clear r0 r1 k0 k1 k2 c0 c1 c2 c3 c4 c5 c6 c7 f0 f1 f2 f3 f4 f5 f6 f7; obtain ⟨bR, bO, bW⟩ := bl.out w4 o_w4.out; have bW4 := Lib.hid bW; obtain ⟨c0, c1, c2, c3, c4, c5, c6, c7, f0, f1, f2, f3, f4, f5, f6, f7⟩ := want_cells bW; have r0 : w4.cell? ⟨w.heap.size, 0, none⟩ = some (.int .i64 (b : Int)) := (by simp [World.cell?, bR]); have r1 : w4.cell? ⟨w.heap.size, 1, none⟩ = some (.int .i64 (c : Int)) := (by simp [World.cell?, bR]); have k0 : w4.cell? ⟨w.heap.size + 1, 0, none⟩ = some (.int .i64 2) := (by simp [World.cell?, bO]); have k1 : w4.cell? ⟨w.heap.size + 1, 1, none⟩ = some (.int .u64 v) := (by simp [World.cell?, bO]); have k2 : w4.cell? ⟨w.heap.size + 1, 2, none⟩ = some (.slice (some ⟨g, 0, none⟩) n cap) := (by simp [World.cell?, bO]); clear bR bO bW) | (go_at_call 70; (with_reducible refine (gw'.out w2).mono ?_); rintro e_ w3 ⟨rfl, q_w3⟩; have o_w3 := Lib.hid (o_w2.out.trans q_w3); have x2 := XL.out w3 ((o1r.out.trans q_w2).trans q_w3); clear r0 r1 k0 k1 k2 c0 c1 c2 c3 c4 c5 c6 c7 f0 f1 f2 f3 f4 f5 f6 f7; obtain ⟨bR, bO, bW⟩ := bl.out w3 o_w3.out; have bW3 := Lib.hid bW; obtain ⟨c0, c1, c2, c3, c4, c5, c6, c7, f0, f1, f2, f3, f4, f5, f6, f7⟩ := want_cells bW; have r0 : w3.cell? ⟨w.heap.size, 0, none⟩ = some (.int .i64 (b : Int)) := (by simp [World.cell?, bR]); have r1 : w3.cell? ⟨w.heap.size, 1, none⟩ = some (.int .i64 (c : Int)) := (by simp [World.cell?, bR]); have k0 : w3.cell? ⟨w.heap.size + 1, 0, none⟩ = some (.int .i64 2) := (by simp [World.cell?, bO]); have k1 : w3.cell? ⟨w.heap.size + 1, 1, none⟩ = some (.int .u64 v) := (by simp [World.cell?, bO]); have k2 : w3.cell? ⟨w.heap.size + 1, 2, none⟩ = some (.slice (some ⟨g, 0, none⟩) n cap) := (by simp [World.cell?, bO]); clear bR bO bW) | (go_at_call 70; (with_reducible refine (gw'.out w1).mono ?_); rintro e_ w2 ⟨rfl, q_w2⟩; have o_w2 := Lib.hid (o1.out.trans q_w2); clear r0 r1 k0 k1 k2 c0 c1 c2 c3 c4 c5 c6 c7 f0 f1 f2 f3 f4 f5 f6 f7; obtain ⟨bR, bO, bW⟩ := bl.out w2 o_w2.out; have bW2 := Lib.hid bW; obtain ⟨c0, c1, c2, c3, c4, c5, c6, c7, f0, f1, f2, f3, f4, f5, f6, f7⟩ := want_cells bW; have r0 : w2.cell? ⟨w.heap.size, 0, none⟩ = some (.int .i64 (b : Int)) := (by simp [World.cell?, bR]); have r1 : w2.cell? ⟨w.heap.size, 1, none⟩ = some (.int .i64 (c : Int)) := (by simp [World.cell?, bR]); have k0 : w2.cell? ⟨w.heap.size + 1, 0, none⟩ = some (.int .i64 2) := (by simp [World.cell?, bO]); have k1 : w2.cell? ⟨w.heap.size + 1, 1, none⟩ = some (.int .u64 v) := (by simp [World.cell?, bO]); have k2 : w2.cell? ⟨w.heap.size + 1, 2, none⟩ = some (.slice (some ⟨g, 0, none⟩) n cap) := (by simp [World.cell?, bO]); clear bR bO bW))
                    refine bodyPost_ret (results_agg rfl _ _ (w.heap.size + 1 + 1) [.bool false, .int .i64 2, .int .i64 sl, .int .u64 (IntKind.u64.wrap (wt c (T : Int) + 2)), .int .u64 0, .int .i64 0, .int .u64 0, .int .u64 0] Try.isAgg64 Try.sizeOf64 rfl (set8_heap bW4.out (.bool false) (.int .i64 2) (.int .i64 sl) (.int .u64 (IntKind.u64.wrap (wt c (T : Int) + 2))) (.int .u64 0) (.int .i64 0) (.int .u64 0) (.int .u64 0))) rfl ?_
                    exact ⟨by rw [e.out]; simp only [wantOf, acc, accWant, hcell.out, show Dir.lead .take = 1 from rfl, due_1, up]; rw [show wt c (T : Int) + 1 + 1 = wt c (T : Int) + 2 by omega], (n4'.out.trans o_w4.out).then (set8_only _ _ (.bool false) (.int .i64 2) (.int .i64 sl) (.int .u64 (IntKind.u64.wrap (wt c (T : Int) + 2))) (.int .u64 0) (.int .i64 0) (.int .u64 0) (.int .u64 0)) (fun q hq hl => by omega)⟩
                  · have hm5 := Lib.hid (show 5 ≤ (n : Int) - (k : Int) by have := kl3.out; omega)
                    have hn5 := Lib.hid (show 5 ≤ n by have := kl3.out; omega)
                    have e := Lib.hid (show runL c (.s0 .take) log = .over 1 (log.getD (n - 2) 0) from by
                      have hl5 : log.length = k + 5 := hov'.out k (by rw [hn'.out]; have := kl3.out; omega) (T : Int) s6.out
                      have hn5' : n - 2 = k + 3 := by have := hn'.out; omega
                      rw [hn5']
                      exact runL_done c _ log (k + 5) (by rw [show k + 5 = k + 4 + 1 by omega, runL_take c (.s0 .take) log (k + 4) (by omega), s7.out]; rfl))
                    clear hk4 hk5
                    go_wp2_with (first | (go_at_call 71; have lwN := lW.out.keep o_w3.out (fun _ _ _ h => False.elim h); (with_reducible refine (last_t5 _ b c v (some ⟨g, 0, none⟩) cap n T sl _ log hm5.out ⟨sl0, sl1⟩ lwN hn'.out hn5.out nlen.out).mono ?_); clear lwN; rintro e_ w4 ⟨rfl, q_w4⟩; have o_w4 := Lib.hid (o_w3.out.trans q_w4); clear r0 r1 k0 k1 k2 c0 c1 c2 c3 c4 c5 c6 c7 f0 f1 f2 f3 f4 f5 f6 f7; obtain ⟨bR, bO, bW⟩ := bl.out w4 o_w4.out; have bW4 := Lib.hid bW; obtain ⟨c0, c1, c2, c3, c4, c5, c6, c7, f0, f1, f2, f3, f4, f5, f6, f7⟩ := want_cells bW; have r0 : w4.cell? ⟨w.heap.size, 0, none⟩ = some (.int .i64 (b : Int)) := (by simp [World.cell?, bR]); have r1 : w4.cell? ⟨w.heap.size, 1, none⟩ = some (.int .i64 (c : Int)) := (by simp [World.cell?, bR]); have k0 : w4.cell? ⟨w.heap.size + 1, 0, none⟩ = some (.int .i64 2) := (by simp [World.cell?, bO]); have k1 : w4.cell? ⟨w.heap.size + 1, 1, none⟩ = some (.int .u64 v) := (by simp [World.cell?, bO]); have k2 : w4.cell? ⟨w.heap.size + 1, 2, none⟩ = some (.slice (some ⟨g, 0, none⟩) n cap) := (by simp [World.cell?, bO]); clear bR bO bW) | (go_at_call 70; (with_reducible refine (gw'.out w2).mono ?_); rintro e_ w3 ⟨rfl, q_w3⟩; have o_w3 := Lib.hid (o_w2.out.trans q_w3); have x2 := XL.out w3 ((o1r.out.trans q_w2).trans q_w3); clear r0 r1 k0 k1 k2 c0 c1 c2 c3 c4 c5 c6 c7 f0 f1 f2 f3 f4 f5 f6 f7; obtain ⟨bR, bO, bW⟩ := bl.out w3 o_w3.out; have bW3 := Lib.hid bW; obtain ⟨c0, c1, c2, c3, c4, c5, c6, c7, f0, f1, f2, f3, f4, f5, f6, f7⟩ := want_cells bW; have r0 : w3.cell? ⟨w.heap.size, 0, none⟩ = some (.int .i64 (b : Int)) := (by simp [World.cell?, bR]); have r1 : w3.cell? ⟨w.heap.size, 1, none⟩ = some (.int .i64 (c : Int)) := (by simp [World.cell?, bR]); have k0 : w3.cell? ⟨w.heap.size + 1, 0, none⟩ = some (.int .i64 2) := (by simp [World.cell?, bO]); have k1 : w3.cell? ⟨w.heap.size + 1, 1, none⟩ = some (.int .u64 v) := (by simp [World.cell?, bO]); have k2 : w3.cell? ⟨w.heap.size + 1, 2, none⟩ = some (.slice (some ⟨g, 0, none⟩) n cap) := (by simp [World.cell?, bO]); clear bR bO bW) | (go_at_call 70; (with_reducible refine (gw'.out w1).mono ?_); rintro e_ w2 ⟨rfl, q_w2⟩; have o_w2 := Lib.hid (o1.out.trans q_w2); clear r0 r1 k0 k1 k2 c0 c1 c2 c3 c4 c5 c6 c7 f0 f1 f2 f3 f4 f5 f6 f7; obtain ⟨bR, bO, bW⟩ := bl.out w2 o_w2.out; have bW2 := Lib.hid bW; obtain ⟨c0, c1, c2, c3, c4, c5, c6, c7, f0, f1, f2, f3, f4, f5, f6, f7⟩ := want_cells bW; have r0 : w2.cell? ⟨w.heap.size, 0, none⟩ = some (.int .i64 (b : Int)) := (by simp [World.cell?, bR]); have r1 : w2.cell? ⟨w.heap.size, 1, none⟩ = some (.int .i64 (c : Int)) := (by simp [World.cell?, bR]); have k0 : w2.cell? ⟨w.heap.size + 1, 0, none⟩ = some (.int .i64 2) := (by simp [World.cell?, bO]); have k1 : w2.cell? ⟨w.heap.size + 1, 1, none⟩ = some (.int .u64 v) := (by simp [World.cell?, bO]); have k2 : w2.cell? ⟨w.heap.size + 1, 2, none⟩ = some (.slice (some ⟨g, 0, none⟩) n cap) := (by simp [World.cell?, bO]); clear bR bO bW))
                    refine bodyPost_ret (results_agg rfl _ _ (w.heap.size + 1 + 1) [.bool true, .int .i64 0, .int .i64 0, .int .u64 0, .int .u64 0, .int .i64 1, .int .u64 (log.getD (n - 2) 0), .int .u64 0] Try.isAgg64 Try.sizeOf64 rfl (set8_heap bW4.out (.bool true) (.int .i64 0) (.int .i64 0) (.int .u64 0) (.int .u64 0) (.int .i64 1) (.int .u64 (log.getD (n - 2) 0)) (.int .u64 0))) rfl ?_
                    exact ⟨by rw [e.out]; rfl, (n4'.out.trans o_w4.out).then (set8_only _ _ (.bool true) (.int .i64 0) (.int .i64 0) (.int .u64 0) (.int .u64 0) (.int .i64 1) (.int .u64 (log.getD (n - 2) 0)) (.int .u64 0)) (fun q hq hl => by omega)⟩
end Go.Proofs.Ytokopocldicnmaa.Gt
