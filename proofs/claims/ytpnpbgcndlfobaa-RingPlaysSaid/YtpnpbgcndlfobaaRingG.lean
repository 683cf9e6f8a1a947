/- The document's own Close and its Next (trouperef03). -/
import Derived.Test.YtpnpbgcndlfobaaRingF
namespace Go.Proofs.Ytpnpbgcndlfobaa
open Go.RowKit

set_option maxRecDepth 100000 in
set_option maxHeartbeats 2000000 in
theorem rshut_any (w : World) (b c : Nat) (v : Int) (a : Option Addr) (cap : Nat) (log : List Int) (hl : LogIn w a log) (hok : LogOk log) (hlen : log.length ≤ 1000000)
    (hsw : ∀ i t, i < log.length → runL c .close0 (log.take i) = .close1 t → log.getD i 0 = 0 ∨ log.getD i 0 = 1) :
    Calls Try.prog 45 #[.agg #[.int .i64 (b : Int), .int .i64 (c : Int)], .agg #[.int .i64 4, .int .u64 v, .slice a log.length cap]] w fun e w' => e = .returned (wantOf b c (runL c .close0 log)) ∧ Only Nil w w' := by
  have hl' := Lib.hid hl
  have hok' := Lib.hid hok
  have hsw' := Lib.hid hsw
  clear hl hok hsw
  generalize hn : log.length = n at hlen ⊢
  have hn' := Lib.hid hn
  clear hn
  have hlen' : (n : Int) ≤ 1000000 := by omega
  go_enter Try.func45, Try.ntmps45
  go_wp2
  obtain ⟨n1, n2, n3, n4⟩ := three_new w (.cells #[.int .i64 (b : Int), .int .i64 (c : Int)] 31) (.cells #[.int .i64 4, .int .u64 v, .slice a n cap] 44) (.cells #[.bool false, .int .i64 0, .int .i64 0, .int .u64 0, .int .u64 0, .int .i64 0, .int .u64 0, .int .u64 0] 49)
  have lW := Lib.hid (hl'.out.keep n4 (fun _ _ _ h => h.elim))
  have bl := Lib.hid (fun (w' : World) (o : Only Nil (((w.alloc (.cells #[.int .i64 (b : Int), .int .i64 (c : Int)] 31)).alloc (.cells #[.int .i64 4, .int .u64 v, .slice a n cap] 44)).alloc (.cells #[.bool false, .int .i64 0, .int .i64 0, .int .u64 0, .int .u64 0, .int .i64 0, .int .u64 0, .int .u64 0] 49)) w') =>
    And.intro ((o.block _ (lt_of_block n1) (fun h => h)).trans n1) (And.intro ((o.block _ (lt_of_block n2) (fun h => h)).trans n2) ((o.block _ (lt_of_block n3) (fun h => h)).trans n3)))
  have n4' := Lib.hid n4
  clear n1 n2 n3 n4 hl'
  generalize (((w.alloc (.cells #[.int .i64 (b : Int), .int .i64 (c : Int)] 31)).alloc (.cells #[.int .i64 4, .int .u64 v, .slice a n cap] 44)).alloc (.cells #[.bool false, .int .i64 0, .int .i64 0, .int .u64 0, .int .u64 0, .int .i64 0, .int .u64 0, .int .u64 0] 49)) = W0 at bl n4' lW ⊢
  go_loopw [6] (fun s6 wr => ∃ (k : Nat), k ≤ n ∧ s6 = .int .i64 (k : Int) ∧ Hid (runL c .close0 (log.take k) = .close0) ∧ Hid (Only Nil W0 wr))
    (fun s6 _ => n + 1 - (intOf s6).toNat)
  case atStart => exact ⟨0, Nat.zero_le _, rfl, Lib.hid rfl, Lib.hid (Only.refl _ _)⟩
  case round =>
    obtain ⟨k, hk, rfl, hst, ho⟩ := hrel
    obtain ⟨bR, bO, bW⟩ := bl.out wr ho.out
    have bW0 := Lib.hid bW
    obtain ⟨c0, c1, c2, c3, c4, c5, c6, c7, f0, f1, f2, f3, f4, f5, f6, f7⟩ := want_cells bW
    have r0 : wr.cell? ⟨w.heap.size, 0, none⟩ = some (.int .i64 (b : Int)) := (by simp [World.cell?, bR])
    have r1 : wr.cell? ⟨w.heap.size, 1, none⟩ = some (.int .i64 (c : Int)) := (by simp [World.cell?, bR])
    have o1 : wr.cell? ⟨w.heap.size + 1, 1, none⟩ = some (.int .u64 v) := (by simp [World.cell?, bO])
    clear bR bO bW
    by_cases hkn : k = n
    · subst hkn
      have e := Lib.hid (show runL c .close0 log = .close0 by rw [runL_all c _ log k hn'.out.symm]; exact hst.out)
      go_wp2
      refine bodyPost_ret (results_agg rfl _ _ (w.heap.size + 1 + 1) [.bool false, .int .i64 1, .int .i64 (b : Int), .int .u64 0, .int .u64 0, .int .i64 0, .int .u64 0, .int .u64 0] Try.isAgg49 Try.sizeOf49 rfl (set8_heap bW0.out (.bool false) (.int .i64 1) (.int .i64 (b : Int)) (.int .u64 0) (.int .u64 0) (.int .i64 0) (.int .u64 0) (.int .u64 0))) rfl ?_
      exact ⟨by rw [e.out]; rfl, (n4'.out.trans ho.out).then (set8_only _ _ (.bool false) (.int .i64 1) (.int .i64 (b : Int)) (.int .u64 0) (.int .u64 0) (.int .i64 0) (.int .u64 0) (.int .u64 0)) (fun q hq hl => by omega)⟩
    · have hkl : k < n := by omega
      have hk1 : ¬ ((n : Int) = (k : Int)) := by omega
      have lk := Lib.hid (lW.out.keep ho.out (fun _ _ _ h => h.elim))
      obtain ⟨g, rfl, hg1, hg2⟩ := lk.out k (by rw [hn'.out]; exact hkl)
      have x0 := hg2 k (by rw [hn'.out]; exact hkl)
      have hT0 := hok'.out k (by rw [hn'.out]; exact hkl)
      have s1 := Lib.hid (runL_take c .close0 log k (by rw [hn'.out]; exact hkl))
      rw [hst.out] at s1
      obtain ⟨T, hT1⟩ : ∃ T : Nat, log.getD k 0 = (T : Int) := ⟨(log.getD k 0).toNat, by omega⟩
      rw [hT1] at x0 hT0 s1
      clear hg2 hT1
      by_cases hcl : (9223372036854775808 : Int) ≤ (T : Int)
      · have e := Lib.hid (show runL c .close0 log = .over 1 0 0 from runL_done c _ log (k + 1) (by rw [s1.out]; simp only [res]; rw [if_pos hcl]))
        go_wp2
        refine bodyPost_ret (results_agg rfl _ _ (w.heap.size + 1 + 1) [.bool true, .int .i64 0, .int .i64 0, .int .u64 0, .int .u64 0, .int .i64 1, .int .u64 0, .int .u64 0] Try.isAgg49 Try.sizeOf49 rfl (set8_heap bW0.out (.bool true) (.int .i64 0) (.int .i64 0) (.int .u64 0) (.int .u64 0) (.int .i64 1) (.int .u64 0) (.int .u64 0))) rfl ?_
        exact ⟨by rw [e.out]; rfl, (n4'.out.trans ho.out).then (set8_only _ _ (.bool true) (.int .i64 0) (.int .i64 0) (.int .u64 0) (.int .u64 0) (.int .i64 1) (.int .u64 0) (.int .u64 0)) (fun q hq hl => by omega)⟩
      · have hT : T < 9223372036854775808 := by omega
        have s2 := Lib.hid (show runL c .close0 (log.take (k + 1)) = .close1 T by rw [s1.out]; simp only [res]; rw [if_neg hcl]; simp)
        by_cases hk2 : n = k + 1
        · have hd2 : ((n : Int) == (k : Int) + 1) = true := by simp; omega
          have e := Lib.hid (show runL c .close0 log = .close1 T by rw [runL_all c _ log (k + 1) (by rw [hn'.out]; exact hk2.symm)]; exact s2.out)
          clear hk2
          go_wp2
          refine bodyPost_ret (results_agg rfl _ _ (w.heap.size + 1 + 1) [.bool false, .int .i64 3, .int .i64 (b : Int), .int .u64 (T : Int), .int .u64 ((T : Int) + 9223372036854775808), .int .i64 0, .int .u64 0, .int .u64 0] Try.isAgg49 Try.sizeOf49 rfl (set8_heap bW0.out (.bool false) (.int .i64 3) (.int .i64 (b : Int)) (.int .u64 (T : Int)) (.int .u64 ((T : Int) + 9223372036854775808)) (.int .i64 0) (.int .u64 0) (.int .u64 0))) rfl ?_
          exact ⟨by rw [e.out]; rfl, (n4'.out.trans ho.out).then (set8_only _ _ (.bool false) (.int .i64 3) (.int .i64 (b : Int)) (.int .u64 (T : Int)) (.int .u64 ((T : Int) + 9223372036854775808)) (.int .i64 0) (.int .u64 0) (.int .u64 0)) (fun q hq hl => by omega)⟩
        · have hd2 : ((n : Int) == (k : Int) + 1) = false := by simp; omega
          obtain ⟨g', hg0, hg1', hg2⟩ := lk.out (k + 1) (by rw [hn'.out]; omega)
          simp only [Option.some.injEq, Addr.mk.injEq, and_true] at hg0
          subst hg0
          have x1 := hg2 (k + 1) (by rw [hn'.out]; omega)
          have s3 := Lib.hid (runL_take c .close0 log (k + 1) (by rw [hn'.out]; omega))
          rw [s2.out] at s3
          have hz01 := hsw'.out (k + 1) T (by rw [hn'.out]; omega) s2.out
          generalize log.getD (k + 1) 0 = z at x1 s3 hz01
          clear hg2
          have tn1 : ((k : Int) + 1).toNat = k + 1 := by omega
          by_cases hz : z = 0
          · subst hz
            have s4 := Lib.hid (show runL c .close0 (log.take (k + 2)) = .close0 by rw [show k + 2 = k + 1 + 1 by omega, s3.out]; simp [res])
            clear hz01
            go_wp2
            go_roundw
            case rel => exact ⟨k + 2, by omega, by go_num, s4, ho⟩
            case measure => simp [intOf]; omega
          · obtain rfl : z = 1 := by omega
            have e := Lib.hid (show runL c .close0 log = .over 1 0 0 from runL_done c _ log (k + 2) (by rw [show k + 2 = k + 1 + 1 by omega, s3.out]; simp [res]))
            clear hz01 hz
            go_wp2
            refine bodyPost_ret (results_agg rfl _ _ (w.heap.size + 1 + 1) [.bool true, .int .i64 0, .int .i64 0, .int .u64 0, .int .u64 0, .int .i64 1, .int .u64 0, .int .u64 0] Try.isAgg49 Try.sizeOf49 rfl (set8_heap bW0.out (.bool true) (.int .i64 0) (.int .i64 0) (.int .u64 0) (.int .u64 0) (.int .i64 1) (.int .u64 0) (.int .u64 0))) rfl ?_
            exact ⟨by rw [e.out]; rfl, (n4'.out.trans ho.out).then (set8_only _ _ (.bool true) (.int .i64 0) (.int .i64 0) (.int .u64 0) (.int .u64 0) (.int .i64 1) (.int .u64 0) (.int .u64 0)) (fun q hq hl => by omega)⟩
end Go.Proofs.Ytpnpbgcndlfobaa
