/- The document's own Put (trouperef03): what it wants next, after what its accesses have answered. -/
import Derived.Test.YtpnpbgcndlfobaaRingE
import Derived.Deep.RegionHeld3
namespace Go.Proofs.Ytpnpbgcndlfobaa
open Go.RowKit

/-- Answers are numbers of 64 bits; tickets that were loaded are small. -/
def LogOk (log : List Int) : Prop := ∀ i, i < log.length → 0 ≤ log.getD i 0 ∧ log.getD i 0 < 18446744073709551616

/-- Where an operation stands behind these answers. -/
def runL (c : Nat) (s : OS) (log : List Int) : OS := log.foldl (fun s a => res c a s) s
theorem runL_over (c o : Nat) (x : Int) (t : Nat) : ∀ log, runL c (.over o x t) log = .over o x t
  | [] => rfl
  | a :: l => by show runL c (res c a (.over o x t)) l = _; exact runL_over c o x t l
theorem runL_take (c : Nat) (s : OS) (log : List Int) (k : Nat) (hk : k < log.length) : runL c s (log.take (k + 1)) = res c (log.getD k 0) (runL c s (log.take k)) := by
  have e : log[k]? = some (log.getD k 0) := by simp [hk]
  rw [List.take_add_one, e]
  simp [runL]
theorem runL_split (c : Nat) (s : OS) (log : List Int) (k : Nat) : runL c s log = runL c (runL c s (log.take k)) (log.drop k) := by
  unfold runL
  rw [← List.foldl_append, List.take_append_drop]
theorem runL_all (c : Nat) (s : OS) (log : List Int) (k : Nat) (hk : k = log.length) : runL c s log = runL c s (log.take k) := by rw [hk, List.take_length]
theorem runL_done (c : Nat) (s : OS) (log : List Int) (k : Nat) {o : Nat} {x : Int} {t : Nat} (h : runL c s (log.take k) = .over o x t) : runL c s log = .over o x t := by
  rw [runL_split c s log k, h, runL_over]

set_option maxRecDepth 100000 in
set_option maxHeartbeats 2000000 in
theorem rput_any (w : World) (b c : Nat) (v : Int) (a : Option Addr) (cap : Nat) (log : List Int) (hc : 0 < c) (hc2 : c ≤ 64) (hb : b ≤ 1000) (hl : LogIn w a log) (hok : LogOk log) (hlen : log.length ≤ 1000000) :
    Calls Try.prog 44 #[.agg #[.int .i64 (b : Int), .int .i64 (c : Int)], .agg #[.int .i64 1, .int .u64 v, .slice a log.length cap]] w fun e w' => e = .returned (wantOf b c (runL c (.put0 v) log)) ∧ Only Nil w w' := by
  have hl' := Lib.hid hl
  have hok' := Lib.hid hok
  clear hl hok
  generalize hn : log.length = n at hlen ⊢
  have hn' := Lib.hid hn
  clear hn
  have hlen' : (n : Int) ≤ 1000000 := by omega
  go_enter Try.func44, Try.ntmps44
  go_wp2
  obtain ⟨n1, n2, n3, n4⟩ := three_new w (.cells #[.int .i64 (b : Int), .int .i64 (c : Int)] 31) (.cells #[.int .i64 1, .int .u64 v, .slice a n cap] 44) (.cells #[.bool false, .int .i64 0, .int .i64 0, .int .u64 0, .int .u64 0, .int .i64 0, .int .u64 0, .int .u64 0] 49)
  have lW := Lib.hid (hl'.out.keep n4 (fun _ _ _ h => h.elim))
  have bl := Lib.hid (fun (w' : World) (o : Only Nil (((w.alloc (.cells #[.int .i64 (b : Int), .int .i64 (c : Int)] 31)).alloc (.cells #[.int .i64 1, .int .u64 v, .slice a n cap] 44)).alloc (.cells #[.bool false, .int .i64 0, .int .i64 0, .int .u64 0, .int .u64 0, .int .i64 0, .int .u64 0, .int .u64 0] 49)) w') =>
    And.intro ((o.block _ (lt_of_block n1) (fun h => h)).trans n1) (And.intro ((o.block _ (lt_of_block n2) (fun h => h)).trans n2) ((o.block _ (lt_of_block n3) (fun h => h)).trans n3)))
  have n4' := Lib.hid n4
  clear n1 n2 n3 n4 hl'
  generalize (((w.alloc (.cells #[.int .i64 (b : Int), .int .i64 (c : Int)] 31)).alloc (.cells #[.int .i64 1, .int .u64 v, .slice a n cap] 44)).alloc (.cells #[.bool false, .int .i64 0, .int .i64 0, .int .u64 0, .int .u64 0, .int .i64 0, .int .u64 0, .int .u64 0] 49)) = W0 at bl n4' lW ⊢
  go_loopw [6] (fun s6 wr => ∃ (k : Nat), k ≤ n ∧ s6 = .int .i64 (k : Int) ∧ Hid (runL c (.put0 v) (log.take k) = .put0 v) ∧ Hid (Only Nil W0 wr))
    (fun s6 _ => n + 1 - (intOf s6).toNat)
  case atStart => exact ⟨0, Nat.zero_le _, rfl, Lib.hid rfl, Lib.hid (Only.refl _ _)⟩
  case round =>
    obtain ⟨k, hk, rfl, hst, ho⟩ := hrel
    have kf := Lib.hid (fun (w' : World) (o : Only Nil W0 w') => (show w'.cell? ⟨w.heap.size, 0, none⟩ = some (.int .i64 (b : Int)) ∧ w'.cell? ⟨w.heap.size, 1, none⟩ = some (.int .i64 (c : Int)) ∧ w'.cell? ⟨w.heap.size + 1, 1, none⟩ = some (.int .u64 v) ∧ w'.cell? ⟨w.heap.size + 1 + 1, 0, none⟩ = some (.bool false) ∧ w'.cell? ⟨w.heap.size + 1 + 1, 1, none⟩ = some (.int .i64 0) ∧ w'.cell? ⟨w.heap.size + 1 + 1, 2, none⟩ = some (.int .i64 0) ∧ w'.cell? ⟨w.heap.size + 1 + 1, 3, none⟩ = some (.int .u64 0) ∧ w'.cell? ⟨w.heap.size + 1 + 1, 4, none⟩ = some (.int .u64 0) ∧ w'.cell? ⟨w.heap.size + 1 + 1, 5, none⟩ = some (.int .i64 0) ∧ w'.cell? ⟨w.heap.size + 1 + 1, 6, none⟩ = some (.int .u64 0) ∧ w'.cell? ⟨w.heap.size + 1 + 1, 7, none⟩ = some (.int .u64 0) ∧ w'.frozen? ⟨w.heap.size + 1 + 1, 0, none⟩ = false ∧ w'.frozen? ⟨w.heap.size + 1 + 1, 1, none⟩ = false ∧ w'.frozen? ⟨w.heap.size + 1 + 1, 2, none⟩ = false ∧ w'.frozen? ⟨w.heap.size + 1 + 1, 3, none⟩ = false ∧ w'.frozen? ⟨w.heap.size + 1 + 1, 4, none⟩ = false ∧ w'.frozen? ⟨w.heap.size + 1 + 1, 5, none⟩ = false ∧ w'.frozen? ⟨w.heap.size + 1 + 1, 6, none⟩ = false ∧ w'.frozen? ⟨w.heap.size + 1 + 1, 7, none⟩ = false ∧ Only Nil W0 w' from by
      obtain ⟨bR, bO, bW⟩ := bl.out w' o
      obtain ⟨c0, c1, c2, c3, c4, c5, c6, c7, f0, f1, f2, f3, f4, f5, f6, f7⟩ := want_cells bW
      exact ⟨by simp [World.cell?, bR], by simp [World.cell?, bR], by simp [World.cell?, bO], c0, c1, c2, c3, c4, c5, c6, c7, f0, f1, f2, f3, f4, f5, f6, f7, o⟩))
    obtain ⟨bR, bO, bW⟩ := bl.out wr ho.out
    have bW0 := Lib.hid bW
    obtain ⟨c0, c1, c2, c3, c4, c5, c6, c7, f0, f1, f2, f3, f4, f5, f6, f7⟩ := want_cells bW
    have r0 : wr.cell? ⟨w.heap.size, 0, none⟩ = some (.int .i64 (b : Int)) := (by simp [World.cell?, bR])
    have r1 : wr.cell? ⟨w.heap.size, 1, none⟩ = some (.int .i64 (c : Int)) := (by simp [World.cell?, bR])
    have o1 : wr.cell? ⟨w.heap.size + 1, 1, none⟩ = some (.int .u64 v) := (by simp [World.cell?, bO])
    clear bR bO bW
    by_cases hkn : k = n
    · subst hkn
      have e := Lib.hid (show runL c (.put0 v) log = .put0 v by rw [runL_all c _ log k hn'.out.symm]; exact hst.out)
      go_wp2
      refine bodyPost_ret (results_agg rfl _ _ (w.heap.size + 1 + 1) [.bool false, .int .i64 1, .int .i64 (b : Int), .int .u64 0, .int .u64 0, .int .i64 0, .int .u64 0, .int .u64 0] Try.isAgg49 Try.sizeOf49 rfl (set8_heap bW0.out (.bool false) (.int .i64 1) (.int .i64 (b : Int)) (.int .u64 0) (.int .u64 0) (.int .i64 0) (.int .u64 0) (.int .u64 0))) rfl ?_
      exact ⟨by rw [e.out]; rfl, (n4'.out.trans ho.out).then (set8_only _ _ (.bool false) (.int .i64 1) (.int .i64 (b : Int)) (.int .u64 0) (.int .u64 0) (.int .i64 0) (.int .u64 0) (.int .u64 0)) (fun q hq hl => by omega)⟩
    · have hkl : k < n := by omega
      have hk1 : ¬ ((n : Int) = (k : Int)) := by omega
      have lk := Lib.hid (lW.out.keep ho.out (fun _ _ _ h => h.elim))
      obtain ⟨g, rfl, hg1, hg2⟩ := lk.out k (by rw [hn'.out]; exact hkl)
      have x0 := hg2 k (by rw [hn'.out]; exact hkl)
      have hT0 := hok'.out k (by rw [hn'.out]; exact hkl)
      have s1 := Lib.hid (runL_take c (.put0 v) log k (by rw [hn'.out]; exact hkl))
      rw [hst.out] at s1
      obtain ⟨T, hT1⟩ : ∃ T : Nat, log.getD k 0 = (T : Int) := ⟨(log.getD k 0).toNat, by omega⟩
      rw [hT1] at x0 hT0 s1
      clear hg2 hT1
      by_cases hcl : (9223372036854775808 : Int) ≤ (T : Int)
      · have e := Lib.hid (show runL c (.put0 v) log = .over 3 0 0 from runL_done c _ log (k + 1) (by rw [s1.out]; simp only [res]; rw [if_pos hcl]))
        go_wp2
        refine bodyPost_ret (results_agg rfl _ _ (w.heap.size + 1 + 1) [.bool true, .int .i64 0, .int .i64 0, .int .u64 0, .int .u64 0, .int .i64 3, .int .u64 0, .int .u64 0] Try.isAgg49 Try.sizeOf49 rfl (set8_heap bW0.out (.bool true) (.int .i64 0) (.int .i64 0) (.int .u64 0) (.int .u64 0) (.int .i64 3) (.int .u64 0) (.int .u64 0))) rfl ?_
        exact ⟨by rw [e.out]; rfl, (n4'.out.trans ho.out).then (set8_only _ _ (.bool true) (.int .i64 0) (.int .i64 0) (.int .u64 0) (.int .u64 0) (.int .i64 3) (.int .u64 0) (.int .u64 0)) (fun q hq hl => by omega)⟩
      · have hT : T < 9223372036854775808 := by omega
        have s2 := Lib.hid (show runL c (.put0 v) (log.take (k + 1)) = .put1 v T by rw [s1.out]; simp only [res]; rw [if_neg hcl]; simp)
        by_cases hk2 : n = k + 1
        · have hd2 : ((n : Int) == (k : Int) + 1) = true := by simp; omega
          have e := Lib.hid (show runL c (.put0 v) log = .put1 v T by rw [runL_all c _ log (k + 1) (by rw [hn'.out]; exact hk2.symm)]; exact s2.out)
          have hk2' := Lib.hid hk2
          clear hk2
          go_wp2_with (first
            | (go_at_call 46; (with_reducible refine (rturn_any _ b c T hc hc2 hb).mono ?_); rintro e_ w1 ⟨rfl, q1⟩
               have oo_w1 := Lib.hid (ho.out.trans q1)
               obtain ⟨bR, bO, bW⟩ := bl.out w1 oo_w1.out
               have bW_w1 := Lib.hid bW
               obtain ⟨c0, c1, c2, c3, c4, c5, c6, c7, f0, f1, f2, f3, f4, f5, f6, f7⟩ := want_cells bW
               have r0 : w1.cell? ⟨w.heap.size, 0, none⟩ = some (.int .i64 (b : Int)) := (by simp [World.cell?, bR])
               have r1 : w1.cell? ⟨w.heap.size, 1, none⟩ = some (.int .i64 (c : Int)) := (by simp [World.cell?, bR])
               have o1 : w1.cell? ⟨w.heap.size + 1, 1, none⟩ = some (.int .u64 v) := (by simp [World.cell?, bO])
               clear bR bO bW))
          refine bodyPost_ret (results_agg rfl _ _ (w.heap.size + 1 + 1) [.bool false, .int .i64 1, .int .i64 (turnAt b c T : Int), .int .u64 0, .int .u64 0, .int .i64 0, .int .u64 0, .int .u64 0] Try.isAgg49 Try.sizeOf49 rfl (set8_heap bW_w1.out (.bool false) (.int .i64 1) (.int .i64 (turnAt b c T : Int)) (.int .u64 0) (.int .u64 0) (.int .i64 0) (.int .u64 0) (.int .u64 0))) rfl ?_
          exact ⟨by rw [e.out]; rfl, (n4'.out.trans oo_w1.out).then (set8_only _ _ (.bool false) (.int .i64 1) (.int .i64 (turnAt b c T : Int)) (.int .u64 0) (.int .u64 0) (.int .i64 0) (.int .u64 0) (.int .u64 0)) (fun q hq hl => by omega)⟩
        · have hd2 : ((n : Int) == (k : Int) + 1) = false := by simp; omega
          obtain ⟨g', hg0, hg1', hg2⟩ := lk.out (k + 1) (by rw [hn'.out]; omega)
          simp only [Option.some.injEq, Addr.mk.injEq, and_true] at hg0
          subst hg0
          have x1 := hg2 (k + 1) (by rw [hn'.out]; omega)
          have hS0 := hok'.out (k + 1) (by rw [hn'.out]; omega)
          have s3 := Lib.hid (runL_take c (.put0 v) log (k + 1) (by rw [hn'.out]; omega))
          rw [s2.out] at s3
          generalize log.getD (k + 1) 0 = Sv at x1 hS0 s3
          clear hg2
          have tn1 : ((k : Int) + 1).toNat = k + 1 := by omega
          have rwW0 := fun w => rwait_any w b c T hc hc2 hT
          simp only [res] at s3
          generalize hWq : waitAt c T = W at rwW0 s3
          have hWq' := Lib.hid hWq
          clear hWq
          have rwW := Lib.hid rwW0
          clear rwW0
          have hdl : decide (Sv < (W : Int)) = decide (Sv < (W : Int)) := rfl
          clear hdl
          by_cases hlo : Sv < (W : Int)
          · have e := Lib.hid (show runL c (.put0 v) log = .over 2 0 0 from runL_done c _ log (k + 1 + 1) (by rw [s3.out]; rw [if_pos hlo]))
            go_wp2_with (first
              | (go_at_call 47; (with_reducible refine (rwW.out _).mono ?_); rintro e_ w1 ⟨rfl, q1⟩
                 have oo_w1 := Lib.hid (ho.out.trans q1)
                 obtain ⟨bR, bO, bW⟩ := bl.out w1 oo_w1.out
                 have bW_w1 := Lib.hid bW
                 obtain ⟨c0, c1, c2, c3, c4, c5, c6, c7, f0, f1, f2, f3, f4, f5, f6, f7⟩ := want_cells bW
                 have r0 : w1.cell? ⟨w.heap.size, 0, none⟩ = some (.int .i64 (b : Int)) := (by simp [World.cell?, bR])
                 have r1 : w1.cell? ⟨w.heap.size, 1, none⟩ = some (.int .i64 (c : Int)) := (by simp [World.cell?, bR])
                 have o1 : w1.cell? ⟨w.heap.size + 1, 1, none⟩ = some (.int .u64 v) := (by simp [World.cell?, bO])
                 clear bR bO bW))
            refine bodyPost_ret (results_agg rfl _ _ (w.heap.size + 1 + 1) [.bool true, .int .i64 0, .int .i64 0, .int .u64 0, .int .u64 0, .int .i64 2, .int .u64 0, .int .u64 0] Try.isAgg49 Try.sizeOf49 rfl (set8_heap bW_w1.out (.bool true) (.int .i64 0) (.int .i64 0) (.int .u64 0) (.int .u64 0) (.int .i64 2) (.int .u64 0) (.int .u64 0))) rfl ?_
            exact ⟨by rw [e.out]; rfl, (n4'.out.trans oo_w1.out).then (set8_only _ _ (.bool true) (.int .i64 0) (.int .i64 0) (.int .u64 0) (.int .u64 0) (.int .i64 2) (.int .u64 0) (.int .u64 0)) (fun q hq hl => by omega)⟩
          · by_cases hhi : (W : Int) < Sv
            · have s4 := Lib.hid (show runL c (.put0 v) (log.take (k + 2)) = .put0 v by rw [show k + 2 = k + 1 + 1 by omega, s3.out]; rw [if_neg hlo, if_pos hhi])
              have oo := Lib.hid ho.out
              have d1 : decide (Sv < (W : Int)) = false := decide_eq_false hlo
              have d2 : decide ((W : Int) < Sv) = true := decide_eq_true hhi
              clear hlo hhi
              go_wp2_with (first
                | (go_at_call 47; (with_reducible refine (rwW.out w1).mono ?_); rintro e_ w2 ⟨rfl, q_w2⟩
                   have oo_w2 := Lib.hid (oo_w1.out.trans q_w2)
                   clear c0 c1 c2 c3 c4 c5 c6 c7 f0 f1 f2 f3 f4 f5 f6 f7 r0 r1 o1
                   obtain ⟨bR, bO, bW⟩ := bl.out w2 oo_w2.out
                   have bW_w2 := Lib.hid bW
                   obtain ⟨c0, c1, c2, c3, c4, c5, c6, c7, f0, f1, f2, f3, f4, f5, f6, f7⟩ := want_cells bW
                   have r0 : w2.cell? ⟨w.heap.size, 0, none⟩ = some (.int .i64 (b : Int)) := (by simp [World.cell?, bR])
                   have r1 : w2.cell? ⟨w.heap.size, 1, none⟩ = some (.int .i64 (c : Int)) := (by simp [World.cell?, bR])
                   have o1 : w2.cell? ⟨w.heap.size + 1, 1, none⟩ = some (.int .u64 v) := (by simp [World.cell?, bO])
                   clear bR bO bW)
                | (go_at_call 47; (with_reducible refine (rwW.out wr).mono ?_); rintro e_ w1 ⟨rfl, q_w1⟩
                   have oo_w1 := Lib.hid (oo.out.trans q_w1)
                   clear c0 c1 c2 c3 c4 c5 c6 c7 f0 f1 f2 f3 f4 f5 f6 f7 r0 r1 o1
                   obtain ⟨bR, bO, bW⟩ := bl.out w1 oo_w1.out
                   have bW_w1 := Lib.hid bW
                   obtain ⟨c0, c1, c2, c3, c4, c5, c6, c7, f0, f1, f2, f3, f4, f5, f6, f7⟩ := want_cells bW
                   have r0 : w1.cell? ⟨w.heap.size, 0, none⟩ = some (.int .i64 (b : Int)) := (by simp [World.cell?, bR])
                   have r1 : w1.cell? ⟨w.heap.size, 1, none⟩ = some (.int .i64 (c : Int)) := (by simp [World.cell?, bR])
                   have o1 : w1.cell? ⟨w.heap.size + 1, 1, none⟩ = some (.int .u64 v) := (by simp [World.cell?, bO])
                   clear bR bO bW))

              go_roundw
              case rel => exact ⟨k + 2, by omega, by go_num, s4, oo_w2⟩
              case measure => simp [intOf]; omega
            · have s4 := Lib.hid (show runL c (.put0 v) (log.take (k + 2)) = .put2 v T by rw [show k + 2 = k + 1 + 1 by omega, s3.out]; rw [if_neg hlo, if_neg hhi])
              have oo := Lib.hid ho.out
              have d1 : decide (Sv < (W : Int)) = false := decide_eq_false hlo
              have d2 : decide ((W : Int) < Sv) = false := decide_eq_false hhi
              clear hlo hhi
              by_cases hk3 : n = k + 2
              · have hd3 : ((n : Int) == (k : Int) + 2) = true := by simp; omega
                have e := Lib.hid (show runL c (.put0 v) log = .put2 v T by rw [runL_all c _ log (k + 2) (by rw [hn'.out]; exact hk3.symm)]; exact s4.out)
                clear hk3
                go_wp2_with (first
                  | (go_at_call 47; (with_reducible refine (rwW.out w1).mono ?_); rintro e_ w2 ⟨rfl, q_w2⟩
                     have oo_w2 := Lib.hid (oo_w1.out.trans q_w2)
                     clear c0 c1 c2 c3 c4 c5 c6 c7 f0 f1 f2 f3 f4 f5 f6 f7 r0 r1 o1
                     obtain ⟨bR, bO, bW⟩ := bl.out w2 oo_w2.out
                     have bW_w2 := Lib.hid bW
                     obtain ⟨c0, c1, c2, c3, c4, c5, c6, c7, f0, f1, f2, f3, f4, f5, f6, f7⟩ := want_cells bW
                     have r0 : w2.cell? ⟨w.heap.size, 0, none⟩ = some (.int .i64 (b : Int)) := (by simp [World.cell?, bR])
                     have r1 : w2.cell? ⟨w.heap.size, 1, none⟩ = some (.int .i64 (c : Int)) := (by simp [World.cell?, bR])
                     have o1 : w2.cell? ⟨w.heap.size + 1, 1, none⟩ = some (.int .u64 v) := (by simp [World.cell?, bO])
                     clear bR bO bW)
                  | (go_at_call 47; (with_reducible refine (rwW.out wr).mono ?_); rintro e_ w1 ⟨rfl, q_w1⟩
                     have oo_w1 := Lib.hid (oo.out.trans q_w1)
                     clear c0 c1 c2 c3 c4 c5 c6 c7 f0 f1 f2 f3 f4 f5 f6 f7 r0 r1 o1
                     obtain ⟨bR, bO, bW⟩ := bl.out w1 oo_w1.out
                     have bW_w1 := Lib.hid bW
                     obtain ⟨c0, c1, c2, c3, c4, c5, c6, c7, f0, f1, f2, f3, f4, f5, f6, f7⟩ := want_cells bW
                     have r0 : w1.cell? ⟨w.heap.size, 0, none⟩ = some (.int .i64 (b : Int)) := (by simp [World.cell?, bR])
                     have r1 : w1.cell? ⟨w.heap.size, 1, none⟩ = some (.int .i64 (c : Int)) := (by simp [World.cell?, bR])
                     have o1 : w1.cell? ⟨w.heap.size + 1, 1, none⟩ = some (.int .u64 v) := (by simp [World.cell?, bO])
                     clear bR bO bW))

                refine bodyPost_ret (results_agg rfl _ _ (w.heap.size + 1 + 1) [.bool false, .int .i64 3, .int .i64 (b : Int), .int .u64 (T : Int), .int .u64 ((T : Int) + 1), .int .i64 0, .int .u64 0, .int .u64 0] Try.isAgg49 Try.sizeOf49 rfl (set8_heap bW_w2.out (.bool false) (.int .i64 3) (.int .i64 (b : Int)) (.int .u64 (T : Int)) (.int .u64 ((T : Int) + 1)) (.int .i64 0) (.int .u64 0) (.int .u64 0))) rfl ?_
                exact ⟨by rw [e.out]; rfl, (n4'.out.trans oo_w2.out).then (set8_only _ _ (.bool false) (.int .i64 3) (.int .i64 (b : Int)) (.int .u64 (T : Int)) (.int .u64 ((T : Int) + 1)) (.int .i64 0) (.int .u64 0) (.int .u64 0)) (fun q hq hl => by omega)⟩
              · have hd3 : ((n : Int) == (k : Int) + 2) = false := by simp; omega
                have tn2 : ((k : Int) + 2).toNat = k + 2 := by omega
                have s5 := Lib.hid (runL_take c (.put0 v) log (k + 2) (by rw [hn'.out]; omega))
                rw [s4.out] at s5
                obtain ⟨z, hz⟩ : ∃ z, log.getD (k + 2) 0 = z := ⟨_, rfl⟩
                rw [hz] at s5
                have hz' := Lib.hid hz
                clear hz
                by_cases hz0 : z = 0
                · have s6 := Lib.hid (show runL c (.put0 v) (log.take (k + 3)) = .put0 v by rw [show k + 3 = k + 2 + 1 by omega, s5.out]; simp only [res]; rw [if_pos hz0])
                  subst hz0
                  go_wp2_with (first
                    | (go_at_call 47; (with_reducible refine (rwW.out w1).mono ?_); rintro e_ w2 ⟨rfl, q_w2⟩
                       have oo_w2 := Lib.hid (oo_w1.out.trans q_w2)
                       clear c0 c1 c2 c3 c4 c5 c6 c7 f0 f1 f2 f3 f4 f5 f6 f7 r0 r1 o1
                       obtain ⟨bR, bO, bW⟩ := bl.out w2 oo_w2.out
                       have bW_w2 := Lib.hid bW
                       obtain ⟨c0, c1, c2, c3, c4, c5, c6, c7, f0, f1, f2, f3, f4, f5, f6, f7⟩ := want_cells bW
                       have r0 : w2.cell? ⟨w.heap.size, 0, none⟩ = some (.int .i64 (b : Int)) := (by simp [World.cell?, bR])
                       have r1 : w2.cell? ⟨w.heap.size, 1, none⟩ = some (.int .i64 (c : Int)) := (by simp [World.cell?, bR])
                       have o1 : w2.cell? ⟨w.heap.size + 1, 1, none⟩ = some (.int .u64 v) := (by simp [World.cell?, bO])
                       clear bR bO bW
                       obtain ⟨gx, hgx0, _, hgx⟩ := (lW.out.keep oo_w2.out (fun _ _ _ h => h.elim)) (k + 2) (by rw [hn'.out]; omega)
                       simp only [Option.some.injEq, Addr.mk.injEq, and_true] at hgx0
                       subst hgx0
                       have x2 := hgx (k + 2) (by rw [hn'.out]; omega)
                       rw [hz'.out] at x2
                       clear hgx)
                    | (go_at_call 47; (with_reducible refine (rwW.out wr).mono ?_); rintro e_ w1 ⟨rfl, q_w1⟩
                       have oo_w1 := Lib.hid (oo.out.trans q_w1)
                       clear c0 c1 c2 c3 c4 c5 c6 c7 f0 f1 f2 f3 f4 f5 f6 f7 r0 r1 o1
                       obtain ⟨bR, bO, bW⟩ := bl.out w1 oo_w1.out
                       have bW_w1 := Lib.hid bW
                       obtain ⟨c0, c1, c2, c3, c4, c5, c6, c7, f0, f1, f2, f3, f4, f5, f6, f7⟩ := want_cells bW
                       have r0 : w1.cell? ⟨w.heap.size, 0, none⟩ = some (.int .i64 (b : Int)) := (by simp [World.cell?, bR])
                       have r1 : w1.cell? ⟨w.heap.size, 1, none⟩ = some (.int .i64 (c : Int)) := (by simp [World.cell?, bR])
                       have o1 : w1.cell? ⟨w.heap.size + 1, 1, none⟩ = some (.int .u64 v) := (by simp [World.cell?, bO])
                       clear bR bO bW))

                  go_roundw
                  case rel => exact ⟨k + 3, by omega, by go_num, s6, oo_w2⟩
                  case measure => simp [intOf]; omega
                · have s6 := Lib.hid (show runL c (.put0 v) (log.take (k + 3)) = .put3 v T by rw [show k + 3 = k + 2 + 1 by omega, s5.out]; simp only [res]; rw [if_neg hz0])
                  have hzb : (z == 0) = false := by simpa using hz0
                  clear hz0
                  by_cases hk4 : n = k + 3
                  · have hd4 : ((n : Int) - (k : Int) == 3) = true := by simp; omega
                    have e := Lib.hid (show runL c (.put0 v) log = .put3 v T by rw [runL_all c _ log (k + 3) (by rw [hn'.out]; exact hk4.symm)]; exact s6.out)
                    clear hk4
                    go_wp2_with (first
                      | (go_at_call 47; (with_reducible refine (rwW.out w1).mono ?_); rintro e_ w2 ⟨rfl, q_w2⟩
                         have oo_w2 := Lib.hid (oo_w1.out.trans q_w2)
                         clear c0 c1 c2 c3 c4 c5 c6 c7 f0 f1 f2 f3 f4 f5 f6 f7 r0 r1 o1
                         obtain ⟨bR, bO, bW⟩ := bl.out w2 oo_w2.out
                         have bW_w2 := Lib.hid bW
                         obtain ⟨c0, c1, c2, c3, c4, c5, c6, c7, f0, f1, f2, f3, f4, f5, f6, f7⟩ := want_cells bW
                         have r0 : w2.cell? ⟨w.heap.size, 0, none⟩ = some (.int .i64 (b : Int)) := (by simp [World.cell?, bR])
                         have r1 : w2.cell? ⟨w.heap.size, 1, none⟩ = some (.int .i64 (c : Int)) := (by simp [World.cell?, bR])
                         have o1 : w2.cell? ⟨w.heap.size + 1, 1, none⟩ = some (.int .u64 v) := (by simp [World.cell?, bO])
                         clear bR bO bW
                         obtain ⟨gx, hgx0, _, hgx⟩ := (lW.out.keep oo_w2.out (fun _ _ _ h => h.elim)) (k + 2) (by rw [hn'.out]; omega)
                         simp only [Option.some.injEq, Addr.mk.injEq, and_true] at hgx0
                         subst hgx0
                         have x2 := hgx (k + 2) (by rw [hn'.out]; omega)
                         rw [hz'.out] at x2
                         clear hgx)
                      | (go_at_call 47; (with_reducible refine (rwW.out wr).mono ?_); rintro e_ w1 ⟨rfl, q_w1⟩
                         have oo_w1 := Lib.hid (oo.out.trans q_w1)
                         clear c0 c1 c2 c3 c4 c5 c6 c7 f0 f1 f2 f3 f4 f5 f6 f7 r0 r1 o1
                         obtain ⟨bR, bO, bW⟩ := bl.out w1 oo_w1.out
                         have bW_w1 := Lib.hid bW
                         obtain ⟨c0, c1, c2, c3, c4, c5, c6, c7, f0, f1, f2, f3, f4, f5, f6, f7⟩ := want_cells bW
                         have r0 : w1.cell? ⟨w.heap.size, 0, none⟩ = some (.int .i64 (b : Int)) := (by simp [World.cell?, bR])
                         have r1 : w1.cell? ⟨w.heap.size, 1, none⟩ = some (.int .i64 (c : Int)) := (by simp [World.cell?, bR])
                         have o1 : w1.cell? ⟨w.heap.size + 1, 1, none⟩ = some (.int .u64 v) := (by simp [World.cell?, bO])
                         clear bR bO bW))

                    clear hcl hT0 hd2 hd3 hzb d1 d2 hk1 hk2 hk3 hS0 hkl hkn x0 x1 x2 hd4 hk hlen hlen'
                    have hwt : IntKind.i64.wrap ((turnAt b c T : Int) + 1) = (turnAt b c T : Int) + 1 := IntWalk.i64_in _ (by have := turnAt_lt b c T hc; omega)
                    go_region_with (first
                      | (go_at_call 46; (with_reducible refine (rturn_any _ b c T hc hc2 hb).mono ?_); rintro e_ w3 ⟨rfl, q_w3⟩
                         have oo_w3 := Lib.hid (oo_w2.out.drew.trans q_w3)
                         clear c0 c1 c2 c3 c4 c5 c6 c7 f0 f1 f2 f3 f4 f5 f6 f7 r0 r1 o1
                         obtain ⟨bR, bO, bW⟩ := bl.out w3 oo_w3.out
                         have bW_w3 := Lib.hid bW
                         obtain ⟨c0, c1, c2, c3, c4, c5, c6, c7, f0, f1, f2, f3, f4, f5, f6, f7⟩ := want_cells bW
                         have r0 : w3.cell? ⟨w.heap.size, 0, none⟩ = some (.int .i64 (b : Int)) := (by simp [World.cell?, bR])
                         have r1 : w3.cell? ⟨w.heap.size, 1, none⟩ = some (.int .i64 (c : Int)) := (by simp [World.cell?, bR])
                         have o1 : w3.cell? ⟨w.heap.size + 1, 1, none⟩ = some (.int .u64 v) := (by simp [World.cell?, bO])
                         clear bR bO bW)
                      | (go_at_call 46; (with_reducible refine (rturn_any _ b c T hc hc2 hb).mono ?_); rintro e_ w3 ⟨rfl, q_w3⟩
                         have oo_w3 := Lib.hid ((oo_w2.out.drewN _).trans q_w3)
                         clear c0 c1 c2 c3 c4 c5 c6 c7 f0 f1 f2 f3 f4 f5 f6 f7 r0 r1 o1
                         obtain ⟨bR, bO, bW⟩ := bl.out w3 oo_w3.out
                         have bW_w3 := Lib.hid bW
                         obtain ⟨c0, c1, c2, c3, c4, c5, c6, c7, f0, f1, f2, f3, f4, f5, f6, f7⟩ := want_cells bW
                         have r0 : w3.cell? ⟨w.heap.size, 0, none⟩ = some (.int .i64 (b : Int)) := (by simp [World.cell?, bR])
                         have r1 : w3.cell? ⟨w.heap.size, 1, none⟩ = some (.int .i64 (c : Int)) := (by simp [World.cell?, bR])
                         have o1 : w3.cell? ⟨w.heap.size + 1, 1, none⟩ = some (.int .u64 v) := (by simp [World.cell?, bO])
                         clear bR bO bW))
                    all_goals (
                      go_wp2
                      refine bodyPost_ret (results_agg rfl _ _ (w.heap.size + 1 + 1) [.bool false, .int .i64 2, .int .i64 ((turnAt b c T : Int) + 1), .int .u64 v, .int .u64 0, .int .i64 0, .int .u64 0, .int .u64 0] Try.isAgg49 Try.sizeOf49 rfl (set8_heap bW_w3.out (.bool false) (.int .i64 2) (.int .i64 ((turnAt b c T : Int) + 1)) (.int .u64 v) (.int .u64 0) (.int .i64 0) (.int .u64 0) (.int .u64 0))) rfl ?_
                      exact ⟨by rw [e.out]; rfl, (n4'.out.trans oo_w3.out).then (set8_only _ _ (.bool false) (.int .i64 2) (.int .i64 ((turnAt b c T : Int) + 1)) (.int .u64 v) (.int .u64 0) (.int .i64 0) (.int .u64 0) (.int .u64 0)) (fun q hq hl => by omega)⟩)
                  · have hd4 : ((n : Int) - (k : Int) == 3) = false := by simp; omega
                    have s7 := Lib.hid (show runL c (.put0 v) (log.take (k + 4)) = .put4 v T by rw [show k + 4 = k + 3 + 1 by omega, runL_take c (.put0 v) log (k + 3) (by rw [hn'.out]; omega), s6.out]; rfl)
                    by_cases hk5 : n = k + 4
                    · have hd5 : ((n : Int) - (k : Int) == 4) = true := by simp; omega
                      have e := Lib.hid (show runL c (.put0 v) log = .put4 v T by rw [runL_all c _ log (k + 4) (by rw [hn'.out]; exact hk5.symm)]; exact s7.out)
                      clear hk5 hk4
                      go_wp2_with (first
                        | (go_at_call 47; (with_reducible refine (rwW.out w1).mono ?_); rintro e_ w2 ⟨rfl, q_w2⟩
                           have oo_w2 := Lib.hid (oo_w1.out.trans q_w2)
                           clear c0 c1 c2 c3 c4 c5 c6 c7 f0 f1 f2 f3 f4 f5 f6 f7 r0 r1 o1
                           obtain ⟨bR, bO, bW⟩ := bl.out w2 oo_w2.out
                           have bW_w2 := Lib.hid bW
                           obtain ⟨c0, c1, c2, c3, c4, c5, c6, c7, f0, f1, f2, f3, f4, f5, f6, f7⟩ := want_cells bW
                           have r0 : w2.cell? ⟨w.heap.size, 0, none⟩ = some (.int .i64 (b : Int)) := (by simp [World.cell?, bR])
                           have r1 : w2.cell? ⟨w.heap.size, 1, none⟩ = some (.int .i64 (c : Int)) := (by simp [World.cell?, bR])
                           have o1 : w2.cell? ⟨w.heap.size + 1, 1, none⟩ = some (.int .u64 v) := (by simp [World.cell?, bO])
                           clear bR bO bW
                           obtain ⟨gx, hgx0, _, hgx⟩ := (lW.out.keep oo_w2.out (fun _ _ _ h => h.elim)) (k + 2) (by rw [hn'.out]; omega)
                           simp only [Option.some.injEq, Addr.mk.injEq, and_true] at hgx0
                           subst hgx0
                           have x2 := hgx (k + 2) (by rw [hn'.out]; omega)
                           rw [hz'.out] at x2
                           clear hgx)
                        | (go_at_call 47; (with_reducible refine (rwW.out wr).mono ?_); rintro e_ w1 ⟨rfl, q_w1⟩
                           have oo_w1 := Lib.hid (oo.out.trans q_w1)
                           clear c0 c1 c2 c3 c4 c5 c6 c7 f0 f1 f2 f3 f4 f5 f6 f7 r0 r1 o1
                           obtain ⟨bR, bO, bW⟩ := bl.out w1 oo_w1.out
                           have bW_w1 := Lib.hid bW
                           obtain ⟨c0, c1, c2, c3, c4, c5, c6, c7, f0, f1, f2, f3, f4, f5, f6, f7⟩ := want_cells bW
                           have r0 : w1.cell? ⟨w.heap.size, 0, none⟩ = some (.int .i64 (b : Int)) := (by simp [World.cell?, bR])
                           have r1 : w1.cell? ⟨w.heap.size, 1, none⟩ = some (.int .i64 (c : Int)) := (by simp [World.cell?, bR])
                           have o1 : w1.cell? ⟨w.heap.size + 1, 1, none⟩ = some (.int .u64 v) := (by simp [World.cell?, bO])
                           clear bR bO bW))

                      clear hcl hT0 hd2 hd3 hzb d1 d2 hk1 hk2 hk3 hS0 hkl hkn x0 x1 x2 hd4 hd5 hk hlen hlen'
                      have hWb := waitAt_le c T
                      rw [hWq'.out] at hWb
                      have hwt : IntKind.u64.wrap ((W : Int) + 1) = (W : Int) + 1 := IntWalk.u64_in _ (by omega)
                      clear hWb
                      go_region_with (first
                        | (go_at_call 46; (with_reducible refine (rturn_any _ b c T hc hc2 hb).mono ?_); rintro e_ w4 ⟨rfl, q_w4⟩
                           have oo_w4 := Lib.hid (oo_w3.out.trans q_w4)
                           clear c0 c1 c2 c3 c4 c5 c6 c7 f0 f1 f2 f3 f4 f5 f6 f7 r0 r1 o1
                           obtain ⟨bR, bO, bW⟩ := bl.out w4 oo_w4.out
                           have bW_w4 := Lib.hid bW
                           obtain ⟨c0, c1, c2, c3, c4, c5, c6, c7, f0, f1, f2, f3, f4, f5, f6, f7⟩ := want_cells bW
                           have r0 : w4.cell? ⟨w.heap.size, 0, none⟩ = some (.int .i64 (b : Int)) := (by simp [World.cell?, bR])
                           have r1 : w4.cell? ⟨w.heap.size, 1, none⟩ = some (.int .i64 (c : Int)) := (by simp [World.cell?, bR])
                           have o1 : w4.cell? ⟨w.heap.size + 1, 1, none⟩ = some (.int .u64 v) := (by simp [World.cell?, bO])
                           clear bR bO bW)
                        | (go_at_call 46; (with_reducible refine (rturn_any _ b c T hc hc2 hb).mono ?_); rintro e_ w3 ⟨rfl, q_w3⟩
                           have oo_w3 := Lib.hid (oo_w2.out.drew.trans q_w3)
                           clear c0 c1 c2 c3 c4 c5 c6 c7 f0 f1 f2 f3 f4 f5 f6 f7 r0 r1 o1
                           obtain ⟨bR, bO, bW⟩ := bl.out w3 oo_w3.out
                           have bW_w3 := Lib.hid bW
                           obtain ⟨c0, c1, c2, c3, c4, c5, c6, c7, f0, f1, f2, f3, f4, f5, f6, f7⟩ := want_cells bW
                           have r0 : w3.cell? ⟨w.heap.size, 0, none⟩ = some (.int .i64 (b : Int)) := (by simp [World.cell?, bR])
                           have r1 : w3.cell? ⟨w.heap.size, 1, none⟩ = some (.int .i64 (c : Int)) := (by simp [World.cell?, bR])
                           have o1 : w3.cell? ⟨w.heap.size + 1, 1, none⟩ = some (.int .u64 v) := (by simp [World.cell?, bO])
                           clear bR bO bW)
                        | (go_at_call 46; (with_reducible refine (rturn_any _ b c T hc hc2 hb).mono ?_); rintro e_ w3 ⟨rfl, q_w3⟩
                           have oo_w3 := Lib.hid ((oo_w2.out.drewN _).trans q_w3)
                           clear c0 c1 c2 c3 c4 c5 c6 c7 f0 f1 f2 f3 f4 f5 f6 f7 r0 r1 o1
                           obtain ⟨bR, bO, bW⟩ := bl.out w3 oo_w3.out
                           have bW_w3 := Lib.hid bW
                           obtain ⟨c0, c1, c2, c3, c4, c5, c6, c7, f0, f1, f2, f3, f4, f5, f6, f7⟩ := want_cells bW
                           have r0 : w3.cell? ⟨w.heap.size, 0, none⟩ = some (.int .i64 (b : Int)) := (by simp [World.cell?, bR])
                           have r1 : w3.cell? ⟨w.heap.size, 1, none⟩ = some (.int .i64 (c : Int)) := (by simp [World.cell?, bR])
                           have o1 : w3.cell? ⟨w.heap.size + 1, 1, none⟩ = some (.int .u64 v) := (by simp [World.cell?, bO])
                           clear bR bO bW)
                        | (go_at_call 47; (with_reducible refine (rwW.out _).mono ?_); rintro e_ w4 ⟨rfl, q_w4⟩
                           have oo_w4 := Lib.hid (oo_w3.out.trans q_w4)
                           clear c0 c1 c2 c3 c4 c5 c6 c7 f0 f1 f2 f3 f4 f5 f6 f7 r0 r1 o1
                           obtain ⟨bR, bO, bW⟩ := bl.out w4 oo_w4.out
                           have bW_w4 := Lib.hid bW
                           obtain ⟨c0, c1, c2, c3, c4, c5, c6, c7, f0, f1, f2, f3, f4, f5, f6, f7⟩ := want_cells bW
                           have r0 : w4.cell? ⟨w.heap.size, 0, none⟩ = some (.int .i64 (b : Int)) := (by simp [World.cell?, bR])
                           have r1 : w4.cell? ⟨w.heap.size, 1, none⟩ = some (.int .i64 (c : Int)) := (by simp [World.cell?, bR])
                           have o1 : w4.cell? ⟨w.heap.size + 1, 1, none⟩ = some (.int .u64 v) := (by simp [World.cell?, bO])
                           clear bR bO bW)
                        | (go_at_call 47; (with_reducible refine (rwW.out _).mono ?_); rintro e_ w3 ⟨rfl, q_w3⟩
                           have oo_w3 := Lib.hid (oo_w2.out.drew.trans q_w3)
                           clear c0 c1 c2 c3 c4 c5 c6 c7 f0 f1 f2 f3 f4 f5 f6 f7 r0 r1 o1
                           obtain ⟨bR, bO, bW⟩ := bl.out w3 oo_w3.out
                           have bW_w3 := Lib.hid bW
                           obtain ⟨c0, c1, c2, c3, c4, c5, c6, c7, f0, f1, f2, f3, f4, f5, f6, f7⟩ := want_cells bW
                           have r0 : w3.cell? ⟨w.heap.size, 0, none⟩ = some (.int .i64 (b : Int)) := (by simp [World.cell?, bR])
                           have r1 : w3.cell? ⟨w.heap.size, 1, none⟩ = some (.int .i64 (c : Int)) := (by simp [World.cell?, bR])
                           have o1 : w3.cell? ⟨w.heap.size + 1, 1, none⟩ = some (.int .u64 v) := (by simp [World.cell?, bO])
                           clear bR bO bW)
                        | (go_at_call 47; (with_reducible refine (rwW.out _).mono ?_); rintro e_ w3 ⟨rfl, q_w3⟩
                           have oo_w3 := Lib.hid ((oo_w2.out.drewN _).trans q_w3)
                           clear c0 c1 c2 c3 c4 c5 c6 c7 f0 f1 f2 f3 f4 f5 f6 f7 r0 r1 o1
                           obtain ⟨bR, bO, bW⟩ := bl.out w3 oo_w3.out
                           have bW_w3 := Lib.hid bW
                           obtain ⟨c0, c1, c2, c3, c4, c5, c6, c7, f0, f1, f2, f3, f4, f5, f6, f7⟩ := want_cells bW
                           have r0 : w3.cell? ⟨w.heap.size, 0, none⟩ = some (.int .i64 (b : Int)) := (by simp [World.cell?, bR])
                           have r1 : w3.cell? ⟨w.heap.size, 1, none⟩ = some (.int .i64 (c : Int)) := (by simp [World.cell?, bR])
                           have o1 : w3.cell? ⟨w.heap.size + 1, 1, none⟩ = some (.int .u64 v) := (by simp [World.cell?, bO])
                           clear bR bO bW))
                      all_goals (
                        go_wp2
                        refine bodyPost_ret (results_agg rfl _ _ (w.heap.size + 1 + 1) [.bool false, .int .i64 2, .int .i64 (turnAt b c T : Int), .int .u64 ((W : Int) + 1), .int .u64 0, .int .i64 0, .int .u64 0, .int .u64 0] Try.isAgg49 Try.sizeOf49 rfl (set8_heap bW_w4.out (.bool false) (.int .i64 2) (.int .i64 (turnAt b c T : Int)) (.int .u64 ((W : Int) + 1)) (.int .u64 0) (.int .i64 0) (.int .u64 0) (.int .u64 0))) rfl ?_
                        exact ⟨by rw [e.out]; simp only [wantOf, acc, accWant, hWq'.out], (n4'.out.trans oo_w4.out).then (set8_only _ _ (.bool false) (.int .i64 2) (.int .i64 (turnAt b c T : Int)) (.int .u64 ((W : Int) + 1)) (.int .u64 0) (.int .i64 0) (.int .u64 0) (.int .u64 0)) (fun q hq hl => by omega)⟩)
                    · have hd5 : ((n : Int) - (k : Int) == 4) = false := by simp; omega
                      have e := Lib.hid (show runL c (.put0 v) log = .over 1 0 T from runL_done c _ log (k + 5) (by rw [show k + 5 = k + 4 + 1 by omega, runL_take c (.put0 v) log (k + 4) (by rw [hn'.out]; omega), s7.out]; rfl))
                      clear hk5 hk4
                      go_wp2_with (first
                        | (go_at_call 47; (with_reducible refine (rwW.out w1).mono ?_); rintro e_ w2 ⟨rfl, q_w2⟩
                           have oo_w2 := Lib.hid (oo_w1.out.trans q_w2)
                           clear c0 c1 c2 c3 c4 c5 c6 c7 f0 f1 f2 f3 f4 f5 f6 f7 r0 r1 o1
                           obtain ⟨bR, bO, bW⟩ := bl.out w2 oo_w2.out
                           have bW_w2 := Lib.hid bW
                           obtain ⟨c0, c1, c2, c3, c4, c5, c6, c7, f0, f1, f2, f3, f4, f5, f6, f7⟩ := want_cells bW
                           have r0 : w2.cell? ⟨w.heap.size, 0, none⟩ = some (.int .i64 (b : Int)) := (by simp [World.cell?, bR])
                           have r1 : w2.cell? ⟨w.heap.size, 1, none⟩ = some (.int .i64 (c : Int)) := (by simp [World.cell?, bR])
                           have o1 : w2.cell? ⟨w.heap.size + 1, 1, none⟩ = some (.int .u64 v) := (by simp [World.cell?, bO])
                           clear bR bO bW
                           obtain ⟨gx, hgx0, _, hgx⟩ := (lW.out.keep oo_w2.out (fun _ _ _ h => h.elim)) (k + 2) (by rw [hn'.out]; omega)
                           simp only [Option.some.injEq, Addr.mk.injEq, and_true] at hgx0
                           subst hgx0
                           have x2 := hgx (k + 2) (by rw [hn'.out]; omega)
                           rw [hz'.out] at x2
                           clear hgx)
                        | (go_at_call 47; (with_reducible refine (rwW.out wr).mono ?_); rintro e_ w1 ⟨rfl, q_w1⟩
                           have oo_w1 := Lib.hid (oo.out.trans q_w1)
                           clear c0 c1 c2 c3 c4 c5 c6 c7 f0 f1 f2 f3 f4 f5 f6 f7 r0 r1 o1
                           obtain ⟨bR, bO, bW⟩ := bl.out w1 oo_w1.out
                           have bW_w1 := Lib.hid bW
                           obtain ⟨c0, c1, c2, c3, c4, c5, c6, c7, f0, f1, f2, f3, f4, f5, f6, f7⟩ := want_cells bW
                           have r0 : w1.cell? ⟨w.heap.size, 0, none⟩ = some (.int .i64 (b : Int)) := (by simp [World.cell?, bR])
                           have r1 : w1.cell? ⟨w.heap.size, 1, none⟩ = some (.int .i64 (c : Int)) := (by simp [World.cell?, bR])
                           have o1 : w1.cell? ⟨w.heap.size + 1, 1, none⟩ = some (.int .u64 v) := (by simp [World.cell?, bO])
                           clear bR bO bW))

                      refine bodyPost_ret (results_agg rfl _ _ (w.heap.size + 1 + 1) [.bool true, .int .i64 0, .int .i64 0, .int .u64 0, .int .u64 0, .int .i64 1, .int .u64 0, .int .u64 (T : Int)] Try.isAgg49 Try.sizeOf49 rfl (set8_heap bW_w2.out (.bool true) (.int .i64 0) (.int .i64 0) (.int .u64 0) (.int .u64 0) (.int .i64 1) (.int .u64 0) (.int .u64 (T : Int)))) rfl ?_
                      exact ⟨by rw [e.out]; rfl, (n4'.out.trans oo_w2.out).then (set8_only _ _ (.bool true) (.int .i64 0) (.int .i64 0) (.int .u64 0) (.int .u64 0) (.int .i64 1) (.int .u64 0) (.int .u64 (T : Int))) (fun q hq hl => by omega)⟩
end Go.Proofs.Ytpnpbgcndlfobaa
