/- The document's Next of a bell's operation, whatever it was answered: one contract. -/
import Derived.Test.YtfhbgabblegecaaBlD
import Derived.LoopTactic
import Derived.Deep.DeepCutAuto
namespace Go.Proofs.Ytfhbgabblegecaa.Bl
open Go.RowKit

theorem two_objs (w : World) (o1 o2 : Obj) : ((w.alloc o1).alloc o2).heap[w.heap.size]? = some o1 ∧ ((w.alloc o1).alloc o2).heap[w.heap.size + 1]? = some o2 ∧ Only Nil w ((w.alloc o1).alloc o2) := by
  have s1 : (w.alloc o1).heap.size = w.heap.size + 1 := by simp
  refine ⟨?_, ?_, ((Only.refl _ _).alloc _).alloc _⟩
  · rw [Below.heap_alloc _ _ _ (by omega)]; exact heap_new w o1
  · have := heap_new (w.alloc o1) o2; rwa [s1] at this
/-- Where a Ring stands that is at v, or behind all. -/
def atv (n v : Nat) : OS := if v < n then .look v else .over 4 (-1)
theorem on_atv (n v : Nat) (h : v < n) : on n v = atv n (v + 1) := by
  unfold on atv
  by_cases e : v + 1 = n
  · rw [if_pos e, if_neg (by omega)]
  · rw [if_neg e, if_pos (by omega)]

set_option maxRecDepth 100000 in
set_option maxHeartbeats 16000000 in
theorem rring_any (w : World) (b n : Nat) (a : Option Addr) (cap : Nat) (log : List Int) (hn0 : 0 < n) (hn8 : n ≤ 8) (hb : b ≤ 1000) (hl : LogIn w a log) (hf : Fits n (.look 0) log) (hlen : log.length ≤ 1000000) :
    Calls Try.prog 49 #[.agg #[.int .i64 (b : Int), .int .i64 (n : Int)], .slice a log.length cap] w fun e w' => e = .returned (wantOf b (runL n (.look 0) log)) ∧ Only Nil w w' := by
  have hl' := Lib.hid hl
  have hf' := Lib.hid hf
  clear hl hf
  generalize hm : log.length = m at hlen ⊢
  have hm' := Lib.hid hm
  clear hm
  have hlen' : (m : Int) ≤ 1000000 := by omega
  have hbi : (b : Int) ≤ 1000 := by omega
  have hni : (n : Int) ≤ 8 := by omega
  have hcc := Lib.hid (And.intro hn0 (And.intro hn8 (And.intro hb hlen)))
  clear hlen hn0 hn8 hb
  go_enter Try.func49, Try.ntmps49
  go_wp2_with (fail)
  obtain ⟨n1, n2, n3⟩ := two_objs w (.cells #[.int .i64 (b : Int), .int .i64 (n : Int)] 25) (.cells #[.bool false, .int .i64 0, .int .i64 0, .int .u64 0, .int .u64 0, .int .i64 0, .int .u64 0, .int .u64 0] 48)
  generalize ((w.alloc (.cells #[.int .i64 (b : Int), .int .i64 (n : Int)] 25)).alloc (.cells #[.bool false, .int .i64 0, .int .i64 0, .int .u64 0, .int .u64 0, .int .i64 0, .int .u64 0, .int .u64 0] 48)) = Z at *
  have lW := Lib.hid (hl'.out.keep n3 (fun _ _ _ h => h.elim))
  have bl := Lib.hid (fun (w' : World) (o : Only Nil Z w') => And.intro ((o.block _ (lt_of_block n1) (fun h => h)).trans n1) ((o.block _ (lt_of_block n2) (fun h => h)).trans n2))
  have n3' := Lib.hid n3
  clear n1 n2 n3 hl'
  go_loopw [5, 6] (fun s5 s6 wr => ∃ (k v : Nat), k ≤ m ∧ v ≤ n ∧ s5 = .int .i64 (k : Int) ∧ s6 = .int .i64 (v : Int) ∧ Hid (runL n (.look 0) (log.take k) = atv n v) ∧ Hid (Only Nil Z wr))
    (fun _ s6 _ => n - (intOf s6).toNat)
  case atStart => exact ⟨0, 0, Nat.zero_le _, Nat.zero_le _, rfl, rfl, Lib.hid (by unfold atv; rw [if_pos hcc.out.1]; rfl), Lib.hid (Only.refl _ _)⟩
  case round =>
    obtain ⟨k, v, hk, hv, rfl, rfl, hst, ho⟩ := hrel
    obtain ⟨bR, bW⟩ := bl.out wr ho.out
    have bW0 := Lib.hid bW
    obtain ⟨c0, c1, c2, c3, c4, c5, c6, c7, f0, f1, f2, f3, f4, f5, f6, f7⟩ := want_cells bW
    have r0 : wr.cell? ⟨w.heap.size, 0, none⟩ = some (.int .i64 (b : Int)) := (by simp [World.cell?, bR])
    have r1 : wr.cell? ⟨w.heap.size, 1, none⟩ = some (.int .i64 (n : Int)) := (by simp [World.cell?, bR])
    clear bR bW
    have kB : (k : Int) ≤ 1000000 := by omega
    have vB : (v : Int) ≤ 8 := by omega
    by_cases hvn : v < n
    · have hvi : (v : Int) < (n : Int) := by omega
      have st0 := hst.out
      unfold atv at st0
      rw [if_pos hvn] at st0
      have wbv : IntKind.i64.wrap ((b : Int) + (v : Int)) = (b : Int) + (v : Int) := IntWalk.i64_in _ (by omega)
      by_cases hkm : k = m
      · subst hkm
        have e := Lib.hid (show runL n (.look 0) log = .look v by rw [runL_all n _ log k hm'.out.symm]; exact st0)
        clear hk hv hvn st0
        go_wp2_with (fail)
        refine bodyPost_ret (results_agg rfl _ _ (w.heap.size + 1) [(.bool false), (.int .i64 1), (.int .i64 ((b : Int) + (v : Int))), (.int .u64 0), (.int .u64 0), (.int .i64 0), (.int .u64 0), (.int .u64 0)] Try.isAgg48 Try.sizeOf48 rfl (set8_heap bW0.out (.bool false) (.int .i64 1) (.int .i64 ((b : Int) + (v : Int))) (.int .u64 0) (.int .u64 0) (.int .i64 0) (.int .u64 0) (.int .u64 0))) rfl ?_
        exact ⟨by rw [e.out]; simp [wantOf, acc, accWant], (n3'.out.trans ho.out).then (set8_only _ _ (.bool false) (.int .i64 1) (.int .i64 ((b : Int) + (v : Int))) (.int .u64 0) (.int .u64 0) (.int .i64 0) (.int .u64 0) (.int .u64 0)) (fun q hq hl => by omega)⟩
      · have hkl : k < m := by omega
        have hk1 : ¬ ((m : Int) = (k : Int)) := by omega
        have lk := Lib.hid (lW.out.keep ho.out (fun _ _ _ h => h.elim))
        obtain ⟨g, rfl, hg1, hg2⟩ := lk.out k (by rw [hm'.out]; exact hkl)
        have x0 := hg2 k (by rw [hm'.out]; exact hkl)
        have s1 := runL_take n (.look 0) log k (by rw [hm'.out]; exact hkl)
        rw [st0] at s1
        have ft := hf'.out
        have wk1 : IntKind.i64.wrap ((k : Int) + 1) = (k : Int) + 1 := IntWalk.i64_in _ (by omega)
        have ki : (k : Int) < (m : Int) := by omega
        by_cases ha : log.getD k 0 = 1
        · have s2 : runL n (.look 0) (log.take (k + 1)) = .rouse v := by rw [s1]; exact if_pos ha
          rw [ha] at x0
          by_cases hkm2 : k + 1 = m
          · have hk2 : ((m : Int) = (k : Int) + 1) := by omega
            have e := Lib.hid (show runL n (.look 0) log = .rouse v by rw [runL_all n _ log (k + 1) (by rw [hm'.out, hkm2])]; exact s2)
            clear hk hv hvn st0 s1 s2 ha hkl hkm hg2 lk hkm2 ft
            go_wp2_with (fail)
            refine bodyPost_ret (results_agg rfl _ _ (w.heap.size + 1) [(.bool false), (.int .i64 3), (.int .i64 ((b : Int) + (v : Int))), (.int .u64 1), (.int .u64 0), (.int .i64 0), (.int .u64 0), (.int .u64 0)] Try.isAgg48 Try.sizeOf48 rfl (set8_heap bW0.out (.bool false) (.int .i64 3) (.int .i64 ((b : Int) + (v : Int))) (.int .u64 1) (.int .u64 0) (.int .i64 0) (.int .u64 0) (.int .u64 0))) rfl ?_
            exact ⟨by rw [e.out]; simp [wantOf, acc, accWant], (n3'.out.trans ho.out).then (set8_only _ _ (.bool false) (.int .i64 3) (.int .i64 ((b : Int) + (v : Int))) (.int .u64 1) (.int .u64 0) (.int .i64 0) (.int .u64 0) (.int .u64 0)) (fun q hq hl => by omega)⟩
          · have hkl2 : k + 1 < m := by omega
            have hk2 : ¬ ((m : Int) = (k : Int) + 1) := by omega
            have x1 := hg2 (k + 1) (by rw [hm'.out]; exact hkl2)
            have s3 := runL_take n (.look 0) log (k + 1) (by rw [hm'.out]; exact hkl2)
            rw [s2] at s3
            have f3 := (ft (k + 1) (by rw [hm'.out]; exact hkl2)).2.2
            rw [s2] at f3
            have wk2 : IntKind.i64.wrap ((k : Int) + 1 + 1) = (k : Int) + 2 := by rw [show (k : Int) + 1 + 1 = (k : Int) + 2 by omega]; exact IntWalk.i64_in _ (by omega)
            have wk3 : IntKind.i64.wrap ((k : Int) + 2 - 1) = ((k + 1 : Nat) : Int) := by rw [show (k : Int) + 2 - 1 = ((k + 1 : Nat) : Int) by omega]; exact IntWalk.i64_in _ (by omega)
            have ki2 : ((k + 1 : Nat) : Int) < (m : Int) := by omega
            have kz2 : ¬ (((k + 1 : Nat) : Int) < 0) := by omega
            by_cases ha2 : log.getD (k + 1) 0 = 1
            · have s4 : runL n (.look 0) (log.take (k + 2)) = .over 7 (v : Int) := by rw [s3]; exact if_neg (by rw [ha2]; decide)
              have e := Lib.hid (runL_done n _ log (k + 2) s4)
              have wv : IntKind.u64.wrap (v : Int) = (v : Int) := by rw [IntKind.wrap_u64]; omega
              rw [ha2] at x1
              clear hk hv hvn st0 s1 s2 ha hkl hkm hg2 lk hkl2 ft s3 s4 ha2 f3 hkm2
              generalize k + 1 = k1 at x1 wk3 ki2 kz2
              go_wp2_with (fail)
              refine bodyPost_ret (results_agg rfl _ _ (w.heap.size + 1) [(.bool true), (.int .i64 0), (.int .i64 0), (.int .u64 0), (.int .u64 0), (.int .i64 7), (.int .u64 (v : Int)), (.int .u64 0)] Try.isAgg48 Try.sizeOf48 rfl (set8_heap bW0.out (.bool true) (.int .i64 0) (.int .i64 0) (.int .u64 0) (.int .u64 0) (.int .i64 7) (.int .u64 (v : Int)) (.int .u64 0))) rfl ?_
              exact ⟨by rw [e.out]; rfl, (n3'.out.trans ho.out).then (set8_only _ _ (.bool true) (.int .i64 0) (.int .i64 0) (.int .u64 0) (.int .u64 0) (.int .i64 7) (.int .u64 (v : Int)) (.int .u64 0)) (fun q hq hl => by omega)⟩
            · have ha3 : log.getD (k + 1) 0 = 0 := f3.resolve_right ha2
              have s4 : runL n (.look 0) (log.take (k + 2)) = atv n (v + 1) := by rw [s3]; exact (if_pos ha3).trans (on_atv n v hvn)
              rw [ha3] at x1
              have s4' := Lib.hid s4
              have hv2 := Lib.hid (And.intro hvn hkl2)
              clear hk hv hvn st0 s1 s2 ha hkl hkm hg2 lk hkl2 ft s3 s4 ha2 ha3 f3 hkm2
              generalize k + 1 = k1 at x1 wk3 ki2 kz2
              go_wp2_with (fail)
              go_roundw
              case rel => exact ⟨k + 2, v + 1, by have := hv2.out; omega, by have := hv2.out; omega, by go_num, by go_num, s4', ho⟩
              case measure => have := hv2.out; simp [intOf]; omega
        · have s2 : runL n (.look 0) (log.take (k + 1)) = atv n (v + 1) := by rw [s1]; exact (if_neg ha).trans (on_atv n v hvn)
          have s2' := Lib.hid s2
          have hv2 := Lib.hid (And.intro hvn hkl)
          generalize log.getD k 0 = y at x0 ha
          clear hk hv hvn st0 s1 s2 hkl hkm hg2 lk ft
          go_wp2_with (fail)
          go_roundw
          case rel => exact ⟨k + 1, v + 1, by have := hv2.out; omega, by have := hv2.out; omega, by go_num, by go_num, s2', ho⟩
          case measure => have := hv2.out; simp [intOf]; omega
    · have hvi : ¬ ((v : Int) < (n : Int)) := by omega
      have st0 := hst.out
      unfold atv at st0
      rw [if_neg hvn] at st0
      have e := Lib.hid (runL_done n _ log k st0)
      clear hk hv hvn st0
      go_wp2_with (fail)
      refine bodyPost_ret (results_agg rfl _ _ (w.heap.size + 1) [(.bool true), (.int .i64 0), (.int .i64 0), (.int .u64 0), (.int .u64 0), (.int .i64 4), (.int .u64 0), (.int .u64 0)] Try.isAgg48 Try.sizeOf48 rfl (set8_heap bW0.out (.bool true) (.int .i64 0) (.int .i64 0) (.int .u64 0) (.int .u64 0) (.int .i64 4) (.int .u64 0) (.int .u64 0))) rfl ?_
      exact ⟨by rw [e.out]; rfl, (n3'.out.trans ho.out).then (set8_only _ _ (.bool true) (.int .i64 0) (.int .i64 0) (.int .u64 0) (.int .u64 0) (.int .i64 4) (.int .u64 0) (.int .u64 0)) (fun q hq hl => by omega)⟩
end Go.Proofs.Ytfhbgabblegecaa.Bl
