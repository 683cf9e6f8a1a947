/- AreaApart answers true for every number and every script, and turns nothing that there was: the walk. -/
import Derived.Test.YtgpagfgedimjeaaAreaO
namespace Go.Proofs.Ytgpagfgedimjeaa
open Go.RowKit

theorem regs_block {w : World} {g : Nat} {L : List Reg} (h : w.heap[g]? = some (.cells (regs L).toArray 47 (0, 0))) : RegsIn w (some ⟨g, 0, none⟩) L := by
  intro i hi
  refine ⟨g, rfl, lt_of_block h, fun j hj => ?_⟩
  have e := regs_get L j hj
  constructor
  · simp only [World.cell?, h]; simpa using e.1
  · simp only [World.cell?, h]; simpa using e.2

theorem _root_.Go.RowKit.Below.drewN' {B : Nat} {a w : World} (h : Below B a w) (n : Nat) : Below B a (w.drewN n) := ⟨h.os, h.tape, h.output, h.size, h.block⟩

theorem count_quiet (n : Int) (w : World) : Calls Try.prog 22 #[.int .i64 n] w fun e w' => e = .returned (.int .i64 (count n)) ∧ w = w' := count_any n w

set_option maxRecDepth 100000 in
set_option maxHeartbeats 2000000 in
theorem apart_walk (n : Int) (a : Option Addr) (cap : Nat) (S : List OpN) (w : World) (hn : n ≤ 2000) (hS : OpsIn w a S) (hr : S.length * 16 ≤ 140737488351232) :
    Calls Try.prog 4 #[.int .i64 n, .slice a S.length cap] w fun e w' => e = .returned (.bool true) ∧ Below w.heap.size w w' := by
  have pl := Lib.hid (fun w1 (b : Below w.heap.size w w1) => play_any n a cap S w1 (hS.later b) hr)
  have cn := Lib.hid (fun w => count_any n w)
  clear hS
  generalize S.length = len0 at hr pl ⊢
  go_enter Try.func4, Try.ntmps4
  go_wp2_with (first
    | (go_at_call 8; (with_reducible refine (alive_any _).mono ?_); rintro e w1 ⟨rfl, b1⟩)
    | (go_at_call 20; (with_reducible refine (pl.out _ b1).mono ?_); rintro e w2 ⟨rfl, h2, b2⟩; obtain ⟨a2, c2, L, m2⟩ := h2.out; clear h2)
    | (go_at_call 21; (with_reducible refine (regions_any m2.at_).mono ?_); rintro e w3 ⟨rfl, hl, o3⟩))
  have m3 := Lib.hid (m2.none o3)
  have s1 := b1.size
  have b3 := Lib.hid ((b1.trans (b2.mono s1)).trans ((m2.under (o3.nilTo _)).mono s1))
  have rg := Lib.hid (regs_block hl)
  have ok := Lib.hid m2.at_.ok
  have lle := m2.at_.len
  have nle := m2.at_.nle
  clear m2 b2 hl o3 pl
  generalize w2.heap.size = rb at rg
  generalize w1.heap.size = hb at m3 s1
  have hes := Lib.hid (endAt_succ L)
  have htt := Lib.hid (total_take_succ L)
  have tf : total (L.take L.length) = total L := by rw [List.take_length]
  have tf' := Lib.hid tf
  have tle := Lib.hid (fun i hi => Nat.le_trans (ok.out.total_le i hi) (ok.out.end_le i hi))
  have rle := Lib.hid ok.out.reg_le
  have rord := Lib.hid ok.out.ord
  have rpos := Lib.hid ok.out.pos
  clear tf ok
  generalize hc : count n = c at m3 nle cn tle rle
  generalize hlen : L.length = len at lle htt tf' tle rle rord rpos
  have hlen' := Lib.hid hlen
  clear hlen hc
  have nle' : (c : Int) ≤ 65536 := by omega
  have lle' : (len : Int) ≤ 65536 := by omega
  go_loopw [7, 8, 9] (fun s7 s8 s9 wr => ∃ (k : Nat), k ≤ len ∧ s9 = .int .i64 (k : Int) ∧ s7 = .int .i64 (endAt L k : Int) ∧ s8 = .int .i64 (total (L.take k) : Int) ∧ Only Nil w3 wr)
    (fun _ _ s9 _ => len - (intOf s9).toNat)
  case atStart => exact ⟨0, Nat.zero_le _, rfl, rfl, by simp [total], Only.refl _ _⟩
  case round =>
    obtain ⟨k, hk, rfl, rfl, rfl, ho⟩ := hrel
    have ho' := Lib.hid ho
    clear ho
    by_cases hlt : k < len
    · obtain ⟨g, hg0, hg1, hg2⟩ := (rg.out.keep ho'.out (fun _ _ _ h => h.elim)) k (by rw [hlen'.out]; exact hlt)
      simp only [Option.some.injEq, Addr.mk.injEq, and_true] at hg0
      subst hg0
      obtain ⟨x0, x1⟩ := hg2 k (by rw [hlen'.out]; exact hlt)
      have e1 := Lib.hid (htt.out k hlt)
      have e2 := tle.out (k + 1) (by omega)
      have e3 := rle.out k hlt
      have e4 := rord.out k hlt
      have e5 := rpos.out k hlt
      have e6 := Lib.hid (hes.out k)
      clear hg2 hg1
      generalize regAt L k = r at x0 x1 e1 e3 e4 e5 e6
      obtain ⟨rb', rl⟩ := r
      simp only at x0 x1 e3 e4 e5
      rw [e1.out] at e2
      simp only at e2
      generalize total (L.take k) = T at e1 e2 ⊢
      generalize endAt L k = E at e4 ⊢
      have g1 : decide (rb' < E) = false := decide_eq_false (by omega)
      have g2 : decide ((rl : Int) < 1) = false := decide_eq_false (by omega)
      have g3 : decide ((c : Int) - (rb' : Int) < (rl : Int)) = false := decide_eq_false (by omega)
      have g4 : (rb' : Int) + (rl : Int) ≤ (c : Int) := by omega
      have g5 : (T : Int) + (rl : Int) ≤ (c : Int) := by omega
      go_wp2
      go_quiet ((go_at_call 22; exact quiet_same (cn.out _)))
      have y0 : (wr.drewN nq).cell? ⟨rb, k * 2, none⟩ = some (.int .i64 (rb' : Int)) := x0
      have y1 : (wr.drewN nq).cell? ⟨rb, k * 2 + 1, none⟩ = some (.int .i64 (rl : Int)) := x1
      have ho2 := Lib.hid (ho'.out.drewN nq)
      clear x0 x1 ho'
      generalize wr.drewN nq = W1 at y0 y1 ho2 ⊢
      go_wp2
      go_quiet (fail)
      go_wp2
      go_roundw
      case rel => exact ⟨k + 1, by omega, by go_num, by rw [e6.out]; go_num, by rw [e1.out]; go_num, ho2.out.drewN _⟩
      case measure => simp [intOf]; omega
    · obtain rfl : k = len := by omega
      have hk0 : ¬ (k : Int) < (k : Int) := by omega
      rw [tf'.out]
      have m4 := Lib.hid (m3.out.none ho'.out)
      have b4 := Lib.hid (b3.out.trans ((m3.out.under (ho'.out.nilTo _)).mono s1))
      have e2 := tle.out k (Nat.le_refl _)
      rw [tf'.out] at e2
      clear tf' htt
      have fr := Lib.hid (m_free m4.out)
      generalize total L = T at e2 fr ⊢
      go_wp2_with (first
        | (go_at_call 15; (with_reducible refine (fr.out).mono ?_); rintro e w5 ⟨rfl, m5, b5⟩)
        | (go_at_call 22; (with_reducible refine (cn.out _).mono ?_); rintro e w6 ⟨rfl, rfl⟩))
      go_ret
      exact ⟨rfl, b4.out.trans (b5.mono s1)⟩

theorem apart_much (n : Int) (a : Option Addr) (len cap : Nat) (w : World) (hn : 2000 < n) :
    Calls Try.prog 4 #[.int .i64 n, .slice a len cap] w fun e w' => e = .returned (.bool true) ∧ Below w.heap.size w w' := by
  go_enter Try.func4, Try.ntmps4
  go_wp2_with (go_at_call 8; (with_reducible refine (alive_any _).mono ?_); rintro e w1 ⟨rfl, b1⟩)
  go_ret
  exact ⟨rfl, b1⟩

theorem apart_all (n : Int) (a : Option Addr) (cap : Nat) (S : List OpN) (w : World) (hS : OpsIn w a S) (hr : S.length * 16 ≤ 140737488351232) :
    Calls Try.prog 4 #[.int .i64 n, .slice a S.length cap] w fun e w' => e = .returned (.bool true) ∧ Below w.heap.size w w' := by
  by_cases h : n ≤ 2000
  · exact apart_walk n a cap S w h hS hr
  · exact apart_much n a S.length cap w (by omega)
end Go.Proofs.Ytgpagfgedimjeaa
