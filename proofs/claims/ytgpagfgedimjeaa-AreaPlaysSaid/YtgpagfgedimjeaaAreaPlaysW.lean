/- AreaPlays answers true for every number and every script, and turns nothing that there was: the walk. -/
import Derived.Test.YtgpagfgedimjeaaAreaV
import Derived.Deep.RegionHeld3
namespace Go.Proofs.Ytgpagfgedimjeaa
open Go.RowKit

theorem hb_new {w1 w2 w3 : World} {hb : Nat} {cap c : Nat} (h2 : Mine w1.heap.size w2 hb none cap c []) (h3 : ∃ a cap, RefAt w3 w2.heap.size a cap (List.replicate c (-1)) ∧ ∀ x, a = some x → w2.heap.size < x.block) (o : Only Nil w2 w3) :
    ∃ a qcap, Both w1.heap.size w3 hb none cap c [] w2.heap.size a qcap [] := by
  obtain ⟨a, qcap, hr, hx⟩ := h3
  refine ⟨a, qcap, h2.none o, by rw [cellsOf_nil]; exact hr, fun q hq hq2 => ?_, fun q hq => ?_⟩
  · have h1 := h2.at_.own_lt q hq
    rcases hq2 with rfl | ⟨x, e, rfl⟩
    · omega
    · have := hx x e; omega
  · have := h2.size
    rcases hq with rfl | ⟨x, e, rfl⟩
    · exact this
    · have := hx x e; omega

theorem cell_second {w : World} {b : Nat} {u v : Value} {t : TypeId} (h : w.heap[b]? = some (.cells #[u, v] t (0, 0))) : w.cell? ⟨b, 1, none⟩ = some v := by simp [World.cell?, h]

set_option maxRecDepth 100000 in
set_option maxHeartbeats 4000000 in
theorem plays_walk (n : Int) (a : Option Addr) (cap : Nat) (S : List OpN) (w : World) (hn : n ≤ 2000) (hS : OpsIn w a S) (hr : S.length * 16 ≤ 140737488351232) :
    Calls Try.prog 3 #[.int .i64 n, .slice a S.length cap] w fun e w' => e = .returned (.bool true) ∧ Below w.heap.size w w' := by
  have hS' := Lib.hid hS
  have mn := Lib.hid (fun w => m_new n w)
  have rn := Lib.hid (fun w => rnew_any n hn w)
  have cle : count n ≤ 65536 := count_le n
  clear hS
  generalize hc : count n = c at mn rn cle
  have hc' := Lib.hid hc
  clear hc
  generalize hlen : S.length = len at hr ⊢
  have hlen' := Lib.hid hlen
  clear hlen
  have cle' : (c : Int) ≤ 65536 := by omega
  have hr' : (len : Int) * 16 ≤ 140737488351232 := by omega
  go_enter Try.func3, Try.ntmps3
  go_wp2_with (first
    | (go_at_call 8; (with_reducible refine (alive_any _).mono ?_); rintro e w1 ⟨rfl, b1⟩)
    | (go_at_call 9; (with_reducible refine (mn.out _).mono ?_); rintro e w2 ⟨rfl, h2, b2⟩)
    | (go_at_call 10; (with_reducible refine (rn.out _).mono ?_); rintro e w3 ⟨rfl, h3, o3⟩))
  obtain ⟨qa, qcap, hB⟩ := hb_new h2 h3.out o3
  have hB' := Lib.hid hB
  have s1 := b1.size
  have b3 := Lib.hid ((b1.trans (b2.mono s1)).trans ((h2.under (o3.nilTo _)).mono s1))
  clear mn rn h2 h3 o3 b2 hB
  generalize w2.heap.size = qb at *
  generalize w1.heap.size = hb at *
  go_loopw [7] (fun s7 wr => ∃ (k : Nat) (a2 : Option Addr) (c2 : Nat) (L : List Reg), k ≤ len ∧ s7 = .int .i64 (k : Int) ∧ Hid (Both hb wr hb a2 c2 c L qb qa qcap L) ∧ Hid (Below w.heap.size w wr))
    (fun s7 _ => len - (intOf s7).toNat)
  case atStart => exact ⟨0, none, 0, [], Nat.zero_le _, rfl, hB', b3⟩
  case round =>
    obtain ⟨k, a2, c2, L, hk, rfl, hm, hb0⟩ := hrel
    clear hB' b3
    have hok := Lib.hid hm.out.mine.at_.ok
    by_cases hlt : k < len
    · obtain ⟨b, off, rfl, hb1, hb2⟩ := hS'.out k (by rw [hlen'.out]; exact hlt)
      obtain ⟨x0, x1⟩ := hb2 k (by rw [hlen'.out]; exact hlt)
      clear hb2
      generalize S[k]'(by rw [hlen'.out]; exact hlt) = o at x0 x1
      obtain ⟨gv, K⟩ := o
      simp only at x0 x1
      have y0 := (hb0.out.cell (p := ⟨b, off + k * 2, none⟩) hb1).trans x0
      have y1 := (hb0.out.cell (p := ⟨b, off + k * 2 + 1, none⟩) hb1).trans x1
      clear x0 x1 hb1
      cases gv
      · obtain ⟨x, E, L', okL, jA, jR⟩ := joint_take hok.out cle hb qb qa qcap hb K
        have jA' := Lib.hid jA
        have jR' := Lib.hid jR
        clear jA jR
        go_wp2_with fail
        have mA := Lib.hid (hm.out.alloc (.cells #[.bool false, .int .i64 K] 29))
        have oc1 : (wr.alloc (.cells #[.bool false, .int .i64 K] 29)).cell? ⟨wr.heap.size, 1, none⟩ = some (.int .i64 K) := cell_second (heap_new wr (.cells #[.bool false, .int .i64 K] 29))
        have oA := Lib.hid (fun q (h : Own hb a2 q) => hm.out.mine.at_.own_lt q h)
        have oR := Lib.hid (fun q (h : Own qb qa q) => hm.out.ref.own_lt q h)
        have bA := Lib.hid (hb0.out.alloc hb0.out.size (.cells #[.bool false, .int .i64 K] 29))
        have obl : wr.heap.size < (wr.alloc (.cells #[.bool false, .int .i64 K] 29)).heap.size := by simp
        clear hm hb0 y0 y1
        generalize wr.alloc (.cells #[.bool false, .int .i64 K] 29) = W1 at *
        generalize wr.heap.size = ob at *
        go_wp2_with (first
          | (go_at_call 13; (with_reducible refine (jA'.out _ _ _ _ mA.out).mono ?_); rintro e w5 ⟨rfl, h5, o5⟩
             have oc5 := Lib.hid ((World.cell?_of_block (a := ⟨ob, 1, none⟩) (o5.out.block ob obl (fun h => by have := oA.out ob h; omega))).trans oc1)
             have ob5 := Lib.hid o5.out.size
             have b5 := Lib.hid (bA.out.trans ((mA.out.underA o5.out).mono s1))
             have k5 := oc5.out
             obtain ⟨a5, c5, m5⟩ := h5.out
             have m5' := Lib.hid m5
             clear m5 h5 o5)
          | (go_at_call 14; (with_reducible refine (jR'.out _ _ _ _ m5'.out).mono ?_); rintro e w6 ⟨rfl, m6, o6⟩
             have b6 := Lib.hid (b5.out.trans ((m5'.out.underR o6.out).mono s1))
             clear o6)
          | (go_at_call 15; (with_reducible refine (free_any m6.out.mine.at_).mono ?_); rintro e w7 ⟨rfl, o7⟩
             have m7 := Lib.hid (m6.out.none o7)
             have b7 := Lib.hid (b6.out.trans ((m6.out.underA (o7.nilTo _)).mono s1))
             clear o7)
          | (go_at_call 16; (with_reducible refine (joint_free m7.out).mono ?_); rintro e w8 ⟨rfl, rfl⟩))
        go_roundw
        case rel => exact ⟨k + 1, a5, c5, L', by omega, by go_num, m7, b7⟩
        case measure => simp [intOf]; omega
      · obtain ⟨E, L', okL, jA, jR⟩ := joint_give hok.out cle hb qb qa qcap hb K
        have jA' := Lib.hid jA
        have jR' := Lib.hid jR
        clear jA jR
        go_wp2_with fail
        have mA := Lib.hid (hm.out.alloc (.cells #[.bool true, .int .i64 K] 29))
        have oc1 : (wr.alloc (.cells #[.bool true, .int .i64 K] 29)).cell? ⟨wr.heap.size, 1, none⟩ = some (.int .i64 K) := cell_second (heap_new wr (.cells #[.bool true, .int .i64 K] 29))
        have oA := Lib.hid (fun q (h : Own hb a2 q) => hm.out.mine.at_.own_lt q h)
        have oR := Lib.hid (fun q (h : Own qb qa q) => hm.out.ref.own_lt q h)
        have bA := Lib.hid (hb0.out.alloc hb0.out.size (.cells #[.bool true, .int .i64 K] 29))
        have obl : wr.heap.size < (wr.alloc (.cells #[.bool true, .int .i64 K] 29)).heap.size := by simp
        clear hm hb0 y0 y1
        generalize wr.alloc (.cells #[.bool true, .int .i64 K] 29) = W1 at *
        generalize wr.heap.size = ob at *
        have jA2 := Lib.hid (fun n => jA'.out _ _ _ _ (mA.out.drewN n))
        go_region_held3 (fun w' => w'.cell? ⟨ob, 1, none⟩ = some (.int .i64 K))
          (first | exact k5.out | exact k6.out | go_keep)
          (first
            | (go_at_call 11; refine (jA2.out _).mono ?_; rintro e w5 ⟨rfl, h5, o5⟩
               have k5 := Lib.hid ((World.cell?_of_block (a := ⟨ob, 1, none⟩) (o5.out.block ob obl (fun h => by have := oA.out ob h; omega))).trans oc1)
               have ob5 := Lib.hid (Nat.lt_of_lt_of_le obl o5.out.size)
               have b5 := Lib.hid ((bA.out.drewN' _).trans (((mA.out.drewN _).underA o5.out).mono s1))
               obtain ⟨a5, c5, m5⟩ := h5.out
               have m5' := Lib.hid m5
               clear m5 h5 o5)
            | (go_at_call 12; refine (jR'.out _ _ _ _ m5'.out).mono ?_; rintro e w6 ⟨rfl, m6, o6⟩
               have k6 := Lib.hid ((World.cell?_of_block (a := ⟨ob, 1, none⟩) (o6.out.block ob ob5.out (fun h => by have := oR.out ob h; omega))).trans k5.out)
               have b6 := Lib.hid (b5.out.trans ((m5'.out.underR o6.out).mono s1))
               clear o6))
        go_wp2_with (first
          | (go_at_call 15; (with_reducible refine (free_any m6.out.mine.at_).mono ?_); rintro e w7 ⟨rfl, o7⟩
             have m7 := Lib.hid (m6.out.none o7)
             have b7 := Lib.hid (b6.out.trans ((m6.out.underA (o7.nilTo _)).mono s1))
             clear o7)
          | (go_at_call 16; (with_reducible refine (joint_free m7.out).mono ?_); rintro e w8 ⟨rfl, rfl⟩))
        go_roundw
        case rel => exact ⟨k + 1, a5, c5, L', by omega, by go_num, m7, b7⟩
        case measure => simp [intOf]; omega
    · obtain rfl : k = len := by omega
      have hk0 : ¬ (k : Int) < (k : Int) := by omega
      have lle := hm.out.mine.at_.len
      have iy := Lib.hid (fun (w : World) (a1 a2 : Option Addr) (c1 c2 : Nat) (h1 : IntsIn w a1 (nums L)) (h2 : IntsIn w a2 (nums L)) => ints_yes w a1 a2 c1 c2 (nums L) h1 h2 (by rw [length_nums]; omega))
      rw [length_nums] at iy
      go_wp2_with (first
        | (go_at_call 18; (with_reducible refine (flat_any hm.out.mine.at_).mono ?_); rintro e w4 ⟨v4, rfl, h4, o4⟩
           have m4 := Lib.hid (hm.out.none o4)
           have b4 := Lib.hid (hb0.out.trans ((hm.out.underA (o4.nilTo _)).mono s1))
           obtain ⟨a4, c4, rfl⟩ := own_slice_n h4.out
           have i4 : IntsIn w4 a4 (nums L) := (by
             have := h4.out
             rw [regs_nums] at this
             exact own_ints this)
           have i4' := Lib.hid i4
           clear i4 h4 o4)
        | (go_at_call 19; (with_reducible refine (rregions_any m4.out.ref m4.out.mine.at_.ok cle).mono ?_); rintro e w5 ⟨v5, rfl, h5, o5⟩
           have m5 := Lib.hid (m4.out.none o5)
           have b5 := Lib.hid (b4.out.trans ((m4.out.underA (o5.nilTo _)).mono s1))
           obtain ⟨a5, c5, rfl⟩ := own_slice_n h5.out
           have j4 := Lib.hid (i4'.out.keep o5 (fun _ _ _ h => h.elim))
           have i5 : IntsIn w5 a5 (nums L) := (by
             have := h5.out
             rw [regs_nums] at this
             exact own_ints this)
           have i5' := Lib.hid i5
           clear i5 h5 o5)
        | (go_at_call 17; (with_reducible refine (iy.out _ _ _ _ _ j4.out i5'.out).mono ?_); rintro e w6 ⟨rfl, o6⟩
           have m6 := Lib.hid (m5.out.none o6)
           have b6 := Lib.hid (b5.out.trans ((m5.out.underA (o6.nilTo _)).mono s1))
           clear o6)
        | (go_at_call 15; (with_reducible refine (free_any m6.out.mine.at_).mono ?_); rintro e w7 ⟨rfl, o7⟩
           have m7 := Lib.hid (m6.out.none o7)
           have b7 := Lib.hid (b6.out.trans ((m6.out.underA (o7.nilTo _)).mono s1))
           clear o7)
        | (go_at_call 16; (with_reducible refine (joint_free m7.out).mono ?_); rintro e w8 ⟨rfl, rfl⟩))
      go_ret
      exact ⟨rfl, b7.out⟩

theorem plays_much (n : Int) (a : Option Addr) (len cap : Nat) (w : World) (hn : 2000 < n) :
    Calls Try.prog 3 #[.int .i64 n, .slice a len cap] w fun e w' => e = .returned (.bool true) ∧ Below w.heap.size w w' := by
  go_enter Try.func3, Try.ntmps3
  go_wp2_with (go_at_call 8; (with_reducible refine (alive_any _).mono ?_); rintro e w1 ⟨rfl, b1⟩)
  go_ret
  exact ⟨rfl, b1⟩

theorem plays_all (n : Int) (a : Option Addr) (cap : Nat) (S : List OpN) (w : World) (hS : OpsIn w a S) (hr : S.length * 16 ≤ 140737488351232) :
    Calls Try.prog 3 #[.int .i64 n, .slice a S.length cap] w fun e w' => e = .returned (.bool true) ∧ Below w.heap.size w w' := by
  by_cases h : n ≤ 2000
  · exact plays_walk n a cap S w h hS hr
  · exact plays_much n a S.length cap w (by omega)
end Go.Proofs.Ytgpagfgedimjeaa
