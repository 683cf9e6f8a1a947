/- GateBound answers true for every number of slots, rounds and value, and turns nothing that there was: the walk. -/
import Derived.Test.YtokopocldicnmaaGtBdA
namespace Go.Proofs.Ytokopocldicnmaa.Gt
open Go.RowKit

set_option maxRecDepth 100000 in
set_option maxHeartbeats 8000000 in
theorem bound_walk (k v : Int) (a : Option Addr) (cap : Nat) (V : List Int) (c : Nat) (w : World) (hc : 1 ≤ c ∧ c ≤ 8) (e1 : 1 + k % 8 = (c : Int)) (hk : 0 ≤ k ∧ k < 256) (hv : In64 v) (hV : RowK .u8 w a V) (hu : ∀ j, 0 ≤ V.getD j 0 ∧ V.getD j 0 < 256) (hr : V.length * 1 ≤ 140737488351232) :
    Calls Try.prog 8 #[.int .u8 k, .slice a V.length cap, .int .u64 v] w fun e w' => e = .returned (.bool true) ∧ Below w.heap.size w w' := by
  have md := Lib.hid (fun w => made_any c w (by omega) (by omega))
  obtain ⟨x1, x2⟩ := hk
  have c8 := Lib.hid hc
  have hV' := Lib.hid hV
  have hu' := Lib.hid hu
  have cl : (c : Int) ≤ 8 := by omega
  have cl1 : (1 : Int) ≤ (c : Int) := by omega
  have hc3 : ¬ ((c : Int) + 3 = 0) := by omega
  clear hc hV hu
  obtain ⟨v0, v1⟩ := hv
  generalize hlen : V.length = len at hr ⊢
  have hlen' := Lib.hid hlen
  clear hlen
  have len8 : (len : Int) ≤ 140737488351232 := by omega
  rw [← e1] at md
  have e1' := Lib.hid e1
  clear e1
  go_enter Try.func8, Try.ntmps8
  go_wp2_with (first
    | (go_at_call 19; (with_reducible refine (alive_any _).mono ?_); rintro e w1 ⟨rfl, o1⟩)
    | (go_at_call 37; (with_reducible refine (md.out _).mono ?_); rintro e w2 ⟨g, rfl, l2⟩))
  have ow := Lib.hid o1
  have F0 : Hid (Gb w1 w2 g w1.heap.size c [] 0 (20 + 200 * ((0 : Nat) : Int))) := Lib.hid ⟨_, _, l2, Gq.start (by have := c8.out; omega), by have := c8.out; omega⟩
  rw [e1'.out]
  clear o1 l2 md
  generalize w1.heap.size = B at F0
  go_loopw [9] (fun s9 wr => ∃ i : Nat, i ≤ 40 ∧ i ≤ len ∧ s9 = .int .i64 (i : Int) ∧ Hid (Gb w1 wr g B c [] (20 * i) (20 + 200 * (i : Int))))
    (fun s9 _ => 40 - (intOf s9).toNat)
  case atStart => exact ⟨0, Nat.zero_le _, Nat.zero_le _, rfl, F0⟩
  case round =>
    obtain ⟨i, hi, hil, rfl, hh⟩ := hrel
    by_cases hin : i < len ∧ i < 40
    · have hli : (i : Int) < (len : Int) := by omega
      have hl3 : (i : Int) < 40 := by omega
      have hi2 := Lib.hid hin
      obtain ⟨b, off, rfl, hb1, hb2⟩ := hV'.out i (by rw [hlen'.out]; exact hin.1)
      have hx : wr.cell? ⟨b, off + i, none⟩ = some (.int .u8 (V.getD i 0)) := (World.cell?_of_block (a := ⟨b, off + i, none⟩) ((ow.out.trans hh.out.only).block b hb1 (fun h => h))).trans (hb2 i (by rw [hlen'.out]; exact hin.1))
      have hx8 := hu'.out i
      clear hb1 hb2 hin hi hil
      obtain ⟨Y, hY⟩ : ∃ Y : Nat, V.getD i 0 = (Y : Int) := Int.eq_ofNat_of_zero_le hx8.1
      rw [hY] at hx hx8
      clear hY
      have wy : IntKind.i64.wrap (Y : Int) = (Y : Int) := IntWalk.i64_in _ (by omega)
      have my1 : Int.tmod (Y : Int) ((c : Int) + 3) = ((Y % (c + 3) : Nat) : Int) := rfl
      have my2 : (Y : Int) % ((c : Int) + 3) = ((Y % (c + 3) : Nat) : Int) := rfl
      have hkk := Nat.mod_lt Y (show 0 < c + 3 by omega)
      generalize Y % (c + 3) = kk at my1 my2 hkk
      have hkk' := Lib.hid hkk
      have kl : (kk : Int) ≤ 11 := by omega
      clear hkk hx8
      go_wp2_with (fail)
      clear my1 my2 wy hx
      generalize hwq : wr = wo at *
      clear hwq
      have F1 : Hid (Gb w1 wo g B c (qv v 0 (min 0 c)) (20 * i + 0) (20 + 200 * (i : Int) + 5 * ((0 : Nat) : Int))) := Lib.hid (by rw [Nat.zero_min, qv_nil]; simpa using hh.out)
      clear hh
      go_loopw [11] (fun s11 ws => ∃ j : Nat, j ≤ kk ∧ s11 = .int .i64 (j : Int) ∧ Hid (Gb w1 ws g B c (qv v 0 (min j c)) (20 * i + j) (20 + 200 * (i : Int) + 5 * (j : Int))))
        (fun s11 _ => kk - (intOf s11).toNat)
      case atStart => exact ⟨0, Nat.zero_le _, rfl, F1⟩
      case round =>
        obtain ⟨j, hj, rfl, hg⟩ := hrel
        by_cases hjk : j < kk
        · have hjk' : (j : Int) < (kk : Int) := by omega
          have jw : IntKind.u64.wrap (j : Int) = (j : Int) := by rw [IntKind.wrap_u64]; omega
          have pu := Lib.hid (hg.out.put (IntKind.u64.wrap (v + (j : Int))) (by unfold In64; rw [IntKind.wrap_u64]; omega))
          have hj2 := Lib.hid hjk
          by_cases hjc : j < c
          · have hjc' : (j : Int) < (c : Int) := by omega
            have hjc2 : ¬ ((c : Int) ≤ (j : Int)) := by omega
            have dn := Lib.hid (fun w' ob (h : Gbo w1 w' g B c (qv v 0 (min j c)) (20 * i + j) (20 + 200 * (i : Int) + 5 * (j : Int)) ob (.s0 (.put (IntKind.u64.wrap (v + (j : Int)))))) =>
              h.putted (by rw [qv_length]; omega) (by have := hi2.out; have := hkk'.out; have := c8.out; omega) (by have := hi2.out; have := hkk'.out; have := c8.out; omega))
            rw [show min j c = j by omega, qv_snoc] at dn
            rw [show min j c = j by omega] at pu
            have hm := Lib.hid (show min (j + 1) c = j + 1 by omega)
            clear hg hj hjk hjc
            go_wp2_with (first
              | (go_at_call 26; (with_reducible refine (pu.out).mono ?_); rintro e w3 ⟨ob3, rfl, h3⟩)
              | (go_at_call 38; (with_reducible refine (dn.out _ _ h3).mono ?_); rintro e w4 ⟨rfl, h4⟩; have h4' := Lib.hid h4; clear h3 h4))
            go_roundw
            case rel => exact ⟨j + 1, by have := hj2.out; omega, by go_num, Lib.hid (by rw [hm.out]; exact h4'.out.mono (by omega) (by have := hi2.out; have := hkk'.out; have := hj2.out; have := c8.out; omega) (by omega))⟩
            case measure => have := hj2.out; simp [intOf]; omega
          · have hjc' : ¬ ((j : Int) < (c : Int)) := by omega
            have hjc2 : (c : Int) ≤ (j : Int) := by omega
            have dn := Lib.hid (fun w' ob (h : Gbo w1 w' g B c (qv v 0 (min j c)) (20 * i + j) (20 + 200 * (i : Int) + 5 * (j : Int)) ob (.s0 (.put (IntKind.u64.wrap (v + (j : Int)))))) =>
              h.fulled (by rw [qv_length]; omega) (by have := hi2.out; have := hkk'.out; have := c8.out; omega))
            have hm := Lib.hid (show min (j + 1) c = min j c by omega)
            clear hg hj hjk hjc
            go_wp2_with (first
              | (go_at_call 26; (with_reducible refine (pu.out).mono ?_); rintro e w3 ⟨ob3, rfl, h3⟩)
              | (go_at_call 38; (with_reducible refine (dn.out _ _ h3).mono ?_); rintro e w4 ⟨rfl, h4⟩; have h4' := Lib.hid h4; clear h3 h4))
            go_roundw
            case rel => exact ⟨j + 1, by have := hj2.out; omega, by go_num, Lib.hid (by rw [hm.out]; exact h4'.out.mono (by omega) (by have := hi2.out; have := hkk'.out; have := hj2.out; have := c8.out; omega) (by omega))⟩
            case measure => have := hj2.out; simp [intOf]; omega
        · obtain rfl : j = kk := by omega
          have hjk' : ¬ ((j : Int) < (j : Int)) := by omega
          clear hj hjk
          go_wp2_with (fail)
          have F2 : Hid (Gb w1 wr g B c (qv v 0 (min j c)) (20 * i + j) (20 + 200 * (i : Int) + 60 + 5 * ((0 : Nat) : Int))) := Lib.hid (hg.out.mono (Nat.le_refl _) (by have := hi2.out; have := hkk'.out; have := c8.out; omega) (by have := hkk'.out; have := c8.out; omega))
          clear hg
          generalize wr = wp at *
          have hmin : (min (j : Int) (c : Int)) = ((min j c : Nat) : Int) := by omega
          generalize hmq : min j c = m at *
          have hm' := Lib.hid hmq
          clear hmq
          go_loopw [15] (fun s15 wt => ∃ i2 : Nat, i2 ≤ m ∧ s15 = .int .i64 (i2 : Int) ∧ Hid (Gb w1 wt g B c (qv v i2 m) (20 * i + j) (20 + 200 * (i : Int) + 60 + 5 * (i2 : Int))))
            (fun s15 _ => m - (intOf s15).toNat)
          case atStart => exact ⟨0, Nat.zero_le _, rfl, F2⟩
          case round =>
            obtain ⟨i2, h2, rfl, hg⟩ := hrel
            by_cases him : i2 < m
            · have him' : (i2 : Int) < (m : Int) := by omega
              have hm9 : (m : Int) ≤ 8 := by have := hm'.out; omega
              have jw : IntKind.u64.wrap (i2 : Int) = (i2 : Int) := by rw [IntKind.wrap_u64]; omega
              have tk := Lib.hid (hg.out.take)
              rw [qv_cons v i2 m him] at tk
              have dn := Lib.hid (fun w' ob (h : Gbo w1 w' g B c (IntKind.u64.wrap (v + (i2 : Int)) :: qv v (i2 + 1) m) (20 * i + j) (20 + 200 * (i : Int) + 60 + 5 * (i2 : Int)) ob (.s0 .take)) =>
                h.taken (by have := hi2.out; have := hkk'.out; have := c8.out; omega))
              have him2 := Lib.hid him
              clear hg h2 him
              go_wp2_with (first
                | (go_at_call 25; (with_reducible refine (tk.out).mono ?_); rintro e w3 ⟨ob3, rfl, h3⟩)
                | (go_at_call 38; (with_reducible refine (dn.out _ _ h3).mono ?_); rintro e w4 ⟨rfl, h4⟩; have h4' := Lib.hid h4; clear h3 h4))
              go_roundw
              case rel => exact ⟨i2 + 1, by have := him2.out; omega, by go_num, Lib.hid (h4'.out.mono (Nat.le_refl _) (by have := hi2.out; have := hkk'.out; have := c8.out; omega) (by omega))⟩
              case measure => have := him2.out; simp [intOf]; omega
            · obtain rfl : i2 = m := by omega
              have him' : ¬ ((i2 : Int) < (i2 : Int)) := by omega
              have tk := Lib.hid (hg.out.take)
              rw [qv_nil] at tk
              have dn := Lib.hid (fun w' ob (h : Gbo w1 w' g B c [] (20 * i + j) (20 + 200 * (i : Int) + 60 + 5 * (i2 : Int)) ob (.s0 .take)) =>
                h.noned (by have := hi2.out; have := hkk'.out; have := c8.out; have := hm'.out; omega))
              clear hg h2 him
              go_wp2_with (first
                | (go_at_call 25; (with_reducible refine (tk.out).mono ?_); rintro e w3 ⟨ob3, rfl, h3⟩)
                | (go_at_call 38; (with_reducible refine (dn.out _ _ h3).mono ?_); rintro e w4 ⟨rfl, h4⟩; have h4' := Lib.hid h4; clear h3 h4))
              go_roundw
              case rel => exact ⟨i + 1, by have := hi2.out; omega, by have := hi2.out; omega, by go_num, Lib.hid (h4'.out.mono (by have := hkk'.out; have := c8.out; omega) (by have := hi2.out; omega) (by have := hm'.out; have := c8.out; omega))⟩
              case measure => have := hi2.out; simp [intOf]; omega
    · have hin2 : ¬ ((i : Int) < (len : Int)) ∨ ((i : Int) < (len : Int) ∧ ¬ ((i : Int) < 40)) := by omega
      have ow3 := Lib.hid (ow.out.trans hh.out.only)
      clear hin hil hi hh
      rcases hin2 with hin3 | ⟨hin3, hin4⟩
      all_goals (
        go_wp2
        go_ret
        exact ⟨rfl, ow3.out.below (Nat.le_refl _) (fun _ z => z.elim)⟩)

theorem bound_all (k v : Int) (a : Option Addr) (cap : Nat) (V : List Int) (w : World) (hk : 0 ≤ k ∧ k < 256) (hv : 0 ≤ v ∧ v < 18446744073709551616) (hV : RowK .u8 w a V) (hu : ∀ j, 0 ≤ V.getD j 0 ∧ V.getD j 0 < 256) (hr : V.length * 1 ≤ 140737488351232) :
    Calls Try.prog 8 #[.int .u8 k, .slice a V.length cap, .int .u64 v] w fun e w' => e = .returned (.bool true) ∧ Below w.heap.size w w' :=
  bound_walk k v a cap V (1 + k % 8).toNat w (by omega) (by omega) hk hv hV hu hr
end Go.Proofs.Ytokopocldicnmaa.Gt
