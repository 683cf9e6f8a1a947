/- The document's own Lay (trouperef03). -/
import Derived.Test.YtmkcmncbiancgaaRgM
import Derived.Deep.RegionHeld3
import Derived.StillTailTactics
namespace Go.Proofs.Ytmkcmncbiancgaa
open Go.RowKit

set_option maxRecDepth 100000 in
set_option maxHeartbeats 8000000 in
theorem rlay_any {w : World} {hb rb : Nat} {L : List Int} {t : Int} (h : RefAt w hb rb L t) (b c : Nat) (hb1 : b ≤ 1000) (hc2 : c ≤ 64) (hL : b + 2 + 2 * c ≤ L.length) :
    Calls Try.prog 43 #[.pointer (some ⟨hb, 0, none⟩), .agg #[.int .i64 (b : Int), .int .i64 (c : Int)]] w fun e w' => e = .returned (.tuple #[]) ∧ RefAt w' hb rb (layL L b c) t ∧ Only (Blk hb rb) w w' := by
  have l1 := h.lt_hb
  have l2 := h.lt_rb
  have o0 : Only (Blk hb rb) w (w.alloc (.cells #[.int .i64 (b : Int), .int .i64 (c : Int)] 90)) := (Only.refl _ w).alloc _
  have bR := heap_new w (.cells #[.int .i64 (b : Int), .int .i64 (c : Int)] 90)
  have h2 := h.keep ((Only.refl Nil w).alloc (.cells #[.int .i64 (b : Int), .int .i64 (c : Int)] 90)) (fun h => h) (fun h => h)
  have bl := Lib.hid (fun (w' : World) (o : Only (Blk hb rb) (w.alloc (.cells #[.int .i64 (b : Int), .int .i64 (c : Int)] 90)) w') => (show w'.cell? ⟨w.heap.size, 0, none⟩ = some (.int .i64 (b : Int)) ∧ w'.cell? ⟨w.heap.size, 1, none⟩ = some (.int .i64 (c : Int)) from by
    have e := (o.block w.heap.size (lt_of_block bR) (fun hh => by rcases hh with rfl | rfl <;> omega)).trans bR
    exact ⟨by simp [World.cell?, e], by simp [World.cell?, e]⟩))
  have ho := Lib.hid o0
  obtain ⟨r0, r1⟩ := bl.out _ (Only.refl _ _)
  have c0 := h2.c0
  have ci := h2.ci b (by omega)
  have fi := h2.fi b
  generalize L.getD b 0 = x0 at ci
  have h2' := Lib.hid h2
  have hbi : (b : Int) ≤ 1000 := by omega
  have hci : (c : Int) ≤ 64 := by omega
  have g0 : (b : Int) + 1 < (L.length : Int) := by omega
  have g1 : (b : Int) < (L.length : Int) := by omega
  have hLi := Lib.hid hL
  have ho := Lib.hid o0
  clear h h2 o0 bR hb1 hc2 hL
  go_enter Try.func43, Try.ntmps43
  go_wp2
  generalize (w.alloc (.cells #[.int .i64 (b : Int), .int .i64 (c : Int)] 90)) = W0 at *
  go_region_with (fail)
  all_goals (
    clear r0 r1 c0 ci fi
    have R1 := Lib.hid ((h2'.out.store (b) 0).drew)
    have O1 := Lib.hid (((Only.refl (Blk hb rb) W0).setCell (p := ⟨rb, b, none⟩) (Blk.r hb rb) (.int .u64 0)).drew)
    generalize World.drew (World.setCell W0 ⟨rb, b, none⟩ (.int .u64 0)) = W1 at R1 O1 ⊢
    obtain ⟨r0, r1⟩ := bl.out W1 O1.out
    have c0 := R1.out.c0
    rw [List.length_set] at c0
    have ci := R1.out.ci (b + 1) (by rw [List.length_set]; omega)
    have fi := R1.out.fi (b + 1)
    obtain ⟨x, hx⟩ : ∃ x, (L.set b 0).getD (b + 1) 0 = x := ⟨_, rfl⟩
    rw [hx] at ci
    clear hx
    have ti : ((b : Int) + 1).toNat = b + 1 := by omega
    have ti0 : (0 : Int) ≤ (b : Int) + 1 := by omega
    have tiw : IntKind.i64.wrap ((b : Int) + 1) = (b : Int) + 1 := IntWalk.i64_in _ (by omega)
    go_wp2
    go_region_with (fail)
    all_goals (
      clear ti ti0 tiw
      clear r0 r1 c0 ci fi
      have R2 := Lib.hid ((R1.out.store (b + 1) 0).drew)
      have O2 := Lib.hid ((O1.out.setCell (p := ⟨rb, b + 1, none⟩) (Blk.r hb rb) (.int .u64 0)).drew)
      generalize World.drew (World.setCell W1 ⟨rb, b + 1, none⟩ (.int .u64 0)) = W2 at R2 O2 ⊢
      go_wp2
      go_loopw [4] (fun s3 wr => ∃ k : Nat, k ≤ c ∧ s3 = .int .i64 (k : Int) ∧ Hid (RefAt wr hb rb (layL L b k) t) ∧ Hid (Only (Blk hb rb) W0 wr))
        (fun s3 _ => c - (intOf s3).toNat)
      case atStart => exact ⟨0, Nat.zero_le _, rfl, R2, O2⟩
      case round =>
        obtain ⟨k, hk, rfl, hR, hO⟩ := hrel
        by_cases hkc : k < c
        · have hki : (k : Int) < (c : Int) := by omega
          obtain ⟨r0, r1⟩ := bl.out wr hO.out
          have c0 := hR.out.c0
          have ci := hR.out.ci (b + 2 + 2 * k) (by rw [layL_length]; have := hLi.out; omega)
          have fi := hR.out.fi (b + 2 + 2 * k)
          rw [layL_length] at c0
          obtain ⟨x, hx⟩ : ∃ x, (layL L b k).getD (b + 2 + 2 * k) 0 = x := ⟨_, rfl⟩
          rw [hx] at ci
          clear hx
          have ti : ((b : Int) + 2 + 2 * (k : Int)).toNat = b + 2 + 2 * k := by omega
          have ti0 : (0 : Int) ≤ (b : Int) + 2 + 2 * (k : Int) := by omega
          have ti1 : (b : Int) + 2 + 2 * (k : Int) < (L.length : Int) := by have := hLi.out; omega
          have tiw : IntKind.i64.wrap ((b : Int) + 2 + 2 * (k : Int)) = (b : Int) + 2 + 2 * (k : Int) := IntWalk.i64_in _ (by omega)
          have tiv : IntKind.i64.wrap ((b : Int) + 2) = (b : Int) + 2 := IntWalk.i64_in _ (by omega)
          have tiu : IntKind.i64.wrap (2 * (k : Int)) = 2 * (k : Int) := IntWalk.i64_in _ (by omega)
          clear hkc hk
          go_wp2
          go_region_with (fail)
          all_goals (
            clear ti ti0 ti1 tiw tiv tiu
            clear r0 r1 c0 ci fi
            have R3 := Lib.hid ((hR.out.store (b + 2 + 2 * k) 0).drew)
            have O3 := Lib.hid ((hO.out.setCell (p := ⟨rb, b + 2 + 2 * k, none⟩) (Blk.r hb rb) (.int .u64 0)).drew)
            generalize World.drew (World.setCell wr ⟨rb, b + 2 + 2 * k, none⟩ (.int .u64 0)) = W3 at R3 O3 ⊢
            obtain ⟨r0, r1⟩ := bl.out W3 O3.out
            have c0 := R3.out.c0
            have ci := R3.out.ci (b + 3 + 2 * k) (by rw [List.length_set, layL_length]; have := hLi.out; omega)
            have fi := R3.out.fi (b + 3 + 2 * k)
            rw [List.length_set, layL_length] at c0
            obtain ⟨x, hx⟩ : ∃ x, ((layL L b k).set (b + 2 + 2 * k) 0).getD (b + 3 + 2 * k) 0 = x := ⟨_, rfl⟩
            rw [hx] at ci
            clear hx
            have ti : ((b : Int) + 3 + 2 * (k : Int)).toNat = b + 3 + 2 * k := by omega
            have ti0 : (0 : Int) ≤ (b : Int) + 3 + 2 * (k : Int) := by omega
            have ti1 : (b : Int) + 3 + 2 * (k : Int) < (L.length : Int) := by have := hLi.out; omega
            have tiw : IntKind.i64.wrap ((b : Int) + 3 + 2 * (k : Int)) = (b : Int) + 3 + 2 * (k : Int) := IntWalk.i64_in _ (by omega)
            have tiv : IntKind.i64.wrap ((b : Int) + 3) = (b : Int) + 3 := IntWalk.i64_in _ (by omega)
            have tiu : IntKind.i64.wrap (2 * (k : Int)) = 2 * (k : Int) := IntWalk.i64_in _ (by omega)
            go_wp2
            go_region_with (fail)
            all_goals (
              clear ti ti0 ti1 tiw tiv tiu
              clear r0 r1 c0 ci fi
              have R4 := Lib.hid ((R3.out.store (b + 3 + 2 * k) 0).drew)
              have O4 := Lib.hid ((O3.out.setCell (p := ⟨rb, b + 3 + 2 * k, none⟩) (Blk.r hb rb) (.int .u64 0)).drew)
              generalize World.drew (World.setCell W3 ⟨rb, b + 3 + 2 * k, none⟩ (.int .u64 0)) = W4 at R4 O4 ⊢
              go_wp2
              go_roundw
              case rel => exact ⟨k + 1, by omega, by go_num, R4, O4⟩
              case measure => simp [intOf]; omega))
        · obtain rfl : k = c := by omega
          obtain ⟨r0, r1⟩ := bl.out wr hO.out
          have hki : ¬ ((k : Int) < (k : Int)) := by omega
          clear hkc hk
          go_wp2
          go_end0
          exact ⟨rfl, hR.out, ho.out.trans hO.out⟩))
end Go.Proofs.Ytmkcmncbiancgaa
