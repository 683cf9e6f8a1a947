/- A ring made. -/
import Derived.Test.YtbhiabefaphjpaaRingU
import Derived.Test.YtbhiabefaphjpaaRingL
namespace Go.Proofs.Ytbhiabefaphjpaa
open Go.RowKit

section
variable {w : World} {rg hb rb b c : Nat} {L : List Int} {t : Int}
theorem Rng.store (h : Rng w rg hb rb b c L t) (i : Nat) (x : Int) (hi : i < L.length) (t1 : t < 4611686018427386000) :
    Calls Try.prog 30 #[.pointer (some ⟨hb, 0, none⟩), .int .i64 (i : Int), .int .u64 x] w fun e w' => e = .returned (.int .i64 0) ∧ Rng w' rg hb rb b c (L.set i x) (t + 1) ∧ Only (Blk hb rb) w w' := by
  refine (store_yes h.mem i x hi h.t0 (by omega)).mono ?_
  rintro e w1 ⟨rfl, m, o⟩
  exact ⟨rfl, { h with ring := h.ring.keep o h.ne, mem := m, len := by rw [List.length_set]; exact h.len, t0 := by have := h.t0; omega }, o⟩
theorem Rng.tailc (h : Rng w rg hb rb b c L t) :
    Calls Try.prog 89 #[.pointer (some ⟨rg, 0, none⟩)] w fun e w' => e = .returned (.int .i64 (b : Int)) ∧ w = w' := tail_any h.ring
theorem Rng.headc (h : Rng w rg hb rb b c L t) :
    Calls Try.prog 90 #[.pointer (some ⟨rg, 0, none⟩)] w fun e w' => e = .returned (.int .i64 ((b + 1 : Nat) : Int)) ∧ w = w' := head_any h.ring h.ub
theorem turnAt_of {c k : Nat} (b : Nat) (h : k < c) : turnAt b c k = b + 2 + 2 * k := by unfold turnAt; rw [Nat.mod_eq_of_lt h]
theorem Rng.turnc (h : Rng w rg hb rb b c L t) (k : Nat) (hk : k < c) :
    Calls Try.prog 91 #[.pointer (some ⟨rg, 0, none⟩), .int .u64 (k : Int)] w fun e w' => e = .returned (.int .i64 ((b + 2 + 2 * k : Nat) : Int)) ∧ Rng w' rg hb rb b c L t ∧ Only (Blk hb rb) w w' := by
  refine (turn_any h.ring k h.pc h.uc h.ub).mono ?_
  rintro e w1 ⟨rfl, o⟩
  exact ⟨by rw [turnAt_of b hk], h.nil o, o.nilTo _⟩
theorem Rng.valuec (h : Rng w rg hb rb b c L t) (k : Nat) (hk : k < c) :
    Calls Try.prog 92 #[.pointer (some ⟨rg, 0, none⟩), .int .u64 (k : Int)] w fun e w' => e = .returned (.int .i64 ((b + 3 + 2 * k : Nat) : Int)) ∧ Rng w' rg hb rb b c L t ∧ Only (Blk hb rb) w w' := by
  refine (value_any h.ring k h.pc h.uc h.ub).mono ?_
  rintro e w1 ⟨rfl, o⟩
  exact ⟨by rw [turnAt_of b hk, show b + 2 + 2 * k + 1 = b + 3 + 2 * k by omega], h.nil o, o.nilTo _⟩

set_option maxHeartbeats 4000000 in
theorem make_yes (h : MemAt w hb rb L t) (t0 : 0 ≤ t) (t1 : t < 4611686018427380000) (hc : 0 < c) (hc2 : c ≤ 64) (hb1 : b ≤ 1000) (hL : b + 2 + 2 * c ≤ L.length) (hL2 : L.length ≤ 65536) :
    Calls Try.prog 48 #[.pointer (some ⟨hb, 0, none⟩), .int .i64 (b : Int), .int .i64 (c : Int)] w fun e w' =>
      e = .returned (.tuple #[.pointer (some ⟨w.heap.size, 0, none⟩), .int .i64 0]) ∧ Rng w' w.heap.size hb rb b c (layL L b c) (t + 2 + 2 * (c : Int)) ∧ Only (Blk hb rb) w w' ∧ w.heap.size < w'.heap.size := by
  have sz := Lib.hid (fun w' => size_yes w' c hc hc2)
  have ln := Lib.hid (len_any h)
  have l1 := h.lt_hb
  have l2 := h.lt_rb
  have R0 : Hid (Rng (w.alloc (.cells #[.pointer (some ⟨hb, 0, none⟩), .int .i64 (b : Int), .int .i64 (c : Int)] 135)) w.heap.size hb rb b c L t) := Lib.hid
    ⟨⟨heap_new w _⟩, h.alloc _, fun hh => by rcases hh with e | e <;> omega, hc, hc2, hb1, hL, t0⟩
  have O0 := Lib.hid ((Only.refl (Blk hb rb) w).alloc (.cells #[.pointer (some ⟨hb, 0, none⟩), .int .i64 (b : Int), .int .i64 (c : Int)] 135))
  have Z0 := Lib.hid (R0.out.ring.lt)
  have tl := Lib.hid (R0.out.tailc)
  have s1 := Lib.hid (R0.out.store b 0 (by omega) (by omega))
  have hd := Lib.hid (fun w' (h : Rng w' w.heap.size hb rb b c (L.set b 0) (t + 1)) => h.headc)
  have s2 := Lib.hid (fun w' (h : Rng w' w.heap.size hb rb b c (L.set b 0) (t + 1)) => h.store (b + 1) 0 (by rw [List.length_set]; omega) (by omega))
  generalize e1 : b + 1 = i1 at hd s2
  have e1' := Lib.hid e1
  clear e1
  have et : Hid (t + 1 + 1 = t + 2 + 2 * ((0 : Nat) : Int)) := Lib.hid (by omega)
  have g1 : decide ((L.length : Int) - (2 + 2 * (c : Int)) < (b : Int)) = false := by simp; omega
  have g2 : (L.length : Int) ≤ 65536 := by omega
  have g3 : (c : Int) ≤ 64 := by omega
  have g4 : decide ((b : Int) < 0) = false := by simp
  have g5 : ¬ ((2 + 2 * (c : Int)) = 0) := by omega
  have hcc := Lib.hid hc2
  have hbb := Lib.hid hb1
  have hLL := Lib.hid hL
  have tt := Lib.hid t1
  clear h t0 t1 hc hc2 hb1 hL hL2 l1 l2
  go_enter Try.func48, Try.ntmps48
  go_wp2_with (first
    | (go_at_call 69; refine (sz.out _).mono ?_; rintro e w1 ⟨rfl, rfl⟩)
    | (go_at_call 29; refine (ln.out).mono ?_; rintro e w1 ⟨rfl, rfl⟩)
    | (go_at_call 89; refine (tl.out).mono ?_; rintro e w1 ⟨rfl, rfl⟩)
    | (go_at_call 30; (with_reducible refine (s1.out).mono ?_); rintro e w1 ⟨rfl, R1, O1⟩)
    | (go_at_call 90; refine (hd.out _ R1).mono ?_; rintro e w1 ⟨rfl, rfl⟩)
    | (go_at_call 30; (with_reducible refine (s2.out _ R1).mono ?_); rintro e w2 ⟨rfl, R2, O2⟩))
  rw [et.out, ← e1'.out] at R2
  have R2' := Lib.hid R2
  have O2' := Lib.hid ((O0.out.trans O1).trans O2)
  clear R2 R1 O1 O2 et
  go_loopw [45] (fun s3 wr => ∃ k : Nat, k ≤ c ∧ s3 = .int .i64 (k : Int) ∧ Hid (Rng wr w.heap.size hb rb b c (layL L b k) (t + 2 + 2 * (k : Int))) ∧ Hid (Only (Blk hb rb) w wr))
    (fun s3 _ => c - (intOf s3).toNat)
  case atStart => exact ⟨0, Nat.zero_le _, rfl, R2', O2'⟩
  case round =>
    obtain ⟨k, hk, rfl, hR, hO⟩ := hrel
    by_cases hkc : k < c
    · have hki : (k : Int) < (c : Int) := by omega
      have tn := Lib.hid (hR.out.turnc k hkc)
      have st := Lib.hid (fun w' (h : Rng w' w.heap.size hb rb b c (layL L b k) (t + 2 + 2 * (k : Int))) => h.store (b + 2 + 2 * k) 0 (by rw [layL_length]; have := hLL.out; omega) (by have := tt.out; have := hcc.out; omega))
      have vl := Lib.hid (fun w' (h : Rng w' w.heap.size hb rb b c ((layL L b k).set (b + 2 + 2 * k) 0) (t + 2 + 2 * (k : Int) + 1)) => h.valuec k hkc)
      have sv := Lib.hid (fun w' (h : Rng w' w.heap.size hb rb b c ((layL L b k).set (b + 2 + 2 * k) 0) (t + 2 + 2 * (k : Int) + 1)) => h.store (b + 3 + 2 * k) 0 (by rw [List.length_set, layL_length]; have := hLL.out; omega) (by have := tt.out; have := hcc.out; omega))
      generalize e2 : b + 2 + 2 * k = i2 at tn st vl sv
      generalize e3 : b + 3 + 2 * k = i3 at vl sv
      have e2' := Lib.hid e2
      have e3' := Lib.hid e3
      clear e2 e3
      have et : Hid (t + 2 + 2 * (k : Int) + 1 + 1 = t + 2 + 2 * ((k + 1 : Nat) : Int)) := Lib.hid (by omega)
      have ek : IntKind.u64.wrap (k : Int) = (k : Int) := by rw [IntKind.wrap_u64]; omega
      clear hkc hk
      go_wp2_with (first
        | (go_at_call 91; refine (tn.out).mono ?_; rintro e w1 ⟨rfl, R1, O1⟩)
        | (go_at_call 30; (with_reducible refine (st.out _ R1).mono ?_); rintro e w2 ⟨rfl, R2, O2⟩)
        | (go_at_call 92; refine (vl.out _ R2).mono ?_; rintro e w3 ⟨rfl, R3, O3⟩)
        | (go_at_call 30; (with_reducible refine (sv.out _ R3).mono ?_); rintro e w4 ⟨rfl, R4, O4⟩))
      rw [et.out, ← e2'.out, ← e3'.out] at R4
      have R4' := Lib.hid R4
      have O4' := Lib.hid ((((hO.out.trans O1).trans O2).trans O3).trans O4)
      clear R1 R2 R3 R4 O1 O2 O3 O4
      go_roundw
      case rel => exact ⟨k + 1, by omega, by go_num, R4', O4'⟩
      case measure => simp [intOf]; omega
    · obtain rfl : k = c := by omega
      have hki : ¬ ((k : Int) < (k : Int)) := by omega
      have Z9 := Lib.hid (hR.out.ring.lt)
      clear hkc hk
      go_wp2
      go_ret2
      exact ⟨rfl, hR.out, hO.out, Z9.out⟩

theorem make_nil (w : World) (b c : Int) :
    Calls Try.prog 48 #[.pointer none, .int .i64 b, .int .i64 c] w fun e w' => e = .returned (.tuple #[.pointer none, .int .i64 1]) ∧ w = w' := by
  by_cases hc : c < 1 ∨ 64 < c
  · have sz := Lib.hid (size_no w c hc)
    clear hc
    go_enter Try.func48, Try.ntmps48
    go_wp2_with (go_at_call 69; refine (sz.out).mono ?_; rintro e w1 ⟨rfl, rfl⟩)
    go_ret2
    exact ⟨rfl, rfl⟩
  · obtain ⟨n, rfl⟩ := Int.eq_ofNat_of_zero_le (show 0 ≤ c by omega)
    have sz := Lib.hid (size_yes w n (by omega) (by omega))
    clear hc
    go_enter Try.func48, Try.ntmps48
    go_wp2_with (go_at_call 69; refine (sz.out).mono ?_; rintro e w1 ⟨rfl, rfl⟩)
    go_ret2
    exact ⟨rfl, rfl⟩
theorem make_bad (w : World) (hb : Nat) (b c : Int) (hc : c < 1 ∨ 64 < c) :
    Calls Try.prog 48 #[.pointer (some ⟨hb, 0, none⟩), .int .i64 b, .int .i64 c] w fun e w' => e = .returned (.tuple #[.pointer none, .int .i64 1]) ∧ w = w' := by
  have sz := Lib.hid (size_no w c hc)
  clear hc
  go_enter Try.func48, Try.ntmps48
  go_wp2_with (go_at_call 69; refine (sz.out).mono ?_; rintro e w1 ⟨rfl, rfl⟩)
  go_ret2
  exact ⟨rfl, rfl⟩
theorem make_no (h : MemAt w hb rb L t) (b : Int) (hc : 0 < c) (hc2 : c ≤ 64) (hL2 : L.length ≤ 65536) (hn : b < 0 ∨ (L.length : Int) - (2 + 2 * (c : Int)) < b) :
    Calls Try.prog 48 #[.pointer (some ⟨hb, 0, none⟩), .int .i64 b, .int .i64 (c : Int)] w fun e w' => e = .returned (.tuple #[.pointer none, .int .i64 1]) ∧ w = w' := by
  have sz := Lib.hid (size_yes w c hc hc2)
  have ln := Lib.hid (len_any h)
  have g2 : (L.length : Int) ≤ 65536 := by omega
  have g3 : (c : Int) ≤ 64 := by omega
  have g5 : ¬ ((2 + 2 * (c : Int)) = 0) := by omega
  clear h hc hc2 hL2
  by_cases g4 : b < 0
  · clear hn
    go_enter Try.func48, Try.ntmps48
    go_wp2_with (go_at_call 69; refine (sz.out).mono ?_; rintro e w1 ⟨rfl, rfl⟩)
    go_ret2
    exact ⟨rfl, rfl⟩
  · have g1 : (L.length : Int) - (2 + 2 * (c : Int)) < b := by omega
    clear hn
    go_enter Try.func48, Try.ntmps48
    go_wp2_with (first
      | (go_at_call 69; refine (sz.out).mono ?_; rintro e w1 ⟨rfl, rfl⟩)
      | (go_at_call 29; refine (ln.out).mono ?_; rintro e w1 ⟨rfl, rfl⟩))
    go_ret2
    exact ⟨rfl, rfl⟩
end
end Go.Proofs.Ytbhiabefaphjpaa
