/- The deque's beginnings: an operation begun; a deque made. -/
import Derived.Test.YtbhiabefaphjpaaDqT
import Derived.LoopTactic
import Derived.Deep.DeepCutAuto
namespace Go.Proofs.Ytbhiabefaphjpaa.Dq
open Go.RowKit

theorem op_new (w : World) (dq : Nat) (nx : Value) (v : Int) : OpC (w.alloc (.cells [.pointer (some ⟨dq, 0, none⟩), nx, .int .i64 0, .int .u64 0, .int .u64 0, .int .u64 v, .int .u64 0].toArray 128)) w.heap.size dq nx 0 0 0 v 0 := ⟨heap_new w _⟩

set_option maxHeartbeats 1000000 in
theorem dpush_any (w : World) (dq : Nat) (v : Int) :
    Calls Try.prog 46 #[.pointer (some ⟨dq, 0, none⟩), .int .u64 v] w fun e w' => e = .returned (.pointer (some ⟨w.heap.size, 0, none⟩)) ∧ OpIn w' w.heap.size dq (.push0 v) ∧ Only Nil w w' ∧ w.heap.size < w'.heap.size := by
  have hmf : ∀ (fn : Fn) (first cap : Array Value) (w : World), (Instr.makeFunc fn first cap).run Try.prog w = .ok (.func fn first cap) w := fun _ _ _ _ => rfl
  have n' := Lib.hid (op_new w dq (mv 83 w.heap.size) v)
  have o' := Lib.hid ((Only.refl Nil w).alloc (.cells [.pointer (some ⟨dq, 0, none⟩), mv 83 w.heap.size, .int .i64 0, .int .u64 0, .int .u64 0, .int .u64 v, .int .u64 0].toArray 128))
  go_enter Try.func46, Try.ntmps46
  go_wp2
  go_ret
  exact ⟨rfl, ⟨_, _, _, _, n'.out, ⟨rfl, rfl⟩⟩, o'.out, n'.out.lt⟩

set_option maxHeartbeats 1000000 in
theorem dpop_any (w : World) (dq : Nat) :
    Calls Try.prog 72 #[.pointer (some ⟨dq, 0, none⟩)] w fun e w' => e = .returned (.pointer (some ⟨w.heap.size, 0, none⟩)) ∧ OpIn w' w.heap.size dq (.pop0) ∧ Only Nil w w' ∧ w.heap.size < w'.heap.size := by
  have hmf : ∀ (fn : Fn) (first cap : Array Value) (w : World), (Instr.makeFunc fn first cap).run Try.prog w = .ok (.func fn first cap) w := fun _ _ _ _ => rfl
  have n' := Lib.hid (op_new w dq (mv 109 w.heap.size) 0)
  have o' := Lib.hid ((Only.refl Nil w).alloc (.cells [.pointer (some ⟨dq, 0, none⟩), mv 109 w.heap.size, .int .i64 0, .int .u64 0, .int .u64 0, .int .u64 0, .int .u64 0].toArray 128))
  go_enter Try.func72, Try.ntmps72
  go_wp2
  go_ret
  exact ⟨rfl, ⟨_, _, _, _, n'.out, rfl⟩, o'.out, n'.out.lt⟩

set_option maxHeartbeats 1000000 in
theorem dsteal_any (w : World) (dq : Nat) :
    Calls Try.prog 71 #[.pointer (some ⟨dq, 0, none⟩)] w fun e w' => e = .returned (.pointer (some ⟨w.heap.size, 0, none⟩)) ∧ OpIn w' w.heap.size dq (.st0) ∧ Only Nil w w' ∧ w.heap.size < w'.heap.size := by
  have hmf : ∀ (fn : Fn) (first cap : Array Value) (w : World), (Instr.makeFunc fn first cap).run Try.prog w = .ok (.func fn first cap) w := fun _ _ _ _ => rfl
  have n' := Lib.hid (op_new w dq (mv 108 w.heap.size) 0)
  have o' := Lib.hid ((Only.refl Nil w).alloc (.cells [.pointer (some ⟨dq, 0, none⟩), mv 108 w.heap.size, .int .i64 0, .int .u64 0, .int .u64 0, .int .u64 0, .int .u64 0].toArray 128))
  go_enter Try.func71, Try.ntmps71
  go_wp2
  go_ret
  exact ⟨rfl, ⟨_, _, _, _, n'.out, rfl⟩, o'.out, n'.out.lt⟩

theorem size_yes (w : World) (c : Nat) (hc : 0 < c) (hc2 : c ≤ 64) :
    Calls Try.prog 73 #[.int .i64 (c : Int)] w fun e w' => e = .returned (.int .i64 (2 + (c : Int))) ∧ w = w' := by
  have h1 : ¬ ((c : Int) < 1) := by omega
  have h2 : ¬ ((64 : Int) < (c : Int)) := by omega
  have h3 : (c : Int) ≤ 64 := by omega
  go_enter Try.func73, Try.ntmps73
  go_wp2
  go_ret
  exact ⟨rfl, rfl⟩
theorem size_no (w : World) (c : Int) (hc : c < 1 ∨ 64 < c) :
    Calls Try.prog 73 #[.int .i64 c] w fun e w' => e = .returned (.int .i64 0) ∧ w = w' := by
  by_cases h1 : c < 1
  · clear hc
    go_enter Try.func73, Try.ntmps73
    go_wp2
    go_ret
    exact ⟨rfl, rfl⟩
  · have h2 : 64 < c := by omega
    clear hc
    go_enter Try.func73, Try.ntmps73
    go_wp2
    go_ret
    exact ⟨rfl, rfl⟩

/-- The cells of a fresh deque, after k slots. -/
def layL (L : List Int) (b : Nat) : Nat → List Int
  | 0 => (L.set b 1).set (b + 1) 1
  | k + 1 => (layL L b k).set (b + 2 + k) 0
theorem layL_length (L : List Int) (b k : Nat) : (layL L b k).length = L.length := by
  induction k with
  | zero => simp [layL]
  | succ k ih => simp [layL, ih]

section
variable {w : World} {dq hb rb b c : Nat} {L : List Int} {t : Int}
theorem Rng.store (h : Rng w dq hb rb b c L t) (k : Int) (i : Nat) (x : Int) (hk : (b : Int) + k = (i : Int)) (hi : i < L.length) (k0 : 0 ≤ k) (k1 : k ≤ 100) (t1 : t < 4611686018427386000) :
    Calls Try.prog 74 #[.pointer (some ⟨dq, 0, none⟩), .int .i64 k, .int .u64 x] w fun e w' => e = .returned (.tuple #[]) ∧ Rng w' dq hb rb b c (L.set i x) (t + 1) ∧ Only (Blk hb rb) w w' := by
  refine (dqstore_any h.ring h.mem h.ne k i x hk hi h.ub k0 k1 h.t0 (by omega)).mono ?_
  rintro e w1 ⟨rfl, m, o⟩
  exact ⟨rfl, { h with ring := h.ring.keep o h.ne, mem := m, len := by rw [List.length_set]; exact h.len, t0 := by have := h.t0; omega }, o⟩

set_option maxHeartbeats 4000000 in
theorem make_yes (h : MemAt w hb rb L t) (t0 : 0 ≤ t) (t1 : t < 4611686018427380000) (hc : 0 < c) (hc2 : c ≤ 64) (hb1 : b ≤ 1000) (hL : b + 2 + c ≤ L.length) (hL2 : L.length ≤ 65536) :
    Calls Try.prog 36 #[.pointer (some ⟨hb, 0, none⟩), .int .i64 (b : Int), .int .i64 (c : Int)] w fun e w' =>
      e = .returned (.tuple #[.pointer (some ⟨w.heap.size, 0, none⟩), .int .i64 0]) ∧ Rng w' w.heap.size hb rb b c (layL L b c) (t + 2 + (c : Int)) ∧ Only (Blk hb rb) w w' ∧ w.heap.size < w'.heap.size := by
  have sz := Lib.hid (fun w' => size_yes w' c hc hc2)
  have ln := Lib.hid (len_any h)
  have l1 := h.lt_hb
  have l2 := h.lt_rb
  have R0 : Hid (Rng (w.alloc (.cells #[.pointer (some ⟨hb, 0, none⟩), .int .i64 (b : Int), .int .i64 (c : Int)] 126)) w.heap.size hb rb b c L t) := Lib.hid
    ⟨⟨heap_new w _⟩, h.alloc _, fun hh => by rcases hh with e | e <;> omega, hc, hc2, hb1, hL, t0⟩
  have O0 := Lib.hid ((Only.refl (Blk hb rb) w).alloc (.cells #[.pointer (some ⟨hb, 0, none⟩), .int .i64 (b : Int), .int .i64 (c : Int)] 126))
  have s1 := Lib.hid (R0.out.store 0 b 1 (by omega) (by omega) (by omega) (by omega) (by omega))
  have s2 := Lib.hid (fun w' (h : Rng w' w.heap.size hb rb b c (L.set b 1) (t + 1)) => h.store 1 (b + 1) 1 (by omega) (by rw [List.length_set]; omega) (by omega) (by omega) (by omega))
  have et : Hid (t + 1 + 1 = t + 2 + ((0 : Nat) : Int)) := Lib.hid (by omega)
  have g1 : decide ((L.length : Int) - (2 + (c : Int)) < (b : Int)) = false := by simp; omega
  have g2 : (L.length : Int) ≤ 65536 := by omega
  have g3 : (c : Int) ≤ 64 := by omega
  have g4 : decide ((b : Int) < 0) = false := by simp
  have g5 : ¬ ((2 + (c : Int)) = 0) := by omega
  have hcc := Lib.hid hc2
  have hLL := Lib.hid hL
  have tt := Lib.hid t1
  clear h t0 t1 hc hc2 hb1 hL hL2 l1 l2
  go_enter Try.func36, Try.ntmps36
  go_wp2_with (first
    | (go_at_call 73; refine (sz.out _).mono ?_; rintro e w1 ⟨rfl, rfl⟩)
    | (go_at_call 29; refine (ln.out).mono ?_; rintro e w1 ⟨rfl, rfl⟩)
    | (go_at_call 74; (with_reducible refine (s1.out).mono ?_); rintro e w1 ⟨rfl, R1, O1⟩)
    | (go_at_call 74; (with_reducible refine (s2.out _ R1).mono ?_); rintro e w2 ⟨rfl, R2, O2⟩))
  rw [et.out] at R2
  have R2' := Lib.hid R2
  have O2' := Lib.hid ((O0.out.trans O1).trans O2)
  clear R2 R1 O1 O2 et
  go_loopw [41] (fun s3 wr => ∃ k : Nat, k ≤ c ∧ s3 = .int .i64 (k : Int) ∧ Hid (Rng wr w.heap.size hb rb b c (layL L b k) (t + 2 + (k : Int))) ∧ Hid (Only (Blk hb rb) w wr))
    (fun s3 _ => c - (intOf s3).toNat)
  case atStart => exact ⟨0, Nat.zero_le _, rfl, R2', O2'⟩
  case round =>
    obtain ⟨k, hk, rfl, hR, hO⟩ := hrel
    by_cases hkc : k < c
    · have hki : (k : Int) < (c : Int) := by omega
      have st := Lib.hid (hR.out.store (2 + (k : Int)) (b + 2 + k) 0 (by omega) (by rw [layL_length]; have := hLL.out; omega) (by omega) (by have := hcc.out; omega) (by have := tt.out; have := hcc.out; omega))
      have et : Hid (t + 2 + (k : Int) + 1 = t + 2 + ((k + 1 : Nat) : Int)) := Lib.hid (by omega)
      clear hkc hk
      go_wp2_with (go_at_call 74; (with_reducible refine (st.out).mono ?_); rintro e w2 ⟨rfl, R2, O2⟩)
      rw [et.out] at R2
      have R4' := Lib.hid R2
      have O4' := Lib.hid (hO.out.trans O2)
      clear R2 O2
      go_roundw
      case rel => exact ⟨k + 1, by omega, by go_num, R4', O4'⟩
      case measure => simp [intOf]; omega
    · obtain rfl : k = c := by omega
      have hki : ¬ ((k : Int) < (k : Int)) := by omega
      have Z9 := Lib.hid (hR.out.ring.lt)
      clear hkc hk
      go_wp2
      go_ret2
      exact ⟨rfl, hR.out, hO.out, Z9.out⟩

theorem make_nil (w : World) (b c : Int) :
    Calls Try.prog 36 #[.pointer none, .int .i64 b, .int .i64 c] w fun e w' => e = .returned (.tuple #[.pointer none, .int .i64 1]) ∧ w = w' := by
  by_cases hc : c < 1 ∨ 64 < c
  · have sz := Lib.hid (size_no w c hc)
    clear hc
    go_enter Try.func36, Try.ntmps36
    go_wp2_with (go_at_call 73; refine (sz.out).mono ?_; rintro e w1 ⟨rfl, rfl⟩)
    go_ret2
    exact ⟨rfl, rfl⟩
  · obtain ⟨n, rfl⟩ := Int.eq_ofNat_of_zero_le (show 0 ≤ c by omega)
    have sz := Lib.hid (size_yes w n (by omega) (by omega))
    clear hc
    go_enter Try.func36, Try.ntmps36
    go_wp2_with (go_at_call 73; refine (sz.out).mono ?_; rintro e w1 ⟨rfl, rfl⟩)
    go_ret2
    exact ⟨rfl, rfl⟩
theorem make_bad (w : World) (hb : Nat) (b c : Int) (hc : c < 1 ∨ 64 < c) :
    Calls Try.prog 36 #[.pointer (some ⟨hb, 0, none⟩), .int .i64 b, .int .i64 c] w fun e w' => e = .returned (.tuple #[.pointer none, .int .i64 1]) ∧ w = w' := by
  have sz := Lib.hid (size_no w c hc)
  clear hc
  go_enter Try.func36, Try.ntmps36
  go_wp2_with (go_at_call 73; refine (sz.out).mono ?_; rintro e w1 ⟨rfl, rfl⟩)
  go_ret2
  exact ⟨rfl, rfl⟩
theorem make_no (h : MemAt w hb rb L t) (b : Int) (hc : 0 < c) (hc2 : c ≤ 64) (hL2 : L.length ≤ 65536) (hn : b < 0 ∨ (L.length : Int) - (2 + (c : Int)) < b) :
    Calls Try.prog 36 #[.pointer (some ⟨hb, 0, none⟩), .int .i64 b, .int .i64 (c : Int)] w fun e w' => e = .returned (.tuple #[.pointer none, .int .i64 1]) ∧ w = w' := by
  have sz := Lib.hid (size_yes w c hc hc2)
  have ln := Lib.hid (len_any h)
  have g2 : (L.length : Int) ≤ 65536 := by omega
  have g3 : (c : Int) ≤ 64 := by omega
  have g5 : ¬ ((2 + (c : Int)) = 0) := by omega
  clear h hc hc2 hL2
  by_cases g4 : b < 0
  · clear hn
    go_enter Try.func36, Try.ntmps36
    go_wp2_with (go_at_call 73; refine (sz.out).mono ?_; rintro e w1 ⟨rfl, rfl⟩)
    go_ret2
    exact ⟨rfl, rfl⟩
  · have g1 : (L.length : Int) - (2 + (c : Int)) < b := by omega
    clear hn
    go_enter Try.func36, Try.ntmps36
    go_wp2_with (first
      | (go_at_call 73; refine (sz.out).mono ?_; rintro e w1 ⟨rfl, rfl⟩)
      | (go_at_call 29; refine (ln.out).mono ?_; rintro e w1 ⟨rfl, rfl⟩))
    go_ret2
    exact ⟨rfl, rfl⟩
end
end Go.Proofs.Ytbhiabefaphjpaa.Dq
