/- The deque's beginnings: an operation begun; a deque made. -/
import Derived.Test.YthebfnmihjbajaaDqT
import Derived.Test.YthebfnmihjbajaaSpanB
import Derived.LoopTactic
import Derived.Deep.DeepCutAuto
namespace Go.Proofs.Ythebfnmihjbajaa.Dq
open Go.RowKit

theorem op_new (w : World) (dq : Nat) (nx : Value) (v : Int) : OpC (w.alloc (.cells [.pointer (some ⟨dq, 0, none⟩), nx, .int .i64 0, .int .u64 0, .int .u64 0, .int .u64 v, .int .u64 0].toArray 78)) w.heap.size dq nx 0 0 0 v 0 := ⟨heap_new w _⟩

set_option maxHeartbeats 1000000 in
theorem dpush_any (w : World) (dq : Nat) (v : Int) :
    Calls Try.prog 26 #[.pointer (some ⟨dq, 0, none⟩), .int .u64 v] w fun e w' => e = .returned (.pointer (some ⟨w.heap.size, 0, none⟩)) ∧ OpIn w' w.heap.size dq (.push0 v) ∧ Only Nil w w' ∧ w.heap.size < w'.heap.size := by
  have hmf : ∀ (fn : Fn) (first cap : Array Value) (w : World), (Instr.makeFunc fn first cap).run Try.prog w = .ok (.func fn first cap) w := fun _ _ _ _ => rfl
  have n' := Lib.hid (op_new w dq (mv 39 w.heap.size) v)
  have o' := Lib.hid ((Only.refl Nil w).alloc (.cells [.pointer (some ⟨dq, 0, none⟩), mv 39 w.heap.size, .int .i64 0, .int .u64 0, .int .u64 0, .int .u64 v, .int .u64 0].toArray 78))
  go_enter Try.func26, Try.ntmps26
  go_wp2
  go_ret
  exact ⟨rfl, ⟨_, _, _, _, n'.out, ⟨rfl, rfl⟩⟩, o'.out, n'.out.lt⟩

set_option maxHeartbeats 1000000 in
theorem dpop_any (w : World) (dq : Nat) :
    Calls Try.prog 27 #[.pointer (some ⟨dq, 0, none⟩)] w fun e w' => e = .returned (.pointer (some ⟨w.heap.size, 0, none⟩)) ∧ OpIn w' w.heap.size dq (.pop0) ∧ Only Nil w w' ∧ w.heap.size < w'.heap.size := by
  have hmf : ∀ (fn : Fn) (first cap : Array Value) (w : World), (Instr.makeFunc fn first cap).run Try.prog w = .ok (.func fn first cap) w := fun _ _ _ _ => rfl
  have n' := Lib.hid (op_new w dq (mv 40 w.heap.size) 0)
  have o' := Lib.hid ((Only.refl Nil w).alloc (.cells [.pointer (some ⟨dq, 0, none⟩), mv 40 w.heap.size, .int .i64 0, .int .u64 0, .int .u64 0, .int .u64 0, .int .u64 0].toArray 78))
  go_enter Try.func27, Try.ntmps27
  go_wp2
  go_ret
  exact ⟨rfl, ⟨_, _, _, _, n'.out, rfl⟩, o'.out, n'.out.lt⟩

set_option maxHeartbeats 1000000 in
theorem dsteal_any (w : World) (dq : Nat) :
    Calls Try.prog 28 #[.pointer (some ⟨dq, 0, none⟩)] w fun e w' => e = .returned (.pointer (some ⟨w.heap.size, 0, none⟩)) ∧ OpIn w' w.heap.size dq (.st0) ∧ Only Nil w w' ∧ w.heap.size < w'.heap.size := by
  have hmf : ∀ (fn : Fn) (first cap : Array Value) (w : World), (Instr.makeFunc fn first cap).run Try.prog w = .ok (.func fn first cap) w := fun _ _ _ _ => rfl
  have n' := Lib.hid (op_new w dq (mv 41 w.heap.size) 0)
  have o' := Lib.hid ((Only.refl Nil w).alloc (.cells [.pointer (some ⟨dq, 0, none⟩), mv 41 w.heap.size, .int .i64 0, .int .u64 0, .int .u64 0, .int .u64 0, .int .u64 0].toArray 78))
  go_enter Try.func28, Try.ntmps28
  go_wp2
  go_ret
  exact ⟨rfl, ⟨_, _, _, _, n'.out, rfl⟩, o'.out, n'.out.lt⟩

theorem size_yes (w : World) (c : Nat) (hc : 0 < c) (hc2 : c ≤ 64) :
    Calls Try.prog 23 #[.int .i64 (c : Int)] w fun e w' => e = .returned (.int .i64 (2 + (c : Int))) ∧ w = w' := by
  have h1 : ¬ ((c : Int) < 1) := by omega
  have h2 : ¬ ((64 : Int) < (c : Int)) := by omega
  have h3 : (c : Int) ≤ 64 := by omega
  go_enter Try.func23, Try.ntmps23
  go_wp2
  go_ret
  exact ⟨rfl, rfl⟩
theorem size_no (w : World) (c : Int) (hc : c < 1 ∨ 64 < c) :
    Calls Try.prog 23 #[.int .i64 c] w fun e w' => e = .returned (.int .i64 0) ∧ w = w' := by
  by_cases h1 : c < 1
  · clear hc
    go_enter Try.func23, Try.ntmps23
    go_wp2
    go_ret
    exact ⟨rfl, rfl⟩
  · have h2 : 64 < c := by omega
    clear hc
    go_enter Try.func23, Try.ntmps23
    go_wp2
    go_ret
    exact ⟨rfl, rfl⟩

/-- The cells of a fresh deque, after k slots. -/
def layL (L : List Int) (b : Nat) : Nat → List Int
  | 0 => (L.set b 1).set (b + 1) 1
  | k + 1 => (layL L b k).set (b + 2 + k) 0
theorem layL_length (L : List Int) (b k : Nat) : (layL L b k).length = L.length := by
  induction k with
  | zero => simp [layL]
  | succ k ih => simp [layL, ih]

section
variable {w : World} {dq hb rb b c : Nat} {L : List Int} {t : Int}
set_option maxHeartbeats 4000000 in
theorem make_yes (h : MemAt w hb rb L t) (t0 : 0 ≤ t) (t1 : t < 4611686018427380000) (hc : 0 < c) (hc2 : c ≤ 64) (hb1 : b ≤ 1000) (hL : b + 2 + c ≤ L.length) (hL2 : L.length ≤ 65536) :
    Calls Try.prog 9 #[.pointer (some ⟨hb, 0, none⟩), .int .i64 (b : Int), .int .i64 (c : Int)] w fun e w' => ∃ g,
      e = .returned (.tuple #[.pointer (some ⟨g, 0, none⟩), .int .i64 0]) ∧ w.heap.size ≤ g ∧ Rng w' g hb rb b c (layL L b c) (t + 2 + (c : Int)) ∧ Only (Blk hb rb) w w' := by
  have sz := Lib.hid (fun w' => size_yes w' c hc hc2)
  have at' := Lib.hid (at_yes h b (2 + (c : Int)) (by omega) (by omega) hL2 (by omega))
  unfold spanV at at'
  have l1 := h.lt_hb
  have l2 := h.lt_rb
  have hh := Lib.hid h
  have st1 := Lib.hid (fun w' (m : MemAt w' hb rb L t) => sstore_any (b := b) m 0 b 1 (by omega) (by omega) (by omega) (by omega) (by omega) (by omega) (by omega))
  have st2 := Lib.hid (fun w' (m : MemAt w' hb rb (L.set b 1) (t + 1)) => sstore_any (b := b) m 1 (b + 1) 1 (by omega) (by rw [List.length_set]; omega) (by omega) (by omega) (by omega) (by omega) (by omega))
  unfold spanV at st1 st2
  have p0 := Lib.hid (And.intro hc2 (And.intro hb1 (And.intro hL (And.intro t0 t1))))
  have g3 : (c : Int) ≤ 64 := by omega
  have lA := Lib.hid (fun (w2 : World) (o : Only Nil w w2) => show ¬ Blk hb rb w2.heap.size from fun z => by have := o.size; rcases z with e | e <;> omega)
  have et0 : Hid (t + 1 + 1 = t + 2 + ((0 : Nat) : Int)) := Lib.hid (by omega)
  clear h hc2 hb1 hL hL2 t0 t1 l1 l2
  go_enter Try.func9, Try.ntmps9
  go_wp2_with (first
    | (go_at_call 23; refine (sz.out _).mono ?_; rintro e w1 ⟨rfl, rfl⟩)
    | (go_at_call 31; refine at'.out.mono ?_; rintro e w2 ⟨rfl, o2⟩; have m2 := Lib.hid ((hh.out.keep o2 (fun h => h) (fun h => h)).alloc (.cells #[.pointer (some ⟨hb, 0, none⟩), .int .i64 (b : Int)] 71)); obtain ⟨u0, u1⟩ := two_new w2 (.pointer (some ⟨hb, 0, none⟩)) (.int .i64 (b : Int)) 71)
    | (go_at_call 32; (with_reducible refine (st1.out _ m2.out).mono ?_); rintro e w3 ⟨rfl, m3, o3⟩; have m3' := Lib.hid m3; clear m3; have hB3 := Lib.hid ((o3.block w2.heap.size (by simp) (lA.out w2 o2)).trans (heap_new w2 (.cells #[.pointer (some ⟨hb, 0, none⟩), .int .i64 (b : Int)] 71))); have u2 : w3.cell? ⟨w2.heap.size, 0, none⟩ = some (.pointer (some ⟨hb, 0, none⟩)) := (by unfold World.cell?; rw [hB3.out]; rfl); have u3 : w3.cell? ⟨w2.heap.size, 1, none⟩ = some (.int .i64 (b : Int)) := (by unfold World.cell?; rw [hB3.out]; rfl))
    | (go_at_call 32; (with_reducible refine (st2.out _ m3'.out).mono ?_); rintro e w4 ⟨rfl, m4, o4⟩; have m4' := Lib.hid m4; clear m4))
  rw [et0.out] at m4'
  have hB4 := Lib.hid ((o4.block w2.heap.size (lt_of_block hB3.out) (lA.out w2 o2)).trans hB3.out)
  have o5 := Lib.hid ((((o2.alloc (.cells #[.pointer (some ⟨hb, 0, none⟩), .int .i64 (b : Int)] 71)).nilTo (Blk hb rb)).trans o3).trans o4)
  have p1 := Lib.hid (lA.out w2 o2)
  clear o2 m2 u0 u1 o3 m3' hB3 u2 u3 o4 st1 st2 at' sz lA hh et0
  generalize w2.heap.size = ob at *
  go_loopw [26] (fun s3 wr => ∃ k : Nat, k ≤ c ∧ s3 = .int .i64 (k : Int) ∧ Hid (MemAt wr hb rb (layL L b k) (t + 2 + (k : Int))) ∧ Hid (Only (Blk hb rb) w wr) ∧ Hid (wr.heap[ob]? = some (.cells #[.pointer (some ⟨hb, 0, none⟩), .int .i64 (b : Int)] 71 (0, 0))))
    (fun s3 _ => c - (intOf s3).toNat)
  case atStart => exact ⟨0, Nat.zero_le _, rfl, m4', o5, hB4⟩
  case round =>
    obtain ⟨k, hk, rfl, hM, hO, hB⟩ := hrel
    have d0 : wr.cell? ⟨ob, 0, none⟩ = some (.pointer (some ⟨hb, 0, none⟩)) := by unfold World.cell?; rw [hB.out]; rfl
    have d1 : wr.cell? ⟨ob, 1, none⟩ = some (.int .i64 (b : Int)) := by unfold World.cell?; rw [hB.out]; rfl
    obtain ⟨hc2, hb1, hL, t0, t1⟩ := p0.out
    by_cases hkc : k < c
    · have hki : (k : Int) < (c : Int) := by omega
      have st := Lib.hid (sstore_any (b := b) hM.out (2 + (k : Int)) (b + 2 + k) 0 (by omega) (by rw [layL_length]; omega) (by omega) (by omega) (by omega) (by omega) (by omega))
      unfold spanV at st
      have et : Hid (t + 2 + (k : Int) + 1 = t + 2 + ((k + 1 : Nat) : Int)) := Lib.hid (by omega)
      clear hkc hk hc2 hb1 hL t0 t1
      go_wp2_with (go_at_call 32; (with_reducible refine (st.out).mono ?_); rintro e w5 ⟨rfl, R2, O2⟩)
      rw [et.out] at R2
      have R4' := Lib.hid R2
      have O4' := Lib.hid (hO.out.trans O2)
      have B4' := Lib.hid ((O2.block ob (lt_of_block hB.out) p1.out).trans hB.out)
      clear R2 O2
      go_roundw
      case rel => exact ⟨k + 1, by omega, by go_num, R4', O4', B4'⟩
      case measure => simp [intOf]; omega
    · obtain rfl : k = c := by omega
      have hki : ¬ ((k : Int) < (k : Int)) := by omega
      have fin : Hid (Rng (wr.alloc (.cells #[.pointer (some ⟨hb, 0, none⟩), .int .i64 (b : Int), .int .i64 (k : Int)] 76)) wr.heap.size hb rb b k (layL L b k) (t + 2 + (k : Int))) := Lib.hid
        ⟨⟨heap_new wr _⟩, hM.out.alloc _, fun hh => by have := hM.out.lt_hb; have := hM.out.lt_rb; rcases hh with e | e <;> omega, hc, hc2, hb1, by rw [layL_length]; exact hL, by omega⟩
      have O9 := Lib.hid (hO.out.alloc (.cells #[.pointer (some ⟨hb, 0, none⟩), .int .i64 (b : Int), .int .i64 (k : Int)] 76))
      have Z9 := Lib.hid hO.out.size
      clear hkc hk hc2 hb1 hL t0 t1
      go_wp2
      go_ret2
      exact ⟨_, rfl, Z9.out, fin.out, O9.out⟩

theorem make_nil (w : World) (b c : Int) :
    Calls Try.prog 9 #[.pointer none, .int .i64 b, .int .i64 c] w fun e w' => e = .returned (.tuple #[.pointer none, .int .i64 1]) ∧ Only Nil w w' := by
  have sz : ∃ x : Int, Hid (∀ w', Calls Try.prog 23 #[.int .i64 c] w' fun e w'' => e = .returned (.int .i64 x) ∧ w' = w'') := by
    by_cases hc : c < 1 ∨ 64 < c
    · exact ⟨0, Lib.hid (fun w' => size_no w' c hc)⟩
    · obtain ⟨n, rfl⟩ := Int.eq_ofNat_of_zero_le (show 0 ≤ c by omega)
      exact ⟨2 + (n : Int), Lib.hid (fun w' => size_yes w' n (by omega) (by omega))⟩
  obtain ⟨x, sz⟩ := sz
  have at' := Lib.hid (at_nil w b x)
  go_enter Try.func9, Try.ntmps9
  go_wp2_with (first
    | (go_at_call 23; refine (sz.out _).mono ?_; rintro e w1 ⟨rfl, rfl⟩)
    | (go_at_call 31; refine at'.out.mono ?_; rintro e w2 ⟨rfl, o2⟩))
  go_ret2
  exact ⟨rfl, o2.alloc _⟩
theorem make_bad (w : World) (hb : Nat) (b c : Int) (hc : c < 1 ∨ 64 < c) :
    Calls Try.prog 9 #[.pointer (some ⟨hb, 0, none⟩), .int .i64 b, .int .i64 c] w fun e w' => e = .returned (.tuple #[.pointer none, .int .i64 1]) ∧ Only Nil w w' := by
  have sz := Lib.hid (fun w' => size_no w' c hc)
  have at' := Lib.hid (at_low w hb b 0 (by decide))
  clear hc
  go_enter Try.func9, Try.ntmps9
  go_wp2_with (first
    | (go_at_call 23; refine (sz.out _).mono ?_; rintro e w1 ⟨rfl, rfl⟩)
    | (go_at_call 31; refine at'.out.mono ?_; rintro e w2 ⟨rfl, o2⟩))
  go_ret2
  exact ⟨rfl, o2.alloc _⟩
theorem make_no (h : MemAt w hb rb L t) (b : Int) (hc : 0 < c) (hc2 : c ≤ 64) (hL2 : L.length ≤ 65536) (hn : b < 0 ∨ (L.length : Int) - (2 + (c : Int)) < b) :
    Calls Try.prog 9 #[.pointer (some ⟨hb, 0, none⟩), .int .i64 b, .int .i64 (c : Int)] w fun e w' => e = .returned (.tuple #[.pointer none, .int .i64 1]) ∧ Only Nil w w' := by
  have sz := Lib.hid (fun w' => size_yes w' c hc hc2)
  have at' := Lib.hid (at_no h b (2 + (c : Int)) (by omega) (by omega) hL2 hn)
  clear hc hn hc2 hL2 h
  go_enter Try.func9, Try.ntmps9
  go_wp2_with (first
    | (go_at_call 23; refine (sz.out _).mono ?_; rintro e w1 ⟨rfl, rfl⟩)
    | (go_at_call 31; refine at'.out.mono ?_; rintro e w2 ⟨rfl, o2⟩))
  go_ret2
  exact ⟨rfl, o2.alloc _⟩
end
end Go.Proofs.Ythebfnmihjbajaa.Dq
