/- A bell made. -/
import Derived.Test.YtfhbgabblegecaaBlV
import Derived.Test.YtfhbgabblegecaaSpanB
namespace Go.Proofs.Ytfhbgabblegecaa.Bl
open Go.RowKit

/-- The cells of a fresh bell, after k workers. -/
def layL (L : List Int) (b : Nat) : Nat → List Int
  | 0 => L
  | k + 1 => (layL L b k).set (b + k) 0
theorem layL_length (L : List Int) (b k : Nat) : (layL L b k).length = L.length := by
  induction k with
  | zero => rfl
  | succ k ih => simp [layL, ih]
section
variable {w : World} {hb rb b n : Nat} {L : List Int} {t : Int}
set_option maxHeartbeats 4000000 in
theorem make_yes (h : MemAt w hb rb L t) (t0 : 0 ≤ t) (t1 : t < 4611686018427380000) (hc : 0 < n) (hc2 : n ≤ 8) (hb1 : b ≤ 1000) (hL : b + n ≤ L.length) (hL2 : L.length ≤ 65536) :
    Calls Try.prog 15 #[.pointer (some ⟨hb, 0, none⟩), .int .i64 (b : Int), .int .i64 (n : Int)] w fun e w' => ∃ g,
      e = .returned (.tuple #[.pointer (some ⟨g, 0, none⟩), .int .i64 0]) ∧ w.heap.size ≤ g ∧ Rng w' g hb rb b n (layL L b n) (t + (n : Int)) ∧ Only (Blk hb rb) w w' := by
  have sz := Lib.hid (fun w' => size_yes w' n hc hc2)
  have at' := Lib.hid (at_yes h b (n : Int) (by omega) (by omega) hL2 (by omega))
  unfold spanV at at'
  have l1 := h.lt_hb
  have l2 := h.lt_rb
  have hh := Lib.hid h
  clear h
  go_enter Try.func15, Try.ntmps15
  go_wp2_with (first
    | (go_at_call 28; refine (sz.out _).mono ?_; rintro e w1 ⟨rfl, rfl⟩)
    | (go_at_call 44; refine at'.out.mono ?_; rintro e w2 ⟨rfl, o2⟩))
  have m2 := hh.out.keep o2 (fun h => h) (fun h => h)
  have sz2 := o2.size
  have hn := heap_new w2 (.cells #[.pointer (some ⟨hb, 0, none⟩), .int .i64 (b : Int)] 96)
  have m3 := Lib.hid (m2.alloc (.cells #[.pointer (some ⟨hb, 0, none⟩), .int .i64 (b : Int)] 96))
  have o3 := Lib.hid (((o2.alloc (.cells #[.pointer (some ⟨hb, 0, none⟩), .int .i64 (b : Int)] 96))).nilTo (Blk hb rb))
  have hn' := Lib.hid hn
  have p1 := Lib.hid (And.intro (show ¬ Blk hb rb w2.heap.size from fun hh => hh.elim (fun e => by omega) (fun e => by omega)) (And.intro sz2 (And.intro hc2 (And.intro hb1 (And.intro hL (And.intro t0 t1))))))
  have g3 : (n : Int) ≤ 8 := by omega
  clear hn m2 o2 l1 l2 sz2 hc2 hb1 hL hL2 t0 t1 hh at' sz
  generalize w2.heap.size = ob at *
  generalize w2.alloc (.cells #[.pointer (some ⟨hb, 0, none⟩), .int .i64 (b : Int)] 96) = w3 at *
  go_loopw [22] (fun s3 wr => ∃ k : Nat, k ≤ n ∧ s3 = .int .i64 (k : Int) ∧ Hid (MemAt wr hb rb (layL L b k) (t + (k : Int))) ∧ Hid (Only (Blk hb rb) w wr) ∧ Hid (wr.heap[ob]? = some (.cells #[.pointer (some ⟨hb, 0, none⟩), .int .i64 (b : Int)] 96 (0, 0))))
    (fun s3 _ => n - (intOf s3).toNat)
  case atStart => exact ⟨0, Nat.zero_le _, rfl, Lib.hid (by simpa [layL] using m3.out), o3, hn'⟩
  case round =>
    obtain ⟨k, hk, rfl, hM, hO, hB⟩ := hrel
    have d0 : wr.cell? ⟨ob, 0, none⟩ = some (.pointer (some ⟨hb, 0, none⟩)) := by unfold World.cell?; rw [hB.out]; rfl
    have d1 : wr.cell? ⟨ob, 1, none⟩ = some (.int .i64 (b : Int)) := by unfold World.cell?; rw [hB.out]; rfl
    obtain ⟨nb, szb, hc2, hb1, hL, t0, t1⟩ := p1.out
    by_cases hkc : k < n
    · have hki : (k : Int) < (n : Int) := by omega
      have st := Lib.hid (sstore_any (b := b) hM.out (k : Int) (b + k) 0 (by omega) (by rw [layL_length]; omega) (by omega) (by omega) (by omega) (by omega) (by omega))
      unfold spanV at st
      have et : Hid (t + (k : Int) + 1 = t + ((k + 1 : Nat) : Int)) := Lib.hid (by omega)
      clear hkc hk nb szb hc2 hb1 hL t0 t1
      go_wp2_with (go_at_call 45; (with_reducible refine (st.out).mono ?_); rintro e w5 ⟨rfl, R2, O2⟩)
      rw [et.out] at R2
      have R4' := Lib.hid R2
      have O4' := Lib.hid (hO.out.trans O2)
      have B4' := Lib.hid ((O2.block ob (lt_of_block hB.out) p1.out.1).trans hB.out)
      clear R2 O2
      go_roundw
      case rel => exact ⟨k + 1, by omega, by go_num, R4', O4', B4'⟩
      case measure => simp [intOf]; omega
    · obtain rfl : k = n := by omega
      have hki : ¬ ((k : Int) < (k : Int)) := by omega
      have fin : Hid (Rng (wr.alloc (.cells #[.pointer (some ⟨hb, 0, none⟩), .int .i64 (b : Int), .int .i64 (k : Int)] 101)) wr.heap.size hb rb b k (layL L b k) (t + (k : Int))) := Lib.hid
        ⟨⟨heap_new wr _⟩, hM.out.alloc _, fun hh => by have := hM.out.lt_hb; have := hM.out.lt_rb; rcases hh with e | e <;> omega, hc, hc2, hb1, by rw [layL_length]; exact hL, by omega⟩
      have O9 := Lib.hid (hO.out.alloc (.cells #[.pointer (some ⟨hb, 0, none⟩), .int .i64 (b : Int), .int .i64 (k : Int)] 101))
      have Z9 := Lib.hid hO.out.size
      clear hkc hk nb szb hc2 hb1 hL t0 t1
      go_wp2
      go_ret2
      exact ⟨_, rfl, Z9.out, fin.out, O9.out⟩

theorem make_nil (w : World) (b c : Int) :
    Calls Try.prog 15 #[.pointer none, .int .i64 b, .int .i64 c] w fun e w' => e = .returned (.tuple #[.pointer none, .int .i64 1]) ∧ Only Nil w w' := by
  have sz : ∃ x : Int, Hid (∀ w', Calls Try.prog 28 #[.int .i64 c] w' fun e w'' => e = .returned (.int .i64 x) ∧ w' = w'') := by
    by_cases hc : c < 1 ∨ 8 < c
    · exact ⟨0, Lib.hid (fun w' => size_no w' c hc)⟩
    · obtain ⟨n, rfl⟩ := Int.eq_ofNat_of_zero_le (show 0 ≤ c by omega)
      exact ⟨n, Lib.hid (fun w' => size_yes w' n (by omega) (by omega))⟩
  obtain ⟨x, sz⟩ := sz
  have at' := Lib.hid (at_nil w b x)
  go_enter Try.func15, Try.ntmps15
  go_wp2_with (first
    | (go_at_call 28; refine (sz.out _).mono ?_; rintro e w1 ⟨rfl, rfl⟩)
    | (go_at_call 44; refine at'.out.mono ?_; rintro e w2 ⟨rfl, o2⟩))
  go_ret2
  exact ⟨rfl, o2.alloc _⟩
theorem make_bad (w : World) (hb : Nat) (b c : Int) (hc : c < 1 ∨ 8 < c) :
    Calls Try.prog 15 #[.pointer (some ⟨hb, 0, none⟩), .int .i64 b, .int .i64 c] w fun e w' => e = .returned (.tuple #[.pointer none, .int .i64 1]) ∧ Only Nil w w' := by
  have sz := Lib.hid (fun w' => size_no w' c hc)
  have at' := Lib.hid (at_low w hb b 0 (by decide))
  clear hc
  go_enter Try.func15, Try.ntmps15
  go_wp2_with (first
    | (go_at_call 28; refine (sz.out _).mono ?_; rintro e w1 ⟨rfl, rfl⟩)
    | (go_at_call 44; refine at'.out.mono ?_; rintro e w2 ⟨rfl, o2⟩))
  go_ret2
  exact ⟨rfl, o2.alloc _⟩
theorem make_no (h : MemAt w hb rb L t) (b : Int) (hc : 0 < n) (hc2 : n ≤ 8) (hL2 : L.length ≤ 65536) (hn : b < 0 ∨ (L.length : Int) - (n : Int) < b) :
    Calls Try.prog 15 #[.pointer (some ⟨hb, 0, none⟩), .int .i64 b, .int .i64 (n : Int)] w fun e w' => e = .returned (.tuple #[.pointer none, .int .i64 1]) ∧ Only Nil w w' := by
  have sz := Lib.hid (fun w' => size_yes w' n hc hc2)
  have at' := Lib.hid (at_no h b (n : Int) (by omega) (by omega) hL2 hn)
  clear hc hn hc2 hL2 h
  go_enter Try.func15, Try.ntmps15
  go_wp2_with (first
    | (go_at_call 28; refine (sz.out _).mono ?_; rintro e w1 ⟨rfl, rfl⟩)
    | (go_at_call 44; refine at'.out.mono ?_; rintro e w2 ⟨rfl, o2⟩))
  go_ret2
  exact ⟨rfl, o2.alloc _⟩
end
end Go.Proofs.Ytfhbgabblegecaa.Bl
