/- CellsSums answers true for every slice of numbers and every number of ones, and turns nothing that there was: the walk. -/
import Derived.Test.YtcbmnnpanclclaaCellsRaceW
namespace Go.Proofs.Ytcbmnnpanclclaa
open Go.RowKit

/-- The sum of the first k, and of the last k, modulo 2 to the 64th. -/
def psum (L : List Int) : Nat → Int
  | 0 => 0
  | k + 1 => IntKind.u64.wrap (psum L k + L.getD k 0)
def qsum (L : List Int) : Nat → Int
  | 0 => 0
  | k + 1 => IntKind.u64.wrap (qsum L k + L.getD (L.length - 1 - k) 0)

theorem wrap_u64 (x : Int) : IntKind.u64.wrap x = x % 18446744073709551616 := by simp [IntKind.wrap, IntKind.signed, IntKind.bits]

def total (L : List Int) : Nat → Int
  | 0 => 0
  | k + 1 => total L k + L.getD k 0
def latot (L : List Int) : Nat → Int
  | 0 => 0
  | k + 1 => latot L k + L.getD (L.length - 1 - k) 0

theorem psum_mod (L : List Int) (k : Nat) : psum L k = total L k % 18446744073709551616 := by
  induction k with
  | zero => rfl
  | succ k ih => simp only [psum, total, wrap_u64, ih]; omega
theorem qsum_mod (L : List Int) (k : Nat) : qsum L k = latot L k % 18446744073709551616 := by
  induction k with
  | zero => rfl
  | succ k ih => simp only [qsum, latot, wrap_u64, ih]; omega
theorem tot_split (L : List Int) (k : Nat) (hk : k ≤ L.length) : latot L k + total L (L.length - k) = total L L.length := by
  induction k with
  | zero => simp [latot]
  | succ k ih =>
    have := ih (by omega)
    have e : L.length - k = (L.length - 1 - k) + 1 := by omega
    have e' : L.length - (k + 1) = L.length - 1 - k := by omega
    rw [e, total] at this
    rw [latot, e']; omega
theorem sums_meet (L : List Int) : qsum L L.length = psum L L.length := by
  rw [psum_mod, qsum_mod]
  have := tot_split L L.length (Nat.le_refl _)
  simp only [Nat.sub_self, total, Int.add_zero] at this
  rw [this]
theorem psum_range (L : List Int) (k : Nat) : 0 ≤ psum L k ∧ psum L k < 18446744073709551616 := by rw [psum_mod]; omega

section
variable {w : World} {hb rb : Nat} {t s b : Int}
theorem su_new (w : World) : Calls Try.prog 10 #[.int .i64 2] w fun e w' =>
    e = .returned (.pointer (some ⟨w.heap.size + 1, 0, none⟩)) ∧ MemAt w' (w.heap.size + 1) w.heap.size [0, 0] 0 ∧ Only Nil w w' := new_any 2 w
theorem su_add0 (h : MemAt w hb rb [s, b] t) (v : Int) (t0 : 0 ≤ t) (t1 : t < 4611686018427387904) : Calls Try.prog 17 #[.pointer (some ⟨hb, 0, none⟩), .int .i64 0, .int .u64 v] w fun e w' =>
    e = .returned (.tuple #[.int .u64 (IntKind.u64.wrap (s + v)), .int .i64 0]) ∧ MemAt w' hb rb [IntKind.u64.wrap (s + v), b] (t + 1) ∧ Only (Blk hb rb) w w' := add_yes h 0 v (by simp) t0 t1
theorem su_add1 (h : MemAt w hb rb [s, b] t) (v : Int) (t0 : 0 ≤ t) (t1 : t < 4611686018427387904) : Calls Try.prog 17 #[.pointer (some ⟨hb, 0, none⟩), .int .i64 1, .int .u64 v] w fun e w' =>
    e = .returned (.tuple #[.int .u64 (IntKind.u64.wrap (b + v)), .int .i64 0]) ∧ MemAt w' hb rb [s, IntKind.u64.wrap (b + v)] (t + 1) ∧ Only (Blk hb rb) w w' := add_yes h 1 v (by simp) t0 t1
end

set_option maxHeartbeats 1000000 in
theorem sums_walk (a : Option Addr) (cap : Nat) (L : List Int) (ones : Int) (w : World) (hL : RowIn w a L) (hr : L.length * 8 ≤ 140737488351232) (ho : 0 ≤ ones ∧ ones < 256) :
    Calls Try.prog 7 #[.slice a L.length cap, .int .u8 ones] w fun e w' => e = .returned (.bool true) ∧ Below w.heap.size w w' := by
  have hL' := Lib.hid hL
  clear hL
  have meet := sums_meet L
  have meet' := Lib.hid meet
  clear meet
  have qs : ∀ k, qsum L (k + 1) = IntKind.u64.wrap (qsum L k + L.getD (L.length - 1 - k) 0) := fun _ => rfl
  have qs' := Lib.hid qs
  clear qs
  generalize hlen : L.length = len at hr ⊢
  have hlen' := Lib.hid hlen
  clear hlen
  obtain ⟨o0, o1⟩ := ho
  go_enter Try.func7, Try.ntmps7
  go_wp2_with (first
    | (go_at_call 9; (with_reducible refine (alive_any _).mono ?_); rintro e w1 ⟨rfl, p1⟩)
    | (go_at_call 10; (with_reducible refine (su_new _).mono ?_); rintro e w2 ⟨rfl, h2, p2⟩))
  have b1 : Below w.heap.size w w1 := p1.below (Nat.le_refl _) (fun _ h => h.elim)
  have b2 : Below w.heap.size w w2 := b1.trans (p2.below b1.size (fun _ h => h.elim))
  have s1 := b1.size
  clear p1 p2 b1
  generalize w1.heap.size = rb at s1 h2 ⊢
  go_loopw [6, 7] (fun sum i wr => ∃ (k : Nat), k ≤ len ∧ i = .int .i64 k ∧ sum = .int .u64 (psum L k) ∧ MemAt wr (rb + 1) rb [psum L k, qsum L k] (2 * (k : Int)) ∧ Below w.heap.size w wr)
    (fun _ i _ => len - (intOf i).toNat)
  case atStart => exact ⟨0, Nat.zero_le _, rfl, rfl, h2, b2⟩
  case round =>
    obtain ⟨k, hk, rfl, rfl, hm, hbel⟩ := hrel
    clear b2 h2
    have hsz := hbel.size
    by_cases hlt : k < len
    · obtain ⟨b, off, rfl, hb1, hb2⟩ := hL'.out k (by rw [hlen'.out]; exact hlt)
      have hx : wr.cell? ⟨b, off + k, none⟩ = some (.int .u64 (L.getD k 0)) := (hbel.cell (p := ⟨b, off + k, none⟩) hb1).trans (hb2 k (by rw [hlen'.out]; exact hlt))
      have hy : wr.cell? ⟨b, off + (len - 1 - k), none⟩ = some (.int .u64 (L.getD (len - 1 - k) 0)) := (hbel.cell (p := ⟨b, off + (len - 1 - k), none⟩) hb1).trans (hb2 (len - 1 - k) (by rw [hlen'.out]; omega))
      clear hb2
      have ps : Hid (psum L (k + 1) = IntKind.u64.wrap (psum L k + L.getD k 0)) := rfl
      have qs : Hid (qsum L (k + 1) = IntKind.u64.wrap (qsum L k + L.getD (len - 1 - k) 0)) := by have := qs'.out k; rw [hlen'.out] at this; exact this
      generalize L.getD k 0 = x at hx ps
      generalize L.getD (len - 1 - k) 0 = y at hy qs
      have last : Hid (k + 1 = len → IntKind.u64.wrap (qsum L k + y) = IntKind.u64.wrap (psum L k + x)) := by
        intro h
        rw [← ps.out, ← qs.out]
        have := meet'.out; rw [hlen'.out, ← h] at this; exact this
      generalize psum L k = s at ps hm last
      generalize qsum L k = q at qs hm last
      by_cases hl : k + 1 = len
      · have lst : (IntKind.u64.wrap (q + y) != IntKind.u64.wrap (s + x)) = false := by rw [last.out hl]; simp
        have e0 : len - 1 - k = 0 := by omega
        rw [e0, Nat.add_zero] at hy
        clear e0
        go_wp2_with (first
          | (go_at_call 17; (with_reducible refine (su_add0 hm _ (by omega) (by omega)).mono ?_); rintro e w4 ⟨rfl, h4, o4⟩; have hy4 : w4.cell? ⟨b, off, none⟩ = some (.int .u64 y) := ((o4.under (B := w.heap.size) hsz (by omega) (by omega)).cell (p := ⟨b, off, none⟩) hb1).trans hy)
          | (go_at_call 17; (with_reducible refine (su_add1 h4 _ (by omega) (by omega)).mono ?_); rintro e w5 ⟨rfl, h5, o5⟩))
        go_roundw
        case rel => exact ⟨k + 1, by omega, by go_num, by rw [ps.out], by rw [ps.out, qs.out]; have e : 2 * ((k + 1 : Nat) : Int) = 2 * (k : Int) + 1 + 1 := by omega
                                                                          rw [e]; exact h5, (hbel.trans (o4.under hsz (by omega) (by omega))).trans (o5.under (by have := o4.size; omega) (by omega) (by omega))⟩
        case measure => simp [intOf]; omega
      · have hl' : ¬ (k : Int) = (len : Int) - 1 := by omega
        clear hl
        go_wp2_with (first
          | (go_at_call 17; (with_reducible refine (su_add0 hm _ (by omega) (by omega)).mono ?_); rintro e w4 ⟨rfl, h4, o4⟩; have hy4 : w4.cell? ⟨b, off + (len - 1 - k), none⟩ = some (.int .u64 y) := ((o4.under (B := w.heap.size) hsz (by omega) (by omega)).cell (p := ⟨b, off + (len - 1 - k), none⟩) hb1).trans hy)
          | (go_at_call 17; (with_reducible refine (su_add1 h4 _ (by omega) (by omega)).mono ?_); rintro e w5 ⟨rfl, h5, o5⟩))
        go_roundw
        case rel => exact ⟨k + 1, by omega, by go_num, by rw [ps.out], by rw [ps.out, qs.out]; have e : 2 * ((k + 1 : Nat) : Int) = 2 * (k : Int) + 1 + 1 := by omega
                                                                          rw [e]; exact h5, (hbel.trans (o4.under hsz (by omega) (by omega))).trans (o5.under (by have := o4.size; omega) (by omega) (by omega))⟩
        case measure => simp [intOf]; omega
    · obtain rfl : k = len := by omega
      have rng := psum_range L k
      generalize psum L k = s at hm rng
      generalize qsum L k = q at hm
      have hw0 : Hid (IntKind.u64.wrap (s + (0 : Nat)) = s) := by show _ = _; rw [wrap_u64]; omega
      clear rng
      go_wp2
      go_loopw [12] (fun i wr' => ∃ (j : Nat), (j : Int) ≤ ones ∧ i = .int .i64 j ∧ MemAt wr' (rb + 1) rb [IntKind.u64.wrap (s + j), q] (2 * (k : Int) + j) ∧ Below w.heap.size w wr')
        (fun i _ => (ones - intOf i).toNat)
      case atStart => exact ⟨0, by omega, rfl, by rw [hw0.out]; simpa using hm, hbel⟩
      case round =>
        obtain ⟨j, hj, rfl, hm', hbel'⟩ := hrel
        clear hm hbel hw0
        have hsz' := hbel'.size
        by_cases hlt' : (j : Int) < ones
        · go_wp2_with (go_at_call 17; (with_reducible refine (su_add0 hm' _ (by omega) (by omega)).mono ?_); rintro e w4 ⟨rfl, h4, o4⟩)
          go_roundw
          case rel =>
            refine ⟨j + 1, by omega, by go_num, ?_, hbel'.trans (o4.under hsz' (by omega) (by omega))⟩
            have e1 : IntKind.u64.wrap (s + ((j + 1 : Nat) : Int)) = IntKind.u64.wrap (IntKind.u64.wrap (s + (j : Int)) + 1) := by simp only [wrap_u64]; omega
            have e2 : 2 * (k : Int) + ((j + 1 : Nat) : Int) = 2 * (k : Int) + (j : Int) + 1 := by omega
            rw [e1, e2]; exact h4
          case measure => simp [intOf]; omega
        · obtain rfl : ones = (j : Int) := by omega
          go_wp2_with (go_at_call 23; (with_reducible refine (touched_any hm').mono ?_); rintro e w4 ⟨rfl, rfl⟩)
          go_ret
          exact ⟨rfl, hbel'⟩
end Go.Proofs.Ytcbmnnpanclclaa
