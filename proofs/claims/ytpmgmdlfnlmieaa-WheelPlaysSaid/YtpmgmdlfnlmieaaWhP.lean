/- wheel: a level out of the bits. -/
import Derived.Test.YtpmgmdlfnlmieaaWhA
import Derived.Lib.BitFns
import Derived.Laws.BitsAllLaws
import Derived.WalkKit
namespace Go.Proofs.Ytpmgmdlfnlmieaa.Wh
open Go.RowKit

theorem bitLen_pos (y : Nat) (h : 1 ≤ y) (h2 : y < 2 ^ 64) : 1 ≤ Lib.bitLen y := by
  rw [Lib.bitLen_half y (by omega) h2]; omega
theorem xor_div (a b k : Nat) : (a ^^^ b) / 2 ^ k = a / 2 ^ k ^^^ b / 2 ^ k := by
  rw [← Nat.shiftRight_eq_div_pow, ← Nat.shiftRight_eq_div_pow, ← Nat.shiftRight_eq_div_pow, Nat.shiftRight_xor_distrib]
theorem or1_div (a k : Nat) (hk : 1 ≤ k) : (a ||| 1) / 2 ^ k = a / 2 ^ k := by
  have e : 1 / 2 ^ k = 0 := Nat.div_eq_of_lt (Nat.one_lt_two_pow (by omega))
  rw [← Nat.shiftRight_eq_div_pow, Nat.shiftRight_or_distrib, Nat.shiftRight_eq_div_pow, Nat.shiftRight_eq_div_pow, e, Nat.or_zero]
theorem xor_zero_iff (a b : Nat) : a ^^^ b = 0 ↔ a = b := by
  constructor
  · intro h
    have : (a ^^^ b) ^^^ b = 0 ^^^ b := by rw [h]
    rw [Nat.xor_assoc, Nat.xor_self, Nat.xor_zero, Nat.zero_xor] at this
    exact this
  · rintro rfl; exact Nat.xor_self _
theorem lev_bits (now due : Nat) (hn : now < 1099511627776) (hd : due < 1099511627776) : min ((Lib.bitLen ((due ^^^ now) ||| 1) - 1) / 3) 3 = lev now due := by
  have key : ∀ k, 1 ≤ k → (((due ^^^ now) ||| 1) / 2 ^ k = 0 ↔ due / 2 ^ k = now / 2 ^ k) := by
    intro k hk
    rw [or1_div _ _ hk, xor_div, xor_zero_iff]
  have k3 := key 3 (by decide)
  have k6 := key 6 (by decide)
  have k9 := key 9 (by decide)
  have hz : 1 ≤ (due ^^^ now) ||| 1 := Nat.right_le_or
  have hx : (due ^^^ now) < 2 ^ 40 := Nat.xor_lt_two_pow (by omega) (by omega)
  have hz2 : (due ^^^ now) ||| 1 < 2 ^ 40 := Nat.or_lt_two_pow hx (by decide)
  generalize (due ^^^ now) ||| 1 = z at *
  clear key hx
  simp only [show (2 : Nat) ^ 3 = 8 from rfl, show (2 : Nat) ^ 6 = 64 from rfl, show (2 : Nat) ^ 9 = 512 from rfl, show (2 : Nat) ^ 40 = 1099511627776 from rfl] at *
  by_cases h9 : z < 512
  · by_cases h6 : z < 64
    · by_cases h3 : z < 8
      · rw [lev_0 (k3.1 (by omega))]
        have := Lib.bitLen_le z 3 (by decide) h3
        omega
      · rw [lev_1 (fun e => by have := k3.2 e; omega) (k6.1 (by omega))]
        have e := Lib.bitLen_shift 3 z (by show 8 ≤ z; omega) (by show z < 18446744073709551616; omega)
        have e1 := Lib.bitLen_le (z / 2 ^ 3) 3 (by decide) (by show z / 8 < 8; omega)
        have e2 := bitLen_pos (z / 2 ^ 3) (by show 1 ≤ z / 8; omega) (by show z / 8 < 18446744073709551616; omega)
        omega
    · rw [lev_2 (fun e => by have := k6.2 e; omega) (k9.1 (by omega))]
      have e := Lib.bitLen_shift 6 z (by show 64 ≤ z; omega) (by show z < 18446744073709551616; omega)
      have e1 := Lib.bitLen_le (z / 2 ^ 6) 3 (by decide) (by show z / 64 < 8; omega)
      have e2 := bitLen_pos (z / 2 ^ 6) (by show 1 ≤ z / 64; omega) (by show z / 64 < 18446744073709551616; omega)
      omega
  · rw [lev_3 (fun e => by have := k9.2 e; omega)]
    have e := Lib.bitLen_shift 9 z (by show 512 ≤ z; omega) (by show z < 18446744073709551616; omega)
    have e2 := bitLen_pos (z / 2 ^ 9) (by show 1 ≤ z / 512; omega) (by show z / 512 < 18446744073709551616; omega)
    omega

theorem xor_i64 (a b : Nat) (ha : a < 1099511627776) (hb : b < 1099511627776) : bits .xor .i64 (a : Int) (b : Int) = ((a ^^^ b : Nat) : Int) := by
  have hx : a ^^^ b < 2 ^ 40 := Nat.xor_lt_two_pow (by omega) (by omega)
  have h1 : (BitVec.ofInt 64 (a : Int)).toNat = a := by
    rw [BitVec.ofInt_natCast, BitVec.toNat_ofNat]; exact Nat.mod_eq_of_lt (by omega)
  have h2 : (BitVec.ofInt 64 (b : Int)).toNat = b := by
    rw [BitVec.ofInt_natCast, BitVec.toNat_ofNat]; exact Nat.mod_eq_of_lt (by omega)
  show IntKind.i64.wrap ((BitVec.ofInt 64 (a : Int) ^^^ BitVec.ofInt 64 (b : Int)).toNat : Int) = _
  rw [BitVec.toNat_xor, h1, h2, IntKind.wrap_i64]
  omega
theorem wrap_u64_small (a : Nat) (ha : a < 1099511627776) : IntKind.u64.wrap (a : Int) = (a : Int) := by
  rw [IntKind.wrap_u64]; omega
end Go.Proofs.Ytpmgmdlfnlmieaa.Wh
