/- wheel: digits and levels: contracts. -/
import Derived.Test.YtpmgmdlfnlmieaaOnA
import Derived.Test.YtpmgmdlfnlmieaaWhP
import Derived.Shelf.Small.Bits
namespace Go.Proofs.Ytpmgmdlfnlmieaa.Wh
open Go.RowKit Go.Proofs.Ytpmgmdlfnlmieaa

def Try.bl_ren : Go.Shelf.Ren := ⟨fun | 125 => 43 | 128 => 53 | 129 => 54 | n => n, fun | 3 => 3 | 4 => 4 | 5 => 5 | 9 => 9 | 46 => 83 | 51 => 93 | 53 => 30 | n => n, fun n => n⟩
theorem Try.bl : Lays.n125 Try.prog Try.bl_ren where
  mixed := by kernel_rfl
  f125 := Try.func43.trans (congrArg some (by kernel_rfl))
  f128 := Try.func53.trans (congrArg some (by kernel_rfl))
  f129 := Try.func54.trans (congrArg some (by kernel_rfl))
  t3 := Try.underlying3
  a3 := Try.isAgg3
  z3 := Try.sizeOf3
  v3 := Try.zeroValue3
  t4 := Try.underlying4
  a4 := Try.isAgg4
  z4 := Try.sizeOf4
  v4 := Try.zeroValue4
  t5 := Try.underlying5
  a5 := Try.isAgg5
  z5 := Try.sizeOf5
  v5 := Try.zeroValue5
  t9 := Try.underlying9
  a9 := Try.isAgg9
  z9 := Try.sizeOf9
  v9 := Try.zeroValue9
  t46 := Try.underlying83
  a46 := Try.isAgg83
  z46 := Try.sizeOf83
  v46 := Try.zeroValue83
  t51 := Try.underlying93
  a51 := Try.isAgg93
  z51 := Try.sizeOf93
  v51 := Try.zeroValue93
  t53 := Try.underlying30
  a53 := Try.isAgg30
  z53 := Try.sizeOf30
  v53 := Try.zeroValue30

theorem len_any (x : Nat) (hx : x < 1099511627776) (w : World) : Calls Try.prog 43 #[.int .u64 (x : Int)] w fun e w' => e = .returned (.int .i64 (Lib.bitLen x : Nat)) ∧ w = w' :=
  (Any.bits_Len Try.bl (x : Int) w (by omega) (by omega)).mono fun _ _ ⟨a, b⟩ => ⟨by rw [a]; simp, b.symm⟩

theorem digit_any (x l : Nat) (hl : l ≤ 3) (hx : x < 1099511627776) (w : World) :
    Calls Try.prog 29 #[.int .i64 (x : Int), .int .i64 (l : Int)] w fun e w' => e = .returned (.int .i64 (dig x l : Nat)) ∧ w = w' := by
  have hx' : (x : Int) < 1099511627776 := by omega
  have : l = 0 ∨ l = 1 ∨ l = 2 ∨ l = 3 := by omega
  rcases this with rfl | rfl | rfl | rfl
  all_goals
    unfold dig
    simp only [pw]
    go_enter Try.func29, Try.ntmps29
    go_wp2
    go_ret
    refine ⟨?_, rfl⟩
    first | rfl | (rw [Nat.div_one]; rfl)

theorem levelOf_any (now due : Nat) (hn : now < 1099511627776) (hd : due < 1099511627776) (w : World) :
    Calls Try.prog 40 #[.int .i64 (due : Int), .int .i64 (now : Int)] w fun e w' => e = .returned (.int .i64 (lev now due : Nat)) ∧ w = w' := by
  have e1 := xor_i64 due now hd hn
  have hx : (due ^^^ now) < 1099511627776 := Nat.xor_lt_two_pow (n := 40) (by omega) (by omega)
  have e2 := wrap_u64_small _ hx
  have e3 : bits .or .u64 ((due ^^^ now : Nat) : Int) 1 = (((due ^^^ now) ||| 1 : Nat) : Int) := u64_or_nat (due ^^^ now) 1 (by omega) (by decide)
  have hz : (due ^^^ now) ||| 1 < 1099511627776 := Nat.or_lt_two_pow (n := 40) hx (by decide)
  have hz1 : 1 ≤ (due ^^^ now) ||| 1 := Nat.right_le_or
  have el := Lib.hid (lev_bits now due hn hd)
  have len := Lib.hid (fun w => len_any _ hz w)
  have b1 := bitLen_pos _ hz1 (by omega)
  have b2 := Lib.bitLen_le _ 40 (by decide) hz
  generalize (due ^^^ now) ||| 1 = z at *
  generalize (due ^^^ now) = y at *
  generalize Lib.bitLen z = b at *
  generalize lev now due = l at *
  have hl : Hid (l = min ((b - 1) / 3) 3) := Lib.hid el.out.symm
  have b1' : 1 ≤ (b : Int) := by omega
  have b2' : (b : Int) ≤ 40 := by omega
  clear el hx hz hz1 b1 b2 hn hd
  go_enter Try.func40, Try.ntmps40
  go_wp2_with (go_at_call 43; (with_reducible refine (len.out _).mono ?_); rintro e w' ⟨rfl, rfl⟩)
  go_ret
  refine ⟨?_, rfl⟩
  show Ending.returned (.int .i64 (min (((b : Int) - 1) / 3) 3)) = _
  have e4 : min (((b : Int) - 1) / 3) 3 = (l : Int) := by have := hl.out; omega
  rw [e4]
end Go.Proofs.Ytpmgmdlfnlmieaa.Wh
