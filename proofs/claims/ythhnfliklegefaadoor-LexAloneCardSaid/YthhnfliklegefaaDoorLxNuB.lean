/- lex, the document's: Decimal. -/
import Derived.Test.YthhnfliklegefaaDoorLxM4
import Derived.Laws.BytesArg
import Derived.Laws.IdiomStrings
import Derived.Laws.Concat
namespace Go.Proofs.YthhnfliklegefaaDoor.Lx
open Go.RowKit Go.Proofs.YthhnfliklegefaaDoor

/-- The last digit. -/
def dg (m : Nat) : UInt8 := UInt8.ofNat (48 + m % 10)
theorem dg_nat (m : Nat) : (dg m).toNat = 48 + m % 10 := by
  unfold dg
  show (48 + m % 10) % 256 = 48 + m % 10
  omega
theorem dg_di (m : Nat) : isDi (dg m) = true := by
  unfold isDi
  rw [dg_nat]
  simp; omega
theorem dg_conv (m : Nat) (w : World) : (convert 51 9 (.slice (some ⟨w.heap.size, 0, none⟩) 1 1)).run Tryd.prog (w.alloc (.cells #[.int .u8 (48 + (m : Int) % 10)] 5)) = .ok (.string (bs [dg m])) (w.alloc (.cells #[.int .u8 (48 + (m : Int) % 10)] 5)) := by
  have h := run_convert_bytes_back (P := Tryd.prog) (w.alloc (.cells #[.int .u8 (48 + (m : Int) % 10)] 5)) 51 9 5 ⟨w.heap.size, 0, none⟩ 1 [dg m] Tryd.underlying51 Tryd.underlying5 Tryd.underlying9 (fun j hj => by
    have h0 : j = 0 := by simpa using hj
    subst h0
    have hb := heap_new w (.cells #[.int .u8 (48 + (m : Int) % 10)] 5)
    rw [add_lit0]
    simp only [World.cell?, hb]
    have e : (([dg m] : List UInt8)[0].toNat : Int) = 48 + (m : Int) % 10 := by
      show ((dg m).toNat : Int) = _
      rw [dg_nat]; omega
    rw [e]; rfl)
  exact h
theorem str_add (a b : List UInt8) (h : a.length + b.length ≤ 100000) (w : World) : (Op.stringOp .add (bs a) (bs b)).run Tryd.prog w = .ok (.string (bs (a ++ b))) w := by
  have := run_string_add_sum (P := Tryd.prog) w (bs a) (bs b) (by rw [bs_size, bs_size]; omega)
  rw [bs_append] at this
  exact this

set_option maxRecDepth 100000 in
set_option maxHeartbeats 1000000 in
theorem decimal_any (n : Nat) (hn : n < 9223372036854775808) (w : World) : Calls Tryd.prog 14 #[.int .i64 n] w fun e w' => ∃ D, e = .returned (.string (bs D)) ∧ Dec n D ∧ D.length ≤ 20 ∧ Only Nil w w' := by
  have HN := Lib.hid hn
  clear hn
  go_enter Tryd.func14, Tryd.ntmps14
  go_wp2
  go_loopw [0, 3, 4] (fun s0 s3 s4 wr => ∃ (m i : Nat) (D : List UInt8), s0 = .int .i64 (m : Int) ∧ s3 = .string (bs D) ∧ s4 = .int .i64 (i : Int) ∧ D.length = i ∧ i ≤ 19 ∧ (m : Int) ≤ 9223372036854775807 ∧ Hid (n = m * 10 ^ i + vl 0 D ∧ D.all isDi = true ∧ (1 ≤ m ∨ i = 0)) ∧ Only Nil w wr)
    (fun _ _ s4 _ => 20 - (intOf s4).toNat)
  case atStart => exact ⟨n, 0, [], rfl, rfl, rfl, rfl, by omega, by have := HN.out; omega, Lib.hid ⟨by simp [vl], rfl, Or.inr rfl⟩, Only.refl _ _⟩
  case round =>
    obtain ⟨m, i, D, rfl, rfl, rfl, hD, hi, hm, hH, o⟩ := hrel
    have HD := Lib.hid hD
    clear hD
    have hi' : (i : Int) < 20 := by omega
    have hcv := dg_conv m wr
    have hadd := fun w => str_add [dg m] D (by rw [HD.out]; simp; omega) w
    have oA : Only Nil w (wr.alloc (.cells #[.int .u8 (48 + (m : Int) % 10)] 5)) := o.alloc _
    have e1 : n = (m / 10) * 10 ^ (i + 1) + vl 0 (dg m :: D) := by
      rw [vl_c, vl_split, HD.out, dg_nat, hH.out.1, Nat.pow_succ]
      have h1 : m = m / 10 * 10 + m % 10 := by omega
      have h2 : 0 * 10 + (48 + m % 10 - 48) = m % 10 := by omega
      rw [h2, ← Nat.add_assoc, Nat.mul_comm (10 ^ i) 10, ← Nat.mul_assoc, ← Nat.add_mul, ← h1]
    have e2 : (dg m :: D).all isDi = true := by rw [List.all_cons, dg_di, hH.out.2.1]; rfl
    have hq : (m : Int) / 10 = ((m / 10 : Nat) : Int) := by omega
    have H1 := Lib.hid e1
    have H2 := Lib.hid e2
    have HO := Lib.hid oA
    clear e1 e2 oA
    by_cases hz : m / 10 = 0
    · have hz' : ((m : Int) / 10 == 0) = true := by rw [hq, hz]; rfl
      have HZ := Lib.hid hz
      clear hz hq
      go_wp2
      go_ret
      refine ⟨dg m :: D, rfl, ⟨H2.out, by simp, ?_⟩, by rw [List.length_cons, HD.out]; omega, HO.out⟩
      have := H1.out
      rw [HZ.out] at this
      omega
    · have hz' : ((m : Int) / 10 == 0) = false := by rw [hq, beq_eq_false_iff_ne]; omega
      have HZ := Lib.hid hz
      have HQ := Lib.hid hq
      clear hz hq
      go_wp2
      have hi18 : i + 1 ≤ 19 := by
        rcases Nat.lt_or_ge i 19 with h | h
        · omega
        · exfalso
          obtain rfl : i = 19 := by omega
          have h1 := H1.out
          have h2 := HN.out
          have h3 := HZ.out
          have h4 : 1 * 10 ^ (19 + 1) ≤ m / 10 * 10 ^ (19 + 1) := Nat.mul_le_mul_right _ (by omega)
          omega
      go_roundw
      case rel =>
        exact ⟨m / 10, i + 1, dg m :: D, by rw [← HQ.out], rfl, by go_num, by rw [List.length_cons, HD.out], hi18, by omega, Lib.hid ⟨H1.out, H2.out, Or.inl (by have := HZ.out; omega)⟩, HO.out⟩
      case measure => simp [intOf]; omega
end Go.Proofs.YthhnfliklegefaaDoor.Lx
