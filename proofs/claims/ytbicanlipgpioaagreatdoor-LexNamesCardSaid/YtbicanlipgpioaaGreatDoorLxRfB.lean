/- lex, the document's: what a byte is; a slice, an index of a string. -/
import Derived.Test.YtbicanlipgpioaaGreatDoorLxRfA
import Derived.Test.YtbicanlipgpioaaGreatDoorLxH
namespace Go.Proofs.YtbicanlipgpioaaGreatDoor.Lx
open Go.RowKit Go.Proofs.YtbicanlipgpioaaGreatDoor

theorem sl_any (l ws : List UInt8) (q m : Nat) (hm : m ≤ l.length) (hq : q ≤ m) (h : (l.take m).drop q = ws) (w : World) :
    (Instr.slice 9 (.string (bs l)) (some (.int .i64 (q : Int))) (some (.int .i64 (m : Int))) none).run Tryz.prog w = .ok (.string (bs ws)) w := by
  have e : (bs l).extract q m = bs ws := by rw [bs_extract, h]
  rw [← e]
  simp [go_sem, Tryz.underlying9]
  rw [if_pos hm, if_pos hq]
theorem ix_any (l : List UInt8) (i : Nat) (h : i < l.length) (w : World) : (Instr.index 9 (.string (bs l)) (.int .i64 (i : Int))).run Tryz.prog w = .ok (.int .u8 ((l[i]'h).toNat : Int)) w := by
  have hs : i < (bs l).size := by rw [bs_size]; exact h
  have e : (bs l)[i]'hs = l[i]'h := bs_get l i hs
  rw [← e]
  simp [go_sem, Tryz.underlying9]
  rw [dif_pos h]

set_option maxRecDepth 100000 in
theorem isz_any (z : Int) (k : Int) (w : World) (h0 : 0 ≤ z) (h1 : z < 256)
    (h : (z = 9 ∨ z = 10 ∨ z = 13 ∨ z = 32) ∧ k = 1 ∨ (97 ≤ z ∧ z ≤ 122) ∧ k = 2 ∨ (48 ≤ z ∧ z ≤ 57) ∧ k = 3 ∨ z = 95 ∧ k = 4 ∨ (z = 123 ∨ z = 125 ∨ z = 59) ∧ k = 5 ∨ z = 35 ∧ k = 6 ∨
      ((z < 48 ∧ ¬ z = 9 ∧ ¬ z = 10 ∧ ¬ z = 13 ∧ ¬ z = 32 ∧ ¬ z = 35) ∨ (57 < z ∧ z < 97 ∧ ¬ z = 59 ∧ ¬ z = 95) ∨ (122 < z ∧ ¬ z = 123 ∧ ¬ z = 125)) ∧ k = 0) :
    Calls Tryz.prog 15 #[.int .u8 z] w fun e w' => e = .returned (.int .i64 k) ∧ w = w' := by
  rcases h with ⟨rfl | rfl | rfl | rfl, rfl⟩ | ⟨⟨a, b⟩, rfl⟩ | ⟨⟨a, b⟩, rfl⟩ | ⟨rfl, rfl⟩ | ⟨rfl | rfl | rfl, rfl⟩ | ⟨rfl, rfl⟩ | ⟨⟨a, n1, n2, n3, n4, n5⟩ | ⟨a, b, n1, n2⟩ | ⟨a, n1, n2⟩, rfl⟩
  · go_enter Tryz.func15, Tryz.ntmps15
    go_wp2
    go_ret
    exact ⟨rfl, rfl⟩
  · go_enter Tryz.func15, Tryz.ntmps15
    go_wp2
    go_ret
    exact ⟨rfl, rfl⟩
  · go_enter Tryz.func15, Tryz.ntmps15
    go_wp2
    go_ret
    exact ⟨rfl, rfl⟩
  · go_enter Tryz.func15, Tryz.ntmps15
    go_wp2
    go_ret
    exact ⟨rfl, rfl⟩
  · have e9 : (z == 9) = false := by rw [beq_eq_false_iff_ne]; omega
    have e10 : (z == 10) = false := by rw [beq_eq_false_iff_ne]; omega
    have e13 : (z == 13) = false := by rw [beq_eq_false_iff_ne]; omega
    have e32 : (z == 32) = false := by rw [beq_eq_false_iff_ne]; omega
    have e95 : (z == 95) = false := by rw [beq_eq_false_iff_ne]; omega
    have e123 : (z == 123) = false := by rw [beq_eq_false_iff_ne]; omega
    have e125 : (z == 125) = false := by rw [beq_eq_false_iff_ne]; omega
    have e59 : (z == 59) = false := by rw [beq_eq_false_iff_ne]; omega
    have e35 : (z == 35) = false := by rw [beq_eq_false_iff_ne]; omega
    have g1 : decide (97 ≤ z) = true := by simp; omega
    have g2 : decide (z ≤ 122) = true := by simp; omega
    clear a b h0 h1
    go_enter Tryz.func15, Tryz.ntmps15
    go_wp2
    go_ret
    exact ⟨rfl, rfl⟩
  · have e9 : (z == 9) = false := by rw [beq_eq_false_iff_ne]; omega
    have e10 : (z == 10) = false := by rw [beq_eq_false_iff_ne]; omega
    have e13 : (z == 13) = false := by rw [beq_eq_false_iff_ne]; omega
    have e32 : (z == 32) = false := by rw [beq_eq_false_iff_ne]; omega
    have e95 : (z == 95) = false := by rw [beq_eq_false_iff_ne]; omega
    have e123 : (z == 123) = false := by rw [beq_eq_false_iff_ne]; omega
    have e125 : (z == 125) = false := by rw [beq_eq_false_iff_ne]; omega
    have e59 : (z == 59) = false := by rw [beq_eq_false_iff_ne]; omega
    have e35 : (z == 35) = false := by rw [beq_eq_false_iff_ne]; omega
    have g1 : decide (97 ≤ z) = false := by simp; omega
    have g3 : decide (48 ≤ z) = true := by simp; omega
    have g4 : decide (z ≤ 57) = true := by simp; omega
    clear a b h0 h1
    go_enter Tryz.func15, Tryz.ntmps15
    go_wp2
    go_ret
    exact ⟨rfl, rfl⟩
  · go_enter Tryz.func15, Tryz.ntmps15
    go_wp2
    go_ret
    exact ⟨rfl, rfl⟩
  · go_enter Tryz.func15, Tryz.ntmps15
    go_wp2
    go_ret
    exact ⟨rfl, rfl⟩
  · go_enter Tryz.func15, Tryz.ntmps15
    go_wp2
    go_ret
    exact ⟨rfl, rfl⟩
  · go_enter Tryz.func15, Tryz.ntmps15
    go_wp2
    go_ret
    exact ⟨rfl, rfl⟩
  · go_enter Tryz.func15, Tryz.ntmps15
    go_wp2
    go_ret
    exact ⟨rfl, rfl⟩
  · have e9 : (z == 9) = false := by rw [beq_eq_false_iff_ne]; omega
    have e10 : (z == 10) = false := by rw [beq_eq_false_iff_ne]; omega
    have e13 : (z == 13) = false := by rw [beq_eq_false_iff_ne]; omega
    have e32 : (z == 32) = false := by rw [beq_eq_false_iff_ne]; omega
    have e95 : (z == 95) = false := by rw [beq_eq_false_iff_ne]; omega
    have e123 : (z == 123) = false := by rw [beq_eq_false_iff_ne]; omega
    have e125 : (z == 125) = false := by rw [beq_eq_false_iff_ne]; omega
    have e59 : (z == 59) = false := by rw [beq_eq_false_iff_ne]; omega
    have e35 : (z == 35) = false := by rw [beq_eq_false_iff_ne]; omega
    have g1 : decide (97 ≤ z) = false := by simp; omega
    have g3 : decide (48 ≤ z) = false := by simp; omega
    clear a n1 n2 n3 n4 n5 h0 h1
    go_enter Tryz.func15, Tryz.ntmps15
    go_wp2
    go_ret
    exact ⟨rfl, rfl⟩
  · have e9 : (z == 9) = false := by rw [beq_eq_false_iff_ne]; omega
    have e10 : (z == 10) = false := by rw [beq_eq_false_iff_ne]; omega
    have e13 : (z == 13) = false := by rw [beq_eq_false_iff_ne]; omega
    have e32 : (z == 32) = false := by rw [beq_eq_false_iff_ne]; omega
    have e95 : (z == 95) = false := by rw [beq_eq_false_iff_ne]; omega
    have e123 : (z == 123) = false := by rw [beq_eq_false_iff_ne]; omega
    have e125 : (z == 125) = false := by rw [beq_eq_false_iff_ne]; omega
    have e59 : (z == 59) = false := by rw [beq_eq_false_iff_ne]; omega
    have e35 : (z == 35) = false := by rw [beq_eq_false_iff_ne]; omega
    have g1 : decide (97 ≤ z) = false := by simp; omega
    have g3 : decide (48 ≤ z) = true := by simp; omega
    have g4 : decide (z ≤ 57) = false := by simp; omega
    clear a b n1 n2 h0 h1
    go_enter Tryz.func15, Tryz.ntmps15
    go_wp2
    go_ret
    exact ⟨rfl, rfl⟩
  · have e9 : (z == 9) = false := by rw [beq_eq_false_iff_ne]; omega
    have e10 : (z == 10) = false := by rw [beq_eq_false_iff_ne]; omega
    have e13 : (z == 13) = false := by rw [beq_eq_false_iff_ne]; omega
    have e32 : (z == 32) = false := by rw [beq_eq_false_iff_ne]; omega
    have e95 : (z == 95) = false := by rw [beq_eq_false_iff_ne]; omega
    have e123 : (z == 123) = false := by rw [beq_eq_false_iff_ne]; omega
    have e125 : (z == 125) = false := by rw [beq_eq_false_iff_ne]; omega
    have e59 : (z == 59) = false := by rw [beq_eq_false_iff_ne]; omega
    have e35 : (z == 35) = false := by rw [beq_eq_false_iff_ne]; omega
    have g1 : decide (97 ≤ z) = true := by simp; omega
    have g2 : decide (z ≤ 122) = false := by simp; omega
    have g3 : decide (48 ≤ z) = true := by simp; omega
    have g4 : decide (z ≤ 57) = false := by simp; omega
    clear a n1 n2 h0 h1
    go_enter Tryz.func15, Tryz.ntmps15
    go_wp2
    go_ret
    exact ⟨rfl, rfl⟩
theorem is_any (c : UInt8) (w : World) : Calls Tryz.prog 15 #[.int .u8 (c.toNat : Int)] w fun e w' => e = .returned (.int .i64 (kN c.toNat : Nat)) ∧ w = w' := by
  have h := c.toNat_lt
  refine isz_any _ _ w (by omega) (by omega) ?_
  unfold kN
  (repeat' split) <;> omega
theorem is_k (c : UInt8) (k : Nat) (h : kN c.toNat = k) (w : World) : Calls Tryz.prog 15 #[.int .u8 (c.toNat : Int)] w fun e w' => e = .returned (.int .i64 (k : Int)) ∧ w = w' := by
  subst h; exact is_any c w
end Go.Proofs.YtbicanlipgpioaaGreatDoor.Lx
