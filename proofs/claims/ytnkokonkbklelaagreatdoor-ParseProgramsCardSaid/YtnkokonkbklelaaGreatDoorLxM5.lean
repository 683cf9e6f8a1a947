/- lex, the document's: what a byte is; a slice, an index of a string. -/
import Derived.Test.YtnkokonkbklelaaGreatDoorLxM4
import Derived.Test.YtnkokonkbklelaaGreatDoorLxM2
import Derived.Test.YtnkokonkbklelaaGreatDoorLxM3
import Derived.LaidEql
namespace Go.Proofs.YtnkokonkbklelaaGreatDoor.Lx
open Go.RowKit Go.Proofs.YtnkokonkbklelaaGreatDoor

theorem sl_any (l ws : List UInt8) (q m : Nat) (hm : m ≤ l.length) (hq : q ≤ m) (h : (l.take m).drop q = ws) (w : World) :
    (Instr.slice 9 (.string (bs l)) (some (.int .i64 (q : Int))) (some (.int .i64 (m : Int))) none).run Tryz.prog w = .ok (.string (bs ws)) w := by
  have e : (bs l).extract q m = bs ws := by rw [bs_extract, h]
  rw [← e]
  simp [go_sem, Tryz.underlying9]
  rw [if_pos hm, if_pos hq]
theorem ix_any (l : List UInt8) (i : Nat) (h : i < l.length) (w : World) : (Instr.index 9 (.string (bs l)) (.int .i64 (i : Int))).run Tryz.prog w = .ok (.int .u8 ((l[i]'h).toNat : Int)) w := by
  have hs : i < (bs l).size := by rw [bs_size]; exact h
  have e : (bs l)[i]'hs = l[i]'h := bs_get l i hs
  rw [← e]
  simp [go_sem, Tryz.underlying9]
  rw [dif_pos h]

set_option maxRecDepth 100000 in
theorem isz_any (z : Int) (k : Int) (w : World) (h0 : 0 ≤ z) (h1 : z < 256)
    (h : (z = 9 ∨ z = 10 ∨ z = 13 ∨ z = 32) ∧ k = 1 ∨ (97 ≤ z ∧ z ≤ 122) ∧ k = 2 ∨ (48 ≤ z ∧ z ≤ 57) ∧ k = 3 ∨ z = 95 ∧ k = 4 ∨ (z = 123 ∨ z = 125 ∨ z = 59) ∧ k = 5 ∨ z = 35 ∧ k = 6 ∨
      ((z < 48 ∧ ¬ z = 9 ∧ ¬ z = 10 ∧ ¬ z = 13 ∧ ¬ z = 32 ∧ ¬ z = 35) ∨ (57 < z ∧ z < 97 ∧ ¬ z = 59 ∧ ¬ z = 95) ∨ (122 < z ∧ ¬ z = 123 ∧ ¬ z = 125)) ∧ k = 0) :
    Calls Tryz.prog 25 #[.int .u8 z] w fun e w' => e = .returned (.int .i64 k) ∧ w = w' := by
  rcases h with ⟨rfl | rfl | rfl | rfl, rfl⟩ | ⟨⟨a, b⟩, rfl⟩ | ⟨⟨a, b⟩, rfl⟩ | ⟨rfl, rfl⟩ | ⟨rfl | rfl | rfl, rfl⟩ | ⟨rfl, rfl⟩ | ⟨⟨a, n1, n2, n3, n4, n5⟩ | ⟨a, b, n1, n2⟩ | ⟨a, n1, n2⟩, rfl⟩
  · go_enter Tryz.func25, Tryz.ntmps25
    go_wp2
    go_ret
    exact ⟨rfl, rfl⟩
  · go_enter Tryz.func25, Tryz.ntmps25
    go_wp2
    go_ret
    exact ⟨rfl, rfl⟩
  · go_enter Tryz.func25, Tryz.ntmps25
    go_wp2
    go_ret
    exact ⟨rfl, rfl⟩
  · go_enter Tryz.func25, Tryz.ntmps25
    go_wp2
    go_ret
    exact ⟨rfl, rfl⟩
  · have e9 : (z == 9) = false := by rw [beq_eq_false_iff_ne]; omega
    have e10 : (z == 10) = false := by rw [beq_eq_false_iff_ne]; omega
    have e13 : (z == 13) = false := by rw [beq_eq_false_iff_ne]; omega
    have e32 : (z == 32) = false := by rw [beq_eq_false_iff_ne]; omega
    have e95 : (z == 95) = false := by rw [beq_eq_false_iff_ne]; omega
    have e123 : (z == 123) = false := by rw [beq_eq_false_iff_ne]; omega
    have e125 : (z == 125) = false := by rw [beq_eq_false_iff_ne]; omega
    have e59 : (z == 59) = false := by rw [beq_eq_false_iff_ne]; omega
    have e35 : (z == 35) = false := by rw [beq_eq_false_iff_ne]; omega
    have g1 : decide (97 ≤ z) = true := by simp; omega
    have g2 : decide (z ≤ 122) = true := by simp; omega
    clear a b h0 h1
    go_enter Tryz.func25, Tryz.ntmps25
    go_wp2
    go_ret
    exact ⟨rfl, rfl⟩
  · have e9 : (z == 9) = false := by rw [beq_eq_false_iff_ne]; omega
    have e10 : (z == 10) = false := by rw [beq_eq_false_iff_ne]; omega
    have e13 : (z == 13) = false := by rw [beq_eq_false_iff_ne]; omega
    have e32 : (z == 32) = false := by rw [beq_eq_false_iff_ne]; omega
    have e95 : (z == 95) = false := by rw [beq_eq_false_iff_ne]; omega
    have e123 : (z == 123) = false := by rw [beq_eq_false_iff_ne]; omega
    have e125 : (z == 125) = false := by rw [beq_eq_false_iff_ne]; omega
    have e59 : (z == 59) = false := by rw [beq_eq_false_iff_ne]; omega
    have e35 : (z == 35) = false := by rw [beq_eq_false_iff_ne]; omega
    have g1 : decide (97 ≤ z) = false := by simp; omega
    have g3 : decide (48 ≤ z) = true := by simp; omega
    have g4 : decide (z ≤ 57) = true := by simp; omega
    clear a b h0 h1
    go_enter Tryz.func25, Tryz.ntmps25
    go_wp2
    go_ret
    exact ⟨rfl, rfl⟩
  · go_enter Tryz.func25, Tryz.ntmps25
    go_wp2
    go_ret
    exact ⟨rfl, rfl⟩
  · go_enter Tryz.func25, Tryz.ntmps25
    go_wp2
    go_ret
    exact ⟨rfl, rfl⟩
  · go_enter Tryz.func25, Tryz.ntmps25
    go_wp2
    go_ret
    exact ⟨rfl, rfl⟩
  · go_enter Tryz.func25, Tryz.ntmps25
    go_wp2
    go_ret
    exact ⟨rfl, rfl⟩
  · go_enter Tryz.func25, Tryz.ntmps25
    go_wp2
    go_ret
    exact ⟨rfl, rfl⟩
  · have e9 : (z == 9) = false := by rw [beq_eq_false_iff_ne]; omega
    have e10 : (z == 10) = false := by rw [beq_eq_false_iff_ne]; omega
    have e13 : (z == 13) = false := by rw [beq_eq_false_iff_ne]; omega
    have e32 : (z == 32) = false := by rw [beq_eq_false_iff_ne]; omega
    have e95 : (z == 95) = false := by rw [beq_eq_false_iff_ne]; omega
    have e123 : (z == 123) = false := by rw [beq_eq_false_iff_ne]; omega
    have e125 : (z == 125) = false := by rw [beq_eq_false_iff_ne]; omega
    have e59 : (z == 59) = false := by rw [beq_eq_false_iff_ne]; omega
    have e35 : (z == 35) = false := by rw [beq_eq_false_iff_ne]; omega
    have g1 : decide (97 ≤ z) = false := by simp; omega
    have g3 : decide (48 ≤ z) = false := by simp; omega
    clear a n1 n2 n3 n4 n5 h0 h1
    go_enter Tryz.func25, Tryz.ntmps25
    go_wp2
    go_ret
    exact ⟨rfl, rfl⟩
  · have e9 : (z == 9) = false := by rw [beq_eq_false_iff_ne]; omega
    have e10 : (z == 10) = false := by rw [beq_eq_false_iff_ne]; omega
    have e13 : (z == 13) = false := by rw [beq_eq_false_iff_ne]; omega
    have e32 : (z == 32) = false := by rw [beq_eq_false_iff_ne]; omega
    have e95 : (z == 95) = false := by rw [beq_eq_false_iff_ne]; omega
    have e123 : (z == 123) = false := by rw [beq_eq_false_iff_ne]; omega
    have e125 : (z == 125) = false := by rw [beq_eq_false_iff_ne]; omega
    have e59 : (z == 59) = false := by rw [beq_eq_false_iff_ne]; omega
    have e35 : (z == 35) = false := by rw [beq_eq_false_iff_ne]; omega
    have g1 : decide (97 ≤ z) = false := by simp; omega
    have g3 : decide (48 ≤ z) = true := by simp; omega
    have g4 : decide (z ≤ 57) = false := by simp; omega
    clear a b n1 n2 h0 h1
    go_enter Tryz.func25, Tryz.ntmps25
    go_wp2
    go_ret
    exact ⟨rfl, rfl⟩
  · have e9 : (z == 9) = false := by rw [beq_eq_false_iff_ne]; omega
    have e10 : (z == 10) = false := by rw [beq_eq_false_iff_ne]; omega
    have e13 : (z == 13) = false := by rw [beq_eq_false_iff_ne]; omega
    have e32 : (z == 32) = false := by rw [beq_eq_false_iff_ne]; omega
    have e95 : (z == 95) = false := by rw [beq_eq_false_iff_ne]; omega
    have e123 : (z == 123) = false := by rw [beq_eq_false_iff_ne]; omega
    have e125 : (z == 125) = false := by rw [beq_eq_false_iff_ne]; omega
    have e59 : (z == 59) = false := by rw [beq_eq_false_iff_ne]; omega
    have e35 : (z == 35) = false := by rw [beq_eq_false_iff_ne]; omega
    have g1 : decide (97 ≤ z) = true := by simp; omega
    have g2 : decide (z ≤ 122) = false := by simp; omega
    have g3 : decide (48 ≤ z) = true := by simp; omega
    have g4 : decide (z ≤ 57) = false := by simp; omega
    clear a n1 n2 h0 h1
    go_enter Tryz.func25, Tryz.ntmps25
    go_wp2
    go_ret
    exact ⟨rfl, rfl⟩
theorem is_any (c : UInt8) (w : World) : Calls Tryz.prog 25 #[.int .u8 (c.toNat : Int)] w fun e w' => e = .returned (.int .i64 (kN c.toNat : Nat)) ∧ w = w' := by
  have h := c.toNat_lt
  refine isz_any _ _ w (by omega) (by omega) ?_
  unfold kN
  (repeat' split) <;> omega
theorem is_k (c : UInt8) (k : Nat) (h : kN c.toNat = k) (w : World) : Calls Tryz.prog 25 #[.int .u8 (c.toNat : Int)] w fun e w' => e = .returned (.int .i64 (k : Int)) ∧ w = w' := by
  subst h; exact is_any c w
end Go.Proofs.YtnkokonkbklelaaGreatDoor.Lx

/- lex: Name. -/
namespace Go.Proofs.YtnkokonkbklelaaGreatDoor.Lx
open Go.RowKit Go.Proofs.YtnkokonkbklelaaGreatDoor

theorem bs_toList' (l : List UInt8) : (bs l).toList = l := by rw [ByteArray.toList_eq, bs_list]
set_option maxHeartbeats 1000000 in
theorem name_far (l : List UInt8) (w : World) (h : 16 < l.length) (hne : (!(bs l).toList.isEmpty) = true) : Calls Tryz.prog 83 #[.string (bs l)] w fun e w' => e = .returned (.bool false) ∧ Only Nil w w' := by
  have hz : (bs l).size = l.length := bs_size l
  go_enter Tryz.func83, Tryz.ntmps83
  go_wp2
  go_ret
  exact ⟨rfl, Only.refl _ _⟩
set_option maxRecDepth 100000 in
set_option maxHeartbeats 2000000 in
theorem name_any (l : List UInt8) (w : World) (hl : l.length ≤ 140737488355328) : Calls Tryz.prog 83 #[.string (bs l)] w fun e w' => e = .returned (.bool (isNm l)) ∧ Only Nil w w' := by
  have hz : (bs l).size = l.length := bs_size l
  cases l with
  | nil =>
    have hne : (!(bs []).toList.isEmpty) = false := by rw [bs_toList']; rfl
    go_enter Tryz.func83, Tryz.ntmps83
    go_wp2
    go_ret
    exact ⟨rfl, Only.refl _ _⟩
  | cons c r =>
    have hne : (!(bs (c :: r)).toList.isEmpty) = true := by rw [bs_toList']; rfl
    have hl' : (r.length : Int) + 1 ≤ 140737488355328 := by simp at hl; omega
    rw [nm_c]
    by_cases h16 : r.length + 1 ≤ 16
    · have h16' : (r.length : Int) + 1 ≤ 16 := by omega
      have hpos : 0 < (bs (c :: r)).size := by rw [bs_size]; simp
      cases h1 : isLe c with
      | true =>
        have H1 := Lib.hid h1
        by_cases ha : (c :: r).all isWd = true
        · have htw := Lib.hid (all_take ha)
          rw [ha, show decide (r.length + 1 ≤ 16) = true by simpa using h16]
          clear h1 ha h16 hl
          go_enter Tryz.func83, Tryz.ntmps83
          go_wp2_with fail
          simp only [first_byte]
          go_wp2_with (first
            | (go_at_call 38; refine (isLetter_c c _).mono ?_; rintro e w1 ⟨rfl, rfl⟩; rw [H1.out])
            | (go_at_call 40; refine (word_any (c :: r) _).mono ?_; rintro e w2 ⟨rfl, o2⟩; rw [htw.out]))
          go_ret
          exact ⟨rfl, o2⟩
        · have hlt := len_take ha
          have hle := (List.takeWhile_prefix (l := c :: r) isWd).length_le
          have hz2 : (bs ((c :: r).takeWhile isWd)).size = ((c :: r).takeWhile isWd).length := bs_size _
          rw [show (c :: r).all isWd = false from not_of ha, Bool.and_false]
          have WA : Hid (∀ w, Calls Tryz.prog 40 #[.string (bs (c :: r))] w fun e w' => e = .returned (.string (bs ((c :: r).takeWhile isWd))) ∧ Only Nil w w') := Lib.hid fun w => word_any (c :: r) w
          generalize (c :: r).takeWhile isWd = ws at *
          generalize hws : ws.length = m at *
          have hq : ((m : Int) == (r.length : Int) + 1) = false := by
            rw [beq_eq_false_iff_ne]; simp at hlt; omega
          have WS := Lib.hid hws
          clear h1 ha h16 hl hlt hle hws
          go_enter Tryz.func83, Tryz.ntmps83
          go_wp2_with fail
          simp only [first_byte]
          go_wp2_with (first
            | (go_at_call 38; refine (isLetter_c c _).mono ?_; rintro e w1 ⟨rfl, rfl⟩; rw [H1.out])
            | (go_at_call 40; refine (WA.out _).mono ?_; rintro e w2 ⟨rfl, o2⟩))
          go_ret
          exact ⟨rfl, o2⟩
      | false =>
        have H1 := Lib.hid h1
        clear h1 h16 hl
        go_enter Tryz.func83, Tryz.ntmps83
        go_wp2_with fail
        simp only [first_byte]
        go_wp2_with (go_at_call 38; refine (isLetter_c c _).mono ?_; rintro e w1 ⟨rfl, rfl⟩; rw [H1.out])
        go_ret
        exact ⟨rfl, Only.refl _ _⟩
    · rw [show decide (r.length + 1 ≤ 16) = false by simpa using h16, Bool.and_false, Bool.false_and]
      exact name_far (c :: r) w (by simp; omega) hne
end Go.Proofs.YtnkokonkbklelaaGreatDoor.Lx

/- lex: errors.Is of a fault at its number. -/
namespace Go.Proofs.YtnkokonkbklelaaGreatDoor.Lx
open Go.RowKit Go.Proofs.YtnkokonkbklelaaGreatDoor Go.Extern.Stop Go.Stop Go.Extern

theorem ta_is (v : Value) (xT : TypeId) (w : World) : (Instr.typeAssert (.iface 54 v) xT 127 true).run Tryz.prog w = .ok (.tuple #[.nilIface, .bool false]) w :=
  run_typeAssert_lacksB Tryz.underlying127 (by kernel_rfl) (by kernel_rfl) v xT w
theorem ta_unw (v : Value) (xT : TypeId) (w : World) : (Instr.typeAssert (.iface 54 v) xT 130 true).run Tryz.prog w = .ok (.tuple #[.iface 54 v, .bool true]) w :=
  run_typeAssert_hasB Tryz.underlying130 (by kernel_rfl) v xT w
theorem m_unw (a : Option Addr) (w : World) : (Go.method 338 54 (.pointer a) "Unwrap").run Tryz.prog w = .ok (158, .pointer a) w := by kernel_rfl
theorem m_cmp (h : Value) (w : World) : (Go.method 338 125 (.agg #[h]) "Comparable").run Tryz.prog w = .ok (165, .agg #[h]) w := by kernel_rfl
theorem unwrap_any (b : Nat) (z : Int) (w : World) (h : w.cell? ⟨b, 0, none⟩ = some (.int .i64 z)) : Calls Tryz.prog 158 #[.pointer (some ⟨b, 0, none⟩)] w fun e w' => e = .returned (.iface 32 (.int .i64 z)) ∧ w = w' := by
  go_enter Tryz.func158, Tryz.ntmps158
  go_wp2
  go_ret
  exact ⟨rfl, rfl⟩
theorem c_cmp (w : World) : (callFunc 165 #[.agg #[.pointer (some ⟨9, 32, none⟩)]]).run Tryz.prog w = .ok (.value (.bool true)) w := by kernel_rfl
theorem c_typeOf (v : Value) (w : World) : (callFunc 33 #[.iface 32 v]).run Tryz.prog w = .ok (.value (.iface 125 (.agg #[.pointer (some ⟨9, 32, none⟩)]))) w := by kernel_rfl
theorem eq_other (a : Addr) (z : Int) (w : World) : (binOp .eql 27 (.iface 54 (.pointer (some a))) (.iface 32 (.int .i64 z))).run Tryz.prog w = .ok (.bool false) w := by kernel_rfl
theorem eq_same (z : Int) (w : World) : (binOp .eql 27 (.iface 32 (.int .i64 z)) (.iface 32 (.int .i64 z))).run Tryz.prog w = .ok (.bool true) w := by
  have h : (binOp .eql 27 (.iface 32 (.int .i64 z)) (.iface 32 (.int .i64 z))).run Tryz.prog w = .ok (.bool (z == z)) w := by kernel_rfl
  rw [h]; simp
set_option maxRecDepth 100000 in
set_option maxHeartbeats 4000000 in
theorem is_fault (b : Nat) (z : Int) (w : World) (h : w.cell? ⟨b, 0, none⟩ = some (.int .i64 z)) : Calls Tryz.prog 21 #[.iface 54 (.pointer (some ⟨b, 0, none⟩)), .iface 32 (.int .i64 z)] w fun e w' => e = .returned (.bool true) ∧ w = w' := by
  have c1 := c_cmp
  have c2 := c_typeOf
  have c3 := eq_other
  have c4 := eq_same z
  have c5 := ta_is
  have c6 := ta_unw
  have c7 := m_unw
  have c8 := m_cmp
  go_enter Tryz.func21, Tryz.ntmps21
  go_wp2
  refine wp_loop_rounds 2 ?_
  rw [rounds_succ]
  go_wp2
  rw [rounds_succ]
  go_wp2
  go_ret
  exact ⟨rfl, rfl⟩
end Go.Proofs.YtnkokonkbklelaaGreatDoor.Lx
