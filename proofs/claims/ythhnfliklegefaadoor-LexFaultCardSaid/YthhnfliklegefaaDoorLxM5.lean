/- lex, the document's: what a byte is; a slice, an index of a string. -/
import Derived.Test.YthhnfliklegefaaDoorLxM4
import Derived.Test.YthhnfliklegefaaDoorLxM2
import Derived.Test.YthhnfliklegefaaDoorLxM3
import Derived.LaidEql
namespace Go.Proofs.YthhnfliklegefaaDoor.Lx
open Go.RowKit Go.Proofs.YthhnfliklegefaaDoor

theorem sl_any (l ws : List UInt8) (q m : Nat) (hm : m ≤ l.length) (hq : q ≤ m) (h : (l.take m).drop q = ws) (w : World) :
    (Instr.slice 9 (.string (bs l)) (some (.int .i64 (q : Int))) (some (.int .i64 (m : Int))) none).run Tryd.prog w = .ok (.string (bs ws)) w := by
  have e : (bs l).extract q m = bs ws := by rw [bs_extract, h]
  rw [← e]
  simp [go_sem, Tryd.underlying9]
  rw [if_pos hm, if_pos hq]
theorem ix_any (l : List UInt8) (i : Nat) (h : i < l.length) (w : World) : (Instr.index 9 (.string (bs l)) (.int .i64 (i : Int))).run Tryd.prog w = .ok (.int .u8 ((l[i]'h).toNat : Int)) w := by
  have hs : i < (bs l).size := by rw [bs_size]; exact h
  have e : (bs l)[i]'hs = l[i]'h := bs_get l i hs
  rw [← e]
  simp [go_sem, Tryd.underlying9]
  rw [dif_pos h]

end Go.Proofs.YthhnfliklegefaaDoor.Lx

/- lex: Name. -/
namespace Go.Proofs.YthhnfliklegefaaDoor.Lx
open Go.RowKit Go.Proofs.YthhnfliklegefaaDoor

theorem bs_toList' (l : List UInt8) : (bs l).toList = l := by rw [ByteArray.toList_eq, bs_list]
end Go.Proofs.YthhnfliklegefaaDoor.Lx

/- lex: errors.Is of a fault at its number. -/
namespace Go.Proofs.YthhnfliklegefaaDoor.Lx
open Go.RowKit Go.Proofs.YthhnfliklegefaaDoor Go.Extern.Stop Go.Stop Go.Extern

theorem ta_is (v : Value) (xT : TypeId) (w : World) : (Instr.typeAssert (.iface 23 v) xT 57 true).run Tryd.prog w = .ok (.tuple #[.nilIface, .bool false]) w :=
  run_typeAssert_lacksB Tryd.underlying57 (by kernel_rfl) (by kernel_rfl) v xT w
theorem ta_unw (v : Value) (xT : TypeId) (w : World) : (Instr.typeAssert (.iface 23 v) xT 60 true).run Tryd.prog w = .ok (.tuple #[.iface 23 v, .bool true]) w :=
  run_typeAssert_hasB Tryd.underlying60 (by kernel_rfl) v xT w
theorem m_unw (a : Option Addr) (w : World) : (Go.method 268 23 (.pointer a) "Unwrap").run Tryd.prog w = .ok (12, .pointer a) w := by kernel_rfl
theorem m_cmp (h : Value) (w : World) : (Go.method 268 55 (.agg #[h]) "Comparable").run Tryd.prog w = .ok (107, .agg #[h]) w := by kernel_rfl
theorem unwrap_any (b : Nat) (z : Int) (w : World) (h : w.cell? ⟨b, 0, none⟩ = some (.int .i64 z)) : Calls Tryd.prog 12 #[.pointer (some ⟨b, 0, none⟩)] w fun e w' => e = .returned (.iface 24 (.int .i64 z)) ∧ w = w' := by
  go_enter Tryd.func12, Tryd.ntmps12
  go_wp2
  go_ret
  exact ⟨rfl, rfl⟩
theorem c_cmp (w : World) : (callFunc 107 #[.agg #[.pointer (some ⟨9, 24, none⟩)]]).run Tryd.prog w = .ok (.value (.bool true)) w := by kernel_rfl
theorem c_typeOf (v : Value) (w : World) : (callFunc 16 #[.iface 24 v]).run Tryd.prog w = .ok (.value (.iface 55 (.agg #[.pointer (some ⟨9, 24, none⟩)]))) w := by kernel_rfl
theorem eq_other (a : Addr) (z : Int) (w : World) : (binOp .eql 31 (.iface 23 (.pointer (some a))) (.iface 24 (.int .i64 z))).run Tryd.prog w = .ok (.bool false) w := by kernel_rfl
theorem eq_same (z : Int) (w : World) : (binOp .eql 31 (.iface 24 (.int .i64 z)) (.iface 24 (.int .i64 z))).run Tryd.prog w = .ok (.bool true) w := by
  have h : (binOp .eql 31 (.iface 24 (.int .i64 z)) (.iface 24 (.int .i64 z))).run Tryd.prog w = .ok (.bool (z == z)) w := by kernel_rfl
  rw [h]; simp
set_option maxRecDepth 100000 in
set_option maxHeartbeats 4000000 in
theorem is_fault (b : Nat) (z : Int) (w : World) (h : w.cell? ⟨b, 0, none⟩ = some (.int .i64 z)) : Calls Tryd.prog 11 #[.iface 23 (.pointer (some ⟨b, 0, none⟩)), .iface 24 (.int .i64 z)] w fun e w' => e = .returned (.bool true) ∧ w = w' := by
  have c1 := c_cmp
  have c2 := c_typeOf
  have c3 := eq_other
  have c4 := eq_same z
  have c5 := ta_is
  have c6 := ta_unw
  have c7 := m_unw
  have c8 := m_cmp
  go_enter Tryd.func11, Tryd.ntmps11
  go_wp2
  refine wp_loop_rounds 2 ?_
  rw [rounds_succ]
  go_wp2
  rw [rounds_succ]
  go_wp2
  go_ret
  exact ⟨rfl, rfl⟩
end Go.Proofs.YthhnfliklegefaaDoor.Lx
