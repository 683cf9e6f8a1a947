/- check: a fault's number wrapped; errors.Is of a fault at its number. -/
import Derived.Test.YthanclicnkjmiaaGreatDoorChR
import Derived.LaidEql
set_option linter.unusedVariables false
namespace Go.Proofs.YthanclicnkjmiaaGreatDoor.Ch
open Go.RowKit Go.Proofs.YthanclicnkjmiaaGreatDoor Go.Extern.Stop Go.Stop Go.Extern

theorem bta_is (v : Value) (xT : TypeId) (w : World) : (Instr.typeAssert (.iface 46 v) xT 141 true).run Tryz.prog w = .ok (.tuple #[.nilIface, .bool false]) w :=
  run_typeAssert_lacksB Tryz.underlying141 (by kernel_rfl) (by kernel_rfl) v xT w
theorem bta_unw (v : Value) (xT : TypeId) (w : World) : (Instr.typeAssert (.iface 46 v) xT 144 true).run Tryz.prog w = .ok (.tuple #[.iface 46 v, .bool true]) w :=
  run_typeAssert_hasB Tryz.underlying144 (by kernel_rfl) v xT w
theorem bm_unw (a : Option Addr) (w : World) : (Go.method 410 46 (.pointer a) "Unwrap").run Tryz.prog w = .ok (22, .pointer a) w := by kernel_rfl
theorem bm_cmp (h : Value) (w : World) : (Go.method 410 139 (.agg #[h]) "Comparable").run Tryz.prog w = .ok (262, .agg #[h]) w := by kernel_rfl
theorem bunwrap_any (b : Nat) (z : Int) (w : World) (h : w.cell? ⟨b, 0, none⟩ = some (.int .i64 z)) : Calls Tryz.prog 22 #[.pointer (some ⟨b, 0, none⟩)] w fun e w' => e = .returned (.iface 32 (.int .i64 z)) ∧ w = w' := by
  go_enter Tryz.func22, Tryz.ntmps22
  go_wp2
  go_ret
  exact ⟨rfl, rfl⟩
theorem bc_cmp (w : World) : (callFunc 262 #[.agg #[.pointer (some ⟨9, 32, none⟩)]]).run Tryz.prog w = .ok (.value (.bool true)) w := by kernel_rfl
theorem bc_typeOf (v : Value) (w : World) : (callFunc 44 #[.iface 32 v]).run Tryz.prog w = .ok (.value (.iface 139 (.agg #[.pointer (some ⟨9, 32, none⟩)]))) w := by kernel_rfl
theorem beq_other (a : Addr) (z : Int) (w : World) : (binOp .eql 27 (.iface 46 (.pointer (some a))) (.iface 32 (.int .i64 z))).run Tryz.prog w = .ok (.bool false) w := by kernel_rfl
theorem beq_same (z : Int) (w : World) : (binOp .eql 27 (.iface 32 (.int .i64 z)) (.iface 32 (.int .i64 z))).run Tryz.prog w = .ok (.bool true) w := by
  have h : (binOp .eql 27 (.iface 32 (.int .i64 z)) (.iface 32 (.int .i64 z))).run Tryz.prog w = .ok (.bool (z == z)) w := by kernel_rfl
  rw [h]; simp
set_option maxRecDepth 100000 in
set_option maxHeartbeats 4000000 in
theorem is_bad (b : Nat) (z : Int) (w : World) (h : w.cell? ⟨b, 0, none⟩ = some (.int .i64 z)) : Calls Tryz.prog 23 #[.iface 46 (.pointer (some ⟨b, 0, none⟩)), .iface 32 (.int .i64 z)] w fun e w' => e = .returned (.bool true) ∧ w = w' := by
  have c1 := bc_cmp
  have c2 := bc_typeOf
  have c3 := beq_other
  have c4 := beq_same z
  have c5 := bta_is
  have c6 := bta_unw
  have c7 := bm_unw
  have c8 := bm_cmp
  have HU := Lib.hid (bunwrap_any b z)
  go_enter Tryz.func23, Tryz.ntmps23
  go_wp2
  refine wp_loop_rounds 2 ?_
  rw [rounds_succ]
  go_wp2
  rw [rounds_succ]
  go_wp2
  go_ret
  exact ⟨rfl, rfl⟩
end Go.Proofs.YthanclicnkjmiaaGreatDoor.Ch
