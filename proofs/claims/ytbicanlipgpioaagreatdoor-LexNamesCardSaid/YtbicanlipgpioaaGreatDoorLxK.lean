/- lex: errors.As of an api.Errno; find, Code, At. -/
import Derived.Test.YtbicanlipgpioaaGreatDoorLxJ
import Derived.Recover
import Derived.Defers
import Derived.Laws.Pointers
namespace Go.Proofs.YtbicanlipgpioaaGreatDoor.Lx
open Go.RowKit Go.Proofs.YtbicanlipgpioaaGreatDoor Go.Extern.Stop Go.Stop Go.Extern

theorem catch_idle (p : Addr) (w : World) :
    CallsD Tryz.prog 26 #[.pointer (some p)] .returning w fun e u' w' => e = .returned (.tuple #[]) ∧ u' = .returning ∧ w' = w := by
  refine callsD_of_wpS Tryz.func26 rfl fun c₀ cs hu => ?_
  apply wpS_seq
  apply wpS_region
  simp [wpOpsS, go_sem, recoverD, hu, Tryz.ntmps26, Exit.thenS]
  refine wpS_cond (t := false) (by simp [Act.eval, Array.replicate]) ?_
  simp only [Bool.false_eq_true, if_false]
  refine wpS_of_wp (wp_skip ?_)
  cases c₀
  simp_all [bodyPostS, results, Tryz.results26]

theorem only_frozen {w w' : World} (o : Only Nil w w') {b k : Nat} {v : Bool} (hl : b < w.heap.size) (h : w.frozen? ⟨b, k, none⟩ = v) : w'.frozen? ⟨b, k, none⟩ = v := by
  have := o.block b hl (fun q => q.elim)
  simp only [World.frozen?] at h ⊢
  rw [this]; exact h
theorem as_fault (e : Addr) (B : Nat) (w : World) (hE : Env w) (hc : w.cell? ⟨B, 0, none⟩ = some (.pointer none)) (hf : w.frozen? ⟨B, 0, none⟩ = false) :
    Calls Tryz.prog 27 #[.iface 37 (.pointer (some e)), .iface 52 (.pointer (some ⟨B, 0, none⟩))] w fun ev w' =>
      ev = .returned (.bool true) ∧ w'.cell? ⟨B, 0, none⟩ = some (.pointer (some e)) ∧ w'.frozen? ⟨B, 0, none⟩ = false ∧ Only (fun q => q = B) w w' := by
  have hlt := cell_lt hc
  refine (as_hit e ⟨B, 0, none⟩ _ w hE.et hc hf).mono fun ev w' ⟨h1, h2⟩ => ⟨h1, ?_, ?_, ?_⟩
  · rw [h2]
    refine World.cell?_setCell_same _ _ _ (u := .pointer none) ?_
    exact only_cell (((((Only.refl Nil w).alloc _).alloc _).alloc _).alloc _) hc
  · rw [h2, World.frozen?_setCell]
    exact only_frozen (((((Only.refl Nil w).alloc _).alloc _).alloc _).alloc _) hlt hf
  · rw [h2]
    exact ((((Only.refl (fun q => q = B) w).alloc _).alloc _).alloc _).alloc _ |>.setCell rfl _

theorem r_typeOfE (v : Value) (w : World) : (ReflectliteType.typeOf #[.iface 30 v]).run Tryz.prog w = .ok (.iface 84 (.agg #[.pointer (some ⟨9, 30, none⟩)])) w := by kernel_rfl
theorem r_assignableE (w : World) : (ReflectliteType.relation "AssignableTo" ReflectliteType.assignableTo #[.agg #[.pointer (some ⟨9, 30, none⟩)], .iface 84 (.agg #[.pointer (some ⟨9, 37, none⟩)])]).run Tryz.prog w = .ok (.bool false) w := by kernel_rfl
theorem ta_as (v : Value) (xT : TypeId) (w : World) : (Instr.typeAssert (.iface 30 v) xT 89 true).run Tryz.prog w = .ok (.tuple #[.nilIface, .bool false]) w :=
  run_typeAssert_lacksB Tryz.underlying89 (by kernel_rfl) (by kernel_rfl) v xT w
theorem ta_unwrap (v : Value) (xT : TypeId) (w : World) : (Instr.typeAssert (.iface 30 v) xT 92 true).run Tryz.prog w = .ok (.tuple #[.nilIface, .bool false]) w :=
  run_typeAssert_lacksB Tryz.underlying92 (by kernel_rfl) (by kernel_rfl) v xT w
theorem ta_unwraps (v : Value) (xT : TypeId) (w : World) : (Instr.typeAssert (.iface 30 v) xT 94 true).run Tryz.prog w = .ok (.tuple #[.nilIface, .bool false]) w :=
  run_typeAssert_lacksB Tryz.underlying94 (by kernel_rfl) (by kernel_rfl) v xT w
set_option maxHeartbeats 4000000 in
theorem as_errno0 (z : Int) (t : Addr) (w : World) (hg : w.cell? ⟨0, 0, none⟩ = some (.iface 84 (.agg #[.pointer (some ⟨9, 25, none⟩)]))) :
    Calls Tryz.prog 27 #[.iface 30 (.int .i64 z), .iface 52 (.pointer (some t))] w fun ev w' => ev = .returned (.bool false) ∧ Only Nil w w' := by
  have h6 := @run_callFunc_extern Tryz.prog 38 _ (fun args => ReflectliteValue.unpack (args.getD 0 (.tuple #[]))) Tryz.func38 (by kernel_rfl) (by kernel_rfl) (by kernel_rfl) (by kernel_rfl)
  have h7 := @run_callFunc_extern Tryz.prog 39 _ (ReflectliteValue.methodAny (ReflectliteValue.valueError "reflectlite.Value.Type" 0) (fun t _ _ _ => ReflectliteType.toType t)) Tryz.func39 (by kernel_rfl) (by kernel_rfl) (by kernel_rfl) (by kernel_rfl)
  have h8 := @run_callFunc_extern Tryz.prog 40 _ (ReflectliteValue.method (ReflectliteValue.valueError "reflectlite.Value.IsNil" 0) ReflectliteValue.isNil) Tryz.func40 (by kernel_rfl) (by kernel_rfl) (by kernel_rfl) (by kernel_rfl)
  have h27 := @run_callFunc_extern Tryz.prog 98 _ (ReflectliteType.abiMethod fun t => do pure (.int .u8 (← Rtype.kind t))) Tryz.func98 (by kernel_rfl) (by kernel_rfl) (by kernel_rfl) (by kernel_rfl)
  have h37 := @run_callFunc_extern Tryz.prog 110 _ (ReflectliteType.method ReflectliteType.elem) Tryz.func110 (by kernel_rfl) (by kernel_rfl) (by kernel_rfl) (by kernel_rfl)
  have h38 := @run_callFunc_extern Tryz.prog 111 _ (ReflectliteType.relation "Implements" ReflectliteType.implements_) Tryz.func111 (by kernel_rfl) (by kernel_rfl) (by kernel_rfl) (by kernel_rfl)
  have h10 := @run_callFunc_extern Tryz.prog 50 _ ReflectliteType.typeOf Tryz.func50 (by kernel_rfl) (by kernel_rfl) (by kernel_rfl) (by kernel_rfl)
  have h35 := @run_callFunc_extern Tryz.prog 108 _ (ReflectliteType.relation "AssignableTo" ReflectliteType.assignableTo) Tryz.func108 (by kernel_rfl) (by kernel_rfl) (by kernel_rfl) (by kernel_rfl)
  have h11 := @run_callFunc_extern Tryz.prog 51 _ (ReflectliteValue.method (ReflectliteValue.valueError "reflectlite.Value.Elem" 0) ReflectliteValue.elem) Tryz.func51 (by kernel_rfl) (by kernel_rfl) (by kernel_rfl) (by kernel_rfl)
  have h12 := @run_callFunc_extern Tryz.prog 52 _ ReflectliteValue.set Tryz.func52 (by kernel_rfl) (by kernel_rfl) (by kernel_rfl) (by kernel_rfl)
  have tO := r_typeOfE
  have mA := r_methodAssignableTo
  have a25 := r_assignableE
  have f6 := r_valueOf27
  have f7 := r_type27
  have mK := r_methodKind
  have mE := r_methodElem
  have mI := r_methodImplements
  have k27 := r_kind27
  have k25 := r_kind25
  have e27 := r_elem27
  have i25 := r_implements25
  have n8 := r_isNil27 ⟨w.heap.size, 0, none⟩ t ((w.alloc (.cells #[.pointer (some t)] 52)).alloc (.cells #[.pointer (some ⟨9, 52, none⟩), .pointer (some ⟨w.heap.size, 0, none⟩), .int .u64 150] 67)) (by simp)
  have hlt : 0 < w.heap.size := by
    rcases Nat.eq_zero_or_pos w.heap.size with h0 | h
    · simp [World.cell?, h0] at hg
    · exact h
  have hg2 : ((w.alloc (.cells #[.pointer (some t)] 52)).alloc (.cells #[.pointer (some ⟨9, 52, none⟩), .pointer (some ⟨w.heap.size, 0, none⟩), .int .u64 150] 67)).cell? ⟨0, 0, none⟩ = some (.iface 84 (.agg #[.pointer (some ⟨9, 25, none⟩)])) := by
    rw [World.cell?_alloc_lt _ _ ⟨0, 0, none⟩ (by simp), World.cell?_alloc_lt _ _ ⟨0, 0, none⟩ hlt]; exact hg
  have t1 := ta_as
  have t2 := ta_unwrap
  have t3 := ta_unwraps
  go_enter Tryz.func27, Tryz.ntmps27
  go_wp2
  refine wp_loop_rounds 1 ?_
  rw [rounds_succ]
  go_wp2
  go_ret
  exact ⟨rfl, (((Only.refl Nil w).alloc _).alloc _).alloc _⟩
theorem as_errno (z : Int) (B : Nat) (w : World) (hE : Env w) :
    Calls Tryz.prog 27 #[.iface 30 (.int .i64 z), .iface 52 (.pointer (some ⟨B, 0, none⟩))] w fun ev w' =>
      ev = .returned (.bool false) ∧ Only Nil w w' := as_errno0 z _ w hE.et
end Go.Proofs.YtbicanlipgpioaaGreatDoor.Lx
