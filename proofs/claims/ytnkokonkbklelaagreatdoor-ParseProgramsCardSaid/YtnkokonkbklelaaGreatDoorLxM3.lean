/- lex: errors.As at a *lex.Fault as the target: the error is nil, a *lex.Fault, or an api.Errno. -/
import Derived.Test.YtnkokonkbklelaaGreatDoorLxM2
import Derived.LaidEql
import Derived.Stop.Asserts
import Derived.RowKitTokens
import Derived.Recover
import Derived.Defers
import Derived.Laws.Pointers
namespace Go.Proofs.YtnkokonkbklelaaGreatDoor.Lx
open Go.RowKit Go.Proofs.YtnkokonkbklelaaGreatDoor Go.Extern.Stop Go.Stop Go.Extern

theorem as_nil (t : Value) (w : World) : Calls Tryz.prog 31 #[.nilIface, t] w fun e w' => e = .returned (.bool false) ∧ w = w' := by
  go_enter Tryz.func31, Tryz.ntmps31
  go_wp2
  go_ret
  exact ⟨rfl, rfl⟩

theorem r_valueOf27 (t : Addr) (w : World) : (ReflectliteValue.unpack (.iface 92 (.pointer (some t)))).run Tryz.prog w = .ok (.agg #[.pointer (some ⟨9, 92, none⟩), .pointer (some ⟨w.heap.size, 0, none⟩), .int .u64 150]) (w.alloc (.cells #[.pointer (some t)] 92)) := by kernel_rfl
theorem r_type27 (a : Addr) (w : World) : (ReflectliteValue.methodAny (ReflectliteValue.valueError "reflectlite.Value.Type" 0) (fun t _ _ _ => ReflectliteType.toType t) #[.agg #[.pointer (some ⟨9, 92, none⟩), .pointer (some a), .int .u64 150]]).run Tryz.prog w = .ok (.iface 125 (.agg #[.pointer (some ⟨9, 92, none⟩)])) w := by kernel_rfl
theorem r_kind27 (w : World) : ((ReflectliteType.abiMethod fun t => (fun a : Nat => Value.int IntKind.u8 (a : Int)) <$> Rtype.kind t) #[.pointer (some ⟨9, 92, none⟩)]).run Tryz.prog w = .ok (.int .u8 22) w := by kernel_rfl
theorem r_kind25 (w : World) : ((ReflectliteType.abiMethod fun t => (fun a : Nat => Value.int IntKind.u8 (a : Int)) <$> Rtype.kind t) #[.pointer (some ⟨9, 54, none⟩)]).run Tryz.prog w = .ok (.int .u8 22) w := by kernel_rfl
theorem r_methodKind (h : Value) (w : World) : (Go.method 338 125 (.agg #[h]) "Kind").run Tryz.prog w = .ok (153, h) w := by kernel_rfl
theorem r_parts27 (a : Addr) (w : World) : (ReflectliteValue.parts (.agg #[.pointer (some ⟨9, 92, none⟩), .pointer (some a), .int .u64 150])).run Tryz.prog w = .ok (some (92, a, 150)) w := by kernel_rfl
theorem r_isNil27 (a p : Addr) (W : World) (ha : W.cell? a = some (.pointer (some p))) :
    (ReflectliteValue.method (ReflectliteValue.valueError "reflectlite.Value.IsNil" 0) ReflectliteValue.isNil #[.agg #[.pointer (some ⟨9, 92, none⟩), .pointer (some a), .int .u64 150]]).run Tryz.prog W = .ok (.bool false) W := by
  show Sem.run Tryz.prog (ReflectliteValue.parts (.agg #[.pointer (some ⟨9, 92, none⟩), .pointer (some a), .int .u64 150]) >>= _) W = _
  simp only [Sem.run_bind, r_parts27, Result.andThen]
  simp [ReflectliteValue.isNil, loadVar, isAgg, underlying, Tryz.underlying92, ha, Result.andThen]

theorem r_methodElem (h : Value) (w : World) : (Go.method 338 125 (.agg #[h]) "Elem").run Tryz.prog w = .ok (166, .agg #[h]) w := by kernel_rfl
theorem r_methodImplements (h : Value) (w : World) : (Go.method 338 125 (.agg #[h]) "Implements").run Tryz.prog w = .ok (167, .agg #[h]) w := by kernel_rfl
theorem r_methodAssignableTo (h : Value) (w : World) : (Go.method 338 125 (.agg #[h]) "AssignableTo").run Tryz.prog w = .ok (164, .agg #[h]) w := by kernel_rfl
theorem r_elem27 (w : World) : (ReflectliteType.method ReflectliteType.elem #[.agg #[.pointer (some ⟨9, 92, none⟩)]]).run Tryz.prog w = .ok (.iface 125 (.agg #[.pointer (some ⟨9, 54, none⟩)])) w := by kernel_rfl
theorem r_implements25 (w : World) : (ReflectliteType.relation "Implements" ReflectliteType.implements_ #[.agg #[.pointer (some ⟨9, 54, none⟩)], .iface 125 (.agg #[.pointer (some ⟨9, 27, none⟩)])]).run Tryz.prog w = .ok (.bool true) w := by kernel_rfl
theorem r_typeOf25 (v : Value) (w : World) : (ReflectliteType.typeOf #[.iface 54 v]).run Tryz.prog w = .ok (.iface 125 (.agg #[.pointer (some ⟨9, 54, none⟩)])) w := by kernel_rfl
theorem r_assignable25 (w : World) : (ReflectliteType.relation "AssignableTo" ReflectliteType.assignableTo #[.agg #[.pointer (some ⟨9, 54, none⟩)], .iface 125 (.agg #[.pointer (some ⟨9, 54, none⟩)])]).run Tryz.prog w = .ok (.bool true) w := by kernel_rfl
theorem r_valueOf25 (e : Addr) (w : World) : (ReflectliteValue.unpack (.iface 54 (.pointer (some e)))).run Tryz.prog w
    = .ok (.agg #[.pointer (some ⟨9, 54, none⟩), .pointer (some ⟨w.heap.size, 0, none⟩), .int .u64 150]) (w.alloc (.cells #[.pointer (some e)] 54)) := by kernel_rfl

theorem r_elemOf27 (w : World) : (Rtype.elem? 92).run Tryz.prog w = .ok (some 54) w := by kernel_rfl
theorem r_mk25 (p : Addr) (w : World) : (ReflectliteValue.mk 54 p ReflectliteValue.flagAddr).run Tryz.prog w = .ok (.agg #[.pointer (some ⟨9, 54, none⟩), .pointer (some p), .int .u64 406]) w := by kernel_rfl
theorem r_elemV27 (a p : Addr) (W : World) (ha : W.cell? a = some (.pointer (some p))) :
    (ReflectliteValue.method (ReflectliteValue.valueError "reflectlite.Value.Elem" 0) ReflectliteValue.elem #[.agg #[.pointer (some ⟨9, 92, none⟩), .pointer (some a), .int .u64 150]]).run Tryz.prog W
      = .ok (.agg #[.pointer (some ⟨9, 54, none⟩), .pointer (some p), .int .u64 406]) W := by
  show Sem.run Tryz.prog (ReflectliteValue.parts (.agg #[.pointer (some ⟨9, 92, none⟩), .pointer (some a), .int .u64 150]) >>= _) W = _
  simp only [Sem.run_bind, r_parts27, Result.andThen]
  simp [ReflectliteValue.elem, loadVar, isAgg, underlying, Tryz.underlying92, ha, Result.andThen, r_elemOf27, r_mk25]
theorem r_parts25a (a : Addr) (w : World) : (ReflectliteValue.parts (.agg #[.pointer (some ⟨9, 54, none⟩), .pointer (some a), .int .u64 406])).run Tryz.prog w = .ok (some (54, a, 406)) w := by kernel_rfl
theorem r_parts25 (a : Addr) (w : World) : (ReflectliteValue.parts (.agg #[.pointer (some ⟨9, 54, none⟩), .pointer (some a), .int .u64 150])).run Tryz.prog w = .ok (some (54, a, 150)) w := by kernel_rfl
theorem r_direct25 (w : World) : (Rtype.directlyAssignable 54 54).run Tryz.prog w = .ok true w := by kernel_rfl
theorem r_size25 (w : World) : (Go.sizeOf 54).run Tryz.prog w = .ok 1 w := by kernel_rfl
theorem r_set25 (ta b e : Addr) (old : Value) (W : World) (hb : W.cell? b = some (.pointer (some e))) (ht : W.cell? ta = some old) (hf : W.frozen? ta = false) :
    (ReflectliteValue.set #[.agg #[.pointer (some ⟨9, 54, none⟩), .pointer (some ta), .int .u64 406], .agg #[.pointer (some ⟨9, 54, none⟩), .pointer (some b), .int .u64 150]]).run Tryz.prog W
      = .ok (.tuple #[]) (W.setCell ta (.pointer (some e))) := by
  show Sem.run Tryz.prog (ReflectliteValue.parts (.agg #[.pointer (some ⟨9, 54, none⟩), .pointer (some ta), .int .u64 406]) >>= _) W = _
  have hp := r_parts25 b W
  change (ReflectliteValue.parts (#[(.agg #[.pointer (some ⟨9, 54, none⟩), .pointer (some ta), .int .u64 406] : Value), .agg #[.pointer (some ⟨9, 54, none⟩), .pointer (some b), .int .u64 150]].getLit 1 rfl (by show 1 < 2; decide))).run Tryz.prog W = _ at hp
  simp only [Sem.run_bind, r_parts25a, hp, Result.andThen]
  simp [ReflectliteValue.flagAddr, loadVar, isAgg, underlying, Tryz.underlying54, hb, Result.andThen, r_direct25, storeVar, Value.cells, storeCells, Addr.add]
  rw [run_store Tryz.prog W ta _ _ (by rfl)]
  simp [ht, hf]

set_option maxHeartbeats 4000000 in
theorem as_hit (e t : Addr) (old : Value) (w : World) (hg : w.cell? ⟨0, 0, none⟩ = some (.iface 125 (.agg #[.pointer (some ⟨9, 27, none⟩)]))) (ht0 : w.cell? t = some old) (hf0 : w.frozen? t = false) :
    Calls Tryz.prog 31 #[.iface 54 (.pointer (some e)), .iface 92 (.pointer (some t))] w fun ev w' => ev = .returned (.bool true) ∧ w' = ((((w.alloc (.cells #[.pointer (some t)] 92)).alloc (.cells #[.pointer (some ⟨9, 92, none⟩), .pointer (some ⟨w.heap.size, 0, none⟩), .int .u64 150] 114)).alloc (.cells #[.pointer (some ⟨9, 92, none⟩), .pointer (some ⟨w.heap.size, 0, none⟩), .int .u64 150] 114)).alloc (.cells #[.pointer (some e)] 54)).setCell t (.pointer (some e)) := by
  have h6 := @run_callFunc_extern Tryz.prog 51 _ (fun args => ReflectliteValue.unpack (args.getD 0 (.tuple #[]))) Tryz.func51 (by kernel_rfl) (by kernel_rfl) (by kernel_rfl) (by kernel_rfl)
  have h7 := @run_callFunc_extern Tryz.prog 52 _ (ReflectliteValue.methodAny (ReflectliteValue.valueError "reflectlite.Value.Type" 0) (fun t _ _ _ => ReflectliteType.toType t)) Tryz.func52 (by kernel_rfl) (by kernel_rfl) (by kernel_rfl) (by kernel_rfl)
  have h8 := @run_callFunc_extern Tryz.prog 53 _ (ReflectliteValue.method (ReflectliteValue.valueError "reflectlite.Value.IsNil" 0) ReflectliteValue.isNil) Tryz.func53 (by kernel_rfl) (by kernel_rfl) (by kernel_rfl) (by kernel_rfl)
  have h27 := @run_callFunc_extern Tryz.prog 153 _ (ReflectliteType.abiMethod fun t => do pure (.int .u8 (← Rtype.kind t))) Tryz.func153 (by kernel_rfl) (by kernel_rfl) (by kernel_rfl) (by kernel_rfl)
  have h37 := @run_callFunc_extern Tryz.prog 166 _ (ReflectliteType.method ReflectliteType.elem) Tryz.func166 (by kernel_rfl) (by kernel_rfl) (by kernel_rfl) (by kernel_rfl)
  have h38 := @run_callFunc_extern Tryz.prog 167 _ (ReflectliteType.relation "Implements" ReflectliteType.implements_) Tryz.func167 (by kernel_rfl) (by kernel_rfl) (by kernel_rfl) (by kernel_rfl)
  have h10 := @run_callFunc_extern Tryz.prog 33 _ ReflectliteType.typeOf Tryz.func33 (by kernel_rfl) (by kernel_rfl) (by kernel_rfl) (by kernel_rfl)
  have h35 := @run_callFunc_extern Tryz.prog 164 _ (ReflectliteType.relation "AssignableTo" ReflectliteType.assignableTo) Tryz.func164 (by kernel_rfl) (by kernel_rfl) (by kernel_rfl) (by kernel_rfl)
  have h11 := @run_callFunc_extern Tryz.prog 79 _ (ReflectliteValue.method (ReflectliteValue.valueError "reflectlite.Value.Elem" 0) ReflectliteValue.elem) Tryz.func79 (by kernel_rfl) (by kernel_rfl) (by kernel_rfl) (by kernel_rfl)
  have h12 := @run_callFunc_extern Tryz.prog 80 _ ReflectliteValue.set Tryz.func80 (by kernel_rfl) (by kernel_rfl) (by kernel_rfl) (by kernel_rfl)
  have tO := r_typeOf25
  have mA := r_methodAssignableTo
  have a25 := r_assignable25
  have v25 := r_valueOf25
  have f6 := r_valueOf27
  have f7 := r_type27
  have mK := r_methodKind
  have mE := r_methodElem
  have mI := r_methodImplements
  have k27 := r_kind27
  have k25 := r_kind25
  have e27 := r_elem27
  have i25 := r_implements25
  have n8 := r_isNil27 ⟨w.heap.size, 0, none⟩ t ((w.alloc (.cells #[.pointer (some t)] 92)).alloc (.cells #[.pointer (some ⟨9, 92, none⟩), .pointer (some ⟨w.heap.size, 0, none⟩), .int .u64 150] 114)) (by simp)
  have hlt : 0 < w.heap.size := by
    rcases Nat.eq_zero_or_pos w.heap.size with h0 | h
    · simp [World.cell?, h0] at hg
    · exact h
  have hg2 : ((w.alloc (.cells #[.pointer (some t)] 92)).alloc (.cells #[.pointer (some ⟨9, 92, none⟩), .pointer (some ⟨w.heap.size, 0, none⟩), .int .u64 150] 114)).cell? ⟨0, 0, none⟩ = some (.iface 125 (.agg #[.pointer (some ⟨9, 27, none⟩)])) := by
    rw [World.cell?_alloc_lt _ _ ⟨0, 0, none⟩ (by simp), World.cell?_alloc_lt _ _ ⟨0, 0, none⟩ hlt]; exact hg
  have htl : t.block < w.heap.size := by
    rcases Nat.lt_or_ge t.block w.heap.size with h | h
    · exact h
    · simp [World.cell?, Array.getElem?_eq_none h] at ht0
  have el := r_elemV27 ⟨w.heap.size, 0, none⟩ t (((w.alloc (.cells #[.pointer (some t)] 92)).alloc (.cells #[.pointer (some ⟨9, 92, none⟩), .pointer (some ⟨w.heap.size, 0, none⟩), .int .u64 150] 114)).alloc (.cells #[.pointer (some ⟨9, 92, none⟩), .pointer (some ⟨w.heap.size, 0, none⟩), .int .u64 150] 114)) (by rw [World.cell?_alloc_lt _ _ ⟨w.heap.size, 0, none⟩ (by simp; omega)]; simp)
  have st := r_set25 t ⟨w.heap.size + 1 + 1 + 1, 0, none⟩ e old ((((w.alloc (.cells #[.pointer (some t)] 92)).alloc (.cells #[.pointer (some ⟨9, 92, none⟩), .pointer (some ⟨w.heap.size, 0, none⟩), .int .u64 150] 114)).alloc (.cells #[.pointer (some ⟨9, 92, none⟩), .pointer (some ⟨w.heap.size, 0, none⟩), .int .u64 150] 114)).alloc (.cells #[.pointer (some e)] 54))
    (by rw [World.cell?_alloc_at _ _ _ _ (by simp)]; rfl)
    (by rw [World.cell?_alloc_lt _ _ t (by simp; omega), World.cell?_alloc_lt _ _ t (by simp; omega), World.cell?_alloc_lt _ _ t (by simp; omega), World.cell?_alloc_lt _ _ t htl]; exact ht0)
    (by rw [World.frozen?_alloc_old _ _ t (by simp; omega), World.frozen?_alloc_old _ _ t (by simp; omega), World.frozen?_alloc_old _ _ t (by simp; omega), World.frozen?_alloc_old _ _ t (Nat.ne_of_lt htl)]; exact hf0)
  go_enter Tryz.func31, Tryz.ntmps31
  go_wp2
  refine wp_loop_rounds 1 ?_
  rw [rounds_succ]
  go_wp2
  go_ret
  exact ⟨rfl, rfl⟩
end Go.Proofs.YtnkokonkbklelaaGreatDoor.Lx

/- lex: errors.As of an api.Errno; find, Code, At. -/
namespace Go.Proofs.YtnkokonkbklelaaGreatDoor.Lx
open Go.RowKit Go.Proofs.YtnkokonkbklelaaGreatDoor Go.Extern.Stop Go.Stop Go.Extern

theorem catch_idle (q p : Addr) (w : World) :
    CallsD Tryz.prog 30 #[.pointer (some q), .pointer (some p)] .returning w fun e u' w' => e = .returned (.tuple #[]) ∧ u' = .returning ∧ w' = w := by
  refine callsD_of_wpS Tryz.func30 rfl fun c₀ cs hu => ?_
  apply wpS_seq
  apply wpS_region
  simp [wpOpsS, go_sem, recoverD, hu, Tryz.ntmps30, Exit.thenS]
  refine wpS_cond (t := false) (by simp [Act.eval, Array.replicate]) ?_
  simp only [Bool.false_eq_true, if_false]
  refine wpS_of_wp (wp_skip ?_)
  cases c₀
  simp_all [bodyPostS, results, Tryz.results30]

theorem only_frozen {w w' : World} (o : Only Nil w w') {b k : Nat} {v : Bool} (hl : b < w.heap.size) (h : w.frozen? ⟨b, k, none⟩ = v) : w'.frozen? ⟨b, k, none⟩ = v := by
  have := o.block b hl (fun q => q.elim)
  simp only [World.frozen?] at h ⊢
  rw [this]; exact h
theorem as_fault (e : Addr) (B : Nat) (w : World) (hE : Env w) (hc : w.cell? ⟨B, 0, none⟩ = some (.pointer none)) (hf : w.frozen? ⟨B, 0, none⟩ = false) :
    Calls Tryz.prog 31 #[.iface 54 (.pointer (some e)), .iface 92 (.pointer (some ⟨B, 0, none⟩))] w fun ev w' =>
      ev = .returned (.bool true) ∧ w'.cell? ⟨B, 0, none⟩ = some (.pointer (some e)) ∧ w'.frozen? ⟨B, 0, none⟩ = false ∧ Only (fun q => q = B) w w' := by
  have hlt := cell_lt hc
  refine (as_hit e ⟨B, 0, none⟩ _ w hE.et hc hf).mono fun ev w' ⟨h1, h2⟩ => ⟨h1, ?_, ?_, ?_⟩
  · rw [h2]
    refine World.cell?_setCell_same _ _ _ (u := .pointer none) ?_
    exact only_cell (((((Only.refl Nil w).alloc _).alloc _).alloc _).alloc _) hc
  · rw [h2, World.frozen?_setCell]
    exact only_frozen (((((Only.refl Nil w).alloc _).alloc _).alloc _).alloc _) hlt hf
  · rw [h2]
    exact ((((Only.refl (fun q => q = B) w).alloc _).alloc _).alloc _).alloc _ |>.setCell rfl _

theorem r_typeOfE (v : Value) (w : World) : (ReflectliteType.typeOf #[.iface 32 v]).run Tryz.prog w = .ok (.iface 125 (.agg #[.pointer (some ⟨9, 32, none⟩)])) w := by kernel_rfl
theorem r_assignableE (w : World) : (ReflectliteType.relation "AssignableTo" ReflectliteType.assignableTo #[.agg #[.pointer (some ⟨9, 32, none⟩)], .iface 125 (.agg #[.pointer (some ⟨9, 54, none⟩)])]).run Tryz.prog w = .ok (.bool false) w := by kernel_rfl
theorem ta_as (v : Value) (xT : TypeId) (w : World) : (Instr.typeAssert (.iface 32 v) xT 157 true).run Tryz.prog w = .ok (.tuple #[.nilIface, .bool false]) w :=
  run_typeAssert_lacksB Tryz.underlying157 (by kernel_rfl) (by kernel_rfl) v xT w
theorem ta_unwrap (v : Value) (xT : TypeId) (w : World) : (Instr.typeAssert (.iface 32 v) xT 130 true).run Tryz.prog w = .ok (.tuple #[.nilIface, .bool false]) w :=
  run_typeAssert_lacksB Tryz.underlying130 (by kernel_rfl) (by kernel_rfl) v xT w
theorem ta_unwraps (v : Value) (xT : TypeId) (w : World) : (Instr.typeAssert (.iface 32 v) xT 132 true).run Tryz.prog w = .ok (.tuple #[.nilIface, .bool false]) w :=
  run_typeAssert_lacksB Tryz.underlying132 (by kernel_rfl) (by kernel_rfl) v xT w
set_option maxHeartbeats 4000000 in
theorem as_errno0 (z : Int) (t : Addr) (w : World) (hg : w.cell? ⟨0, 0, none⟩ = some (.iface 125 (.agg #[.pointer (some ⟨9, 27, none⟩)]))) :
    Calls Tryz.prog 31 #[.iface 32 (.int .i64 z), .iface 92 (.pointer (some t))] w fun ev w' => ev = .returned (.bool false) ∧ Only Nil w w' := by
  have h6 := @run_callFunc_extern Tryz.prog 51 _ (fun args => ReflectliteValue.unpack (args.getD 0 (.tuple #[]))) Tryz.func51 (by kernel_rfl) (by kernel_rfl) (by kernel_rfl) (by kernel_rfl)
  have h7 := @run_callFunc_extern Tryz.prog 52 _ (ReflectliteValue.methodAny (ReflectliteValue.valueError "reflectlite.Value.Type" 0) (fun t _ _ _ => ReflectliteType.toType t)) Tryz.func52 (by kernel_rfl) (by kernel_rfl) (by kernel_rfl) (by kernel_rfl)
  have h8 := @run_callFunc_extern Tryz.prog 53 _ (ReflectliteValue.method (ReflectliteValue.valueError "reflectlite.Value.IsNil" 0) ReflectliteValue.isNil) Tryz.func53 (by kernel_rfl) (by kernel_rfl) (by kernel_rfl) (by kernel_rfl)
  have h27 := @run_callFunc_extern Tryz.prog 153 _ (ReflectliteType.abiMethod fun t => do pure (.int .u8 (← Rtype.kind t))) Tryz.func153 (by kernel_rfl) (by kernel_rfl) (by kernel_rfl) (by kernel_rfl)
  have h37 := @run_callFunc_extern Tryz.prog 166 _ (ReflectliteType.method ReflectliteType.elem) Tryz.func166 (by kernel_rfl) (by kernel_rfl) (by kernel_rfl) (by kernel_rfl)
  have h38 := @run_callFunc_extern Tryz.prog 167 _ (ReflectliteType.relation "Implements" ReflectliteType.implements_) Tryz.func167 (by kernel_rfl) (by kernel_rfl) (by kernel_rfl) (by kernel_rfl)
  have h10 := @run_callFunc_extern Tryz.prog 33 _ ReflectliteType.typeOf Tryz.func33 (by kernel_rfl) (by kernel_rfl) (by kernel_rfl) (by kernel_rfl)
  have h35 := @run_callFunc_extern Tryz.prog 164 _ (ReflectliteType.relation "AssignableTo" ReflectliteType.assignableTo) Tryz.func164 (by kernel_rfl) (by kernel_rfl) (by kernel_rfl) (by kernel_rfl)
  have h11 := @run_callFunc_extern Tryz.prog 79 _ (ReflectliteValue.method (ReflectliteValue.valueError "reflectlite.Value.Elem" 0) ReflectliteValue.elem) Tryz.func79 (by kernel_rfl) (by kernel_rfl) (by kernel_rfl) (by kernel_rfl)
  have h12 := @run_callFunc_extern Tryz.prog 80 _ ReflectliteValue.set Tryz.func80 (by kernel_rfl) (by kernel_rfl) (by kernel_rfl) (by kernel_rfl)
  have tO := r_typeOfE
  have mA := r_methodAssignableTo
  have a25 := r_assignableE
  have f6 := r_valueOf27
  have f7 := r_type27
  have mK := r_methodKind
  have mE := r_methodElem
  have mI := r_methodImplements
  have k27 := r_kind27
  have k25 := r_kind25
  have e27 := r_elem27
  have i25 := r_implements25
  have n8 := r_isNil27 ⟨w.heap.size, 0, none⟩ t ((w.alloc (.cells #[.pointer (some t)] 92)).alloc (.cells #[.pointer (some ⟨9, 92, none⟩), .pointer (some ⟨w.heap.size, 0, none⟩), .int .u64 150] 114)) (by simp)
  have hlt : 0 < w.heap.size := by
    rcases Nat.eq_zero_or_pos w.heap.size with h0 | h
    · simp [World.cell?, h0] at hg
    · exact h
  have hg2 : ((w.alloc (.cells #[.pointer (some t)] 92)).alloc (.cells #[.pointer (some ⟨9, 92, none⟩), .pointer (some ⟨w.heap.size, 0, none⟩), .int .u64 150] 114)).cell? ⟨0, 0, none⟩ = some (.iface 125 (.agg #[.pointer (some ⟨9, 27, none⟩)])) := by
    rw [World.cell?_alloc_lt _ _ ⟨0, 0, none⟩ (by simp), World.cell?_alloc_lt _ _ ⟨0, 0, none⟩ hlt]; exact hg
  have t1 := ta_as
  have t2 := ta_unwrap
  have t3 := ta_unwraps
  go_enter Tryz.func31, Tryz.ntmps31
  go_wp2
  refine wp_loop_rounds 1 ?_
  rw [rounds_succ]
  go_wp2
  go_ret
  exact ⟨rfl, (((Only.refl Nil w).alloc _).alloc _).alloc _⟩
theorem as_errno (z : Int) (B : Nat) (w : World) (hE : Env w) :
    Calls Tryz.prog 31 #[.iface 32 (.int .i64 z), .iface 92 (.pointer (some ⟨B, 0, none⟩))] w fun ev w' =>
      ev = .returned (.bool false) ∧ Only Nil w w' := as_errno0 z _ w hE.et
end Go.Proofs.YtnkokonkbklelaaGreatDoor.Lx

/- lex: find, Code, At: of nil, of a fault, of an api.Errno. -/
namespace Go.Proofs.YtnkokonkbklelaaGreatDoor.Lx
open Go.RowKit Go.Proofs.YtnkokonkbklelaaGreatDoor Go.Extern.Stop Go.Stop Go.Extern

/-- First's own variables, each in a block of its own: what it found, and nothing. -/
structure Fv (w : World) (B : Nat) (w' : World) (p : Option Addr) : Prop where
  old : w.heap.size = B
  only : Only Nil w w'
  cell : w'.cell? ⟨B, 0, none⟩ = some (.pointer p)
  free : w'.frozen? ⟨B, 0, none⟩ = false
  non : w'.cell? ⟨B + 1, 0, none⟩ = some (.pointer none)
theorem fv_new (w : World) : Fv w w.heap.size ((w.alloc (.cells #[.pointer none] 54)).alloc (.cells #[.pointer none] 54)) none := by
  have h := heap_new w (.cells #[.pointer none] 54)
  have h2 := heap_new (w.alloc (.cells #[.pointer none] 54)) (.cells #[.pointer none] 54)
  have h1 : ((w.alloc (.cells #[.pointer none] 54)).alloc (.cells #[.pointer none] 54)).heap[w.heap.size]? = some (.cells #[.pointer none] 54) := by
    rw [← h]; exact Below.heap_alloc _ _ _ (lt_of_block h)
  have e : (w.alloc (.cells #[.pointer none] 54)).heap.size = w.heap.size + 1 := by simp
  rw [e] at h2
  exact ⟨rfl, ((Only.refl Nil w).alloc _).alloc _, by simp only [World.cell?, h1]; rfl, by simp only [World.frozen?, h1]; rfl, by simp only [World.cell?, h2]; rfl⟩
theorem Fv.keep {w w1 w2 : World} {B : Nat} {p : Option Addr} (h : Fv w B w1 p) (o : Only Nil w1 w2) : Fv w B w2 p :=
  ⟨h.old, h.only.trans o, only_cell o h.cell, only_frozen o (cell_lt h.cell) h.free, only_cell o h.non⟩
theorem Fv.turn {w w1 w2 : World} {B : Nat} {p p' : Option Addr} (h : Fv w B w1 p) (o : Only (fun q => q = B) w1 w2) (hc : w2.cell? ⟨B, 0, none⟩ = some (.pointer p')) (hf : w2.frozen? ⟨B, 0, none⟩ = false) : Fv w B w2 p' :=
  ⟨h.old, h.only.then o (fun q hq hlt => by have := h.old; omega), hc, hf, by
    have e := o.block (B + 1) (cell_lt h.non) (by simp)
    have := h.non
    simp only [World.cell?] at this ⊢
    rw [e]; exact this⟩
theorem Fv.set {w w1 : World} {B : Nat} {p : Option Addr} (h : Fv w B w1 p) (p' : Option Addr) : Fv w B (w1.setCell ⟨B, 0, none⟩ (.pointer p')) p' :=
  h.turn ((Only.refl (fun q => q = B) w1).setCell rfl _) (World.cell?_setCell_same _ _ _ h.cell) (by rw [World.frozen?_setCell]; exact h.free)

set_option maxHeartbeats 1000000 in
theorem find_nil (w : World) (hE : Env w) : Calls Tryz.prog 17 #[.nilIface] w fun e w' => e = .returned (.pointer none) ∧ Only Nil w w' := by
  have hmf : ∀ (fn : Fn) (first cap : Array Value) (w : World), (Instr.makeFunc fn first cap).run Tryz.prog w = .ok (.func fn first cap) w := fun _ _ _ _ => rfl
  have HB := Lib.hid (fv_new w)
  obtain ⟨wB, hwB⟩ : ∃ wB, wB = (w.alloc (.cells #[.pointer none] 54)).alloc (.cells #[.pointer none] 54) := ⟨_, rfl⟩
  rw [← hwB] at HB
  have HE := Lib.hid (hE.keep HB.out.only)
  clear hE
  generalize hO : w.heap.size = B at HB
  have HO := Lib.hid hO
  clear hO
  have c0 := HB.out.cell
  have f0 := HB.out.free
  have n0 := HB.out.non
  go_enter_defers Tryz.func17, Tryz.ntmps17
  go_upto_region 2 with (fail)
  (try simp only [World.size_alloc]); rw [HO.out, ← hwB]; clear hwB
  go_wp2_with (go_at_call 31; refine (as_nil _ _).mono ?_; rintro e w1 ⟨rfl, rfl⟩)
  refine leaves_cons (f := 30) (args := #[.pointer (some ⟨B + 1, 0, none⟩), .pointer (some ⟨B, 0, none⟩)]) (by simp) (by simp [go_sem]) ?_
  refine (catch_idle ⟨B + 1, 0, none⟩ ⟨B, 0, none⟩ _).mono ?_
  rintro e u' w'' ⟨rfl, rfl, rfl⟩
  have H2 := HB.out.set none
  have c2 := H2.cell
  have o2 := H2.only
  simp [Leaves, settle, results, Tryz.results17, go_sem, c2, o2]

set_option maxHeartbeats 1000000 in
theorem find_fault (p : Addr) (w : World) (hE : Env w) : Calls Tryz.prog 17 #[.iface 54 (.pointer (some p))] w fun e w' => e = .returned (.pointer (some p)) ∧ Only Nil w w' := by
  have hmf : ∀ (fn : Fn) (first cap : Array Value) (w : World), (Instr.makeFunc fn first cap).run Tryz.prog w = .ok (.func fn first cap) w := fun _ _ _ _ => rfl
  have HB := Lib.hid (fv_new w)
  obtain ⟨wB, hwB⟩ : ∃ wB, wB = (w.alloc (.cells #[.pointer none] 54)).alloc (.cells #[.pointer none] 54) := ⟨_, rfl⟩
  rw [← hwB] at HB
  have HE := Lib.hid (hE.keep HB.out.only)
  clear hE
  generalize hO : w.heap.size = B at HB
  have HO := Lib.hid hO
  clear hO
  have c0 := HB.out.cell
  have f0 := HB.out.free
  have n0 := HB.out.non
  go_enter_defers Tryz.func17, Tryz.ntmps17
  go_upto_region 2 with (fail)
  (try simp only [World.size_alloc]); rw [HO.out, ← hwB]; clear hwB
  go_wp2_with (go_at_call 31; refine (as_fault p B _ HE.out HB.out.cell HB.out.free).mono ?_; rintro e w1 ⟨rfl, c1, f1, o1⟩; have n1 := (HB.out.turn o1 c1 f1).non)
  refine leaves_cons (f := 30) (args := #[.pointer (some ⟨B + 1, 0, none⟩), .pointer (some ⟨B, 0, none⟩)]) (by simp) (by simp [go_sem]) ?_
  refine (catch_idle ⟨B + 1, 0, none⟩ ⟨B, 0, none⟩ _).mono ?_
  rintro e u' w'' ⟨rfl, rfl, rfl⟩
  have H2 := (HB.out.turn o1 c1 f1).set (some p)
  have c2 := H2.cell
  have o2 := H2.only
  simp [Leaves, settle, results, Tryz.results17, go_sem, c2, o2]

set_option maxHeartbeats 1000000 in
theorem find_errno (z : Int) (w : World) (hE : Env w) : Calls Tryz.prog 17 #[.iface 32 (.int .i64 z)] w fun e w' => e = .returned (.pointer none) ∧ Only Nil w w' := by
  have hmf : ∀ (fn : Fn) (first cap : Array Value) (w : World), (Instr.makeFunc fn first cap).run Tryz.prog w = .ok (.func fn first cap) w := fun _ _ _ _ => rfl
  have HB := Lib.hid (fv_new w)
  obtain ⟨wB, hwB⟩ : ∃ wB, wB = (w.alloc (.cells #[.pointer none] 54)).alloc (.cells #[.pointer none] 54) := ⟨_, rfl⟩
  rw [← hwB] at HB
  have HE := Lib.hid (hE.keep HB.out.only)
  clear hE
  generalize hO : w.heap.size = B at HB
  have HO := Lib.hid hO
  clear hO
  have c0 := HB.out.cell
  have f0 := HB.out.free
  have n0 := HB.out.non
  go_enter_defers Tryz.func17, Tryz.ntmps17
  go_upto_region 2 with (fail)
  (try simp only [World.size_alloc]); rw [HO.out, ← hwB]; clear hwB
  go_wp2_with (go_at_call 31; refine (as_errno z B _ HE.out).mono ?_; rintro e w1 ⟨rfl, o1⟩; have B1 := Lib.hid (HB.out.keep o1); have c1 := B1.out.cell; have f1 := B1.out.free; have n1 := B1.out.non)
  refine leaves_cons (f := 30) (args := #[.pointer (some ⟨B + 1, 0, none⟩), .pointer (some ⟨B, 0, none⟩)]) (by simp) (by simp [go_sem]) ?_
  refine (catch_idle ⟨B + 1, 0, none⟩ ⟨B, 0, none⟩ _).mono ?_
  rintro e u' w'' ⟨rfl, rfl, rfl⟩
  have H2 := B1.out.set none
  have c2 := H2.cell
  have o2 := H2.only
  simp [Leaves, settle, results, Tryz.results17, go_sem, c2, o2]

/-- A fault lies at b. -/
structure Ft (w : World) (b : Nat) (c q : Int) : Prop where
  code : w.cell? ⟨b, 0, none⟩ = some (.int .i64 c)
  place : w.cell? ⟨b, 1, none⟩ = some (.int .i64 q)
theorem Ft.keep {w w' : World} {b : Nat} {c q : Int} (h : Ft w b c q) (o : Only Nil w w') : Ft w' b c q := ⟨only_cell o h.code, only_cell o h.place⟩
theorem code_nil (w : World) : Calls Tryz.prog 7 #[.nilIface] w fun e w' => e = .returned (.int .i64 0) ∧ Only Nil w w' := by
  go_enter Tryz.func7, Tryz.ntmps7
  go_wp2
  go_ret
  exact ⟨rfl, Only.refl _ _⟩
theorem code_fault (b : Nat) (c q : Int) (w : World) (h : Ft w b c q) (hE : Env w) : Calls Tryz.prog 7 #[.iface 54 (.pointer (some ⟨b, 0, none⟩))] w fun e w' => e = .returned (.int .i64 c) ∧ Only Nil w w' := by
  have HF := Lib.hid h
  have HE := Lib.hid hE
  clear h hE
  go_enter Tryz.func7, Tryz.ntmps7
  go_wp2_with (go_at_call 17; refine (find_fault ⟨b, 0, none⟩ _ HE.out).mono ?_; rintro e w1 ⟨rfl, o1⟩; have c1 := (HF.out.keep o1).code)
  go_ret
  exact ⟨rfl, o1⟩
theorem code_errno (z : Int) (w : World) (hE : Env w) : Calls Tryz.prog 7 #[.iface 32 (.int .i64 z)] w fun e w' => e = .returned (.int .i64 1) ∧ Only Nil w w' := by
  have HE := Lib.hid hE
  clear hE
  go_enter Tryz.func7, Tryz.ntmps7
  go_wp2_with (go_at_call 17; refine (find_errno z _ HE.out).mono ?_; rintro e w1 ⟨rfl, o1⟩)
  go_ret
  exact ⟨rfl, o1⟩
theorem at_nil (w : World) (hE : Env w) : Calls Tryz.prog 8 #[.nilIface] w fun e w' => e = .returned (.int .i64 (-1)) ∧ Only Nil w w' := by
  have HE := Lib.hid hE
  clear hE
  go_enter Tryz.func8, Tryz.ntmps8
  go_wp2_with (go_at_call 17; refine (find_nil _ HE.out).mono ?_; rintro e w1 ⟨rfl, o1⟩)
  go_ret
  exact ⟨rfl, o1⟩
theorem at_fault (b : Nat) (c q : Int) (w : World) (h : Ft w b c q) (hE : Env w) : Calls Tryz.prog 8 #[.iface 54 (.pointer (some ⟨b, 0, none⟩))] w fun e w' => e = .returned (.int .i64 q) ∧ Only Nil w w' := by
  have HF := Lib.hid h
  have HE := Lib.hid hE
  clear h hE
  go_enter Tryz.func8, Tryz.ntmps8
  go_wp2_with (go_at_call 17; refine (find_fault ⟨b, 0, none⟩ _ HE.out).mono ?_; rintro e w1 ⟨rfl, o1⟩; have c1 := (HF.out.keep o1).place)
  go_ret
  exact ⟨rfl, o1⟩
theorem at_errno (z : Int) (w : World) (hE : Env w) : Calls Tryz.prog 8 #[.iface 32 (.int .i64 z)] w fun e w' => e = .returned (.int .i64 (-1)) ∧ Only Nil w w' := by
  have HE := Lib.hid hE
  clear hE
  go_enter Tryz.func8, Tryz.ntmps8
  go_wp2_with (go_at_call 17; refine (find_errno z _ HE.out).mono ?_; rintro e w1 ⟨rfl, o1⟩)
  go_ret
  exact ⟨rfl, o1⟩
end Go.Proofs.YtnkokonkbklelaaGreatDoor.Lx

/- lex: what is known of All's answer. -/
namespace Go.Proofs.YtnkokonkbklelaaGreatDoor.Lx
open Go.RowKit Go.Proofs.YtnkokonkbklelaaGreatDoor Go.Shelf

theorem all_any (l : List UInt8) (w : World) (hl : l.length ≤ 140737488355328) (E : Env w) : Calls Tryz.prog 11 #[.string (bs l)] w (AllPost w l) := by
  by_cases h : l.length ≤ 16384
  · exact all_short l w h E
  · exact all_long l w (by omega) hl
theorem all_ok (l : List UInt8) (w : World) (hl : l.length ≤ 140737488355328) (E : Env w) (h : (whole l).2.1 = 0) (X : List (Tok × Nat)) (hX : (whole l).1 = X) (n : Nat) (hn : X.length = n) :
    Calls Tryz.prog 11 #[.string (bs l)] w fun e w' => ∃ a c, e = .returned (.tuple #[.slice a n c, .nilIface]) ∧ Rs w w' (.slice a n c) X := by
  subst hX
  refine (all_any l w hl E).mono fun e w' hp => ?_
  cases hp with
  | ok a k c _ hk he hr => obtain rfl : k = n := by omega
                           exact ⟨a, c, he, hr⟩
  | bad b hz => exact absurd h hz
theorem all_err (l : List UInt8) (w : World) (hl : l.length ≤ 140737488355328) (E : Env w) (z q : Nat) (h : (whole l).2 = (z, q)) (h0 : z ≠ 0) :
    Calls Tryz.prog 11 #[.string (bs l)] w fun e w' => ∃ b, e = .returned (.tuple #[.slice none 0 0, .iface 54 (.pointer (some ⟨b, 0, none⟩))]) ∧ Ft w' b z q ∧ Only Nil w w' := by
  refine (all_any l w hl E).mono fun e w' hp => ?_
  cases hp with
  | ok a k c hz _ _ _ => rw [h] at hz; exact absurd hz h0
  | bad b hz he _ hb ho =>
    rw [h] at hb
    exact ⟨b, he, ⟨by simp only [World.cell?, hb]; rfl, by simp only [World.cell?, hb]; rfl⟩, ho⟩
end Go.Proofs.YtnkokonkbklelaaGreatDoor.Lx
