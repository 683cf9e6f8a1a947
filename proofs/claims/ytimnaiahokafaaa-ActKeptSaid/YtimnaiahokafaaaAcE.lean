/- act: what came in, opened. -/
import Derived.Test.YtimnaiahokafaaaAcB
set_option linter.unusedVariables false
namespace Go.Proofs.Ytimnaiahokafaaa.Ac
open Go Go.ChangeShapes Go.WideShapes Go.ChangeAt Go.RowKit Go.Joins Go.Deep Go.Proofs.Ytimnaiahokafaaa Lx Ps Ch
section
variable {H : Type} {enc : TypeId × Value → H} {w : World} {held : Bool}
/-- A kind that came in. -/
theorem bopen_kind {m : Nat} {v : Value} {y : DataW H × List MemPlace} (hok : ∃ cs, v = .agg cs) (h : DataW.trod enc Try.prog w 0 (fun _ => true) held m 25 v.cells.toList = some y) (hz : Sz Try.prog 25 y.1) :
    ∃ z : Kd × Value × Value, v = .agg #[.string (bs z.1.name), .int .i64 z.1.limit, .int .i64 z.1.within, z.2.1, z.2.2] ∧ (XC w.heap.size w z.2.1 z.1.cases ∧ XS w.heap.size w z.2.2 z.1.states) ∧ wfK z.1 ∧ bzK z.1 := by
  obtain ⟨⟨cs⟩, rfl⟩ := hok
  have h' : DataW.trod enc Try.prog w 0 (fun _ => true) held m 25 cs = some y := h
  obtain ⟨z, rfl, h1, h2, h3⟩ := bopen_kd h' hz
  exact ⟨z, rfl, h1, h2, h3⟩
/-- An effect that came in. -/
theorem open_effv {m : Nat} {v : Value} {y : DataW H × List MemPlace} (hok : ∃ cs, v = .agg cs) (h : DataW.trod enc Try.prog w 0 (fun _ => true) held m 50 v.cells.toList = some y) (hz : Sz Try.prog 50 y.1) :
    ∃ e : Eff, v = .agg #[.int .i64 e.act, .string (bs e.ref), .string (bs e.slot), .string (bs e.name), .int .i64 e.val, .int .i64 e.n, .int .i64 e.delay] ∧ wfE e := by
  obtain ⟨⟨cs⟩, rfl⟩ := hok
  have h' : DataW.trod enc Try.prog w 0 (fun _ => true) held m 50 cs = some y := h
  obtain ⟨z, rfl, h1⟩ := open_eff h' hz
  exact ⟨z, rfl, h1⟩
/-- Three numbers that came in. -/
theorem open_arr3 {m : Nat} {v : Value} {y : DataW H × List MemPlace} (hok : ∃ cs, v = .agg cs) (h : DataW.trod enc Try.prog w 0 (fun _ => true) held m 52 v.cells.toList = some y) (hz : Sz Try.prog 52 y.1) :
    ∃ a b c : Int, v = .agg #[.int .i64 a, .int .i64 b, .int .i64 c] ∧ inW a ∧ inW b ∧ inW c := by
  obtain ⟨⟨cs⟩, rfl⟩ := hok
  have h' : DataW.trod enc Try.prog w 0 (fun _ => true) held m 52 cs = some y := h
  obtain ⟨xs, n, rfl, rfl, hl, hx, hi⟩ := DataW.trod_array Try.underlying52 h'
  have hC : Try.prog.cellsOf 52 = 3 := by kernel_rfl
  have hc : Try.prog.cellsOf 3 = 1 := by kernel_rfl
  rw [hC] at hl
  rw [hc] at hi
  match cs, hl, xs, hx with
  | [v0, v1, v2], _, [x0, x1, x2], _ =>
    have g0 : DataW.trod enc Try.prog w 0 (fun _ => true) held n 3 [v0] = some x0 := hi 0 (by decide)
    have g1 : DataW.trod enc Try.prog w 0 (fun _ => true) held n 3 [v1] = some x1 := hi 1 (by decide)
    have g2 : DataW.trod enc Try.prog w 0 (fun _ => true) held n 3 [v2] = some x2 := hi 2 (by decide)
    obtain ⟨a0, rfl, i0⟩ := op_int g0
    obtain ⟨a1, rfl, i1⟩ := op_int g1
    obtain ⟨a2, rfl, i2⟩ := op_int g2
    exact ⟨a0, a1, a2, rfl, i0, i1, i2⟩
end
end Go.Proofs.Ytimnaiahokafaaa.Ac
