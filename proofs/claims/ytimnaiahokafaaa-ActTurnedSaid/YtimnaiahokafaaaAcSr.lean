/- act: ActTurned at what came in. -/
import Derived.Test.YtimnaiahokafaaaAcS
set_option linter.unusedVariables false
namespace Go.Proofs.Ytimnaiahokafaaa.Ac
open Go Go.RowKit Go.Proofs.Ytimnaiahokafaaa Lx Ps Ch

theorem turned_row (k : Kd) (v1 v2 : Value) (w : World) (x : XC w.heap.size w v1 k.cases ∧ XS w.heap.size w v2 k.states) (wk : wfK k) (zk : bzK k) (st rw : Int) (is : inW st) (ir : inW rw) (t : ByteArray) (n : Int) (hn : inW n) :
    Calls Try.prog 7 #[.agg #[.string (bs k.name), .int .i64 k.limit, .int .i64 k.within, v1, v2], .int .i64 st, .int .i64 rw, .string t, .int .i64 n] w fun e w' => e = .returned (.bool true) ∧ Below w.heap.size w w' := by
  obtain ⟨sa, sc, rfl⟩ := x.2.slice
  have h := turned_all k (v1 := v1) (sin_of x.2 wk zk) (by have := zk.2.1; omega) st rw is ir t.data.toList n hn
  rw [bs_of] at h
  exact h
end Go.Proofs.Ytimnaiahokafaaa.Ac
