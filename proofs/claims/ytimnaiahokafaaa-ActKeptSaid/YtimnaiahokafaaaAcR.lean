/- act: walks at what came in. -/
import Derived.Test.YtimnaiahokafaaaAcJ
import Derived.Test.YtimnaiahokafaaaAcE
set_option linter.unusedVariables false
namespace Go.Proofs.Ytimnaiahokafaaa.Ac
open Go Go.RowKit Go.Proofs.Ytimnaiahokafaaa Lx Ps Ch

theorem sin_of {w : World} {k : Kd} {sa : Option Addr} {sc : Nat} (x : XS w.heap.size w (.slice sa k.states.length sc) k.states) (wk : wfK k) (zk : bzK k) : SIn w.heap.size w sa k.states.length sc k.states :=
  ⟨x, rfl, by have := zk.2.1; omega, wk.states, zk.2.2, Nat.le_refl _⟩
theorem ends_row (k : Kd) (v1 v2 : Value) (w : World) (x : XC w.heap.size w v1 k.cases ∧ XS w.heap.size w v2 k.states) (wk : wfK k) (zk : bzK k) (s t : ByteArray) (n : Int) (hn : inW n) :
    Calls Try.prog 8 #[.agg #[.string (bs k.name), .int .i64 k.limit, .int .i64 k.within, v1, v2], .string s, .string t, .int .i64 n] w fun e w' => e = .returned (.bool true) ∧ Below w.heap.size w w' := by
  obtain ⟨sa, sc, rfl⟩ := x.2.slice
  have h := ends_all k (v1 := v1) (sin_of x.2 wk zk) s.data.toList t.data.toList n hn
  rw [bs_of, bs_of] at h
  exact h
theorem words_row (r : ByteArray) (x y z : Int) {a : Option Addr} {c : Nat} (L : List Int) (w : World) (hr : RowK .i64 w a L) (hb : L.length * 8 ≤ 140737488351232) (e : Eff) (he : wfE e) (n : Int) (hn : inW n) :
    Calls Try.prog 5 #[.string r, .agg #[.int .i64 x, .int .i64 y, .int .i64 z], .slice a L.length c, .agg #[.int .i64 e.act, .string (bs e.ref), .string (bs e.slot), .string (bs e.name), .int .i64 e.val, .int .i64 e.n, .int .i64 e.delay], .int .i64 n] w fun e w' => e = .returned (.bool true) ∧ Below w.heap.size w w' := by
  have h := words_all r.data.toList x y z (c := c) hr rfl (by omega) e he n hn
  rw [bs_of] at h
  exact h
end Go.Proofs.Ytimnaiahokafaaa.Ac
