/- Rows of a call's own: one cell an element. -/
import Derived.Test.YtpnpbgcndlfobaaRingXm
import Derived.Test.YtpnpbgcndlfobaaRingY
import Derived.Test.YtpnpbgcndlfobaaRowC
namespace Go.Proofs.Ytpnpbgcndlfobaa
open Go.RowKit

section
variable {w0 w w' : World} {ob rg hb rb b c n : Nat} {L L' : List Int} {t : Int} {s s' : OS}
/-- What is new may turn beside. -/
theorem Lw.keep {S : Nat → Prop} (h : Lw w0 w rg hb rb b c L t) (o : Only S w w') (h1 : ¬ S rg) (h2 : ¬ S hb) (h3 : ¬ S rb) (hS : ∀ k, S k → w0.heap.size ≤ k) : Lw w0 w' rg hb rb b c L t :=
  { h with rng := h.rng.keep o h1 h2 h3, only := h.only.next o (fun i hi hlt => by have := hS i hi; omega) }
theorem Op1.keep {S : Nat → Prop} (h : Op1 w0 w ob rg hb rb s) (o : Only S w w') (h1 : ¬ S ob) : Op1 w0 w' ob rg hb rb s := { h with op := h.op.keep o h1 }
/-- A block of a type of its own is none of the ring's and none of an operation's. -/
theorem Lw.ne (h : Lw w0 w rg hb rb b c L t) {g : Nat} {y : Array Value} {u : TypeId} {m : Nat × Nat} (hg : w.heap[g]? = some (.cells y u m)) (h1 : 85 ≠ u) (h2 : 79 ≠ u) (h3 : 37 ≠ u) : rg ≠ g ∧ hb ≠ g ∧ rb ≠ g :=
  ⟨blk_ne h.rng.ring.head hg h1, blk_ne h.rng.mem.head hg h2, blk_ne h.rng.mem.row hg h3⟩
theorem Op1.ne (h : Op1 w0 w ob rg hb rb s) {g : Nat} {y : Array Value} {u : TypeId} {m : Nat × Nat} (hg : w.heap[g]? = some (.cells y u m)) (h1 : 89 ≠ u) : ob ≠ g := by
  obtain ⟨_, _, _, hc, _⟩ := h.op
  exact blk_ne hc.head hg h1
end

theorem Try.infoOpP : (Try.prog.info? 40).map (fun i => (i.zero, i.size, i.bytes)) = some (some (.pointer none), 1, 8) := by kernel_rfl
end Go.Proofs.Ytpnpbgcndlfobaa
