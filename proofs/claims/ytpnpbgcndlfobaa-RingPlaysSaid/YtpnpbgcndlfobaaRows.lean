/-
  No cell of these rows narrows 'for every input' (looked for: loops, veiled, ifaces, maps, wideKeys, modest, calm, conditions, laid).
  DERIVED. THE GIVEN ROWS OF THIS SEAT. 7 by the template 'for every input the law returns true; each argument reads behind the call as it read before'; 0 by the template 'total and deterministic' (their statements: YtpnpbgcndlfobaaTotals.lean).
  GIVEN WITH THE SEED: the statements are not yours to turn. If you find one false, say at which input.
  Laid BY PROGRAM, IN A SANDBOX (cutbox-rows.mjs): the forced cells as the released guide's own fill.sh prints them over the translation 8bc4e6f2e8b1df3c… (all of the seat's roots in one cut). By AI agents, Wed Nov 11 2026. No macro, syntax, notation, axiom, sorry.
-/
import Derived.Test.YtpnpbgcndlfobaaChecked
import GoSem.Claim
import GoSem.ClaimJoined
import GoSem.ClaimMapViews
import Derived.JoinedTies
import Derived.KernelRfl
namespace Go.Proofs.Ytpnpbgcndlfobaa
/- THE CELL 'sum', in the pinned program and in every row, IS THE sha256 OF THE DUMP (.gsa) THAT YtpnpbgcndlfobaaProg.lean LOADS. Nothing in Lean hashes anything: it is a label: what it is worth is what the hold of that sum in a sandbox is worth. -/
noncomputable def Try.pinned : Pinned := { name := "ytpnpbgcndlfobaa", sum := "8bc4e6f2e8b1df3c44d9b8462fb5b84897a5c27f9c8eaaa7f1b0e02f14d2b9c2", checked := Try.checked }
namespace Rows
def none {H : Type} : Left H := { results := [], args := [] }

/-- 'troupelaw03.RingPlays': WHATEVER THE INPUT: true; the input reads as it did. -/
def ringPlaysSpec : ChangeSpec := { name := "ringPlays", fn := fun _ => fun
  | [d1, d2, d3] => { results := [.lit (.bool true)], args := [d1, d2, d3] }
  | _ => none }
def ringPlaysRow : OpenClaim := { program := "ytpnpbgcndlfobaa", sum := "8bc4e6f2e8b1df3c44d9b8462fb5b84897a5c27f9c8eaaa7f1b0e02f14d2b9c2", func := "troupe/troupelaw03.RingPlays", spec := "ringPlays", unfollowed := true, recurses := true, apart := false }
def RingPlaysSaid : Prop := ringPlaysRow.holds Try.pinned (OpenSpec.ofChange ringPlaysSpec)

/-- ITS FALSE NEIGHBOUR: 'it returns false'. Refute it at one input. -/
def ringPlaysWrong : ChangeSpec := { name := "ringPlays", fn := fun _ => fun
  | [d1, d2, d3] => { results := [.lit (.bool false)], args := [d1, d2, d3] }
  | _ => none }
def RingPlaysWrongFalsely : Prop := ringPlaysRow.holds Try.pinned (OpenSpec.ofChange ringPlaysWrong)

/-- 'troupelaw03.RingMakes': WHATEVER THE INPUT: true; the input reads as it did. -/
def ringMakesSpec : ChangeSpec := { name := "ringMakes", fn := fun _ => fun
  | [d1, d2, d3] => { results := [.lit (.bool true)], args := [d1, d2, d3] }
  | _ => none }
def ringMakesRow : OpenClaim := { program := "ytpnpbgcndlfobaa", sum := "8bc4e6f2e8b1df3c44d9b8462fb5b84897a5c27f9c8eaaa7f1b0e02f14d2b9c2", func := "troupe/troupelaw03.RingMakes", spec := "ringMakes", unfollowed := true, recurses := true, apart := false }
def RingMakesSaid : Prop := ringMakesRow.holds Try.pinned (OpenSpec.ofChange ringMakesSpec)

/-- ITS FALSE NEIGHBOUR: 'it returns false'. Refute it at one input. -/
def ringMakesWrong : ChangeSpec := { name := "ringMakes", fn := fun _ => fun
  | [d1, d2, d3] => { results := [.lit (.bool false)], args := [d1, d2, d3] }
  | _ => none }
def RingMakesWrongFalsely : Prop := ringMakesRow.holds Try.pinned (OpenSpec.ofChange ringMakesWrong)

/-- 'troupelaw03.RingOrder': WHATEVER THE INPUT: true; the input reads as it did. -/
def ringOrderSpec : ChangeSpec := { name := "ringOrder", fn := fun _ => fun
  | [d1, d2] => { results := [.lit (.bool true)], args := [d1, d2] }
  | _ => none }
def ringOrderRow : OpenClaim := { program := "ytpnpbgcndlfobaa", sum := "8bc4e6f2e8b1df3c44d9b8462fb5b84897a5c27f9c8eaaa7f1b0e02f14d2b9c2", func := "troupe/troupelaw03.RingOrder", spec := "ringOrder", unfollowed := true, recurses := true, apart := false }
def RingOrderSaid : Prop := ringOrderRow.holds Try.pinned (OpenSpec.ofChange ringOrderSpec)

/-- ITS FALSE NEIGHBOUR: 'it returns false'. Refute it at one input. -/
def ringOrderWrong : ChangeSpec := { name := "ringOrder", fn := fun _ => fun
  | [d1, d2] => { results := [.lit (.bool false)], args := [d1, d2] }
  | _ => none }
def RingOrderWrongFalsely : Prop := ringOrderRow.holds Try.pinned (OpenSpec.ofChange ringOrderWrong)

/-- 'troupelaw03.RingBound': WHATEVER THE INPUT: true; the input reads as it did. -/
def ringBoundSpec : ChangeSpec := { name := "ringBound", fn := fun _ => fun
  | [d1, d2, d3] => { results := [.lit (.bool true)], args := [d1, d2, d3] }
  | _ => none }
def ringBoundRow : OpenClaim := { program := "ytpnpbgcndlfobaa", sum := "8bc4e6f2e8b1df3c44d9b8462fb5b84897a5c27f9c8eaaa7f1b0e02f14d2b9c2", func := "troupe/troupelaw03.RingBound", spec := "ringBound", unfollowed := true, recurses := true, apart := false }
def RingBoundSaid : Prop := ringBoundRow.holds Try.pinned (OpenSpec.ofChange ringBoundSpec)

/-- ITS FALSE NEIGHBOUR: 'it returns false'. Refute it at one input. -/
def ringBoundWrong : ChangeSpec := { name := "ringBound", fn := fun _ => fun
  | [d1, d2, d3] => { results := [.lit (.bool false)], args := [d1, d2, d3] }
  | _ => none }
def RingBoundWrongFalsely : Prop := ringBoundRow.holds Try.pinned (OpenSpec.ofChange ringBoundWrong)

/-- 'troupelaw03.RingCloses': WHATEVER THE INPUT: true; the input reads as it did. -/
def ringClosesSpec : ChangeSpec := { name := "ringCloses", fn := fun _ => fun
  | [d1, d2, d3] => { results := [.lit (.bool true)], args := [d1, d2, d3] }
  | _ => none }
def ringClosesRow : OpenClaim := { program := "ytpnpbgcndlfobaa", sum := "8bc4e6f2e8b1df3c44d9b8462fb5b84897a5c27f9c8eaaa7f1b0e02f14d2b9c2", func := "troupe/troupelaw03.RingCloses", spec := "ringCloses", unfollowed := true, recurses := true, apart := false }
def RingClosesSaid : Prop := ringClosesRow.holds Try.pinned (OpenSpec.ofChange ringClosesSpec)

/-- ITS FALSE NEIGHBOUR: 'it returns false'. Refute it at one input. -/
def ringClosesWrong : ChangeSpec := { name := "ringCloses", fn := fun _ => fun
  | [d1, d2, d3] => { results := [.lit (.bool false)], args := [d1, d2, d3] }
  | _ => none }
def RingClosesWrongFalsely : Prop := ringClosesRow.holds Try.pinned (OpenSpec.ofChange ringClosesWrong)

/-- 'troupelaw03.RingUnfinished': WHATEVER THE INPUT: true; the input reads as it did. -/
def ringUnfinishedSpec : ChangeSpec := { name := "ringUnfinished", fn := fun _ => fun
  | [d1, d2, d3, d4] => { results := [.lit (.bool true)], args := [d1, d2, d3, d4] }
  | _ => none }
def ringUnfinishedRow : OpenClaim := { program := "ytpnpbgcndlfobaa", sum := "8bc4e6f2e8b1df3c44d9b8462fb5b84897a5c27f9c8eaaa7f1b0e02f14d2b9c2", func := "troupe/troupelaw03.RingUnfinished", spec := "ringUnfinished", unfollowed := true, recurses := true, apart := false }
def RingUnfinishedSaid : Prop := ringUnfinishedRow.holds Try.pinned (OpenSpec.ofChange ringUnfinishedSpec)

/-- ITS FALSE NEIGHBOUR: 'it returns false'. Refute it at one input. -/
def ringUnfinishedWrong : ChangeSpec := { name := "ringUnfinished", fn := fun _ => fun
  | [d1, d2, d3, d4] => { results := [.lit (.bool false)], args := [d1, d2, d3, d4] }
  | _ => none }
def RingUnfinishedWrongFalsely : Prop := ringUnfinishedRow.holds Try.pinned (OpenSpec.ofChange ringUnfinishedWrong)

/-- 'troupelaw03.RingFree': WHATEVER THE INPUT: true; the input reads as it did. -/
def ringFreeSpec : ChangeSpec := { name := "ringFree", fn := fun _ => fun
  | [d1, d2] => { results := [.lit (.bool true)], args := [d1, d2] }
  | _ => none }
def ringFreeRow : OpenClaim := { program := "ytpnpbgcndlfobaa", sum := "8bc4e6f2e8b1df3c44d9b8462fb5b84897a5c27f9c8eaaa7f1b0e02f14d2b9c2", func := "troupe/troupelaw03.RingFree", spec := "ringFree", unfollowed := true, recurses := true, apart := false }
def RingFreeSaid : Prop := ringFreeRow.holds Try.pinned (OpenSpec.ofChange ringFreeSpec)

/-- ITS FALSE NEIGHBOUR: 'it returns false'. Refute it at one input. -/
def ringFreeWrong : ChangeSpec := { name := "ringFree", fn := fun _ => fun
  | [d1, d2] => { results := [.lit (.bool false)], args := [d1, d2] }
  | _ => none }
def RingFreeWrongFalsely : Prop := ringFreeRow.holds Try.pinned (OpenSpec.ofChange ringFreeWrong)

/- THE SECOND FORM. 'bulk': how many values and letters a reading holds, each counted each time it is reached (what is shared counts as often as it is met; a slice's spare places count too). A statement '..UptoSaid' is the law's where the arguments, and the package variables that the reading takes, are together of bulk at most 1048576: NARROWER than '..Said'. Prove '..Said' where nothing that the law and all that it calls make is longer than what came in: it says more and counts as full. Else prove '..UptoSaid'. A law counts once. -/
mutual
def uptoBulk {H : Type} : DataW H → Nat
  | .lit (.string bytes) => bytes.length + 1
  | .lit _ => 1
  | .nil => 1
  | .ptr d => uptoBulk d + 1
  | .slice elems spare => uptoBulkAll elems + uptoBulkAll spare + 1
  | .agg parts => uptoBulkAll parts + 1
  | .iface _ d => uptoBulk d + 1
  | .map entries => uptoBulkEntries entries + 1
  | .held _ => 1
def uptoBulkAll {H : Type} : List (DataW H) → Nat
  | [] => 0
  | d :: r => uptoBulk d + uptoBulkAll r
def uptoBulkEntries {H : Type} : List (Lit × DataW H) → Nat
  | [] => 0
  | x :: r => uptoBulkEntry x + uptoBulkEntries r
def uptoBulkEntry {H : Type} : Lit × DataW H → Nat
  | (.string bytes, d) => bytes.length + uptoBulk d + 1
  | (_, d) => uptoBulk d + 1
 end
def uptoSmall : (H : Type) → List (DataW H) → Bool := fun _ ds => decide (uptoBulkAll ds ≤ 1048576)
def OpenSpec.upto (s : _root_.Go.ChangeSpec) : _root_.Go.OpenSpec := { _root_.Go.OpenSpec.ofChange s with cond := some uptoSmall }

/-- 'troupelaw03.RingPlays', WHERE WHAT IT READS IS OF BULK AT MOST 1048576: true; the input reads as it did. -/
def ringPlaysUptoRow : OpenClaim := { program := "ytpnpbgcndlfobaa", sum := "8bc4e6f2e8b1df3c44d9b8462fb5b84897a5c27f9c8eaaa7f1b0e02f14d2b9c2", func := "troupe/troupelaw03.RingPlays", spec := "ringPlays", unfollowed := true, recurses := true, apart := false, narrowed := true }
def RingPlaysUptoSaid : Prop := ringPlaysUptoRow.holds Try.pinned (OpenSpec.upto ringPlaysSpec)

/-- 'troupelaw03.RingMakes', WHERE WHAT IT READS IS OF BULK AT MOST 1048576: true; the input reads as it did. -/
def ringMakesUptoRow : OpenClaim := { program := "ytpnpbgcndlfobaa", sum := "8bc4e6f2e8b1df3c44d9b8462fb5b84897a5c27f9c8eaaa7f1b0e02f14d2b9c2", func := "troupe/troupelaw03.RingMakes", spec := "ringMakes", unfollowed := true, recurses := true, apart := false, narrowed := true }
def RingMakesUptoSaid : Prop := ringMakesUptoRow.holds Try.pinned (OpenSpec.upto ringMakesSpec)

/-- 'troupelaw03.RingOrder', WHERE WHAT IT READS IS OF BULK AT MOST 1048576: true; the input reads as it did. -/
def ringOrderUptoRow : OpenClaim := { program := "ytpnpbgcndlfobaa", sum := "8bc4e6f2e8b1df3c44d9b8462fb5b84897a5c27f9c8eaaa7f1b0e02f14d2b9c2", func := "troupe/troupelaw03.RingOrder", spec := "ringOrder", unfollowed := true, recurses := true, apart := false, narrowed := true }
def RingOrderUptoSaid : Prop := ringOrderUptoRow.holds Try.pinned (OpenSpec.upto ringOrderSpec)

/-- 'troupelaw03.RingBound', WHERE WHAT IT READS IS OF BULK AT MOST 1048576: true; the input reads as it did. -/
def ringBoundUptoRow : OpenClaim := { program := "ytpnpbgcndlfobaa", sum := "8bc4e6f2e8b1df3c44d9b8462fb5b84897a5c27f9c8eaaa7f1b0e02f14d2b9c2", func := "troupe/troupelaw03.RingBound", spec := "ringBound", unfollowed := true, recurses := true, apart := false, narrowed := true }
def RingBoundUptoSaid : Prop := ringBoundUptoRow.holds Try.pinned (OpenSpec.upto ringBoundSpec)

/-- 'troupelaw03.RingCloses', WHERE WHAT IT READS IS OF BULK AT MOST 1048576: true; the input reads as it did. -/
def ringClosesUptoRow : OpenClaim := { program := "ytpnpbgcndlfobaa", sum := "8bc4e6f2e8b1df3c44d9b8462fb5b84897a5c27f9c8eaaa7f1b0e02f14d2b9c2", func := "troupe/troupelaw03.RingCloses", spec := "ringCloses", unfollowed := true, recurses := true, apart := false, narrowed := true }
def RingClosesUptoSaid : Prop := ringClosesUptoRow.holds Try.pinned (OpenSpec.upto ringClosesSpec)

/-- 'troupelaw03.RingUnfinished', WHERE WHAT IT READS IS OF BULK AT MOST 1048576: true; the input reads as it did. -/
def ringUnfinishedUptoRow : OpenClaim := { program := "ytpnpbgcndlfobaa", sum := "8bc4e6f2e8b1df3c44d9b8462fb5b84897a5c27f9c8eaaa7f1b0e02f14d2b9c2", func := "troupe/troupelaw03.RingUnfinished", spec := "ringUnfinished", unfollowed := true, recurses := true, apart := false, narrowed := true }
def RingUnfinishedUptoSaid : Prop := ringUnfinishedUptoRow.holds Try.pinned (OpenSpec.upto ringUnfinishedSpec)

/-- 'troupelaw03.RingFree', WHERE WHAT IT READS IS OF BULK AT MOST 1048576: true; the input reads as it did. -/
def ringFreeUptoRow : OpenClaim := { program := "ytpnpbgcndlfobaa", sum := "8bc4e6f2e8b1df3c44d9b8462fb5b84897a5c27f9c8eaaa7f1b0e02f14d2b9c2", func := "troupe/troupelaw03.RingFree", spec := "ringFree", unfollowed := true, recurses := true, apart := false, narrowed := true }
def RingFreeUptoSaid : Prop := ringFreeUptoRow.holds Try.pinned (OpenSpec.upto ringFreeSpec)

end Rows
end Go.Proofs.Ytpnpbgcndlfobaa
