/-
  No cell of these rows narrows 'for every input' (looked for: loops, veiled, ifaces, maps, wideKeys, modest, calm, conditions, laid).
  DERIVED. THE GIVEN ROWS OF THIS SEAT. 12 by the template 'for every input the law returns true; each argument reads behind the call as it read before'; 0 by the template 'total and deterministic' (their statements: YtokopocldicnmaaTotals.lean).
  GIVEN WITH THE SEED: the statements are not yours to turn. If you find one false, say at which input.
  Laid BY PROGRAM, IN A SANDBOX (cutbox-rows.mjs): the forced cells as the released guide's own fill.sh prints them over the translation 86542b7a6246d7bd… (all of the seat's roots in one cut). By AI agents, Wed Nov 11 2026. No macro, syntax, notation, axiom, sorry.
-/
import Derived.Test.YtokopocldicnmaaChecked
import GoSem.Claim
import GoSem.ClaimJoined
import GoSem.ClaimMapViews
import Derived.JoinedTies
import Derived.KernelRfl
namespace Go.Proofs.Ytokopocldicnmaa
/- THE CELL 'sum', in the pinned program and in every row, IS THE sha256 OF THE DUMP (.gsa) THAT YtokopocldicnmaaProg.lean LOADS. Nothing in Lean hashes anything: it is a label: what it is worth is what the hold of that sum in a sandbox is worth. -/
noncomputable def Try.pinned : Pinned := { name := "ytokopocldicnmaa", sum := "86542b7a6246d7bdc0e4d196c16690d8f1b33157bc2fefdba1e81d95ab86f954", checked := Try.checked }
namespace Rows
def none {H : Type} : Left H := { results := [], args := [] }

/-- 'troupelaw04.DequeOnce': WHATEVER THE INPUT: true; the input reads as it did. -/
def dequeOnceSpec : ChangeSpec := { name := "dequeOnce", fn := fun _ => fun
  | [d1, d2] => { results := [.lit (.bool true)], args := [d1, d2] }
  | _ => none }
def dequeOnceRow : OpenClaim := { program := "ytokopocldicnmaa", sum := "86542b7a6246d7bdc0e4d196c16690d8f1b33157bc2fefdba1e81d95ab86f954", func := "troupe/troupelaw04.DequeOnce", spec := "dequeOnce", unfollowed := true, recurses := true, apart := false }
def DequeOnceSaid : Prop := dequeOnceRow.holds Try.pinned (OpenSpec.ofChange dequeOnceSpec)

/-- ITS FALSE NEIGHBOUR: 'it returns false'. Refute it at one input. -/
def dequeOnceWrong : ChangeSpec := { name := "dequeOnce", fn := fun _ => fun
  | [d1, d2] => { results := [.lit (.bool false)], args := [d1, d2] }
  | _ => none }
def DequeOnceWrongFalsely : Prop := dequeOnceRow.holds Try.pinned (OpenSpec.ofChange dequeOnceWrong)

/-- 'troupelaw04.DequeFirst': WHATEVER THE INPUT: true; the input reads as it did. -/
def dequeFirstSpec : ChangeSpec := { name := "dequeFirst", fn := fun _ => fun
  | [d1, d2] => { results := [.lit (.bool true)], args := [d1, d2] }
  | _ => none }
def dequeFirstRow : OpenClaim := { program := "ytokopocldicnmaa", sum := "86542b7a6246d7bdc0e4d196c16690d8f1b33157bc2fefdba1e81d95ab86f954", func := "troupe/troupelaw04.DequeFirst", spec := "dequeFirst", unfollowed := true, recurses := true, apart := false }
def DequeFirstSaid : Prop := dequeFirstRow.holds Try.pinned (OpenSpec.ofChange dequeFirstSpec)

/-- ITS FALSE NEIGHBOUR: 'it returns false'. Refute it at one input. -/
def dequeFirstWrong : ChangeSpec := { name := "dequeFirst", fn := fun _ => fun
  | [d1, d2] => { results := [.lit (.bool false)], args := [d1, d2] }
  | _ => none }
def DequeFirstWrongFalsely : Prop := dequeFirstRow.holds Try.pinned (OpenSpec.ofChange dequeFirstWrong)

/-- 'troupelaw04.DequeBound': WHATEVER THE INPUT: true; the input reads as it did. -/
def dequeBoundSpec : ChangeSpec := { name := "dequeBound", fn := fun _ => fun
  | [d1, d2, d3] => { results := [.lit (.bool true)], args := [d1, d2, d3] }
  | _ => none }
def dequeBoundRow : OpenClaim := { program := "ytokopocldicnmaa", sum := "86542b7a6246d7bdc0e4d196c16690d8f1b33157bc2fefdba1e81d95ab86f954", func := "troupe/troupelaw04.DequeBound", spec := "dequeBound", unfollowed := true, recurses := true, apart := false }
def DequeBoundSaid : Prop := dequeBoundRow.holds Try.pinned (OpenSpec.ofChange dequeBoundSpec)

/-- ITS FALSE NEIGHBOUR: 'it returns false'. Refute it at one input. -/
def dequeBoundWrong : ChangeSpec := { name := "dequeBound", fn := fun _ => fun
  | [d1, d2, d3] => { results := [.lit (.bool false)], args := [d1, d2, d3] }
  | _ => none }
def DequeBoundWrongFalsely : Prop := dequeBoundRow.holds Try.pinned (OpenSpec.ofChange dequeBoundWrong)

/-- 'troupelaw05.GatePlays': WHATEVER THE INPUT: true; the input reads as it did. -/
def gatePlaysSpec : ChangeSpec := { name := "gatePlays", fn := fun _ => fun
  | [d1, d2, d3] => { results := [.lit (.bool true)], args := [d1, d2, d3] }
  | _ => none }
def gatePlaysRow : OpenClaim := { program := "ytokopocldicnmaa", sum := "86542b7a6246d7bdc0e4d196c16690d8f1b33157bc2fefdba1e81d95ab86f954", func := "troupe/troupelaw05.GatePlays", spec := "gatePlays", apart := false }
def GatePlaysSaid : Prop := gatePlaysRow.holds Try.pinned (OpenSpec.ofChange gatePlaysSpec)

/-- ITS FALSE NEIGHBOUR: 'it returns false'. Refute it at one input. -/
def gatePlaysWrong : ChangeSpec := { name := "gatePlays", fn := fun _ => fun
  | [d1, d2, d3] => { results := [.lit (.bool false)], args := [d1, d2, d3] }
  | _ => none }
def GatePlaysWrongFalsely : Prop := gatePlaysRow.holds Try.pinned (OpenSpec.ofChange gatePlaysWrong)

/-- 'troupelaw05.GateMakes': WHATEVER THE INPUT: true; the input reads as it did. -/
def gateMakesSpec : ChangeSpec := { name := "gateMakes", fn := fun _ => fun
  | [d1, d2, d3] => { results := [.lit (.bool true)], args := [d1, d2, d3] }
  | _ => none }
def gateMakesRow : OpenClaim := { program := "ytokopocldicnmaa", sum := "86542b7a6246d7bdc0e4d196c16690d8f1b33157bc2fefdba1e81d95ab86f954", func := "troupe/troupelaw05.GateMakes", spec := "gateMakes", apart := false }
def GateMakesSaid : Prop := gateMakesRow.holds Try.pinned (OpenSpec.ofChange gateMakesSpec)

/-- ITS FALSE NEIGHBOUR: 'it returns false'. Refute it at one input. -/
def gateMakesWrong : ChangeSpec := { name := "gateMakes", fn := fun _ => fun
  | [d1, d2, d3] => { results := [.lit (.bool false)], args := [d1, d2, d3] }
  | _ => none }
def GateMakesWrongFalsely : Prop := gateMakesRow.holds Try.pinned (OpenSpec.ofChange gateMakesWrong)

/-- 'troupelaw05.GateBound': WHATEVER THE INPUT: true; the input reads as it did. -/
def gateBoundSpec : ChangeSpec := { name := "gateBound", fn := fun _ => fun
  | [d1, d2, d3] => { results := [.lit (.bool true)], args := [d1, d2, d3] }
  | _ => none }
def gateBoundRow : OpenClaim := { program := "ytokopocldicnmaa", sum := "86542b7a6246d7bdc0e4d196c16690d8f1b33157bc2fefdba1e81d95ab86f954", func := "troupe/troupelaw05.GateBound", spec := "gateBound", apart := false }
def GateBoundSaid : Prop := gateBoundRow.holds Try.pinned (OpenSpec.ofChange gateBoundSpec)

/-- ITS FALSE NEIGHBOUR: 'it returns false'. Refute it at one input. -/
def gateBoundWrong : ChangeSpec := { name := "gateBound", fn := fun _ => fun
  | [d1, d2, d3] => { results := [.lit (.bool false)], args := [d1, d2, d3] }
  | _ => none }
def GateBoundWrongFalsely : Prop := gateBoundRow.holds Try.pinned (OpenSpec.ofChange gateBoundWrong)

/-- 'troupelaw05.GateFree': WHATEVER THE INPUT: true; the input reads as it did. -/
def gateFreeSpec : ChangeSpec := { name := "gateFree", fn := fun _ => fun
  | [d1, d2, d3] => { results := [.lit (.bool true)], args := [d1, d2, d3] }
  | _ => none }
def gateFreeRow : OpenClaim := { program := "ytokopocldicnmaa", sum := "86542b7a6246d7bdc0e4d196c16690d8f1b33157bc2fefdba1e81d95ab86f954", func := "troupe/troupelaw05.GateFree", spec := "gateFree", apart := false }
def GateFreeSaid : Prop := gateFreeRow.holds Try.pinned (OpenSpec.ofChange gateFreeSpec)

/-- ITS FALSE NEIGHBOUR: 'it returns false'. Refute it at one input. -/
def gateFreeWrong : ChangeSpec := { name := "gateFree", fn := fun _ => fun
  | [d1, d2, d3] => { results := [.lit (.bool false)], args := [d1, d2, d3] }
  | _ => none }
def GateFreeWrongFalsely : Prop := gateFreeRow.holds Try.pinned (OpenSpec.ofChange gateFreeWrong)

/-- 'troupelaw07.LotOrders': WHATEVER THE INPUT: true; the input reads as it did. -/
def lotOrdersSpec : ChangeSpec := { name := "lotOrders", fn := fun _ => fun
  | [d1, d2, d3] => { results := [.lit (.bool true)], args := [d1, d2, d3] }
  | _ => none }
def lotOrdersRow : OpenClaim := { program := "ytokopocldicnmaa", sum := "86542b7a6246d7bdc0e4d196c16690d8f1b33157bc2fefdba1e81d95ab86f954", func := "troupe/troupelaw07.LotOrders", spec := "lotOrders", apart := false }
def LotOrdersSaid : Prop := lotOrdersRow.holds Try.pinned (OpenSpec.ofChange lotOrdersSpec)

/-- ITS FALSE NEIGHBOUR: 'it returns false'. Refute it at one input. -/
def lotOrdersWrong : ChangeSpec := { name := "lotOrders", fn := fun _ => fun
  | [d1, d2, d3] => { results := [.lit (.bool false)], args := [d1, d2, d3] }
  | _ => none }
def LotOrdersWrongFalsely : Prop := lotOrdersRow.holds Try.pinned (OpenSpec.ofChange lotOrdersWrong)

/-- 'troupelaw07.LotAll': WHATEVER THE INPUT: true; the input reads as it did. -/
def lotAllSpec : ChangeSpec := { name := "lotAll", fn := fun _ => fun
  | [d1, d2, d3] => { results := [.lit (.bool true)], args := [d1, d2, d3] }
  | _ => none }
def lotAllRow : OpenClaim := { program := "ytokopocldicnmaa", sum := "86542b7a6246d7bdc0e4d196c16690d8f1b33157bc2fefdba1e81d95ab86f954", func := "troupe/troupelaw07.LotAll", spec := "lotAll", apart := false }
def LotAllSaid : Prop := lotAllRow.holds Try.pinned (OpenSpec.ofChange lotAllSpec)

/-- ITS FALSE NEIGHBOUR: 'it returns false'. Refute it at one input. -/
def lotAllWrong : ChangeSpec := { name := "lotAll", fn := fun _ => fun
  | [d1, d2, d3] => { results := [.lit (.bool false)], args := [d1, d2, d3] }
  | _ => none }
def LotAllWrongFalsely : Prop := lotAllRow.holds Try.pinned (OpenSpec.ofChange lotAllWrong)

/-- 'troupelaw07.LotBack': WHATEVER THE INPUT: true; the input reads as it did. -/
def lotBackSpec : ChangeSpec := { name := "lotBack", fn := fun _ => fun
  | [d1, d2, d3] => { results := [.lit (.bool true)], args := [d1, d2, d3] }
  | _ => none }
def lotBackRow : OpenClaim := { program := "ytokopocldicnmaa", sum := "86542b7a6246d7bdc0e4d196c16690d8f1b33157bc2fefdba1e81d95ab86f954", func := "troupe/troupelaw07.LotBack", spec := "lotBack", apart := false }
def LotBackSaid : Prop := lotBackRow.holds Try.pinned (OpenSpec.ofChange lotBackSpec)

/-- ITS FALSE NEIGHBOUR: 'it returns false'. Refute it at one input. -/
def lotBackWrong : ChangeSpec := { name := "lotBack", fn := fun _ => fun
  | [d1, d2, d3] => { results := [.lit (.bool false)], args := [d1, d2, d3] }
  | _ => none }
def LotBackWrongFalsely : Prop := lotBackRow.holds Try.pinned (OpenSpec.ofChange lotBackWrong)

/-- 'troupelaw07.LotFirst': WHATEVER THE INPUT: true; the input reads as it did. -/
def lotFirstSpec : ChangeSpec := { name := "lotFirst", fn := fun _ => fun
  | [d1, d2] => { results := [.lit (.bool true)], args := [d1, d2] }
  | _ => none }
def lotFirstRow : OpenClaim := { program := "ytokopocldicnmaa", sum := "86542b7a6246d7bdc0e4d196c16690d8f1b33157bc2fefdba1e81d95ab86f954", func := "troupe/troupelaw07.LotFirst", spec := "lotFirst", apart := false }
def LotFirstSaid : Prop := lotFirstRow.holds Try.pinned (OpenSpec.ofChange lotFirstSpec)

/-- ITS FALSE NEIGHBOUR: 'it returns false'. Refute it at one input. -/
def lotFirstWrong : ChangeSpec := { name := "lotFirst", fn := fun _ => fun
  | [d1, d2] => { results := [.lit (.bool false)], args := [d1, d2] }
  | _ => none }
def LotFirstWrongFalsely : Prop := lotFirstRow.holds Try.pinned (OpenSpec.ofChange lotFirstWrong)

/-- 'troupelaw07.LotKept': WHATEVER THE INPUT: true; the input reads as it did. -/
def lotKeptSpec : ChangeSpec := { name := "lotKept", fn := fun _ => fun
  | [d1, d2, d3] => { results := [.lit (.bool true)], args := [d1, d2, d3] }
  | _ => none }
def lotKeptRow : OpenClaim := { program := "ytokopocldicnmaa", sum := "86542b7a6246d7bdc0e4d196c16690d8f1b33157bc2fefdba1e81d95ab86f954", func := "troupe/troupelaw07.LotKept", spec := "lotKept", apart := false }
def LotKeptSaid : Prop := lotKeptRow.holds Try.pinned (OpenSpec.ofChange lotKeptSpec)

/-- ITS FALSE NEIGHBOUR: 'it returns false'. Refute it at one input. -/
def lotKeptWrong : ChangeSpec := { name := "lotKept", fn := fun _ => fun
  | [d1, d2, d3] => { results := [.lit (.bool false)], args := [d1, d2, d3] }
  | _ => none }
def LotKeptWrongFalsely : Prop := lotKeptRow.holds Try.pinned (OpenSpec.ofChange lotKeptWrong)

/- THE SECOND FORM. 'bulk': how many values and letters a reading holds, each counted each time it is reached (what is shared counts as often as it is met; a slice's spare places count too). A statement '..UptoSaid' is the law's where the arguments, and the package variables that the reading takes, are together of bulk at most 1048576: NARROWER than '..Said'. Prove '..Said' where nothing that the law and all that it calls make is longer than what came in: it says more and counts as full. Else prove '..UptoSaid'. A law counts once. -/
mutual
def uptoBulk {H : Type} : DataW H → Nat
  | .lit (.string bytes) => bytes.length + 1
  | .lit _ => 1
  | .nil => 1
  | .ptr d => uptoBulk d + 1
  | .slice elems spare => uptoBulkAll elems + uptoBulkAll spare + 1
  | .agg parts => uptoBulkAll parts + 1
  | .iface _ d => uptoBulk d + 1
  | .map entries => uptoBulkEntries entries + 1
  | .held _ => 1
def uptoBulkAll {H : Type} : List (DataW H) → Nat
  | [] => 0
  | d :: r => uptoBulk d + uptoBulkAll r
def uptoBulkEntries {H : Type} : List (Lit × DataW H) → Nat
  | [] => 0
  | x :: r => uptoBulkEntry x + uptoBulkEntries r
def uptoBulkEntry {H : Type} : Lit × DataW H → Nat
  | (.string bytes, d) => bytes.length + uptoBulk d + 1
  | (_, d) => uptoBulk d + 1
 end
def uptoSmall : (H : Type) → List (DataW H) → Bool := fun _ ds => decide (uptoBulkAll ds ≤ 1048576)
def OpenSpec.upto (s : _root_.Go.ChangeSpec) : _root_.Go.OpenSpec := { _root_.Go.OpenSpec.ofChange s with cond := some uptoSmall }

/-- 'troupelaw04.DequeOnce', WHERE WHAT IT READS IS OF BULK AT MOST 1048576: true; the input reads as it did. -/
def dequeOnceUptoRow : OpenClaim := { program := "ytokopocldicnmaa", sum := "86542b7a6246d7bdc0e4d196c16690d8f1b33157bc2fefdba1e81d95ab86f954", func := "troupe/troupelaw04.DequeOnce", spec := "dequeOnce", unfollowed := true, recurses := true, apart := false, narrowed := true }
def DequeOnceUptoSaid : Prop := dequeOnceUptoRow.holds Try.pinned (OpenSpec.upto dequeOnceSpec)

/-- 'troupelaw04.DequeFirst', WHERE WHAT IT READS IS OF BULK AT MOST 1048576: true; the input reads as it did. -/
def dequeFirstUptoRow : OpenClaim := { program := "ytokopocldicnmaa", sum := "86542b7a6246d7bdc0e4d196c16690d8f1b33157bc2fefdba1e81d95ab86f954", func := "troupe/troupelaw04.DequeFirst", spec := "dequeFirst", unfollowed := true, recurses := true, apart := false, narrowed := true }
def DequeFirstUptoSaid : Prop := dequeFirstUptoRow.holds Try.pinned (OpenSpec.upto dequeFirstSpec)

/-- 'troupelaw04.DequeBound', WHERE WHAT IT READS IS OF BULK AT MOST 1048576: true; the input reads as it did. -/
def dequeBoundUptoRow : OpenClaim := { program := "ytokopocldicnmaa", sum := "86542b7a6246d7bdc0e4d196c16690d8f1b33157bc2fefdba1e81d95ab86f954", func := "troupe/troupelaw04.DequeBound", spec := "dequeBound", unfollowed := true, recurses := true, apart := false, narrowed := true }
def DequeBoundUptoSaid : Prop := dequeBoundUptoRow.holds Try.pinned (OpenSpec.upto dequeBoundSpec)

/-- 'troupelaw05.GatePlays', WHERE WHAT IT READS IS OF BULK AT MOST 1048576: true; the input reads as it did. -/
def gatePlaysUptoRow : OpenClaim := { program := "ytokopocldicnmaa", sum := "86542b7a6246d7bdc0e4d196c16690d8f1b33157bc2fefdba1e81d95ab86f954", func := "troupe/troupelaw05.GatePlays", spec := "gatePlays", apart := false, narrowed := true }
def GatePlaysUptoSaid : Prop := gatePlaysUptoRow.holds Try.pinned (OpenSpec.upto gatePlaysSpec)

/-- 'troupelaw05.GateMakes', WHERE WHAT IT READS IS OF BULK AT MOST 1048576: true; the input reads as it did. -/
def gateMakesUptoRow : OpenClaim := { program := "ytokopocldicnmaa", sum := "86542b7a6246d7bdc0e4d196c16690d8f1b33157bc2fefdba1e81d95ab86f954", func := "troupe/troupelaw05.GateMakes", spec := "gateMakes", apart := false, narrowed := true }
def GateMakesUptoSaid : Prop := gateMakesUptoRow.holds Try.pinned (OpenSpec.upto gateMakesSpec)

/-- 'troupelaw05.GateBound', WHERE WHAT IT READS IS OF BULK AT MOST 1048576: true; the input reads as it did. -/
def gateBoundUptoRow : OpenClaim := { program := "ytokopocldicnmaa", sum := "86542b7a6246d7bdc0e4d196c16690d8f1b33157bc2fefdba1e81d95ab86f954", func := "troupe/troupelaw05.GateBound", spec := "gateBound", apart := false, narrowed := true }
def GateBoundUptoSaid : Prop := gateBoundUptoRow.holds Try.pinned (OpenSpec.upto gateBoundSpec)

/-- 'troupelaw05.GateFree', WHERE WHAT IT READS IS OF BULK AT MOST 1048576: true; the input reads as it did. -/
def gateFreeUptoRow : OpenClaim := { program := "ytokopocldicnmaa", sum := "86542b7a6246d7bdc0e4d196c16690d8f1b33157bc2fefdba1e81d95ab86f954", func := "troupe/troupelaw05.GateFree", spec := "gateFree", apart := false, narrowed := true }
def GateFreeUptoSaid : Prop := gateFreeUptoRow.holds Try.pinned (OpenSpec.upto gateFreeSpec)

/-- 'troupelaw07.LotOrders', WHERE WHAT IT READS IS OF BULK AT MOST 1048576: true; the input reads as it did. -/
def lotOrdersUptoRow : OpenClaim := { program := "ytokopocldicnmaa", sum := "86542b7a6246d7bdc0e4d196c16690d8f1b33157bc2fefdba1e81d95ab86f954", func := "troupe/troupelaw07.LotOrders", spec := "lotOrders", apart := false, narrowed := true }
def LotOrdersUptoSaid : Prop := lotOrdersUptoRow.holds Try.pinned (OpenSpec.upto lotOrdersSpec)

/-- 'troupelaw07.LotAll', WHERE WHAT IT READS IS OF BULK AT MOST 1048576: true; the input reads as it did. -/
def lotAllUptoRow : OpenClaim := { program := "ytokopocldicnmaa", sum := "86542b7a6246d7bdc0e4d196c16690d8f1b33157bc2fefdba1e81d95ab86f954", func := "troupe/troupelaw07.LotAll", spec := "lotAll", apart := false, narrowed := true }
def LotAllUptoSaid : Prop := lotAllUptoRow.holds Try.pinned (OpenSpec.upto lotAllSpec)

/-- 'troupelaw07.LotBack', WHERE WHAT IT READS IS OF BULK AT MOST 1048576: true; the input reads as it did. -/
def lotBackUptoRow : OpenClaim := { program := "ytokopocldicnmaa", sum := "86542b7a6246d7bdc0e4d196c16690d8f1b33157bc2fefdba1e81d95ab86f954", func := "troupe/troupelaw07.LotBack", spec := "lotBack", apart := false, narrowed := true }
def LotBackUptoSaid : Prop := lotBackUptoRow.holds Try.pinned (OpenSpec.upto lotBackSpec)

/-- 'troupelaw07.LotFirst', WHERE WHAT IT READS IS OF BULK AT MOST 1048576: true; the input reads as it did. -/
def lotFirstUptoRow : OpenClaim := { program := "ytokopocldicnmaa", sum := "86542b7a6246d7bdc0e4d196c16690d8f1b33157bc2fefdba1e81d95ab86f954", func := "troupe/troupelaw07.LotFirst", spec := "lotFirst", apart := false, narrowed := true }
def LotFirstUptoSaid : Prop := lotFirstUptoRow.holds Try.pinned (OpenSpec.upto lotFirstSpec)

/-- 'troupelaw07.LotKept', WHERE WHAT IT READS IS OF BULK AT MOST 1048576: true; the input reads as it did. -/
def lotKeptUptoRow : OpenClaim := { program := "ytokopocldicnmaa", sum := "86542b7a6246d7bdc0e4d196c16690d8f1b33157bc2fefdba1e81d95ab86f954", func := "troupe/troupelaw07.LotKept", spec := "lotKept", apart := false, narrowed := true }
def LotKeptUptoSaid : Prop := lotKeptUptoRow.holds Try.pinned (OpenSpec.upto lotKeptSpec)

end Rows
end Go.Proofs.Ytokopocldicnmaa
