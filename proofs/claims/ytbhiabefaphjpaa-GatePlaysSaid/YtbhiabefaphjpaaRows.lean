/-
  No cell of these rows narrows 'for every input' (looked for: loops, veiled, ifaces, maps, wideKeys, modest, calm, conditions, laid).
  DERIVED. THE GIVEN ROWS OF THIS SEAT. 11 by the template 'for every input the law returns true; each argument reads behind the call as it read before'; 0 by the template 'total and deterministic' (their statements: YtbhiabefaphjpaaTotals.lean).
  GIVEN WITH THE SEED: the statements are not yours to turn. If you find one false, say at which input.
  Laid BY PROGRAM, IN A SANDBOX (cutbox-rows.mjs): the forced cells as the released guide's own fill.sh prints them over the translation 614a51ff5f1e9bc9… (all of the seat's roots in one cut). By AI agents, Wed Nov 11 2026. No macro, syntax, notation, axiom, sorry.
-/
import Derived.Test.YtbhiabefaphjpaaChecked
import GoSem.Claim
import GoSem.ClaimJoined
import GoSem.ClaimMapViews
import Derived.JoinedTies
import Derived.KernelRfl
namespace Go.Proofs.Ytbhiabefaphjpaa
/- THE CELL 'sum', in the pinned program and in every row, IS THE sha256 OF THE DUMP (.gsa) THAT YtbhiabefaphjpaaProg.lean LOADS. Nothing in Lean hashes anything: it is a label: what it is worth is what the hold of that sum in a sandbox is worth. -/
noncomputable def Try.pinned : Pinned := { name := "ytbhiabefaphjpaa", sum := "614a51ff5f1e9bc932799240614190859b54f392d0c11cd16f1835541b2e5054", checked := Try.checked }
namespace Rows
def none {H : Type} : Left H := { results := [], args := [] }

/-- 'troupelaw05.GatePlays': WHATEVER THE INPUT: true; the input reads as it did. -/
def gatePlaysSpec : ChangeSpec := { name := "gatePlays", fn := fun _ => fun
  | [d1, d2, d3] => { results := [.lit (.bool true)], args := [d1, d2, d3] }
  | _ => none }
def gatePlaysRow : OpenClaim := { program := "ytbhiabefaphjpaa", sum := "614a51ff5f1e9bc932799240614190859b54f392d0c11cd16f1835541b2e5054", func := "troupe/troupelaw05.GatePlays", spec := "gatePlays", apart := false }
def GatePlaysSaid : Prop := gatePlaysRow.holds Try.pinned (OpenSpec.ofChange gatePlaysSpec)

/-- ITS FALSE NEIGHBOUR: 'it returns false'. Refute it at one input. -/
def gatePlaysWrong : ChangeSpec := { name := "gatePlays", fn := fun _ => fun
  | [d1, d2, d3] => { results := [.lit (.bool false)], args := [d1, d2, d3] }
  | _ => none }
def GatePlaysWrongFalsely : Prop := gatePlaysRow.holds Try.pinned (OpenSpec.ofChange gatePlaysWrong)

/-- 'troupelaw05.GateMakes': WHATEVER THE INPUT: true; the input reads as it did. -/
def gateMakesSpec : ChangeSpec := { name := "gateMakes", fn := fun _ => fun
  | [d1, d2, d3] => { results := [.lit (.bool true)], args := [d1, d2, d3] }
  | _ => none }
def gateMakesRow : OpenClaim := { program := "ytbhiabefaphjpaa", sum := "614a51ff5f1e9bc932799240614190859b54f392d0c11cd16f1835541b2e5054", func := "troupe/troupelaw05.GateMakes", spec := "gateMakes", apart := false }
def GateMakesSaid : Prop := gateMakesRow.holds Try.pinned (OpenSpec.ofChange gateMakesSpec)

/-- ITS FALSE NEIGHBOUR: 'it returns false'. Refute it at one input. -/
def gateMakesWrong : ChangeSpec := { name := "gateMakes", fn := fun _ => fun
  | [d1, d2, d3] => { results := [.lit (.bool false)], args := [d1, d2, d3] }
  | _ => none }
def GateMakesWrongFalsely : Prop := gateMakesRow.holds Try.pinned (OpenSpec.ofChange gateMakesWrong)

/-- 'troupelaw05.GateOnce': WHATEVER THE INPUT: true; the input reads as it did. -/
def gateOnceSpec : ChangeSpec := { name := "gateOnce", fn := fun _ => fun
  | [d1, d2] => { results := [.lit (.bool true)], args := [d1, d2] }
  | _ => none }
def gateOnceRow : OpenClaim := { program := "ytbhiabefaphjpaa", sum := "614a51ff5f1e9bc932799240614190859b54f392d0c11cd16f1835541b2e5054", func := "troupe/troupelaw05.GateOnce", spec := "gateOnce", apart := false }
def GateOnceSaid : Prop := gateOnceRow.holds Try.pinned (OpenSpec.ofChange gateOnceSpec)

/-- ITS FALSE NEIGHBOUR: 'it returns false'. Refute it at one input. -/
def gateOnceWrong : ChangeSpec := { name := "gateOnce", fn := fun _ => fun
  | [d1, d2] => { results := [.lit (.bool false)], args := [d1, d2] }
  | _ => none }
def GateOnceWrongFalsely : Prop := gateOnceRow.holds Try.pinned (OpenSpec.ofChange gateOnceWrong)

/-- 'troupelaw05.GateOrder': WHATEVER THE INPUT: true; the input reads as it did. -/
def gateOrderSpec : ChangeSpec := { name := "gateOrder", fn := fun _ => fun
  | [d1, d2] => { results := [.lit (.bool true)], args := [d1, d2] }
  | _ => none }
def gateOrderRow : OpenClaim := { program := "ytbhiabefaphjpaa", sum := "614a51ff5f1e9bc932799240614190859b54f392d0c11cd16f1835541b2e5054", func := "troupe/troupelaw05.GateOrder", spec := "gateOrder", apart := false }
def GateOrderSaid : Prop := gateOrderRow.holds Try.pinned (OpenSpec.ofChange gateOrderSpec)

/-- ITS FALSE NEIGHBOUR: 'it returns false'. Refute it at one input. -/
def gateOrderWrong : ChangeSpec := { name := "gateOrder", fn := fun _ => fun
  | [d1, d2] => { results := [.lit (.bool false)], args := [d1, d2] }
  | _ => none }
def GateOrderWrongFalsely : Prop := gateOrderRow.holds Try.pinned (OpenSpec.ofChange gateOrderWrong)

/-- 'troupelaw05.GateBound': WHATEVER THE INPUT: true; the input reads as it did. -/
def gateBoundSpec : ChangeSpec := { name := "gateBound", fn := fun _ => fun
  | [d1, d2, d3] => { results := [.lit (.bool true)], args := [d1, d2, d3] }
  | _ => none }
def gateBoundRow : OpenClaim := { program := "ytbhiabefaphjpaa", sum := "614a51ff5f1e9bc932799240614190859b54f392d0c11cd16f1835541b2e5054", func := "troupe/troupelaw05.GateBound", spec := "gateBound", apart := false }
def GateBoundSaid : Prop := gateBoundRow.holds Try.pinned (OpenSpec.ofChange gateBoundSpec)

/-- ITS FALSE NEIGHBOUR: 'it returns false'. Refute it at one input. -/
def gateBoundWrong : ChangeSpec := { name := "gateBound", fn := fun _ => fun
  | [d1, d2, d3] => { results := [.lit (.bool false)], args := [d1, d2, d3] }
  | _ => none }
def GateBoundWrongFalsely : Prop := gateBoundRow.holds Try.pinned (OpenSpec.ofChange gateBoundWrong)

/-- 'troupelaw05.GateFree': WHATEVER THE INPUT: true; the input reads as it did. -/
def gateFreeSpec : ChangeSpec := { name := "gateFree", fn := fun _ => fun
  | [d1, d2, d3] => { results := [.lit (.bool true)], args := [d1, d2, d3] }
  | _ => none }
def gateFreeRow : OpenClaim := { program := "ytbhiabefaphjpaa", sum := "614a51ff5f1e9bc932799240614190859b54f392d0c11cd16f1835541b2e5054", func := "troupe/troupelaw05.GateFree", spec := "gateFree", apart := false }
def GateFreeSaid : Prop := gateFreeRow.holds Try.pinned (OpenSpec.ofChange gateFreeSpec)

/-- ITS FALSE NEIGHBOUR: 'it returns false'. Refute it at one input. -/
def gateFreeWrong : ChangeSpec := { name := "gateFree", fn := fun _ => fun
  | [d1, d2, d3] => { results := [.lit (.bool false)], args := [d1, d2, d3] }
  | _ => none }
def GateFreeWrongFalsely : Prop := gateFreeRow.holds Try.pinned (OpenSpec.ofChange gateFreeWrong)

/-- 'troupelaw04.DequePlays': WHATEVER THE INPUT: true; the input reads as it did. -/
def dequePlaysSpec : ChangeSpec := { name := "dequePlays", fn := fun _ => fun
  | [d1, d2, d3] => { results := [.lit (.bool true)], args := [d1, d2, d3] }
  | _ => none }
def dequePlaysRow : OpenClaim := { program := "ytbhiabefaphjpaa", sum := "614a51ff5f1e9bc932799240614190859b54f392d0c11cd16f1835541b2e5054", func := "troupe/troupelaw04.DequePlays", spec := "dequePlays", unfollowed := true, recurses := true, apart := false }
def DequePlaysSaid : Prop := dequePlaysRow.holds Try.pinned (OpenSpec.ofChange dequePlaysSpec)

/-- ITS FALSE NEIGHBOUR: 'it returns false'. Refute it at one input. -/
def dequePlaysWrong : ChangeSpec := { name := "dequePlays", fn := fun _ => fun
  | [d1, d2, d3] => { results := [.lit (.bool false)], args := [d1, d2, d3] }
  | _ => none }
def DequePlaysWrongFalsely : Prop := dequePlaysRow.holds Try.pinned (OpenSpec.ofChange dequePlaysWrong)

/-- 'troupelaw04.DequeOnce': WHATEVER THE INPUT: true; the input reads as it did. -/
def dequeOnceSpec : ChangeSpec := { name := "dequeOnce", fn := fun _ => fun
  | [d1, d2] => { results := [.lit (.bool true)], args := [d1, d2] }
  | _ => none }
def dequeOnceRow : OpenClaim := { program := "ytbhiabefaphjpaa", sum := "614a51ff5f1e9bc932799240614190859b54f392d0c11cd16f1835541b2e5054", func := "troupe/troupelaw04.DequeOnce", spec := "dequeOnce", unfollowed := true, recurses := true, apart := false }
def DequeOnceSaid : Prop := dequeOnceRow.holds Try.pinned (OpenSpec.ofChange dequeOnceSpec)

/-- ITS FALSE NEIGHBOUR: 'it returns false'. Refute it at one input. -/
def dequeOnceWrong : ChangeSpec := { name := "dequeOnce", fn := fun _ => fun
  | [d1, d2] => { results := [.lit (.bool false)], args := [d1, d2] }
  | _ => none }
def DequeOnceWrongFalsely : Prop := dequeOnceRow.holds Try.pinned (OpenSpec.ofChange dequeOnceWrong)

/-- 'troupelaw04.DequeFirst': WHATEVER THE INPUT: true; the input reads as it did. -/
def dequeFirstSpec : ChangeSpec := { name := "dequeFirst", fn := fun _ => fun
  | [d1, d2] => { results := [.lit (.bool true)], args := [d1, d2] }
  | _ => none }
def dequeFirstRow : OpenClaim := { program := "ytbhiabefaphjpaa", sum := "614a51ff5f1e9bc932799240614190859b54f392d0c11cd16f1835541b2e5054", func := "troupe/troupelaw04.DequeFirst", spec := "dequeFirst", unfollowed := true, recurses := true, apart := false }
def DequeFirstSaid : Prop := dequeFirstRow.holds Try.pinned (OpenSpec.ofChange dequeFirstSpec)

/-- ITS FALSE NEIGHBOUR: 'it returns false'. Refute it at one input. -/
def dequeFirstWrong : ChangeSpec := { name := "dequeFirst", fn := fun _ => fun
  | [d1, d2] => { results := [.lit (.bool false)], args := [d1, d2] }
  | _ => none }
def DequeFirstWrongFalsely : Prop := dequeFirstRow.holds Try.pinned (OpenSpec.ofChange dequeFirstWrong)

/-- 'troupelaw04.DequeBound': WHATEVER THE INPUT: true; the input reads as it did. -/
def dequeBoundSpec : ChangeSpec := { name := "dequeBound", fn := fun _ => fun
  | [d1, d2, d3] => { results := [.lit (.bool true)], args := [d1, d2, d3] }
  | _ => none }
def dequeBoundRow : OpenClaim := { program := "ytbhiabefaphjpaa", sum := "614a51ff5f1e9bc932799240614190859b54f392d0c11cd16f1835541b2e5054", func := "troupe/troupelaw04.DequeBound", spec := "dequeBound", unfollowed := true, recurses := true, apart := false }
def DequeBoundSaid : Prop := dequeBoundRow.holds Try.pinned (OpenSpec.ofChange dequeBoundSpec)

/-- ITS FALSE NEIGHBOUR: 'it returns false'. Refute it at one input. -/
def dequeBoundWrong : ChangeSpec := { name := "dequeBound", fn := fun _ => fun
  | [d1, d2, d3] => { results := [.lit (.bool false)], args := [d1, d2, d3] }
  | _ => none }
def DequeBoundWrongFalsely : Prop := dequeBoundRow.holds Try.pinned (OpenSpec.ofChange dequeBoundWrong)

/-- 'troupelaw03.RingPlays': WHATEVER THE INPUT: true; the input reads as it did. -/
def ringPlaysSpec : ChangeSpec := { name := "ringPlays", fn := fun _ => fun
  | [d1, d2, d3] => { results := [.lit (.bool true)], args := [d1, d2, d3] }
  | _ => none }
def ringPlaysRow : OpenClaim := { program := "ytbhiabefaphjpaa", sum := "614a51ff5f1e9bc932799240614190859b54f392d0c11cd16f1835541b2e5054", func := "troupe/troupelaw03.RingPlays", spec := "ringPlays", unfollowed := true, recurses := true, apart := false }
def RingPlaysSaid : Prop := ringPlaysRow.holds Try.pinned (OpenSpec.ofChange ringPlaysSpec)

/-- ITS FALSE NEIGHBOUR: 'it returns false'. Refute it at one input. -/
def ringPlaysWrong : ChangeSpec := { name := "ringPlays", fn := fun _ => fun
  | [d1, d2, d3] => { results := [.lit (.bool false)], args := [d1, d2, d3] }
  | _ => none }
def RingPlaysWrongFalsely : Prop := ringPlaysRow.holds Try.pinned (OpenSpec.ofChange ringPlaysWrong)

/- THE SECOND FORM. 'bulk': how many values and letters a reading holds, each counted each time it is reached (what is shared counts as often as it is met; a slice's spare places count too). A statement '..UptoSaid' is the law's where the arguments, and the package variables that the reading takes, are together of bulk at most 1048576: NARROWER than '..Said'. Prove '..Said' where nothing that the law and all that it calls make is longer than what came in: it says more and counts as full. Else prove '..UptoSaid'. A law counts once. -/
mutual
def uptoBulk {H : Type} : DataW H → Nat
  | .lit (.string bytes) => bytes.length + 1
  | .lit _ => 1
  | .nil => 1
  | .ptr d => uptoBulk d + 1
  | .slice elems spare => uptoBulkAll elems + uptoBulkAll spare + 1
  | .agg parts => uptoBulkAll parts + 1
  | .iface _ d => uptoBulk d + 1
  | .map entries => uptoBulkEntries entries + 1
  | .held _ => 1
def uptoBulkAll {H : Type} : List (DataW H) → Nat
  | [] => 0
  | d :: r => uptoBulk d + uptoBulkAll r
def uptoBulkEntries {H : Type} : List (Lit × DataW H) → Nat
  | [] => 0
  | x :: r => uptoBulkEntry x + uptoBulkEntries r
def uptoBulkEntry {H : Type} : Lit × DataW H → Nat
  | (.string bytes, d) => bytes.length + uptoBulk d + 1
  | (_, d) => uptoBulk d + 1
 end
def uptoSmall : (H : Type) → List (DataW H) → Bool := fun _ ds => decide (uptoBulkAll ds ≤ 1048576)
def OpenSpec.upto (s : _root_.Go.ChangeSpec) : _root_.Go.OpenSpec := { _root_.Go.OpenSpec.ofChange s with cond := some uptoSmall }

/-- 'troupelaw05.GatePlays', WHERE WHAT IT READS IS OF BULK AT MOST 1048576: true; the input reads as it did. -/
def gatePlaysUptoRow : OpenClaim := { program := "ytbhiabefaphjpaa", sum := "614a51ff5f1e9bc932799240614190859b54f392d0c11cd16f1835541b2e5054", func := "troupe/troupelaw05.GatePlays", spec := "gatePlays", apart := false, narrowed := true }
def GatePlaysUptoSaid : Prop := gatePlaysUptoRow.holds Try.pinned (OpenSpec.upto gatePlaysSpec)

/-- 'troupelaw05.GateMakes', WHERE WHAT IT READS IS OF BULK AT MOST 1048576: true; the input reads as it did. -/
def gateMakesUptoRow : OpenClaim := { program := "ytbhiabefaphjpaa", sum := "614a51ff5f1e9bc932799240614190859b54f392d0c11cd16f1835541b2e5054", func := "troupe/troupelaw05.GateMakes", spec := "gateMakes", apart := false, narrowed := true }
def GateMakesUptoSaid : Prop := gateMakesUptoRow.holds Try.pinned (OpenSpec.upto gateMakesSpec)

/-- 'troupelaw05.GateOnce', WHERE WHAT IT READS IS OF BULK AT MOST 1048576: true; the input reads as it did. -/
def gateOnceUptoRow : OpenClaim := { program := "ytbhiabefaphjpaa", sum := "614a51ff5f1e9bc932799240614190859b54f392d0c11cd16f1835541b2e5054", func := "troupe/troupelaw05.GateOnce", spec := "gateOnce", apart := false, narrowed := true }
def GateOnceUptoSaid : Prop := gateOnceUptoRow.holds Try.pinned (OpenSpec.upto gateOnceSpec)

/-- 'troupelaw05.GateOrder', WHERE WHAT IT READS IS OF BULK AT MOST 1048576: true; the input reads as it did. -/
def gateOrderUptoRow : OpenClaim := { program := "ytbhiabefaphjpaa", sum := "614a51ff5f1e9bc932799240614190859b54f392d0c11cd16f1835541b2e5054", func := "troupe/troupelaw05.GateOrder", spec := "gateOrder", apart := false, narrowed := true }
def GateOrderUptoSaid : Prop := gateOrderUptoRow.holds Try.pinned (OpenSpec.upto gateOrderSpec)

/-- 'troupelaw05.GateBound', WHERE WHAT IT READS IS OF BULK AT MOST 1048576: true; the input reads as it did. -/
def gateBoundUptoRow : OpenClaim := { program := "ytbhiabefaphjpaa", sum := "614a51ff5f1e9bc932799240614190859b54f392d0c11cd16f1835541b2e5054", func := "troupe/troupelaw05.GateBound", spec := "gateBound", apart := false, narrowed := true }
def GateBoundUptoSaid : Prop := gateBoundUptoRow.holds Try.pinned (OpenSpec.upto gateBoundSpec)

/-- 'troupelaw05.GateFree', WHERE WHAT IT READS IS OF BULK AT MOST 1048576: true; the input reads as it did. -/
def gateFreeUptoRow : OpenClaim := { program := "ytbhiabefaphjpaa", sum := "614a51ff5f1e9bc932799240614190859b54f392d0c11cd16f1835541b2e5054", func := "troupe/troupelaw05.GateFree", spec := "gateFree", apart := false, narrowed := true }
def GateFreeUptoSaid : Prop := gateFreeUptoRow.holds Try.pinned (OpenSpec.upto gateFreeSpec)

/-- 'troupelaw04.DequePlays', WHERE WHAT IT READS IS OF BULK AT MOST 1048576: true; the input reads as it did. -/
def dequePlaysUptoRow : OpenClaim := { program := "ytbhiabefaphjpaa", sum := "614a51ff5f1e9bc932799240614190859b54f392d0c11cd16f1835541b2e5054", func := "troupe/troupelaw04.DequePlays", spec := "dequePlays", unfollowed := true, recurses := true, apart := false, narrowed := true }
def DequePlaysUptoSaid : Prop := dequePlaysUptoRow.holds Try.pinned (OpenSpec.upto dequePlaysSpec)

/-- 'troupelaw04.DequeOnce', WHERE WHAT IT READS IS OF BULK AT MOST 1048576: true; the input reads as it did. -/
def dequeOnceUptoRow : OpenClaim := { program := "ytbhiabefaphjpaa", sum := "614a51ff5f1e9bc932799240614190859b54f392d0c11cd16f1835541b2e5054", func := "troupe/troupelaw04.DequeOnce", spec := "dequeOnce", unfollowed := true, recurses := true, apart := false, narrowed := true }
def DequeOnceUptoSaid : Prop := dequeOnceUptoRow.holds Try.pinned (OpenSpec.upto dequeOnceSpec)

/-- 'troupelaw04.DequeFirst', WHERE WHAT IT READS IS OF BULK AT MOST 1048576: true; the input reads as it did. -/
def dequeFirstUptoRow : OpenClaim := { program := "ytbhiabefaphjpaa", sum := "614a51ff5f1e9bc932799240614190859b54f392d0c11cd16f1835541b2e5054", func := "troupe/troupelaw04.DequeFirst", spec := "dequeFirst", unfollowed := true, recurses := true, apart := false, narrowed := true }
def DequeFirstUptoSaid : Prop := dequeFirstUptoRow.holds Try.pinned (OpenSpec.upto dequeFirstSpec)

/-- 'troupelaw04.DequeBound', WHERE WHAT IT READS IS OF BULK AT MOST 1048576: true; the input reads as it did. -/
def dequeBoundUptoRow : OpenClaim := { program := "ytbhiabefaphjpaa", sum := "614a51ff5f1e9bc932799240614190859b54f392d0c11cd16f1835541b2e5054", func := "troupe/troupelaw04.DequeBound", spec := "dequeBound", unfollowed := true, recurses := true, apart := false, narrowed := true }
def DequeBoundUptoSaid : Prop := dequeBoundUptoRow.holds Try.pinned (OpenSpec.upto dequeBoundSpec)

/-- 'troupelaw03.RingPlays', WHERE WHAT IT READS IS OF BULK AT MOST 1048576: true; the input reads as it did. -/
def ringPlaysUptoRow : OpenClaim := { program := "ytbhiabefaphjpaa", sum := "614a51ff5f1e9bc932799240614190859b54f392d0c11cd16f1835541b2e5054", func := "troupe/troupelaw03.RingPlays", spec := "ringPlays", unfollowed := true, recurses := true, apart := false, narrowed := true }
def RingPlaysUptoSaid : Prop := ringPlaysUptoRow.holds Try.pinned (OpenSpec.upto ringPlaysSpec)

end Rows
end Go.Proofs.Ytbhiabefaphjpaa
