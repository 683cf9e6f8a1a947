/-
  No cell of these rows narrows 'for every input' (looked for: loops, veiled, ifaces, maps, wideKeys, modest, calm, conditions, laid).
  DERIVED. THE GIVEN ROWS OF THIS SEAT. 10 by the template 'for every input the law returns true; each argument reads behind the call as it read before'; 0 by the template 'total and deterministic' (their statements: YtfhbgabblegecaaTotals.lean).
  GIVEN WITH THE SEED: the statements are not yours to turn. If you find one false, say at which input.
  Laid BY PROGRAM, IN A SANDBOX (cutbox-rows.mjs): the forced cells as the released guide's own fill.sh prints them over the translation 99662516d034e70e… (all of the seat's roots in one cut). By AI agents, Wed Nov 11 2026. No macro, syntax, notation, axiom, sorry.
-/
import Derived.Test.YtfhbgabblegecaaChecked
import GoSem.Claim
import GoSem.ClaimJoined
import GoSem.ClaimMapViews
import Derived.JoinedTies
import Derived.KernelRfl
namespace Go.Proofs.Ytfhbgabblegecaa
/- THE CELL 'sum', in the pinned program and in every row, IS THE sha256 OF THE DUMP (.gsa) THAT YtfhbgabblegecaaProg.lean LOADS. Nothing in Lean hashes anything: it is a label: what it is worth is what the hold of that sum in a sandbox is worth. -/
noncomputable def Try.pinned : Pinned := { name := "ytfhbgabblegecaa", sum := "99662516d034e70e302371643849aa9bd91bdb9203c89890e5820079aa06f356", checked := Try.checked }
namespace Rows
def none {H : Type} : Left H := { results := [], args := [] }

/-- 'troupelaw06.BellPlays': WHATEVER THE INPUT: true; the input reads as it did. -/
def bellPlaysSpec : ChangeSpec := { name := "bellPlays", fn := fun _ => fun
  | [d1, d2, d3] => { results := [.lit (.bool true)], args := [d1, d2, d3] }
  | _ => none }
def bellPlaysRow : OpenClaim := { program := "ytfhbgabblegecaa", sum := "99662516d034e70e302371643849aa9bd91bdb9203c89890e5820079aa06f356", func := "troupe/troupelaw06.BellPlays", spec := "bellPlays", unfollowed := true, recurses := true, apart := false }
def BellPlaysSaid : Prop := bellPlaysRow.holds Try.pinned (OpenSpec.ofChange bellPlaysSpec)

/-- ITS FALSE NEIGHBOUR: 'it returns false'. Refute it at one input. -/
def bellPlaysWrong : ChangeSpec := { name := "bellPlays", fn := fun _ => fun
  | [d1, d2, d3] => { results := [.lit (.bool false)], args := [d1, d2, d3] }
  | _ => none }
def BellPlaysWrongFalsely : Prop := bellPlaysRow.holds Try.pinned (OpenSpec.ofChange bellPlaysWrong)

/-- 'troupelaw06.BellMakes': WHATEVER THE INPUT: true; the input reads as it did. -/
def bellMakesSpec : ChangeSpec := { name := "bellMakes", fn := fun _ => fun
  | [d1, d2, d3] => { results := [.lit (.bool true)], args := [d1, d2, d3] }
  | _ => none }
def bellMakesRow : OpenClaim := { program := "ytfhbgabblegecaa", sum := "99662516d034e70e302371643849aa9bd91bdb9203c89890e5820079aa06f356", func := "troupe/troupelaw06.BellMakes", spec := "bellMakes", unfollowed := true, recurses := true, apart := false }
def BellMakesSaid : Prop := bellMakesRow.holds Try.pinned (OpenSpec.ofChange bellMakesSpec)

/-- ITS FALSE NEIGHBOUR: 'it returns false'. Refute it at one input. -/
def bellMakesWrong : ChangeSpec := { name := "bellMakes", fn := fun _ => fun
  | [d1, d2, d3] => { results := [.lit (.bool false)], args := [d1, d2, d3] }
  | _ => none }
def BellMakesWrongFalsely : Prop := bellMakesRow.holds Try.pinned (OpenSpec.ofChange bellMakesWrong)

/-- 'troupelaw06.BellOnce': WHATEVER THE INPUT: true; the input reads as it did. -/
def bellOnceSpec : ChangeSpec := { name := "bellOnce", fn := fun _ => fun
  | [d1, d2, d3, d4] => { results := [.lit (.bool true)], args := [d1, d2, d3, d4] }
  | _ => none }
def bellOnceRow : OpenClaim := { program := "ytfhbgabblegecaa", sum := "99662516d034e70e302371643849aa9bd91bdb9203c89890e5820079aa06f356", func := "troupe/troupelaw06.BellOnce", spec := "bellOnce", unfollowed := true, recurses := true, apart := false }
def BellOnceSaid : Prop := bellOnceRow.holds Try.pinned (OpenSpec.ofChange bellOnceSpec)

/-- ITS FALSE NEIGHBOUR: 'it returns false'. Refute it at one input. -/
def bellOnceWrong : ChangeSpec := { name := "bellOnce", fn := fun _ => fun
  | [d1, d2, d3, d4] => { results := [.lit (.bool false)], args := [d1, d2, d3, d4] }
  | _ => none }
def BellOnceWrongFalsely : Prop := bellOnceRow.holds Try.pinned (OpenSpec.ofChange bellOnceWrong)

/-- 'troupelaw06.BellMeets': WHATEVER THE INPUT: true; the input reads as it did. -/
def bellMeetsSpec : ChangeSpec := { name := "bellMeets", fn := fun _ => fun
  | [d1, d2, d3] => { results := [.lit (.bool true)], args := [d1, d2, d3] }
  | _ => none }
def bellMeetsRow : OpenClaim := { program := "ytfhbgabblegecaa", sum := "99662516d034e70e302371643849aa9bd91bdb9203c89890e5820079aa06f356", func := "troupe/troupelaw06.BellMeets", spec := "bellMeets", unfollowed := true, recurses := true, apart := false }
def BellMeetsSaid : Prop := bellMeetsRow.holds Try.pinned (OpenSpec.ofChange bellMeetsSpec)

/-- ITS FALSE NEIGHBOUR: 'it returns false'. Refute it at one input. -/
def bellMeetsWrong : ChangeSpec := { name := "bellMeets", fn := fun _ => fun
  | [d1, d2, d3] => { results := [.lit (.bool false)], args := [d1, d2, d3] }
  | _ => none }
def BellMeetsWrongFalsely : Prop := bellMeetsRow.holds Try.pinned (OpenSpec.ofChange bellMeetsWrong)

/-- 'troupelaw06.BellOthers': WHATEVER THE INPUT: true; the input reads as it did. -/
def bellOthersSpec : ChangeSpec := { name := "bellOthers", fn := fun _ => fun
  | [d1, d2, d3, d4] => { results := [.lit (.bool true)], args := [d1, d2, d3, d4] }
  | _ => none }
def bellOthersRow : OpenClaim := { program := "ytfhbgabblegecaa", sum := "99662516d034e70e302371643849aa9bd91bdb9203c89890e5820079aa06f356", func := "troupe/troupelaw06.BellOthers", spec := "bellOthers", unfollowed := true, recurses := true, apart := false }
def BellOthersSaid : Prop := bellOthersRow.holds Try.pinned (OpenSpec.ofChange bellOthersSpec)

/-- ITS FALSE NEIGHBOUR: 'it returns false'. Refute it at one input. -/
def bellOthersWrong : ChangeSpec := { name := "bellOthers", fn := fun _ => fun
  | [d1, d2, d3, d4] => { results := [.lit (.bool false)], args := [d1, d2, d3, d4] }
  | _ => none }
def BellOthersWrongFalsely : Prop := bellOthersRow.holds Try.pinned (OpenSpec.ofChange bellOthersWrong)

/-- 'troupelaw05.GateOnce': WHATEVER THE INPUT: true; the input reads as it did. -/
def gateOnceSpec : ChangeSpec := { name := "gateOnce", fn := fun _ => fun
  | [d1, d2] => { results := [.lit (.bool true)], args := [d1, d2] }
  | _ => none }
def gateOnceRow : OpenClaim := { program := "ytfhbgabblegecaa", sum := "99662516d034e70e302371643849aa9bd91bdb9203c89890e5820079aa06f356", func := "troupe/troupelaw05.GateOnce", spec := "gateOnce", apart := false }
def GateOnceSaid : Prop := gateOnceRow.holds Try.pinned (OpenSpec.ofChange gateOnceSpec)

/-- ITS FALSE NEIGHBOUR: 'it returns false'. Refute it at one input. -/
def gateOnceWrong : ChangeSpec := { name := "gateOnce", fn := fun _ => fun
  | [d1, d2] => { results := [.lit (.bool false)], args := [d1, d2] }
  | _ => none }
def GateOnceWrongFalsely : Prop := gateOnceRow.holds Try.pinned (OpenSpec.ofChange gateOnceWrong)

/-- 'troupelaw05.GateOrder': WHATEVER THE INPUT: true; the input reads as it did. -/
def gateOrderSpec : ChangeSpec := { name := "gateOrder", fn := fun _ => fun
  | [d1, d2] => { results := [.lit (.bool true)], args := [d1, d2] }
  | _ => none }
def gateOrderRow : OpenClaim := { program := "ytfhbgabblegecaa", sum := "99662516d034e70e302371643849aa9bd91bdb9203c89890e5820079aa06f356", func := "troupe/troupelaw05.GateOrder", spec := "gateOrder", apart := false }
def GateOrderSaid : Prop := gateOrderRow.holds Try.pinned (OpenSpec.ofChange gateOrderSpec)

/-- ITS FALSE NEIGHBOUR: 'it returns false'. Refute it at one input. -/
def gateOrderWrong : ChangeSpec := { name := "gateOrder", fn := fun _ => fun
  | [d1, d2] => { results := [.lit (.bool false)], args := [d1, d2] }
  | _ => none }
def GateOrderWrongFalsely : Prop := gateOrderRow.holds Try.pinned (OpenSpec.ofChange gateOrderWrong)

/-- 'troupelaw04.DequeOnce': WHATEVER THE INPUT: true; the input reads as it did. -/
def dequeOnceSpec : ChangeSpec := { name := "dequeOnce", fn := fun _ => fun
  | [d1, d2] => { results := [.lit (.bool true)], args := [d1, d2] }
  | _ => none }
def dequeOnceRow : OpenClaim := { program := "ytfhbgabblegecaa", sum := "99662516d034e70e302371643849aa9bd91bdb9203c89890e5820079aa06f356", func := "troupe/troupelaw04.DequeOnce", spec := "dequeOnce", unfollowed := true, recurses := true, apart := false }
def DequeOnceSaid : Prop := dequeOnceRow.holds Try.pinned (OpenSpec.ofChange dequeOnceSpec)

/-- ITS FALSE NEIGHBOUR: 'it returns false'. Refute it at one input. -/
def dequeOnceWrong : ChangeSpec := { name := "dequeOnce", fn := fun _ => fun
  | [d1, d2] => { results := [.lit (.bool false)], args := [d1, d2] }
  | _ => none }
def DequeOnceWrongFalsely : Prop := dequeOnceRow.holds Try.pinned (OpenSpec.ofChange dequeOnceWrong)

/-- 'troupelaw04.DequeFirst': WHATEVER THE INPUT: true; the input reads as it did. -/
def dequeFirstSpec : ChangeSpec := { name := "dequeFirst", fn := fun _ => fun
  | [d1, d2] => { results := [.lit (.bool true)], args := [d1, d2] }
  | _ => none }
def dequeFirstRow : OpenClaim := { program := "ytfhbgabblegecaa", sum := "99662516d034e70e302371643849aa9bd91bdb9203c89890e5820079aa06f356", func := "troupe/troupelaw04.DequeFirst", spec := "dequeFirst", unfollowed := true, recurses := true, apart := false }
def DequeFirstSaid : Prop := dequeFirstRow.holds Try.pinned (OpenSpec.ofChange dequeFirstSpec)

/-- ITS FALSE NEIGHBOUR: 'it returns false'. Refute it at one input. -/
def dequeFirstWrong : ChangeSpec := { name := "dequeFirst", fn := fun _ => fun
  | [d1, d2] => { results := [.lit (.bool false)], args := [d1, d2] }
  | _ => none }
def DequeFirstWrongFalsely : Prop := dequeFirstRow.holds Try.pinned (OpenSpec.ofChange dequeFirstWrong)

/-- 'troupelaw04.DequeBound': WHATEVER THE INPUT: true; the input reads as it did. -/
def dequeBoundSpec : ChangeSpec := { name := "dequeBound", fn := fun _ => fun
  | [d1, d2, d3] => { results := [.lit (.bool true)], args := [d1, d2, d3] }
  | _ => none }
def dequeBoundRow : OpenClaim := { program := "ytfhbgabblegecaa", sum := "99662516d034e70e302371643849aa9bd91bdb9203c89890e5820079aa06f356", func := "troupe/troupelaw04.DequeBound", spec := "dequeBound", unfollowed := true, recurses := true, apart := false }
def DequeBoundSaid : Prop := dequeBoundRow.holds Try.pinned (OpenSpec.ofChange dequeBoundSpec)

/-- ITS FALSE NEIGHBOUR: 'it returns false'. Refute it at one input. -/
def dequeBoundWrong : ChangeSpec := { name := "dequeBound", fn := fun _ => fun
  | [d1, d2, d3] => { results := [.lit (.bool false)], args := [d1, d2, d3] }
  | _ => none }
def DequeBoundWrongFalsely : Prop := dequeBoundRow.holds Try.pinned (OpenSpec.ofChange dequeBoundWrong)

/- THE SECOND FORM. 'bulk': how many values and letters a reading holds, each counted each time it is reached (what is shared counts as often as it is met; a slice's spare places count too). A statement '..UptoSaid' is the law's where the arguments, and the package variables that the reading takes, are together of bulk at most 1048576: NARROWER than '..Said'. Prove '..Said' where nothing that the law and all that it calls make is longer than what came in: it says more and counts as full. Else prove '..UptoSaid'. A law counts once. -/
mutual
def uptoBulk {H : Type} : DataW H → Nat
  | .lit (.string bytes) => bytes.length + 1
  | .lit _ => 1
  | .nil => 1
  | .ptr d => uptoBulk d + 1
  | .slice elems spare => uptoBulkAll elems + uptoBulkAll spare + 1
  | .agg parts => uptoBulkAll parts + 1
  | .iface _ d => uptoBulk d + 1
  | .map entries => uptoBulkEntries entries + 1
  | .held _ => 1
def uptoBulkAll {H : Type} : List (DataW H) → Nat
  | [] => 0
  | d :: r => uptoBulk d + uptoBulkAll r
def uptoBulkEntries {H : Type} : List (Lit × DataW H) → Nat
  | [] => 0
  | x :: r => uptoBulkEntry x + uptoBulkEntries r
def uptoBulkEntry {H : Type} : Lit × DataW H → Nat
  | (.string bytes, d) => bytes.length + uptoBulk d + 1
  | (_, d) => uptoBulk d + 1
 end
def uptoSmall : (H : Type) → List (DataW H) → Bool := fun _ ds => decide (uptoBulkAll ds ≤ 1048576)
def OpenSpec.upto (s : _root_.Go.ChangeSpec) : _root_.Go.OpenSpec := { _root_.Go.OpenSpec.ofChange s with cond := some uptoSmall }

/-- 'troupelaw06.BellPlays', WHERE WHAT IT READS IS OF BULK AT MOST 1048576: true; the input reads as it did. -/
def bellPlaysUptoRow : OpenClaim := { program := "ytfhbgabblegecaa", sum := "99662516d034e70e302371643849aa9bd91bdb9203c89890e5820079aa06f356", func := "troupe/troupelaw06.BellPlays", spec := "bellPlays", unfollowed := true, recurses := true, apart := false, narrowed := true }
def BellPlaysUptoSaid : Prop := bellPlaysUptoRow.holds Try.pinned (OpenSpec.upto bellPlaysSpec)

/-- 'troupelaw06.BellMakes', WHERE WHAT IT READS IS OF BULK AT MOST 1048576: true; the input reads as it did. -/
def bellMakesUptoRow : OpenClaim := { program := "ytfhbgabblegecaa", sum := "99662516d034e70e302371643849aa9bd91bdb9203c89890e5820079aa06f356", func := "troupe/troupelaw06.BellMakes", spec := "bellMakes", unfollowed := true, recurses := true, apart := false, narrowed := true }
def BellMakesUptoSaid : Prop := bellMakesUptoRow.holds Try.pinned (OpenSpec.upto bellMakesSpec)

/-- 'troupelaw06.BellOnce', WHERE WHAT IT READS IS OF BULK AT MOST 1048576: true; the input reads as it did. -/
def bellOnceUptoRow : OpenClaim := { program := "ytfhbgabblegecaa", sum := "99662516d034e70e302371643849aa9bd91bdb9203c89890e5820079aa06f356", func := "troupe/troupelaw06.BellOnce", spec := "bellOnce", unfollowed := true, recurses := true, apart := false, narrowed := true }
def BellOnceUptoSaid : Prop := bellOnceUptoRow.holds Try.pinned (OpenSpec.upto bellOnceSpec)

/-- 'troupelaw06.BellMeets', WHERE WHAT IT READS IS OF BULK AT MOST 1048576: true; the input reads as it did. -/
def bellMeetsUptoRow : OpenClaim := { program := "ytfhbgabblegecaa", sum := "99662516d034e70e302371643849aa9bd91bdb9203c89890e5820079aa06f356", func := "troupe/troupelaw06.BellMeets", spec := "bellMeets", unfollowed := true, recurses := true, apart := false, narrowed := true }
def BellMeetsUptoSaid : Prop := bellMeetsUptoRow.holds Try.pinned (OpenSpec.upto bellMeetsSpec)

/-- 'troupelaw06.BellOthers', WHERE WHAT IT READS IS OF BULK AT MOST 1048576: true; the input reads as it did. -/
def bellOthersUptoRow : OpenClaim := { program := "ytfhbgabblegecaa", sum := "99662516d034e70e302371643849aa9bd91bdb9203c89890e5820079aa06f356", func := "troupe/troupelaw06.BellOthers", spec := "bellOthers", unfollowed := true, recurses := true, apart := false, narrowed := true }
def BellOthersUptoSaid : Prop := bellOthersUptoRow.holds Try.pinned (OpenSpec.upto bellOthersSpec)

/-- 'troupelaw05.GateOnce', WHERE WHAT IT READS IS OF BULK AT MOST 1048576: true; the input reads as it did. -/
def gateOnceUptoRow : OpenClaim := { program := "ytfhbgabblegecaa", sum := "99662516d034e70e302371643849aa9bd91bdb9203c89890e5820079aa06f356", func := "troupe/troupelaw05.GateOnce", spec := "gateOnce", apart := false, narrowed := true }
def GateOnceUptoSaid : Prop := gateOnceUptoRow.holds Try.pinned (OpenSpec.upto gateOnceSpec)

/-- 'troupelaw05.GateOrder', WHERE WHAT IT READS IS OF BULK AT MOST 1048576: true; the input reads as it did. -/
def gateOrderUptoRow : OpenClaim := { program := "ytfhbgabblegecaa", sum := "99662516d034e70e302371643849aa9bd91bdb9203c89890e5820079aa06f356", func := "troupe/troupelaw05.GateOrder", spec := "gateOrder", apart := false, narrowed := true }
def GateOrderUptoSaid : Prop := gateOrderUptoRow.holds Try.pinned (OpenSpec.upto gateOrderSpec)

/-- 'troupelaw04.DequeOnce', WHERE WHAT IT READS IS OF BULK AT MOST 1048576: true; the input reads as it did. -/
def dequeOnceUptoRow : OpenClaim := { program := "ytfhbgabblegecaa", sum := "99662516d034e70e302371643849aa9bd91bdb9203c89890e5820079aa06f356", func := "troupe/troupelaw04.DequeOnce", spec := "dequeOnce", unfollowed := true, recurses := true, apart := false, narrowed := true }
def DequeOnceUptoSaid : Prop := dequeOnceUptoRow.holds Try.pinned (OpenSpec.upto dequeOnceSpec)

/-- 'troupelaw04.DequeFirst', WHERE WHAT IT READS IS OF BULK AT MOST 1048576: true; the input reads as it did. -/
def dequeFirstUptoRow : OpenClaim := { program := "ytfhbgabblegecaa", sum := "99662516d034e70e302371643849aa9bd91bdb9203c89890e5820079aa06f356", func := "troupe/troupelaw04.DequeFirst", spec := "dequeFirst", unfollowed := true, recurses := true, apart := false, narrowed := true }
def DequeFirstUptoSaid : Prop := dequeFirstUptoRow.holds Try.pinned (OpenSpec.upto dequeFirstSpec)

/-- 'troupelaw04.DequeBound', WHERE WHAT IT READS IS OF BULK AT MOST 1048576: true; the input reads as it did. -/
def dequeBoundUptoRow : OpenClaim := { program := "ytfhbgabblegecaa", sum := "99662516d034e70e302371643849aa9bd91bdb9203c89890e5820079aa06f356", func := "troupe/troupelaw04.DequeBound", spec := "dequeBound", unfollowed := true, recurses := true, apart := false, narrowed := true }
def DequeBoundUptoSaid : Prop := dequeBoundUptoRow.holds Try.pinned (OpenSpec.upto dequeBoundSpec)

end Rows
end Go.Proofs.Ytfhbgabblegecaa
