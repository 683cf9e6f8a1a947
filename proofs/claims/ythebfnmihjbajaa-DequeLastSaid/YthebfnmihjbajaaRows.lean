/-
  No cell of these rows narrows 'for every input' (looked for: loops, veiled, ifaces, maps, wideKeys, modest, calm, conditions, laid).
  DERIVED. THE GIVEN ROWS OF THIS SEAT. 4 by the template 'for every input the law returns true; each argument reads behind the call as it read before'; 0 by the template 'total and deterministic' (their statements: YthebfnmihjbajaaTotals.lean).
  GIVEN WITH THE SEED: the statements are not yours to turn. If you find one false, say at which input.
  Laid BY PROGRAM, IN A SANDBOX (cutbox-rows.mjs): the forced cells as the released guide's own fill.sh prints them over the translation 01b28558edcd2a17… (all of the seat's roots in one cut). By AI agents, Wed Nov 11 2026. No macro, syntax, notation, axiom, sorry.
-/
import Derived.Test.YthebfnmihjbajaaChecked
import GoSem.Claim
import GoSem.ClaimJoined
import GoSem.ClaimMapViews
import Derived.JoinedTies
import Derived.KernelRfl
namespace Go.Proofs.Ythebfnmihjbajaa
/- THE CELL 'sum', in the pinned program and in every row, IS THE sha256 OF THE DUMP (.gsa) THAT YthebfnmihjbajaaProg.lean LOADS. Nothing in Lean hashes anything: it is a label: what it is worth is what the hold of that sum in a sandbox is worth. -/
noncomputable def Try.pinned : Pinned := { name := "ythebfnmihjbajaa", sum := "01b28558edcd2a17e59aceba4271a42c5442bb29c6c8cb44cdba864df19a9721", checked := Try.checked }
namespace Rows
def none {H : Type} : Left H := { results := [], args := [] }

/-- 'troupelaw04.DequePlays': WHATEVER THE INPUT: true; the input reads as it did. -/
def dequePlaysSpec : ChangeSpec := { name := "dequePlays", fn := fun _ => fun
  | [d1, d2, d3] => { results := [.lit (.bool true)], args := [d1, d2, d3] }
  | _ => none }
def dequePlaysRow : OpenClaim := { program := "ythebfnmihjbajaa", sum := "01b28558edcd2a17e59aceba4271a42c5442bb29c6c8cb44cdba864df19a9721", func := "troupe/troupelaw04.DequePlays", spec := "dequePlays", unfollowed := true, recurses := true, apart := false }
def DequePlaysSaid : Prop := dequePlaysRow.holds Try.pinned (OpenSpec.ofChange dequePlaysSpec)

/-- ITS FALSE NEIGHBOUR: 'it returns false'. Refute it at one input. -/
def dequePlaysWrong : ChangeSpec := { name := "dequePlays", fn := fun _ => fun
  | [d1, d2, d3] => { results := [.lit (.bool false)], args := [d1, d2, d3] }
  | _ => none }
def DequePlaysWrongFalsely : Prop := dequePlaysRow.holds Try.pinned (OpenSpec.ofChange dequePlaysWrong)

/-- 'troupelaw04.DequeMakes': WHATEVER THE INPUT: true; the input reads as it did. -/
def dequeMakesSpec : ChangeSpec := { name := "dequeMakes", fn := fun _ => fun
  | [d1, d2, d3] => { results := [.lit (.bool true)], args := [d1, d2, d3] }
  | _ => none }
def dequeMakesRow : OpenClaim := { program := "ythebfnmihjbajaa", sum := "01b28558edcd2a17e59aceba4271a42c5442bb29c6c8cb44cdba864df19a9721", func := "troupe/troupelaw04.DequeMakes", spec := "dequeMakes", unfollowed := true, recurses := true, apart := false }
def DequeMakesSaid : Prop := dequeMakesRow.holds Try.pinned (OpenSpec.ofChange dequeMakesSpec)

/-- ITS FALSE NEIGHBOUR: 'it returns false'. Refute it at one input. -/
def dequeMakesWrong : ChangeSpec := { name := "dequeMakes", fn := fun _ => fun
  | [d1, d2, d3] => { results := [.lit (.bool false)], args := [d1, d2, d3] }
  | _ => none }
def DequeMakesWrongFalsely : Prop := dequeMakesRow.holds Try.pinned (OpenSpec.ofChange dequeMakesWrong)

/-- 'troupelaw04.DequeStack': WHATEVER THE INPUT: true; the input reads as it did. -/
def dequeStackSpec : ChangeSpec := { name := "dequeStack", fn := fun _ => fun
  | [d1, d2, d3] => { results := [.lit (.bool true)], args := [d1, d2, d3] }
  | _ => none }
def dequeStackRow : OpenClaim := { program := "ythebfnmihjbajaa", sum := "01b28558edcd2a17e59aceba4271a42c5442bb29c6c8cb44cdba864df19a9721", func := "troupe/troupelaw04.DequeStack", spec := "dequeStack", unfollowed := true, recurses := true, apart := false }
def DequeStackSaid : Prop := dequeStackRow.holds Try.pinned (OpenSpec.ofChange dequeStackSpec)

/-- ITS FALSE NEIGHBOUR: 'it returns false'. Refute it at one input. -/
def dequeStackWrong : ChangeSpec := { name := "dequeStack", fn := fun _ => fun
  | [d1, d2, d3] => { results := [.lit (.bool false)], args := [d1, d2, d3] }
  | _ => none }
def DequeStackWrongFalsely : Prop := dequeStackRow.holds Try.pinned (OpenSpec.ofChange dequeStackWrong)

/-- 'troupelaw04.DequeLast': WHATEVER THE INPUT: true; the input reads as it did. -/
def dequeLastSpec : ChangeSpec := { name := "dequeLast", fn := fun _ => fun
  | [d1, d2, d3] => { results := [.lit (.bool true)], args := [d1, d2, d3] }
  | _ => none }
def dequeLastRow : OpenClaim := { program := "ythebfnmihjbajaa", sum := "01b28558edcd2a17e59aceba4271a42c5442bb29c6c8cb44cdba864df19a9721", func := "troupe/troupelaw04.DequeLast", spec := "dequeLast", unfollowed := true, recurses := true, apart := false }
def DequeLastSaid : Prop := dequeLastRow.holds Try.pinned (OpenSpec.ofChange dequeLastSpec)

/-- ITS FALSE NEIGHBOUR: 'it returns false'. Refute it at one input. -/
def dequeLastWrong : ChangeSpec := { name := "dequeLast", fn := fun _ => fun
  | [d1, d2, d3] => { results := [.lit (.bool false)], args := [d1, d2, d3] }
  | _ => none }
def DequeLastWrongFalsely : Prop := dequeLastRow.holds Try.pinned (OpenSpec.ofChange dequeLastWrong)

/- THE SECOND FORM. 'bulk': how many values and letters a reading holds, each counted each time it is reached (what is shared counts as often as it is met; a slice's spare places count too). A statement '..UptoSaid' is the law's where the arguments, and the package variables that the reading takes, are together of bulk at most 1048576: NARROWER than '..Said'. Prove '..Said' where nothing that the law and all that it calls make is longer than what came in: it says more and counts as full. Else prove '..UptoSaid'. A law counts once. -/
mutual
def uptoBulk {H : Type} : DataW H → Nat
  | .lit (.string bytes) => bytes.length + 1
  | .lit _ => 1
  | .nil => 1
  | .ptr d => uptoBulk d + 1
  | .slice elems spare => uptoBulkAll elems + uptoBulkAll spare + 1
  | .agg parts => uptoBulkAll parts + 1
  | .iface _ d => uptoBulk d + 1
  | .map entries => uptoBulkEntries entries + 1
  | .held _ => 1
def uptoBulkAll {H : Type} : List (DataW H) → Nat
  | [] => 0
  | d :: r => uptoBulk d + uptoBulkAll r
def uptoBulkEntries {H : Type} : List (Lit × DataW H) → Nat
  | [] => 0
  | x :: r => uptoBulkEntry x + uptoBulkEntries r
def uptoBulkEntry {H : Type} : Lit × DataW H → Nat
  | (.string bytes, d) => bytes.length + uptoBulk d + 1
  | (_, d) => uptoBulk d + 1
 end
def uptoSmall : (H : Type) → List (DataW H) → Bool := fun _ ds => decide (uptoBulkAll ds ≤ 1048576)
def OpenSpec.upto (s : _root_.Go.ChangeSpec) : _root_.Go.OpenSpec := { _root_.Go.OpenSpec.ofChange s with cond := some uptoSmall }

/-- 'troupelaw04.DequePlays', WHERE WHAT IT READS IS OF BULK AT MOST 1048576: true; the input reads as it did. -/
def dequePlaysUptoRow : OpenClaim := { program := "ythebfnmihjbajaa", sum := "01b28558edcd2a17e59aceba4271a42c5442bb29c6c8cb44cdba864df19a9721", func := "troupe/troupelaw04.DequePlays", spec := "dequePlays", unfollowed := true, recurses := true, apart := false, narrowed := true }
def DequePlaysUptoSaid : Prop := dequePlaysUptoRow.holds Try.pinned (OpenSpec.upto dequePlaysSpec)

/-- 'troupelaw04.DequeMakes', WHERE WHAT IT READS IS OF BULK AT MOST 1048576: true; the input reads as it did. -/
def dequeMakesUptoRow : OpenClaim := { program := "ythebfnmihjbajaa", sum := "01b28558edcd2a17e59aceba4271a42c5442bb29c6c8cb44cdba864df19a9721", func := "troupe/troupelaw04.DequeMakes", spec := "dequeMakes", unfollowed := true, recurses := true, apart := false, narrowed := true }
def DequeMakesUptoSaid : Prop := dequeMakesUptoRow.holds Try.pinned (OpenSpec.upto dequeMakesSpec)

/-- 'troupelaw04.DequeStack', WHERE WHAT IT READS IS OF BULK AT MOST 1048576: true; the input reads as it did. -/
def dequeStackUptoRow : OpenClaim := { program := "ythebfnmihjbajaa", sum := "01b28558edcd2a17e59aceba4271a42c5442bb29c6c8cb44cdba864df19a9721", func := "troupe/troupelaw04.DequeStack", spec := "dequeStack", unfollowed := true, recurses := true, apart := false, narrowed := true }
def DequeStackUptoSaid : Prop := dequeStackUptoRow.holds Try.pinned (OpenSpec.upto dequeStackSpec)

/-- 'troupelaw04.DequeLast', WHERE WHAT IT READS IS OF BULK AT MOST 1048576: true; the input reads as it did. -/
def dequeLastUptoRow : OpenClaim := { program := "ythebfnmihjbajaa", sum := "01b28558edcd2a17e59aceba4271a42c5442bb29c6c8cb44cdba864df19a9721", func := "troupe/troupelaw04.DequeLast", spec := "dequeLast", unfollowed := true, recurses := true, apart := false, narrowed := true }
def DequeLastUptoSaid : Prop := dequeLastUptoRow.holds Try.pinned (OpenSpec.upto dequeLastSpec)

end Rows
end Go.Proofs.Ythebfnmihjbajaa
