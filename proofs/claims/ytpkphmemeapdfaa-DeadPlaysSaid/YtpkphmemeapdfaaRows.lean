/-
  No cell of these rows narrows 'for every input' (looked for: loops, veiled, ifaces, maps, wideKeys, modest, calm, conditions, laid).
  DERIVED. THE GIVEN ROWS OF THIS SEAT. 4 by the template 'for every input the law returns true; each argument reads behind the call as it read before'; 0 by the template 'total and deterministic' (their statements: YtpkphmemeapdfaaTotals.lean).
  GIVEN WITH THE SEED: the statements are not yours to turn. If you find one false, say at which input.
  Laid BY PROGRAM, IN A SANDBOX (cutbox-rows.mjs): the forced cells as the released guide's own fill.sh prints them over the translation 7e0dc09e140c6391… (all of the seat's roots in one cut). By AI agents, Wed Nov 11 2026. No macro, syntax, notation, axiom, sorry.
-/
import Derived.Test.YtpkphmemeapdfaaChecked
import GoSem.Claim
import GoSem.ClaimJoined
import GoSem.ClaimMapViews
import Derived.JoinedTies
import Derived.KernelRfl
namespace Go.Proofs.Ytpkphmemeapdfaa
/- THE CELL 'sum', in the pinned program and in every row, IS THE sha256 OF THE DUMP (.gsa) THAT YtpkphmemeapdfaaProg.lean LOADS. Nothing in Lean hashes anything: it is a label: what it is worth is what the hold of that sum in a sandbox is worth. -/
noncomputable def Try.pinned : Pinned := { name := "ytpkphmemeapdfaa", sum := "7e0dc09e140c6391bfae13b24b6067de1d511156c22d5f97785bde3099208693", checked := Try.checked }
namespace Rows
def none {H : Type} : Left H := { results := [], args := [] }

/-- 'troupelaw09.DeadPlays': WHATEVER THE INPUT: true; the input reads as it did. -/
def deadPlaysSpec : ChangeSpec := { name := "deadPlays", fn := fun _ => fun
  | [d1, d2, d3] => { results := [.lit (.bool true)], args := [d1, d2, d3] }
  | _ => none }
def deadPlaysRow : OpenClaim := { program := "ytpkphmemeapdfaa", sum := "7e0dc09e140c6391bfae13b24b6067de1d511156c22d5f97785bde3099208693", func := "troupe/troupelaw09.DeadPlays", spec := "deadPlays", apart := false }
def DeadPlaysSaid : Prop := deadPlaysRow.holds Try.pinned (OpenSpec.ofChange deadPlaysSpec)

/-- ITS FALSE NEIGHBOUR: 'it returns false'. Refute it at one input. -/
def deadPlaysWrong : ChangeSpec := { name := "deadPlays", fn := fun _ => fun
  | [d1, d2, d3] => { results := [.lit (.bool false)], args := [d1, d2, d3] }
  | _ => none }
def DeadPlaysWrongFalsely : Prop := deadPlaysRow.holds Try.pinned (OpenSpec.ofChange deadPlaysWrong)

/-- 'troupelaw09.DeadSums': WHATEVER THE INPUT: true; the input reads as it did. -/
def deadSumsSpec : ChangeSpec := { name := "deadSums", fn := fun _ => fun
  | [d1, d2] => { results := [.lit (.bool true)], args := [d1, d2] }
  | _ => none }
def deadSumsRow : OpenClaim := { program := "ytpkphmemeapdfaa", sum := "7e0dc09e140c6391bfae13b24b6067de1d511156c22d5f97785bde3099208693", func := "troupe/troupelaw09.DeadSums", spec := "deadSums", apart := false }
def DeadSumsSaid : Prop := deadSumsRow.holds Try.pinned (OpenSpec.ofChange deadSumsSpec)

/-- ITS FALSE NEIGHBOUR: 'it returns false'. Refute it at one input. -/
def deadSumsWrong : ChangeSpec := { name := "deadSums", fn := fun _ => fun
  | [d1, d2] => { results := [.lit (.bool false)], args := [d1, d2] }
  | _ => none }
def DeadSumsWrongFalsely : Prop := deadSumsRow.holds Try.pinned (OpenSpec.ofChange deadSumsWrong)

/-- 'troupelaw09.DeadLast': WHATEVER THE INPUT: true; the input reads as it did. -/
def deadLastSpec : ChangeSpec := { name := "deadLast", fn := fun _ => fun
  | [d1, d2, d3] => { results := [.lit (.bool true)], args := [d1, d2, d3] }
  | _ => none }
def deadLastRow : OpenClaim := { program := "ytpkphmemeapdfaa", sum := "7e0dc09e140c6391bfae13b24b6067de1d511156c22d5f97785bde3099208693", func := "troupe/troupelaw09.DeadLast", spec := "deadLast", apart := false }
def DeadLastSaid : Prop := deadLastRow.holds Try.pinned (OpenSpec.ofChange deadLastSpec)

/-- ITS FALSE NEIGHBOUR: 'it returns false'. Refute it at one input. -/
def deadLastWrong : ChangeSpec := { name := "deadLast", fn := fun _ => fun
  | [d1, d2, d3] => { results := [.lit (.bool false)], args := [d1, d2, d3] }
  | _ => none }
def DeadLastWrongFalsely : Prop := deadLastRow.holds Try.pinned (OpenSpec.ofChange deadLastWrong)

/-- 'troupelaw09.DeadKept': WHATEVER THE INPUT: true; the input reads as it did. -/
def deadKeptSpec : ChangeSpec := { name := "deadKept", fn := fun _ => fun
  | [d1, d2] => { results := [.lit (.bool true)], args := [d1, d2] }
  | _ => none }
def deadKeptRow : OpenClaim := { program := "ytpkphmemeapdfaa", sum := "7e0dc09e140c6391bfae13b24b6067de1d511156c22d5f97785bde3099208693", func := "troupe/troupelaw09.DeadKept", spec := "deadKept", apart := false }
def DeadKeptSaid : Prop := deadKeptRow.holds Try.pinned (OpenSpec.ofChange deadKeptSpec)

/-- ITS FALSE NEIGHBOUR: 'it returns false'. Refute it at one input. -/
def deadKeptWrong : ChangeSpec := { name := "deadKept", fn := fun _ => fun
  | [d1, d2] => { results := [.lit (.bool false)], args := [d1, d2] }
  | _ => none }
def DeadKeptWrongFalsely : Prop := deadKeptRow.holds Try.pinned (OpenSpec.ofChange deadKeptWrong)

/- THE SECOND FORM. 'bulk': how many values and letters a reading holds, each counted each time it is reached (what is shared counts as often as it is met; a slice's spare places count too). A statement '..UptoSaid' is the law's where the arguments, and the package variables that the reading takes, are together of bulk at most 1048576: NARROWER than '..Said'. Prove '..Said' where nothing that the law and all that it calls make is longer than what came in: it says more and counts as full. Else prove '..UptoSaid'. A law counts once. -/
mutual
def uptoBulk {H : Type} : DataW H → Nat
  | .lit (.string bytes) => bytes.length + 1
  | .lit _ => 1
  | .nil => 1
  | .ptr d => uptoBulk d + 1
  | .slice elems spare => uptoBulkAll elems + uptoBulkAll spare + 1
  | .agg parts => uptoBulkAll parts + 1
  | .iface _ d => uptoBulk d + 1
  | .map entries => uptoBulkEntries entries + 1
  | .held _ => 1
def uptoBulkAll {H : Type} : List (DataW H) → Nat
  | [] => 0
  | d :: r => uptoBulk d + uptoBulkAll r
def uptoBulkEntries {H : Type} : List (Lit × DataW H) → Nat
  | [] => 0
  | x :: r => uptoBulkEntry x + uptoBulkEntries r
def uptoBulkEntry {H : Type} : Lit × DataW H → Nat
  | (.string bytes, d) => bytes.length + uptoBulk d + 1
  | (_, d) => uptoBulk d + 1
 end
def uptoSmall : (H : Type) → List (DataW H) → Bool := fun _ ds => decide (uptoBulkAll ds ≤ 1048576)
def OpenSpec.upto (s : _root_.Go.ChangeSpec) : _root_.Go.OpenSpec := { _root_.Go.OpenSpec.ofChange s with cond := some uptoSmall }

/-- 'troupelaw09.DeadPlays', WHERE WHAT IT READS IS OF BULK AT MOST 1048576: true; the input reads as it did. -/
def deadPlaysUptoRow : OpenClaim := { program := "ytpkphmemeapdfaa", sum := "7e0dc09e140c6391bfae13b24b6067de1d511156c22d5f97785bde3099208693", func := "troupe/troupelaw09.DeadPlays", spec := "deadPlays", apart := false, narrowed := true }
def DeadPlaysUptoSaid : Prop := deadPlaysUptoRow.holds Try.pinned (OpenSpec.upto deadPlaysSpec)

/-- 'troupelaw09.DeadSums', WHERE WHAT IT READS IS OF BULK AT MOST 1048576: true; the input reads as it did. -/
def deadSumsUptoRow : OpenClaim := { program := "ytpkphmemeapdfaa", sum := "7e0dc09e140c6391bfae13b24b6067de1d511156c22d5f97785bde3099208693", func := "troupe/troupelaw09.DeadSums", spec := "deadSums", apart := false, narrowed := true }
def DeadSumsUptoSaid : Prop := deadSumsUptoRow.holds Try.pinned (OpenSpec.upto deadSumsSpec)

/-- 'troupelaw09.DeadLast', WHERE WHAT IT READS IS OF BULK AT MOST 1048576: true; the input reads as it did. -/
def deadLastUptoRow : OpenClaim := { program := "ytpkphmemeapdfaa", sum := "7e0dc09e140c6391bfae13b24b6067de1d511156c22d5f97785bde3099208693", func := "troupe/troupelaw09.DeadLast", spec := "deadLast", apart := false, narrowed := true }
def DeadLastUptoSaid : Prop := deadLastUptoRow.holds Try.pinned (OpenSpec.upto deadLastSpec)

/-- 'troupelaw09.DeadKept', WHERE WHAT IT READS IS OF BULK AT MOST 1048576: true; the input reads as it did. -/
def deadKeptUptoRow : OpenClaim := { program := "ytpkphmemeapdfaa", sum := "7e0dc09e140c6391bfae13b24b6067de1d511156c22d5f97785bde3099208693", func := "troupe/troupelaw09.DeadKept", spec := "deadKept", apart := false, narrowed := true }
def DeadKeptUptoSaid : Prop := deadKeptUptoRow.holds Try.pinned (OpenSpec.upto deadKeptSpec)

end Rows
end Go.Proofs.Ytpkphmemeapdfaa
