/-
  No cell of these rows narrows 'for every input' (looked for: loops, veiled, ifaces, maps, wideKeys, modest, calm, conditions, laid).
  DERIVED. THE GIVEN ROWS OF THIS SEAT. 5 by the template 'for every input the law returns true; each argument reads behind the call as it read before'; 0 by the template 'total and deterministic' (their statements: YteafdhpnkgebnaaTotals.lean).
  GIVEN WITH THE SEED: the statements are not yours to turn. If you find one false, say at which input.
  Laid BY PROGRAM, IN A SANDBOX (cutbox-rows.mjs): the forced cells as the released guide's own fill.sh prints them over the translation ea3def2822fa1fd8… (all of the seat's roots in one cut). By AI agents, Wed Nov 11 2026. No macro, syntax, notation, axiom, sorry.
-/
import Derived.Test.YteafdhpnkgebnaaChecked
import GoSem.Claim
import GoSem.ClaimJoined
import GoSem.ClaimMapViews
import Derived.JoinedTies
import Derived.KernelRfl
namespace Go.Proofs.Yteafdhpnkgebnaa
/- THE CELL 'sum', in the pinned program and in every row, IS THE sha256 OF THE DUMP (.gsa) THAT YteafdhpnkgebnaaProg.lean LOADS. Nothing in Lean hashes anything: it is a label: what it is worth is what the hold of that sum in a sandbox is worth. -/
noncomputable def Try.pinned : Pinned := { name := "yteafdhpnkgebnaa", sum := "ea3def2822fa1fd8ce5ed9c647ab1fad0dd9a64cf2c3289a148e56c03c4d6317", checked := Try.checked }
namespace Rows
def none {H : Type} : Left H := { results := [], args := [] }

/-- 'troupelaw16.MercyPlays': WHATEVER THE INPUT: true; the input reads as it did. -/
def mercyPlaysSpec : ChangeSpec := { name := "mercyPlays", fn := fun _ => fun
  | [d1, d2, d3] => { results := [.lit (.bool true)], args := [d1, d2, d3] }
  | _ => none }
def mercyPlaysRow : OpenClaim := { program := "yteafdhpnkgebnaa", sum := "ea3def2822fa1fd8ce5ed9c647ab1fad0dd9a64cf2c3289a148e56c03c4d6317", func := "troupe/troupelaw16.MercyPlays", spec := "mercyPlays", inPlace := ["slices.overlaps[int64]"], unfollowed := true, recurses := true, apart := false }
def MercyPlaysSaid : Prop := mercyPlaysRow.holds Try.pinned (OpenSpec.ofChange mercyPlaysSpec)

/-- ITS FALSE NEIGHBOUR: 'it returns false'. Refute it at one input. -/
def mercyPlaysWrong : ChangeSpec := { name := "mercyPlays", fn := fun _ => fun
  | [d1, d2, d3] => { results := [.lit (.bool false)], args := [d1, d2, d3] }
  | _ => none }
def MercyPlaysWrongFalsely : Prop := mercyPlaysRow.holds Try.pinned (OpenSpec.ofChange mercyPlaysWrong)

/-- 'troupelaw16.MercyCases': WHATEVER THE INPUT: true; the input reads as it did. -/
def mercyCasesSpec : ChangeSpec := { name := "mercyCases", fn := fun _ => fun
  | [d1, d2] => { results := [.lit (.bool true)], args := [d1, d2] }
  | _ => none }
def mercyCasesRow : OpenClaim := { program := "yteafdhpnkgebnaa", sum := "ea3def2822fa1fd8ce5ed9c647ab1fad0dd9a64cf2c3289a148e56c03c4d6317", func := "troupe/troupelaw16.MercyCases", spec := "mercyCases", inPlace := ["slices.overlaps[int64]"], unfollowed := true, recurses := true, apart := false }
def MercyCasesSaid : Prop := mercyCasesRow.holds Try.pinned (OpenSpec.ofChange mercyCasesSpec)

/-- ITS FALSE NEIGHBOUR: 'it returns false'. Refute it at one input. -/
def mercyCasesWrong : ChangeSpec := { name := "mercyCases", fn := fun _ => fun
  | [d1, d2] => { results := [.lit (.bool false)], args := [d1, d2] }
  | _ => none }
def MercyCasesWrongFalsely : Prop := mercyCasesRow.holds Try.pinned (OpenSpec.ofChange mercyCasesWrong)

/-- 'troupelaw16.MercyWindow': WHATEVER THE INPUT: true; the input reads as it did. -/
def mercyWindowSpec : ChangeSpec := { name := "mercyWindow", fn := fun _ => fun
  | [d1, d2, d3] => { results := [.lit (.bool true)], args := [d1, d2, d3] }
  | _ => none }
def mercyWindowRow : OpenClaim := { program := "yteafdhpnkgebnaa", sum := "ea3def2822fa1fd8ce5ed9c647ab1fad0dd9a64cf2c3289a148e56c03c4d6317", func := "troupe/troupelaw16.MercyWindow", spec := "mercyWindow", inPlace := ["slices.overlaps[int64]"], unfollowed := true, recurses := true, apart := false }
def MercyWindowSaid : Prop := mercyWindowRow.holds Try.pinned (OpenSpec.ofChange mercyWindowSpec)

/-- ITS FALSE NEIGHBOUR: 'it returns false'. Refute it at one input. -/
def mercyWindowWrong : ChangeSpec := { name := "mercyWindow", fn := fun _ => fun
  | [d1, d2, d3] => { results := [.lit (.bool false)], args := [d1, d2, d3] }
  | _ => none }
def MercyWindowWrongFalsely : Prop := mercyWindowRow.holds Try.pinned (OpenSpec.ofChange mercyWindowWrong)

/-- 'troupelaw16.MercyApart': WHATEVER THE INPUT: true; the input reads as it did. -/
def mercyApartSpec : ChangeSpec := { name := "mercyApart", fn := fun _ => fun
  | [d1, d2, d3, d4, d5] => { results := [.lit (.bool true)], args := [d1, d2, d3, d4, d5] }
  | _ => none }
def mercyApartRow : OpenClaim := { program := "yteafdhpnkgebnaa", sum := "ea3def2822fa1fd8ce5ed9c647ab1fad0dd9a64cf2c3289a148e56c03c4d6317", func := "troupe/troupelaw16.MercyApart", spec := "mercyApart", inPlace := ["slices.overlaps[int64]"], unfollowed := true, recurses := true, apart := false }
def MercyApartSaid : Prop := mercyApartRow.holds Try.pinned (OpenSpec.ofChange mercyApartSpec)

/-- ITS FALSE NEIGHBOUR: 'it returns false'. Refute it at one input. -/
def mercyApartWrong : ChangeSpec := { name := "mercyApart", fn := fun _ => fun
  | [d1, d2, d3, d4, d5] => { results := [.lit (.bool false)], args := [d1, d2, d3, d4, d5] }
  | _ => none }
def MercyApartWrongFalsely : Prop := mercyApartRow.holds Try.pinned (OpenSpec.ofChange mercyApartWrong)

/-- 'troupelaw16.MercyForgets': WHATEVER THE INPUT: true; the input reads as it did. -/
def mercyForgetsSpec : ChangeSpec := { name := "mercyForgets", fn := fun _ => fun
  | [d1, d2, d3, d4, d5] => { results := [.lit (.bool true)], args := [d1, d2, d3, d4, d5] }
  | _ => none }
def mercyForgetsRow : OpenClaim := { program := "yteafdhpnkgebnaa", sum := "ea3def2822fa1fd8ce5ed9c647ab1fad0dd9a64cf2c3289a148e56c03c4d6317", func := "troupe/troupelaw16.MercyForgets", spec := "mercyForgets", inPlace := ["slices.overlaps[int64]"], unfollowed := true, recurses := true, apart := false }
def MercyForgetsSaid : Prop := mercyForgetsRow.holds Try.pinned (OpenSpec.ofChange mercyForgetsSpec)

/-- ITS FALSE NEIGHBOUR: 'it returns false'. Refute it at one input. -/
def mercyForgetsWrong : ChangeSpec := { name := "mercyForgets", fn := fun _ => fun
  | [d1, d2, d3, d4, d5] => { results := [.lit (.bool false)], args := [d1, d2, d3, d4, d5] }
  | _ => none }
def MercyForgetsWrongFalsely : Prop := mercyForgetsRow.holds Try.pinned (OpenSpec.ofChange mercyForgetsWrong)

/- THE SECOND FORM. 'bulk': how many values and letters a reading holds, each counted each time it is reached (what is shared counts as often as it is met; a slice's spare places count too). A statement '..UptoSaid' is the law's where the arguments, and the package variables that the reading takes, are together of bulk at most 1048576: NARROWER than '..Said'. Prove '..Said' where nothing that the law and all that it calls make is longer than what came in: it says more and counts as full. Else prove '..UptoSaid'. A law counts once. -/
mutual
def uptoBulk {H : Type} : DataW H → Nat
  | .lit (.string bytes) => bytes.length + 1
  | .lit _ => 1
  | .nil => 1
  | .ptr d => uptoBulk d + 1
  | .slice elems spare => uptoBulkAll elems + uptoBulkAll spare + 1
  | .agg parts => uptoBulkAll parts + 1
  | .iface _ d => uptoBulk d + 1
  | .map entries => uptoBulkEntries entries + 1
  | .held _ => 1
def uptoBulkAll {H : Type} : List (DataW H) → Nat
  | [] => 0
  | d :: r => uptoBulk d + uptoBulkAll r
def uptoBulkEntries {H : Type} : List (Lit × DataW H) → Nat
  | [] => 0
  | x :: r => uptoBulkEntry x + uptoBulkEntries r
def uptoBulkEntry {H : Type} : Lit × DataW H → Nat
  | (.string bytes, d) => bytes.length + uptoBulk d + 1
  | (_, d) => uptoBulk d + 1
 end
def uptoSmall : (H : Type) → List (DataW H) → Bool := fun _ ds => decide (uptoBulkAll ds ≤ 1048576)
def OpenSpec.upto (s : _root_.Go.ChangeSpec) : _root_.Go.OpenSpec := { _root_.Go.OpenSpec.ofChange s with cond := some uptoSmall }

/-- 'troupelaw16.MercyPlays', WHERE WHAT IT READS IS OF BULK AT MOST 1048576: true; the input reads as it did. -/
def mercyPlaysUptoRow : OpenClaim := { program := "yteafdhpnkgebnaa", sum := "ea3def2822fa1fd8ce5ed9c647ab1fad0dd9a64cf2c3289a148e56c03c4d6317", func := "troupe/troupelaw16.MercyPlays", spec := "mercyPlays", inPlace := ["slices.overlaps[int64]"], unfollowed := true, recurses := true, apart := false, narrowed := true }
def MercyPlaysUptoSaid : Prop := mercyPlaysUptoRow.holds Try.pinned (OpenSpec.upto mercyPlaysSpec)

/-- 'troupelaw16.MercyCases', WHERE WHAT IT READS IS OF BULK AT MOST 1048576: true; the input reads as it did. -/
def mercyCasesUptoRow : OpenClaim := { program := "yteafdhpnkgebnaa", sum := "ea3def2822fa1fd8ce5ed9c647ab1fad0dd9a64cf2c3289a148e56c03c4d6317", func := "troupe/troupelaw16.MercyCases", spec := "mercyCases", inPlace := ["slices.overlaps[int64]"], unfollowed := true, recurses := true, apart := false, narrowed := true }
def MercyCasesUptoSaid : Prop := mercyCasesUptoRow.holds Try.pinned (OpenSpec.upto mercyCasesSpec)

/-- 'troupelaw16.MercyWindow', WHERE WHAT IT READS IS OF BULK AT MOST 1048576: true; the input reads as it did. -/
def mercyWindowUptoRow : OpenClaim := { program := "yteafdhpnkgebnaa", sum := "ea3def2822fa1fd8ce5ed9c647ab1fad0dd9a64cf2c3289a148e56c03c4d6317", func := "troupe/troupelaw16.MercyWindow", spec := "mercyWindow", inPlace := ["slices.overlaps[int64]"], unfollowed := true, recurses := true, apart := false, narrowed := true }
def MercyWindowUptoSaid : Prop := mercyWindowUptoRow.holds Try.pinned (OpenSpec.upto mercyWindowSpec)

/-- 'troupelaw16.MercyApart', WHERE WHAT IT READS IS OF BULK AT MOST 1048576: true; the input reads as it did. -/
def mercyApartUptoRow : OpenClaim := { program := "yteafdhpnkgebnaa", sum := "ea3def2822fa1fd8ce5ed9c647ab1fad0dd9a64cf2c3289a148e56c03c4d6317", func := "troupe/troupelaw16.MercyApart", spec := "mercyApart", inPlace := ["slices.overlaps[int64]"], unfollowed := true, recurses := true, apart := false, narrowed := true }
def MercyApartUptoSaid : Prop := mercyApartUptoRow.holds Try.pinned (OpenSpec.upto mercyApartSpec)

/-- 'troupelaw16.MercyForgets', WHERE WHAT IT READS IS OF BULK AT MOST 1048576: true; the input reads as it did. -/
def mercyForgetsUptoRow : OpenClaim := { program := "yteafdhpnkgebnaa", sum := "ea3def2822fa1fd8ce5ed9c647ab1fad0dd9a64cf2c3289a148e56c03c4d6317", func := "troupe/troupelaw16.MercyForgets", spec := "mercyForgets", inPlace := ["slices.overlaps[int64]"], unfollowed := true, recurses := true, apart := false, narrowed := true }
def MercyForgetsUptoSaid : Prop := mercyForgetsUptoRow.holds Try.pinned (OpenSpec.upto mercyForgetsSpec)

end Rows
end Go.Proofs.Yteafdhpnkgebnaa
