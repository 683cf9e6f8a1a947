/-
  No cell of these rows narrows 'for every input' (looked for: loops, veiled, ifaces, maps, wideKeys, modest, calm, conditions, laid).
  DERIVED. THE GIVEN ROWS OF THIS SEAT. 5 by the template 'for every input the law returns true; each argument reads behind the call as it read before'; 0 by the template 'total and deterministic' (their statements: YtdhfmocjhcgicaaTotals.lean).
  GIVEN WITH THE SEED: the statements are not yours to turn. If you find one false, say at which input.
  Laid BY PROGRAM, IN A SANDBOX (cutbox-rows.mjs): the forced cells as the released guide's own fill.sh prints them over the translation 0e133d05e5086beb… (all of the seat's roots in one cut). By AI agents, Wed Nov 11 2026. No macro, syntax, notation, axiom, sorry.
-/
import Derived.Test.YtdhfmocjhcgicaaChecked
import GoSem.Claim
import GoSem.ClaimJoined
import GoSem.ClaimMapViews
import Derived.JoinedTies
import Derived.KernelRfl
namespace Go.Proofs.Ytdhfmocjhcgicaa
/- THE CELL 'sum', in the pinned program and in every row, IS THE sha256 OF THE DUMP (.gsa) THAT YtdhfmocjhcgicaaProg.lean LOADS. Nothing in Lean hashes anything: it is a label: what it is worth is what the hold of that sum in a sandbox is worth. -/
noncomputable def Try.pinned : Pinned := { name := "ytdhfmocjhcgicaa", sum := "0e133d05e5086beb902d04959567cb2b8c832990b050c055c40c7cf8b663a315", checked := Try.checked }
namespace Rows
def none {H : Type} : Left H := { results := [], args := [] }

/-- 'troupelaw11.StashPlays': WHATEVER THE INPUT: true; the input reads as it did. -/
def stashPlaysSpec : ChangeSpec := { name := "stashPlays", fn := fun _ => fun
  | [d1, d2] => { results := [.lit (.bool true)], args := [d1, d2] }
  | _ => none }
def stashPlaysRow : OpenClaim := { program := "ytdhfmocjhcgicaa", sum := "0e133d05e5086beb902d04959567cb2b8c832990b050c055c40c7cf8b663a315", func := "troupe/troupelaw11.StashPlays", spec := "stashPlays", unfollowed := true, recurses := true, apart := false }
def StashPlaysSaid : Prop := stashPlaysRow.holds Try.pinned (OpenSpec.ofChange stashPlaysSpec)

/-- ITS FALSE NEIGHBOUR: 'it returns false'. Refute it at one input. -/
def stashPlaysWrong : ChangeSpec := { name := "stashPlays", fn := fun _ => fun
  | [d1, d2] => { results := [.lit (.bool false)], args := [d1, d2] }
  | _ => none }
def StashPlaysWrongFalsely : Prop := stashPlaysRow.holds Try.pinned (OpenSpec.ofChange stashPlaysWrong)

/-- 'troupelaw11.StashOrder': WHATEVER THE INPUT: true; the input reads as it did. -/
def stashOrderSpec : ChangeSpec := { name := "stashOrder", fn := fun _ => fun
  | [d1, d2] => { results := [.lit (.bool true)], args := [d1, d2] }
  | _ => none }
def stashOrderRow : OpenClaim := { program := "ytdhfmocjhcgicaa", sum := "0e133d05e5086beb902d04959567cb2b8c832990b050c055c40c7cf8b663a315", func := "troupe/troupelaw11.StashOrder", spec := "stashOrder", unfollowed := true, recurses := true, apart := false }
def StashOrderSaid : Prop := stashOrderRow.holds Try.pinned (OpenSpec.ofChange stashOrderSpec)

/-- ITS FALSE NEIGHBOUR: 'it returns false'. Refute it at one input. -/
def stashOrderWrong : ChangeSpec := { name := "stashOrder", fn := fun _ => fun
  | [d1, d2] => { results := [.lit (.bool false)], args := [d1, d2] }
  | _ => none }
def StashOrderWrongFalsely : Prop := stashOrderRow.holds Try.pinned (OpenSpec.ofChange stashOrderWrong)

/-- 'troupelaw11.StashSums': WHATEVER THE INPUT: true; the input reads as it did. -/
def stashSumsSpec : ChangeSpec := { name := "stashSums", fn := fun _ => fun
  | [d1, d2, d3] => { results := [.lit (.bool true)], args := [d1, d2, d3] }
  | _ => none }
def stashSumsRow : OpenClaim := { program := "ytdhfmocjhcgicaa", sum := "0e133d05e5086beb902d04959567cb2b8c832990b050c055c40c7cf8b663a315", func := "troupe/troupelaw11.StashSums", spec := "stashSums", unfollowed := true, recurses := true, apart := false }
def StashSumsSaid : Prop := stashSumsRow.holds Try.pinned (OpenSpec.ofChange stashSumsSpec)

/-- ITS FALSE NEIGHBOUR: 'it returns false'. Refute it at one input. -/
def stashSumsWrong : ChangeSpec := { name := "stashSums", fn := fun _ => fun
  | [d1, d2, d3] => { results := [.lit (.bool false)], args := [d1, d2, d3] }
  | _ => none }
def StashSumsWrongFalsely : Prop := stashSumsRow.holds Try.pinned (OpenSpec.ofChange stashSumsWrong)

/-- 'troupelaw11.StashRoom': WHATEVER THE INPUT: true; the input reads as it did. -/
def stashRoomSpec : ChangeSpec := { name := "stashRoom", fn := fun _ => fun
  | [d1, d2] => { results := [.lit (.bool true)], args := [d1, d2] }
  | _ => none }
def stashRoomRow : OpenClaim := { program := "ytdhfmocjhcgicaa", sum := "0e133d05e5086beb902d04959567cb2b8c832990b050c055c40c7cf8b663a315", func := "troupe/troupelaw11.StashRoom", spec := "stashRoom", unfollowed := true, recurses := true, apart := false }
def StashRoomSaid : Prop := stashRoomRow.holds Try.pinned (OpenSpec.ofChange stashRoomSpec)

/-- ITS FALSE NEIGHBOUR: 'it returns false'. Refute it at one input. -/
def stashRoomWrong : ChangeSpec := { name := "stashRoom", fn := fun _ => fun
  | [d1, d2] => { results := [.lit (.bool false)], args := [d1, d2] }
  | _ => none }
def StashRoomWrongFalsely : Prop := stashRoomRow.holds Try.pinned (OpenSpec.ofChange stashRoomWrong)

/-- 'troupelaw11.StashKept': WHATEVER THE INPUT: true; the input reads as it did. -/
def stashKeptSpec : ChangeSpec := { name := "stashKept", fn := fun _ => fun
  | [d1, d2] => { results := [.lit (.bool true)], args := [d1, d2] }
  | _ => none }
def stashKeptRow : OpenClaim := { program := "ytdhfmocjhcgicaa", sum := "0e133d05e5086beb902d04959567cb2b8c832990b050c055c40c7cf8b663a315", func := "troupe/troupelaw11.StashKept", spec := "stashKept", unfollowed := true, recurses := true, apart := false }
def StashKeptSaid : Prop := stashKeptRow.holds Try.pinned (OpenSpec.ofChange stashKeptSpec)

/-- ITS FALSE NEIGHBOUR: 'it returns false'. Refute it at one input. -/
def stashKeptWrong : ChangeSpec := { name := "stashKept", fn := fun _ => fun
  | [d1, d2] => { results := [.lit (.bool false)], args := [d1, d2] }
  | _ => none }
def StashKeptWrongFalsely : Prop := stashKeptRow.holds Try.pinned (OpenSpec.ofChange stashKeptWrong)

/- THE SECOND FORM. 'bulk': how many values and letters a reading holds, each counted each time it is reached (what is shared counts as often as it is met; a slice's spare places count too). A statement '..UptoSaid' is the law's where the arguments, and the package variables that the reading takes, are together of bulk at most 1048576: NARROWER than '..Said'. Prove '..Said' where nothing that the law and all that it calls make is longer than what came in: it says more and counts as full. Else prove '..UptoSaid'. A law counts once. -/
mutual
def uptoBulk {H : Type} : DataW H → Nat
  | .lit (.string bytes) => bytes.length + 1
  | .lit _ => 1
  | .nil => 1
  | .ptr d => uptoBulk d + 1
  | .slice elems spare => uptoBulkAll elems + uptoBulkAll spare + 1
  | .agg parts => uptoBulkAll parts + 1
  | .iface _ d => uptoBulk d + 1
  | .map entries => uptoBulkEntries entries + 1
  | .held _ => 1
def uptoBulkAll {H : Type} : List (DataW H) → Nat
  | [] => 0
  | d :: r => uptoBulk d + uptoBulkAll r
def uptoBulkEntries {H : Type} : List (Lit × DataW H) → Nat
  | [] => 0
  | x :: r => uptoBulkEntry x + uptoBulkEntries r
def uptoBulkEntry {H : Type} : Lit × DataW H → Nat
  | (.string bytes, d) => bytes.length + uptoBulk d + 1
  | (_, d) => uptoBulk d + 1
 end
def uptoSmall : (H : Type) → List (DataW H) → Bool := fun _ ds => decide (uptoBulkAll ds ≤ 1048576)
def OpenSpec.upto (s : _root_.Go.ChangeSpec) : _root_.Go.OpenSpec := { _root_.Go.OpenSpec.ofChange s with cond := some uptoSmall }

/-- 'troupelaw11.StashPlays', WHERE WHAT IT READS IS OF BULK AT MOST 1048576: true; the input reads as it did. -/
def stashPlaysUptoRow : OpenClaim := { program := "ytdhfmocjhcgicaa", sum := "0e133d05e5086beb902d04959567cb2b8c832990b050c055c40c7cf8b663a315", func := "troupe/troupelaw11.StashPlays", spec := "stashPlays", unfollowed := true, recurses := true, apart := false, narrowed := true }
def StashPlaysUptoSaid : Prop := stashPlaysUptoRow.holds Try.pinned (OpenSpec.upto stashPlaysSpec)

/-- 'troupelaw11.StashOrder', WHERE WHAT IT READS IS OF BULK AT MOST 1048576: true; the input reads as it did. -/
def stashOrderUptoRow : OpenClaim := { program := "ytdhfmocjhcgicaa", sum := "0e133d05e5086beb902d04959567cb2b8c832990b050c055c40c7cf8b663a315", func := "troupe/troupelaw11.StashOrder", spec := "stashOrder", unfollowed := true, recurses := true, apart := false, narrowed := true }
def StashOrderUptoSaid : Prop := stashOrderUptoRow.holds Try.pinned (OpenSpec.upto stashOrderSpec)

/-- 'troupelaw11.StashSums', WHERE WHAT IT READS IS OF BULK AT MOST 1048576: true; the input reads as it did. -/
def stashSumsUptoRow : OpenClaim := { program := "ytdhfmocjhcgicaa", sum := "0e133d05e5086beb902d04959567cb2b8c832990b050c055c40c7cf8b663a315", func := "troupe/troupelaw11.StashSums", spec := "stashSums", unfollowed := true, recurses := true, apart := false, narrowed := true }
def StashSumsUptoSaid : Prop := stashSumsUptoRow.holds Try.pinned (OpenSpec.upto stashSumsSpec)

/-- 'troupelaw11.StashRoom', WHERE WHAT IT READS IS OF BULK AT MOST 1048576: true; the input reads as it did. -/
def stashRoomUptoRow : OpenClaim := { program := "ytdhfmocjhcgicaa", sum := "0e133d05e5086beb902d04959567cb2b8c832990b050c055c40c7cf8b663a315", func := "troupe/troupelaw11.StashRoom", spec := "stashRoom", unfollowed := true, recurses := true, apart := false, narrowed := true }
def StashRoomUptoSaid : Prop := stashRoomUptoRow.holds Try.pinned (OpenSpec.upto stashRoomSpec)

/-- 'troupelaw11.StashKept', WHERE WHAT IT READS IS OF BULK AT MOST 1048576: true; the input reads as it did. -/
def stashKeptUptoRow : OpenClaim := { program := "ytdhfmocjhcgicaa", sum := "0e133d05e5086beb902d04959567cb2b8c832990b050c055c40c7cf8b663a315", func := "troupe/troupelaw11.StashKept", spec := "stashKept", unfollowed := true, recurses := true, apart := false, narrowed := true }
def StashKeptUptoSaid : Prop := stashKeptUptoRow.holds Try.pinned (OpenSpec.upto stashKeptSpec)

end Rows
end Go.Proofs.Ytdhfmocjhcgicaa
