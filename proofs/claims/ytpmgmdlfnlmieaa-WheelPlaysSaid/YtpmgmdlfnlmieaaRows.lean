/-
  No cell of these rows narrows 'for every input' (looked for: loops, veiled, ifaces, maps, wideKeys, modest, calm, conditions, laid).
  DERIVED. THE GIVEN ROWS OF THIS SEAT. 6 by the template 'for every input the law returns true; each argument reads behind the call as it read before'; 0 by the template 'total and deterministic' (their statements: YtpmgmdlfnlmieaaTotals.lean).
  GIVEN WITH THE SEED: the statements are not yours to turn. If you find one false, say at which input.
  Laid BY PROGRAM, IN A SANDBOX (cutbox-rows.mjs): the forced cells as the released guide's own fill.sh prints them over the translation 9b65f37b930bb28b… (all of the seat's roots in one cut). By AI agents, Wed Nov 11 2026. No macro, syntax, notation, axiom, sorry.
-/
import Derived.Test.YtpmgmdlfnlmieaaChecked
import GoSem.Claim
import GoSem.ClaimJoined
import GoSem.ClaimMapViews
import Derived.JoinedTies
import Derived.KernelRfl
namespace Go.Proofs.Ytpmgmdlfnlmieaa
/- THE CELL 'sum', in the pinned program and in every row, IS THE sha256 OF THE DUMP (.gsa) THAT YtpmgmdlfnlmieaaProg.lean LOADS. Nothing in Lean hashes anything: it is a label: what it is worth is what the hold of that sum in a sandbox is worth. -/
noncomputable def Try.pinned : Pinned := { name := "ytpmgmdlfnlmieaa", sum := "9b65f37b930bb28b6909e20609d58ab163f9bd9223e2507c1c404c41ab535c91", checked := Try.checked }
namespace Rows
def none {H : Type} : Left H := { results := [], args := [] }

/-- 'troupelaw08.WheelPlays': WHATEVER THE INPUT: true; the input reads as it did. -/
def wheelPlaysSpec : ChangeSpec := { name := "wheelPlays", fn := fun _ => fun
  | [d] => { results := [.lit (.bool true)], args := [d] }
  | _ => none }
def wheelPlaysRow : OpenClaim := { program := "ytpmgmdlfnlmieaa", sum := "9b65f37b930bb28b6909e20609d58ab163f9bd9223e2507c1c404c41ab535c91", func := "troupe/troupelaw08.WheelPlays", spec := "wheelPlays", unfollowed := true, recurses := true, apart := false }
def WheelPlaysSaid : Prop := wheelPlaysRow.holds Try.pinned (OpenSpec.ofChange wheelPlaysSpec)

/-- ITS FALSE NEIGHBOUR: 'it returns false'. Refute it at one input. -/
def wheelPlaysWrong : ChangeSpec := { name := "wheelPlays", fn := fun _ => fun
  | [d] => { results := [.lit (.bool false)], args := [d] }
  | _ => none }
def WheelPlaysWrongFalsely : Prop := wheelPlaysRow.holds Try.pinned (OpenSpec.ofChange wheelPlaysWrong)

/-- 'troupelaw08.WheelOnTime': WHATEVER THE INPUT: true; the input reads as it did. -/
def wheelOnTimeSpec : ChangeSpec := { name := "wheelOnTime", fn := fun _ => fun
  | [d1, d2, d3] => { results := [.lit (.bool true)], args := [d1, d2, d3] }
  | _ => none }
def wheelOnTimeRow : OpenClaim := { program := "ytpmgmdlfnlmieaa", sum := "9b65f37b930bb28b6909e20609d58ab163f9bd9223e2507c1c404c41ab535c91", func := "troupe/troupelaw08.WheelOnTime", spec := "wheelOnTime", unfollowed := true, recurses := true, apart := false }
def WheelOnTimeSaid : Prop := wheelOnTimeRow.holds Try.pinned (OpenSpec.ofChange wheelOnTimeSpec)

/-- ITS FALSE NEIGHBOUR: 'it returns false'. Refute it at one input. -/
def wheelOnTimeWrong : ChangeSpec := { name := "wheelOnTime", fn := fun _ => fun
  | [d1, d2, d3] => { results := [.lit (.bool false)], args := [d1, d2, d3] }
  | _ => none }
def WheelOnTimeWrongFalsely : Prop := wheelOnTimeRow.holds Try.pinned (OpenSpec.ofChange wheelOnTimeWrong)

/-- 'troupelaw08.WheelDown': WHATEVER THE INPUT: true; the input reads as it did. -/
def wheelDownSpec : ChangeSpec := { name := "wheelDown", fn := fun _ => fun
  | [d1, d2] => { results := [.lit (.bool true)], args := [d1, d2] }
  | _ => none }
def wheelDownRow : OpenClaim := { program := "ytpmgmdlfnlmieaa", sum := "9b65f37b930bb28b6909e20609d58ab163f9bd9223e2507c1c404c41ab535c91", func := "troupe/troupelaw08.WheelDown", spec := "wheelDown", unfollowed := true, recurses := true, apart := false }
def WheelDownSaid : Prop := wheelDownRow.holds Try.pinned (OpenSpec.ofChange wheelDownSpec)

/-- ITS FALSE NEIGHBOUR: 'it returns false'. Refute it at one input. -/
def wheelDownWrong : ChangeSpec := { name := "wheelDown", fn := fun _ => fun
  | [d1, d2] => { results := [.lit (.bool false)], args := [d1, d2] }
  | _ => none }
def WheelDownWrongFalsely : Prop := wheelDownRow.holds Try.pinned (OpenSpec.ofChange wheelDownWrong)

/-- 'troupelaw08.WheelFull': WHATEVER THE INPUT: true; the input reads as it did. -/
def wheelFullSpec : ChangeSpec := { name := "wheelFull", fn := fun _ => fun
  | [d1, d2] => { results := [.lit (.bool true)], args := [d1, d2] }
  | _ => none }
def wheelFullRow : OpenClaim := { program := "ytpmgmdlfnlmieaa", sum := "9b65f37b930bb28b6909e20609d58ab163f9bd9223e2507c1c404c41ab535c91", func := "troupe/troupelaw08.WheelFull", spec := "wheelFull", unfollowed := true, recurses := true, apart := false }
def WheelFullSaid : Prop := wheelFullRow.holds Try.pinned (OpenSpec.ofChange wheelFullSpec)

/-- ITS FALSE NEIGHBOUR: 'it returns false'. Refute it at one input. -/
def wheelFullWrong : ChangeSpec := { name := "wheelFull", fn := fun _ => fun
  | [d1, d2] => { results := [.lit (.bool false)], args := [d1, d2] }
  | _ => none }
def WheelFullWrongFalsely : Prop := wheelFullRow.holds Try.pinned (OpenSpec.ofChange wheelFullWrong)

/-- 'troupelaw08.WheelBounds': WHATEVER THE INPUT: true; the input reads as it did. -/
def wheelBoundsSpec : ChangeSpec := { name := "wheelBounds", fn := fun _ => fun
  | [d1, d2] => { results := [.lit (.bool true)], args := [d1, d2] }
  | _ => none }
def wheelBoundsRow : OpenClaim := { program := "ytpmgmdlfnlmieaa", sum := "9b65f37b930bb28b6909e20609d58ab163f9bd9223e2507c1c404c41ab535c91", func := "troupe/troupelaw08.WheelBounds", spec := "wheelBounds", unfollowed := true, recurses := true, apart := false }
def WheelBoundsSaid : Prop := wheelBoundsRow.holds Try.pinned (OpenSpec.ofChange wheelBoundsSpec)

/-- ITS FALSE NEIGHBOUR: 'it returns false'. Refute it at one input. -/
def wheelBoundsWrong : ChangeSpec := { name := "wheelBounds", fn := fun _ => fun
  | [d1, d2] => { results := [.lit (.bool false)], args := [d1, d2] }
  | _ => none }
def WheelBoundsWrongFalsely : Prop := wheelBoundsRow.holds Try.pinned (OpenSpec.ofChange wheelBoundsWrong)

/-- 'troupelaw08.WheelApart': WHATEVER THE INPUT: true; the input reads as it did. -/
def wheelApartSpec : ChangeSpec := { name := "wheelApart", fn := fun _ => fun
  | [d1, d2, d3] => { results := [.lit (.bool true)], args := [d1, d2, d3] }
  | _ => none }
def wheelApartRow : OpenClaim := { program := "ytpmgmdlfnlmieaa", sum := "9b65f37b930bb28b6909e20609d58ab163f9bd9223e2507c1c404c41ab535c91", func := "troupe/troupelaw08.WheelApart", spec := "wheelApart", unfollowed := true, recurses := true, apart := false }
def WheelApartSaid : Prop := wheelApartRow.holds Try.pinned (OpenSpec.ofChange wheelApartSpec)

/-- ITS FALSE NEIGHBOUR: 'it returns false'. Refute it at one input. -/
def wheelApartWrong : ChangeSpec := { name := "wheelApart", fn := fun _ => fun
  | [d1, d2, d3] => { results := [.lit (.bool false)], args := [d1, d2, d3] }
  | _ => none }
def WheelApartWrongFalsely : Prop := wheelApartRow.holds Try.pinned (OpenSpec.ofChange wheelApartWrong)

/- THE SECOND FORM. 'bulk': how many values and letters a reading holds, each counted each time it is reached (what is shared counts as often as it is met; a slice's spare places count too). A statement '..UptoSaid' is the law's where the arguments, and the package variables that the reading takes, are together of bulk at most 1048576: NARROWER than '..Said'. Prove '..Said' where nothing that the law and all that it calls make is longer than what came in: it says more and counts as full. Else prove '..UptoSaid'. A law counts once. -/
mutual
def uptoBulk {H : Type} : DataW H → Nat
  | .lit (.string bytes) => bytes.length + 1
  | .lit _ => 1
  | .nil => 1
  | .ptr d => uptoBulk d + 1
  | .slice elems spare => uptoBulkAll elems + uptoBulkAll spare + 1
  | .agg parts => uptoBulkAll parts + 1
  | .iface _ d => uptoBulk d + 1
  | .map entries => uptoBulkEntries entries + 1
  | .held _ => 1
def uptoBulkAll {H : Type} : List (DataW H) → Nat
  | [] => 0
  | d :: r => uptoBulk d + uptoBulkAll r
def uptoBulkEntries {H : Type} : List (Lit × DataW H) → Nat
  | [] => 0
  | x :: r => uptoBulkEntry x + uptoBulkEntries r
def uptoBulkEntry {H : Type} : Lit × DataW H → Nat
  | (.string bytes, d) => bytes.length + uptoBulk d + 1
  | (_, d) => uptoBulk d + 1
 end
def uptoSmall : (H : Type) → List (DataW H) → Bool := fun _ ds => decide (uptoBulkAll ds ≤ 1048576)
def OpenSpec.upto (s : _root_.Go.ChangeSpec) : _root_.Go.OpenSpec := { _root_.Go.OpenSpec.ofChange s with cond := some uptoSmall }

/-- 'troupelaw08.WheelPlays', WHERE WHAT IT READS IS OF BULK AT MOST 1048576: true; the input reads as it did. -/
def wheelPlaysUptoRow : OpenClaim := { program := "ytpmgmdlfnlmieaa", sum := "9b65f37b930bb28b6909e20609d58ab163f9bd9223e2507c1c404c41ab535c91", func := "troupe/troupelaw08.WheelPlays", spec := "wheelPlays", unfollowed := true, recurses := true, apart := false, narrowed := true }
def WheelPlaysUptoSaid : Prop := wheelPlaysUptoRow.holds Try.pinned (OpenSpec.upto wheelPlaysSpec)

/-- 'troupelaw08.WheelOnTime', WHERE WHAT IT READS IS OF BULK AT MOST 1048576: true; the input reads as it did. -/
def wheelOnTimeUptoRow : OpenClaim := { program := "ytpmgmdlfnlmieaa", sum := "9b65f37b930bb28b6909e20609d58ab163f9bd9223e2507c1c404c41ab535c91", func := "troupe/troupelaw08.WheelOnTime", spec := "wheelOnTime", unfollowed := true, recurses := true, apart := false, narrowed := true }
def WheelOnTimeUptoSaid : Prop := wheelOnTimeUptoRow.holds Try.pinned (OpenSpec.upto wheelOnTimeSpec)

/-- 'troupelaw08.WheelDown', WHERE WHAT IT READS IS OF BULK AT MOST 1048576: true; the input reads as it did. -/
def wheelDownUptoRow : OpenClaim := { program := "ytpmgmdlfnlmieaa", sum := "9b65f37b930bb28b6909e20609d58ab163f9bd9223e2507c1c404c41ab535c91", func := "troupe/troupelaw08.WheelDown", spec := "wheelDown", unfollowed := true, recurses := true, apart := false, narrowed := true }
def WheelDownUptoSaid : Prop := wheelDownUptoRow.holds Try.pinned (OpenSpec.upto wheelDownSpec)

/-- 'troupelaw08.WheelFull', WHERE WHAT IT READS IS OF BULK AT MOST 1048576: true; the input reads as it did. -/
def wheelFullUptoRow : OpenClaim := { program := "ytpmgmdlfnlmieaa", sum := "9b65f37b930bb28b6909e20609d58ab163f9bd9223e2507c1c404c41ab535c91", func := "troupe/troupelaw08.WheelFull", spec := "wheelFull", unfollowed := true, recurses := true, apart := false, narrowed := true }
def WheelFullUptoSaid : Prop := wheelFullUptoRow.holds Try.pinned (OpenSpec.upto wheelFullSpec)

/-- 'troupelaw08.WheelBounds', WHERE WHAT IT READS IS OF BULK AT MOST 1048576: true; the input reads as it did. -/
def wheelBoundsUptoRow : OpenClaim := { program := "ytpmgmdlfnlmieaa", sum := "9b65f37b930bb28b6909e20609d58ab163f9bd9223e2507c1c404c41ab535c91", func := "troupe/troupelaw08.WheelBounds", spec := "wheelBounds", unfollowed := true, recurses := true, apart := false, narrowed := true }
def WheelBoundsUptoSaid : Prop := wheelBoundsUptoRow.holds Try.pinned (OpenSpec.upto wheelBoundsSpec)

/-- 'troupelaw08.WheelApart', WHERE WHAT IT READS IS OF BULK AT MOST 1048576: true; the input reads as it did. -/
def wheelApartUptoRow : OpenClaim := { program := "ytpmgmdlfnlmieaa", sum := "9b65f37b930bb28b6909e20609d58ab163f9bd9223e2507c1c404c41ab535c91", func := "troupe/troupelaw08.WheelApart", spec := "wheelApart", unfollowed := true, recurses := true, apart := false, narrowed := true }
def WheelApartUptoSaid : Prop := wheelApartUptoRow.holds Try.pinned (OpenSpec.upto wheelApartSpec)

end Rows
end Go.Proofs.Ytpmgmdlfnlmieaa
