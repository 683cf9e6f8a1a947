/-
  No cell of these rows narrows 'for every input' (looked for: loops, veiled, ifaces, maps, wideKeys, modest, calm, conditions, laid).
  DERIVED. THE GIVEN ROWS OF THIS SEAT. 5 by the template 'for every input the law returns true; each argument reads behind the call as it read before'; 0 by the template 'total and deterministic' (their statements: YtmkcmncbiancgaaTotals.lean).
  GIVEN WITH THE SEED: the statements are not yours to turn. If you find one false, say at which input.
  Laid BY PROGRAM, IN A SANDBOX (cutbox-rows.mjs): the forced cells as the released guide's own fill.sh prints them over the translation 73f3e3d5ef555f32… (all of the seat's roots in one cut). By AI agents, Wed Nov 11 2026. No macro, syntax, notation, axiom, sorry.
-/
import Derived.Test.YtmkcmncbiancgaaChecked
import GoSem.Claim
import GoSem.ClaimJoined
import GoSem.ClaimMapViews
import Derived.JoinedTies
import Derived.KernelRfl
namespace Go.Proofs.Ytmkcmncbiancgaa
/- THE CELL 'sum', in the pinned program and in every row, IS THE sha256 OF THE DUMP (.gsa) THAT YtmkcmncbiancgaaProg.lean LOADS. Nothing in Lean hashes anything: it is a label: what it is worth is what the hold of that sum in a sandbox is worth. -/
noncomputable def Try.pinned : Pinned := { name := "ytmkcmncbiancgaa", sum := "73f3e3d5ef555f325af437286f38b9d1f1a654db045c3ac584afe04b1ee9baa8", checked := Try.checked }
namespace Rows
def none {H : Type} : Left H := { results := [], args := [] }

/-- 'troupelaw18.PostMakes': WHATEVER THE INPUT: true; the input reads as it did. -/
def postMakesSpec : ChangeSpec := { name := "postMakes", fn := fun _ => fun
  | [d1, d2, d3, d4] => { results := [.lit (.bool true)], args := [d1, d2, d3, d4] }
  | _ => none }
def postMakesRow : OpenClaim := { program := "ytmkcmncbiancgaa", sum := "73f3e3d5ef555f325af437286f38b9d1f1a654db045c3ac584afe04b1ee9baa8", func := "troupe/troupelaw18.PostMakes", spec := "postMakes", unfollowed := true, recurses := true, apart := false }
def PostMakesSaid : Prop := postMakesRow.holds Try.pinned (OpenSpec.ofChange postMakesSpec)

/-- ITS FALSE NEIGHBOUR: 'it returns false'. Refute it at one input. -/
def postMakesWrong : ChangeSpec := { name := "postMakes", fn := fun _ => fun
  | [d1, d2, d3, d4] => { results := [.lit (.bool false)], args := [d1, d2, d3, d4] }
  | _ => none }
def PostMakesWrongFalsely : Prop := postMakesRow.holds Try.pinned (OpenSpec.ofChange postMakesWrong)

/-- 'troupelaw18.PostCharge': WHATEVER THE INPUT: true; the input reads as it did. -/
def postChargeSpec : ChangeSpec := { name := "postCharge", fn := fun _ => fun
  | [d1, d2, d3] => { results := [.lit (.bool true)], args := [d1, d2, d3] }
  | _ => none }
def postChargeRow : OpenClaim := { program := "ytmkcmncbiancgaa", sum := "73f3e3d5ef555f325af437286f38b9d1f1a654db045c3ac584afe04b1ee9baa8", func := "troupe/troupelaw18.PostCharge", spec := "postCharge", unfollowed := true, recurses := true, apart := false }
def PostChargeSaid : Prop := postChargeRow.holds Try.pinned (OpenSpec.ofChange postChargeSpec)

/-- ITS FALSE NEIGHBOUR: 'it returns false'. Refute it at one input. -/
def postChargeWrong : ChangeSpec := { name := "postCharge", fn := fun _ => fun
  | [d1, d2, d3] => { results := [.lit (.bool false)], args := [d1, d2, d3] }
  | _ => none }
def PostChargeWrongFalsely : Prop := postChargeRow.holds Try.pinned (OpenSpec.ofChange postChargeWrong)

/-- 'troupelaw18.PostHeld': WHATEVER THE INPUT: true; the input reads as it did. -/
def postHeldSpec : ChangeSpec := { name := "postHeld", fn := fun _ => fun
  | [d1, d2, d3] => { results := [.lit (.bool true)], args := [d1, d2, d3] }
  | _ => none }
def postHeldRow : OpenClaim := { program := "ytmkcmncbiancgaa", sum := "73f3e3d5ef555f325af437286f38b9d1f1a654db045c3ac584afe04b1ee9baa8", func := "troupe/troupelaw18.PostHeld", spec := "postHeld", unfollowed := true, recurses := true, apart := false }
def PostHeldSaid : Prop := postHeldRow.holds Try.pinned (OpenSpec.ofChange postHeldSpec)

/-- ITS FALSE NEIGHBOUR: 'it returns false'. Refute it at one input. -/
def postHeldWrong : ChangeSpec := { name := "postHeld", fn := fun _ => fun
  | [d1, d2, d3] => { results := [.lit (.bool false)], args := [d1, d2, d3] }
  | _ => none }
def PostHeldWrongFalsely : Prop := postHeldRow.holds Try.pinned (OpenSpec.ofChange postHeldWrong)

/-- 'troupelaw18.PostAsks': WHATEVER THE INPUT: true; the input reads as it did. -/
def postAsksSpec : ChangeSpec := { name := "postAsks", fn := fun _ => fun
  | [d1, d2] => { results := [.lit (.bool true)], args := [d1, d2] }
  | _ => none }
def postAsksRow : OpenClaim := { program := "ytmkcmncbiancgaa", sum := "73f3e3d5ef555f325af437286f38b9d1f1a654db045c3ac584afe04b1ee9baa8", func := "troupe/troupelaw18.PostAsks", spec := "postAsks", unfollowed := true, recurses := true, apart := false }
def PostAsksSaid : Prop := postAsksRow.holds Try.pinned (OpenSpec.ofChange postAsksSpec)

/-- ITS FALSE NEIGHBOUR: 'it returns false'. Refute it at one input. -/
def postAsksWrong : ChangeSpec := { name := "postAsks", fn := fun _ => fun
  | [d1, d2] => { results := [.lit (.bool false)], args := [d1, d2] }
  | _ => none }
def PostAsksWrongFalsely : Prop := postAsksRow.holds Try.pinned (OpenSpec.ofChange postAsksWrong)

/-- 'troupelaw18.PostShuts': WHATEVER THE INPUT: true; the input reads as it did. -/
def postShutsSpec : ChangeSpec := { name := "postShuts", fn := fun _ => fun
  | [d1, d2] => { results := [.lit (.bool true)], args := [d1, d2] }
  | _ => none }
def postShutsRow : OpenClaim := { program := "ytmkcmncbiancgaa", sum := "73f3e3d5ef555f325af437286f38b9d1f1a654db045c3ac584afe04b1ee9baa8", func := "troupe/troupelaw18.PostShuts", spec := "postShuts", unfollowed := true, recurses := true, apart := false }
def PostShutsSaid : Prop := postShutsRow.holds Try.pinned (OpenSpec.ofChange postShutsSpec)

/-- ITS FALSE NEIGHBOUR: 'it returns false'. Refute it at one input. -/
def postShutsWrong : ChangeSpec := { name := "postShuts", fn := fun _ => fun
  | [d1, d2] => { results := [.lit (.bool false)], args := [d1, d2] }
  | _ => none }
def PostShutsWrongFalsely : Prop := postShutsRow.holds Try.pinned (OpenSpec.ofChange postShutsWrong)

/- THE SECOND FORM. 'bulk': how many values and letters a reading holds, each counted each time it is reached (what is shared counts as often as it is met; a slice's spare places count too). A statement '..UptoSaid' is the law's where the arguments, and the package variables that the reading takes, are together of bulk at most 1048576: NARROWER than '..Said'. Prove '..Said' where nothing that the law and all that it calls make is longer than what came in: it says more and counts as full. Else prove '..UptoSaid'. A law counts once. -/
mutual
def uptoBulk {H : Type} : DataW H → Nat
  | .lit (.string bytes) => bytes.length + 1
  | .lit _ => 1
  | .nil => 1
  | .ptr d => uptoBulk d + 1
  | .slice elems spare => uptoBulkAll elems + uptoBulkAll spare + 1
  | .agg parts => uptoBulkAll parts + 1
  | .iface _ d => uptoBulk d + 1
  | .map entries => uptoBulkEntries entries + 1
  | .held _ => 1
def uptoBulkAll {H : Type} : List (DataW H) → Nat
  | [] => 0
  | d :: r => uptoBulk d + uptoBulkAll r
def uptoBulkEntries {H : Type} : List (Lit × DataW H) → Nat
  | [] => 0
  | x :: r => uptoBulkEntry x + uptoBulkEntries r
def uptoBulkEntry {H : Type} : Lit × DataW H → Nat
  | (.string bytes, d) => bytes.length + uptoBulk d + 1
  | (_, d) => uptoBulk d + 1
 end
def uptoSmall : (H : Type) → List (DataW H) → Bool := fun _ ds => decide (uptoBulkAll ds ≤ 1048576)
def OpenSpec.upto (s : _root_.Go.ChangeSpec) : _root_.Go.OpenSpec := { _root_.Go.OpenSpec.ofChange s with cond := some uptoSmall }

/-- 'troupelaw18.PostMakes', WHERE WHAT IT READS IS OF BULK AT MOST 1048576: true; the input reads as it did. -/
def postMakesUptoRow : OpenClaim := { program := "ytmkcmncbiancgaa", sum := "73f3e3d5ef555f325af437286f38b9d1f1a654db045c3ac584afe04b1ee9baa8", func := "troupe/troupelaw18.PostMakes", spec := "postMakes", unfollowed := true, recurses := true, apart := false, narrowed := true }
def PostMakesUptoSaid : Prop := postMakesUptoRow.holds Try.pinned (OpenSpec.upto postMakesSpec)

/-- 'troupelaw18.PostCharge', WHERE WHAT IT READS IS OF BULK AT MOST 1048576: true; the input reads as it did. -/
def postChargeUptoRow : OpenClaim := { program := "ytmkcmncbiancgaa", sum := "73f3e3d5ef555f325af437286f38b9d1f1a654db045c3ac584afe04b1ee9baa8", func := "troupe/troupelaw18.PostCharge", spec := "postCharge", unfollowed := true, recurses := true, apart := false, narrowed := true }
def PostChargeUptoSaid : Prop := postChargeUptoRow.holds Try.pinned (OpenSpec.upto postChargeSpec)

/-- 'troupelaw18.PostHeld', WHERE WHAT IT READS IS OF BULK AT MOST 1048576: true; the input reads as it did. -/
def postHeldUptoRow : OpenClaim := { program := "ytmkcmncbiancgaa", sum := "73f3e3d5ef555f325af437286f38b9d1f1a654db045c3ac584afe04b1ee9baa8", func := "troupe/troupelaw18.PostHeld", spec := "postHeld", unfollowed := true, recurses := true, apart := false, narrowed := true }
def PostHeldUptoSaid : Prop := postHeldUptoRow.holds Try.pinned (OpenSpec.upto postHeldSpec)

/-- 'troupelaw18.PostAsks', WHERE WHAT IT READS IS OF BULK AT MOST 1048576: true; the input reads as it did. -/
def postAsksUptoRow : OpenClaim := { program := "ytmkcmncbiancgaa", sum := "73f3e3d5ef555f325af437286f38b9d1f1a654db045c3ac584afe04b1ee9baa8", func := "troupe/troupelaw18.PostAsks", spec := "postAsks", unfollowed := true, recurses := true, apart := false, narrowed := true }
def PostAsksUptoSaid : Prop := postAsksUptoRow.holds Try.pinned (OpenSpec.upto postAsksSpec)

/-- 'troupelaw18.PostShuts', WHERE WHAT IT READS IS OF BULK AT MOST 1048576: true; the input reads as it did. -/
def postShutsUptoRow : OpenClaim := { program := "ytmkcmncbiancgaa", sum := "73f3e3d5ef555f325af437286f38b9d1f1a654db045c3ac584afe04b1ee9baa8", func := "troupe/troupelaw18.PostShuts", spec := "postShuts", unfollowed := true, recurses := true, apart := false, narrowed := true }
def PostShutsUptoSaid : Prop := postShutsUptoRow.holds Try.pinned (OpenSpec.upto postShutsSpec)

end Rows
end Go.Proofs.Ytmkcmncbiancgaa
