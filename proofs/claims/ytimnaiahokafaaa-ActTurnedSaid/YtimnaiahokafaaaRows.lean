/-
  No cell of these rows narrows 'for every input' (looked for: loops, veiled, ifaces, maps, wideKeys, modest, calm, conditions, laid).
  DERIVED. THE GIVEN ROWS OF THIS SEAT. 8 by the template 'for every input the law returns true; each argument reads behind the call as it read before'; 0 by the template 'total and deterministic' (their statements: YtimnaiahokafaaaTotals.lean).
  GIVEN WITH THE SEED: the statements are not yours to turn. If you find one false, say at which input.
  Laid BY PROGRAM, IN A SANDBOX (cutbox-rows.mjs): the forced cells as the released guide's own fill.sh prints them over the translation 3ae97062290001d0… (all of the seat's roots in one cut). By AI agents, Wed Nov 11 2026. No macro, syntax, notation, axiom, sorry.
-/
import Derived.Test.YtimnaiahokafaaaChecked
import GoSem.Claim
import GoSem.ClaimJoined
import GoSem.ClaimMapViews
import Derived.JoinedTies
import Derived.KernelRfl
namespace Go.Proofs.Ytimnaiahokafaaa
/- THE CELL 'sum', in the pinned program and in every row, IS THE sha256 OF THE DUMP (.gsa) THAT YtimnaiahokafaaaProg.lean LOADS. Nothing in Lean hashes anything: it is a label: what it is worth is what the hold of that sum in a sandbox is worth. -/
noncomputable def Try.pinned : Pinned := { name := "ytimnaiahokafaaa", sum := "3ae97062290001d06207c5b71edda7c9ea7c0f6b5914ce0def0ad28537b0d456", checked := Try.checked }
namespace Rows
def none {H : Type} : Left H := { results := [], args := [] }

/-- 'troupelaw15.ActPlans': WHATEVER THE INPUT: true; the input reads as it did. -/
def actPlansSpec : ChangeSpec := { name := "actPlans", fn := fun _ => fun
  | [d1, d2, d3, d4] => { results := [.lit (.bool true)], args := [d1, d2, d3, d4] }
  | _ => none }
def actPlansRow : OpenClaim := { program := "ytimnaiahokafaaa", sum := "3ae97062290001d06207c5b71edda7c9ea7c0f6b5914ce0def0ad28537b0d456", func := "troupe/troupelaw15.ActPlans", spec := "actPlans", unfollowed := true, recurses := true, apart := false }
def ActPlansSaid : Prop := actPlansRow.holds Try.pinned (OpenSpec.ofChange actPlansSpec)

/-- ITS FALSE NEIGHBOUR: 'it returns false'. Refute it at one input. -/
def actPlansWrong : ChangeSpec := { name := "actPlans", fn := fun _ => fun
  | [d1, d2, d3, d4] => { results := [.lit (.bool false)], args := [d1, d2, d3, d4] }
  | _ => none }
def ActPlansWrongFalsely : Prop := actPlansRow.holds Try.pinned (OpenSpec.ofChange actPlansWrong)

/-- 'troupelaw15.ActRows': WHATEVER THE INPUT: true; the input reads as it did. -/
def actRowsSpec : ChangeSpec := { name := "actRows", fn := fun _ => fun
  | [d1, d2, d3, d4, d5] => { results := [.lit (.bool true)], args := [d1, d2, d3, d4, d5] }
  | _ => none }
def actRowsRow : OpenClaim := { program := "ytimnaiahokafaaa", sum := "3ae97062290001d06207c5b71edda7c9ea7c0f6b5914ce0def0ad28537b0d456", func := "troupe/troupelaw15.ActRows", spec := "actRows", unfollowed := true, recurses := true, apart := false }
def ActRowsSaid : Prop := actRowsRow.holds Try.pinned (OpenSpec.ofChange actRowsSpec)

/-- ITS FALSE NEIGHBOUR: 'it returns false'. Refute it at one input. -/
def actRowsWrong : ChangeSpec := { name := "actRows", fn := fun _ => fun
  | [d1, d2, d3, d4, d5] => { results := [.lit (.bool false)], args := [d1, d2, d3, d4, d5] }
  | _ => none }
def ActRowsWrongFalsely : Prop := actRowsRow.holds Try.pinned (OpenSpec.ofChange actRowsWrong)

/-- 'troupelaw15.ActWords': WHATEVER THE INPUT: true; the input reads as it did. -/
def actWordsSpec : ChangeSpec := { name := "actWords", fn := fun _ => fun
  | [d1, d2, d3, d4, d5] => { results := [.lit (.bool true)], args := [d1, d2, d3, d4, d5] }
  | _ => none }
def actWordsRow : OpenClaim := { program := "ytimnaiahokafaaa", sum := "3ae97062290001d06207c5b71edda7c9ea7c0f6b5914ce0def0ad28537b0d456", func := "troupe/troupelaw15.ActWords", spec := "actWords", unfollowed := true, recurses := true, apart := false }
def ActWordsSaid : Prop := actWordsRow.holds Try.pinned (OpenSpec.ofChange actWordsSpec)

/-- ITS FALSE NEIGHBOUR: 'it returns false'. Refute it at one input. -/
def actWordsWrong : ChangeSpec := { name := "actWords", fn := fun _ => fun
  | [d1, d2, d3, d4, d5] => { results := [.lit (.bool false)], args := [d1, d2, d3, d4, d5] }
  | _ => none }
def ActWordsWrongFalsely : Prop := actWordsRow.holds Try.pinned (OpenSpec.ofChange actWordsWrong)

/-- 'troupelaw15.ActNamed': WHATEVER THE INPUT: true; the input reads as it did. -/
def actNamedSpec : ChangeSpec := { name := "actNamed", fn := fun _ => fun
  | [d1, d2, d3, d4] => { results := [.lit (.bool true)], args := [d1, d2, d3, d4] }
  | _ => none }
def actNamedRow : OpenClaim := { program := "ytimnaiahokafaaa", sum := "3ae97062290001d06207c5b71edda7c9ea7c0f6b5914ce0def0ad28537b0d456", func := "troupe/troupelaw15.ActNamed", spec := "actNamed", unfollowed := true, recurses := true, apart := false }
def ActNamedSaid : Prop := actNamedRow.holds Try.pinned (OpenSpec.ofChange actNamedSpec)

/-- ITS FALSE NEIGHBOUR: 'it returns false'. Refute it at one input. -/
def actNamedWrong : ChangeSpec := { name := "actNamed", fn := fun _ => fun
  | [d1, d2, d3, d4] => { results := [.lit (.bool false)], args := [d1, d2, d3, d4] }
  | _ => none }
def ActNamedWrongFalsely : Prop := actNamedRow.holds Try.pinned (OpenSpec.ofChange actNamedWrong)

/-- 'troupelaw15.ActTurned': WHATEVER THE INPUT: true; the input reads as it did. -/
def actTurnedSpec : ChangeSpec := { name := "actTurned", fn := fun _ => fun
  | [d1, d2, d3, d4, d5] => { results := [.lit (.bool true)], args := [d1, d2, d3, d4, d5] }
  | _ => none }
def actTurnedRow : OpenClaim := { program := "ytimnaiahokafaaa", sum := "3ae97062290001d06207c5b71edda7c9ea7c0f6b5914ce0def0ad28537b0d456", func := "troupe/troupelaw15.ActTurned", spec := "actTurned", unfollowed := true, recurses := true, apart := false }
def ActTurnedSaid : Prop := actTurnedRow.holds Try.pinned (OpenSpec.ofChange actTurnedSpec)

/-- ITS FALSE NEIGHBOUR: 'it returns false'. Refute it at one input. -/
def actTurnedWrong : ChangeSpec := { name := "actTurned", fn := fun _ => fun
  | [d1, d2, d3, d4, d5] => { results := [.lit (.bool false)], args := [d1, d2, d3, d4, d5] }
  | _ => none }
def ActTurnedWrongFalsely : Prop := actTurnedRow.holds Try.pinned (OpenSpec.ofChange actTurnedWrong)

/-- 'troupelaw15.ActEnds': WHATEVER THE INPUT: true; the input reads as it did. -/
def actEndsSpec : ChangeSpec := { name := "actEnds", fn := fun _ => fun
  | [d1, d2, d3, d4] => { results := [.lit (.bool true)], args := [d1, d2, d3, d4] }
  | _ => none }
def actEndsRow : OpenClaim := { program := "ytimnaiahokafaaa", sum := "3ae97062290001d06207c5b71edda7c9ea7c0f6b5914ce0def0ad28537b0d456", func := "troupe/troupelaw15.ActEnds", spec := "actEnds", unfollowed := true, recurses := true, apart := false }
def ActEndsSaid : Prop := actEndsRow.holds Try.pinned (OpenSpec.ofChange actEndsSpec)

/-- ITS FALSE NEIGHBOUR: 'it returns false'. Refute it at one input. -/
def actEndsWrong : ChangeSpec := { name := "actEnds", fn := fun _ => fun
  | [d1, d2, d3, d4] => { results := [.lit (.bool false)], args := [d1, d2, d3, d4] }
  | _ => none }
def ActEndsWrongFalsely : Prop := actEndsRow.holds Try.pinned (OpenSpec.ofChange actEndsWrong)

/-- 'troupelaw15.ActFalls': WHATEVER THE INPUT: true; the input reads as it did. -/
def actFallsSpec : ChangeSpec := { name := "actFalls", fn := fun _ => fun
  | [d] => { results := [.lit (.bool true)], args := [d] }
  | _ => none }
def actFallsRow : OpenClaim := { program := "ytimnaiahokafaaa", sum := "3ae97062290001d06207c5b71edda7c9ea7c0f6b5914ce0def0ad28537b0d456", func := "troupe/troupelaw15.ActFalls", spec := "actFalls", unfollowed := true, recurses := true, apart := false }
def ActFallsSaid : Prop := actFallsRow.holds Try.pinned (OpenSpec.ofChange actFallsSpec)

/-- ITS FALSE NEIGHBOUR: 'it returns false'. Refute it at one input. -/
def actFallsWrong : ChangeSpec := { name := "actFalls", fn := fun _ => fun
  | [d] => { results := [.lit (.bool false)], args := [d] }
  | _ => none }
def ActFallsWrongFalsely : Prop := actFallsRow.holds Try.pinned (OpenSpec.ofChange actFallsWrong)

/-- 'troupelaw15.ActKept': WHATEVER THE INPUT: true; the input reads as it did. -/
def actKeptSpec : ChangeSpec := { name := "actKept", fn := fun _ => fun
  | [d1, d2, d3, d4] => { results := [.lit (.bool true)], args := [d1, d2, d3, d4] }
  | _ => none }
def actKeptRow : OpenClaim := { program := "ytimnaiahokafaaa", sum := "3ae97062290001d06207c5b71edda7c9ea7c0f6b5914ce0def0ad28537b0d456", func := "troupe/troupelaw15.ActKept", spec := "actKept", unfollowed := true, recurses := true, apart := false }
def ActKeptSaid : Prop := actKeptRow.holds Try.pinned (OpenSpec.ofChange actKeptSpec)

/-- ITS FALSE NEIGHBOUR: 'it returns false'. Refute it at one input. -/
def actKeptWrong : ChangeSpec := { name := "actKept", fn := fun _ => fun
  | [d1, d2, d3, d4] => { results := [.lit (.bool false)], args := [d1, d2, d3, d4] }
  | _ => none }
def ActKeptWrongFalsely : Prop := actKeptRow.holds Try.pinned (OpenSpec.ofChange actKeptWrong)

/- THE SECOND FORM. 'bulk': how many values and letters a reading holds, each counted each time it is reached (what is shared counts as often as it is met; a slice's spare places count too). A statement '..UptoSaid' is the law's where the arguments, and the package variables that the reading takes, are together of bulk at most 1048576: NARROWER than '..Said'. Prove '..Said' where nothing that the law and all that it calls make is longer than what came in: it says more and counts as full. Else prove '..UptoSaid'. A law counts once. -/
mutual
def uptoBulk {H : Type} : DataW H → Nat
  | .lit (.string bytes) => bytes.length + 1
  | .lit _ => 1
  | .nil => 1
  | .ptr d => uptoBulk d + 1
  | .slice elems spare => uptoBulkAll elems + uptoBulkAll spare + 1
  | .agg parts => uptoBulkAll parts + 1
  | .iface _ d => uptoBulk d + 1
  | .map entries => uptoBulkEntries entries + 1
  | .held _ => 1
def uptoBulkAll {H : Type} : List (DataW H) → Nat
  | [] => 0
  | d :: r => uptoBulk d + uptoBulkAll r
def uptoBulkEntries {H : Type} : List (Lit × DataW H) → Nat
  | [] => 0
  | x :: r => uptoBulkEntry x + uptoBulkEntries r
def uptoBulkEntry {H : Type} : Lit × DataW H → Nat
  | (.string bytes, d) => bytes.length + uptoBulk d + 1
  | (_, d) => uptoBulk d + 1
 end
def uptoSmall : (H : Type) → List (DataW H) → Bool := fun _ ds => decide (uptoBulkAll ds ≤ 1048576)
def OpenSpec.upto (s : _root_.Go.ChangeSpec) : _root_.Go.OpenSpec := { _root_.Go.OpenSpec.ofChange s with cond := some uptoSmall }

/-- 'troupelaw15.ActPlans', WHERE WHAT IT READS IS OF BULK AT MOST 1048576: true; the input reads as it did. -/
def actPlansUptoRow : OpenClaim := { program := "ytimnaiahokafaaa", sum := "3ae97062290001d06207c5b71edda7c9ea7c0f6b5914ce0def0ad28537b0d456", func := "troupe/troupelaw15.ActPlans", spec := "actPlans", unfollowed := true, recurses := true, apart := false, narrowed := true }
def ActPlansUptoSaid : Prop := actPlansUptoRow.holds Try.pinned (OpenSpec.upto actPlansSpec)

/-- 'troupelaw15.ActRows', WHERE WHAT IT READS IS OF BULK AT MOST 1048576: true; the input reads as it did. -/
def actRowsUptoRow : OpenClaim := { program := "ytimnaiahokafaaa", sum := "3ae97062290001d06207c5b71edda7c9ea7c0f6b5914ce0def0ad28537b0d456", func := "troupe/troupelaw15.ActRows", spec := "actRows", unfollowed := true, recurses := true, apart := false, narrowed := true }
def ActRowsUptoSaid : Prop := actRowsUptoRow.holds Try.pinned (OpenSpec.upto actRowsSpec)

/-- 'troupelaw15.ActWords', WHERE WHAT IT READS IS OF BULK AT MOST 1048576: true; the input reads as it did. -/
def actWordsUptoRow : OpenClaim := { program := "ytimnaiahokafaaa", sum := "3ae97062290001d06207c5b71edda7c9ea7c0f6b5914ce0def0ad28537b0d456", func := "troupe/troupelaw15.ActWords", spec := "actWords", unfollowed := true, recurses := true, apart := false, narrowed := true }
def ActWordsUptoSaid : Prop := actWordsUptoRow.holds Try.pinned (OpenSpec.upto actWordsSpec)

/-- 'troupelaw15.ActNamed', WHERE WHAT IT READS IS OF BULK AT MOST 1048576: true; the input reads as it did. -/
def actNamedUptoRow : OpenClaim := { program := "ytimnaiahokafaaa", sum := "3ae97062290001d06207c5b71edda7c9ea7c0f6b5914ce0def0ad28537b0d456", func := "troupe/troupelaw15.ActNamed", spec := "actNamed", unfollowed := true, recurses := true, apart := false, narrowed := true }
def ActNamedUptoSaid : Prop := actNamedUptoRow.holds Try.pinned (OpenSpec.upto actNamedSpec)

/-- 'troupelaw15.ActTurned', WHERE WHAT IT READS IS OF BULK AT MOST 1048576: true; the input reads as it did. -/
def actTurnedUptoRow : OpenClaim := { program := "ytimnaiahokafaaa", sum := "3ae97062290001d06207c5b71edda7c9ea7c0f6b5914ce0def0ad28537b0d456", func := "troupe/troupelaw15.ActTurned", spec := "actTurned", unfollowed := true, recurses := true, apart := false, narrowed := true }
def ActTurnedUptoSaid : Prop := actTurnedUptoRow.holds Try.pinned (OpenSpec.upto actTurnedSpec)

/-- 'troupelaw15.ActEnds', WHERE WHAT IT READS IS OF BULK AT MOST 1048576: true; the input reads as it did. -/
def actEndsUptoRow : OpenClaim := { program := "ytimnaiahokafaaa", sum := "3ae97062290001d06207c5b71edda7c9ea7c0f6b5914ce0def0ad28537b0d456", func := "troupe/troupelaw15.ActEnds", spec := "actEnds", unfollowed := true, recurses := true, apart := false, narrowed := true }
def ActEndsUptoSaid : Prop := actEndsUptoRow.holds Try.pinned (OpenSpec.upto actEndsSpec)

/-- 'troupelaw15.ActFalls', WHERE WHAT IT READS IS OF BULK AT MOST 1048576: true; the input reads as it did. -/
def actFallsUptoRow : OpenClaim := { program := "ytimnaiahokafaaa", sum := "3ae97062290001d06207c5b71edda7c9ea7c0f6b5914ce0def0ad28537b0d456", func := "troupe/troupelaw15.ActFalls", spec := "actFalls", unfollowed := true, recurses := true, apart := false, narrowed := true }
def ActFallsUptoSaid : Prop := actFallsUptoRow.holds Try.pinned (OpenSpec.upto actFallsSpec)

/-- 'troupelaw15.ActKept', WHERE WHAT IT READS IS OF BULK AT MOST 1048576: true; the input reads as it did. -/
def actKeptUptoRow : OpenClaim := { program := "ytimnaiahokafaaa", sum := "3ae97062290001d06207c5b71edda7c9ea7c0f6b5914ce0def0ad28537b0d456", func := "troupe/troupelaw15.ActKept", spec := "actKept", unfollowed := true, recurses := true, apart := false, narrowed := true }
def ActKeptUptoSaid : Prop := actKeptUptoRow.holds Try.pinned (OpenSpec.upto actKeptSpec)

end Rows
end Go.Proofs.Ytimnaiahokafaaa
