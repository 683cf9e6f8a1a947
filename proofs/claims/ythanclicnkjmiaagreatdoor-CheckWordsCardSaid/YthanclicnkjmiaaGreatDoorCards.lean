/-
  DERIVED. GIVEN WITH THE SEED: THE CARDS: each row of YthanclicnkjmiaaGreatDoorRows.lean that lists a variable, with what it lists TIED to the program's text (the seventh form; the later family's looks); each row that meets fmt, with fmt's text TOLD by the authors' own Lean function (tested against real Go, not proved from fmt's source: count such statements apart). THE CARD IS WHAT COUNTS. Prove the row's statement (the work); the ties are given (YthanclicnkjmiaaGreatDoorTie.lean); close each card by the builder's one call (the guide's Derived/Test/ToyasCard.lean, 'card_holds'). Laid BY PROGRAM, IN A SANDBOX (cutbox-door.mjs). By AI agents, Wed Nov 11 2026. No macro, syntax, notation, axiom, sorry.
-/
import Derived.Test.YthanclicnkjmiaaGreatDoorRows
import GoSem.ClaimSeven
namespace Go.Proofs.YthanclicnkjmiaaGreatDoor
namespace Rows

/-- THE TIED CARD OF 'troupelaw13.ParsePrograms'. -/
def parseProgramsCard : Claim7 := { stood := { row := parseProgramsRow, standIns := [], harness := (true, "90fd5c0d4c582f03b4911e65d71e4cc8a727c593465be60f8f3ef33c14c2db9f"), looks := true }, kinds := [], alts := [], laidByText := true, laidKinds := [.data, .data, .data, .data, .handle, .sentinel, .sentinel, .pinned], laidTests := true, laidLooks := .later }
def ParseProgramsCardSaid : Prop := Claim7.holds Tryz.pinned (.plain (OpenSpec.ofChange parseProgramsSpec)) parseProgramsCard

/-- THE TIED CARD OF 'troupelaw14.CheckPrograms'. -/
def checkProgramsCard : Claim7 := { stood := { row := checkProgramsRow, standIns := [], harness := (true, "90fd5c0d4c582f03b4911e65d71e4cc8a727c593465be60f8f3ef33c14c2db9f"), looks := true }, kinds := [], alts := [], laidByText := true, laidKinds := [.handle], laidTests := true, laidLooks := .later }
def CheckProgramsCardSaid : Prop := Claim7.holds Tryz.pinned (.plain (OpenSpec.ofChange checkProgramsSpec)) checkProgramsCard

/-- THE TIED CARD OF 'troupelaw14.CheckWords'. -/
def checkWordsCard : Claim7 := { stood := { row := checkWordsRow, standIns := [], harness := (true, "90fd5c0d4c582f03b4911e65d71e4cc8a727c593465be60f8f3ef33c14c2db9f"), looks := true }, kinds := [], alts := [], laidByText := true, laidKinds := [.data, .data, .data, .handle], laidTests := true, laidLooks := .later }
def CheckWordsCardSaid : Prop := Claim7.holds Tryz.pinned (.plain (OpenSpec.ofChange checkWordsSpec)) checkWordsCard

/-- THE TIED CARD OF 'troupelaw14.CheckTwice'. -/
def checkTwiceCard : Claim7 := { stood := { row := checkTwiceRow, standIns := [], harness := (true, "90fd5c0d4c582f03b4911e65d71e4cc8a727c593465be60f8f3ef33c14c2db9f"), looks := true }, kinds := [], alts := [], laidByText := true, laidKinds := [.handle], laidTests := true, laidLooks := .later }
def CheckTwiceCardSaid : Prop := Claim7.holds Tryz.pinned (.plain (OpenSpec.ofChange checkTwiceSpec)) checkTwiceCard

/-- THE SECOND FORM's CARD OF 'troupelaw13.ParsePrograms'. -/
def parseProgramsUptoCard : Claim7 := { stood := { row := parseProgramsUptoRow, standIns := [], harness := (true, "90fd5c0d4c582f03b4911e65d71e4cc8a727c593465be60f8f3ef33c14c2db9f"), looks := true }, kinds := [], alts := [], laidByText := true, laidKinds := [.data, .data, .data, .data, .handle, .sentinel, .sentinel, .pinned], laidTests := true, laidLooks := .later }
def ParseProgramsUptoCardSaid : Prop := Claim7.holds Tryz.pinned (.plain (OpenSpec.upto parseProgramsSpec)) parseProgramsUptoCard

/-- THE SECOND FORM's CARD OF 'troupelaw14.CheckPrograms'. -/
def checkProgramsUptoCard : Claim7 := { stood := { row := checkProgramsUptoRow, standIns := [], harness := (true, "90fd5c0d4c582f03b4911e65d71e4cc8a727c593465be60f8f3ef33c14c2db9f"), looks := true }, kinds := [], alts := [], laidByText := true, laidKinds := [.handle], laidTests := true, laidLooks := .later }
def CheckProgramsUptoCardSaid : Prop := Claim7.holds Tryz.pinned (.plain (OpenSpec.upto checkProgramsSpec)) checkProgramsUptoCard

/-- THE SECOND FORM's CARD OF 'troupelaw14.CheckWords'. -/
def checkWordsUptoCard : Claim7 := { stood := { row := checkWordsUptoRow, standIns := [], harness := (true, "90fd5c0d4c582f03b4911e65d71e4cc8a727c593465be60f8f3ef33c14c2db9f"), looks := true }, kinds := [], alts := [], laidByText := true, laidKinds := [.data, .data, .data, .handle], laidTests := true, laidLooks := .later }
def CheckWordsUptoCardSaid : Prop := Claim7.holds Tryz.pinned (.plain (OpenSpec.upto checkWordsSpec)) checkWordsUptoCard

/-- THE SECOND FORM's CARD OF 'troupelaw14.CheckTwice'. -/
def checkTwiceUptoCard : Claim7 := { stood := { row := checkTwiceUptoRow, standIns := [], harness := (true, "90fd5c0d4c582f03b4911e65d71e4cc8a727c593465be60f8f3ef33c14c2db9f"), looks := true }, kinds := [], alts := [], laidByText := true, laidKinds := [.handle], laidTests := true, laidLooks := .later }
def CheckTwiceUptoCardSaid : Prop := Claim7.holds Tryz.pinned (.plain (OpenSpec.upto checkTwiceSpec)) checkTwiceUptoCard
end Rows
end Go.Proofs.YthanclicnkjmiaaGreatDoor
