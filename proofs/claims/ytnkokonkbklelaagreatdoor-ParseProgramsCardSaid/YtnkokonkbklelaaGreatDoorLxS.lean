/- lex: a string as its bytes. -/
import Derived.Test.YtnkokonkbklelaaGreatDoorLxP
namespace Go.Proofs.YtnkokonkbklelaaGreatDoor.Lx
open Go.RowKit Go.Proofs.YtnkokonkbklelaaGreatDoor

theorem at_string {P : Program} {f : FuncId} {w : World} {Q : Ending → World → Prop} (s : ByteArray) (h : Calls P f #[.string (bs s.data.toList)] w Q) : Calls P f #[.string s] w Q := by
  rw [bs_of] at h; exact h
theorem at_string3 {P : Program} {f : FuncId} {w : World} {Q : Ending → World → Prop} (s t u : ByteArray) (h : Calls P f #[.string (bs s.data.toList), .string (bs t.data.toList), .string (bs u.data.toList)] w Q) : Calls P f #[.string s, .string t, .string u] w Q := by
  rw [bs_of, bs_of, bs_of] at h; exact h
theorem at_string1 {P : Program} {f : FuncId} {w : World} {Q : Ending → World → Prop} {v : Value} (s : ByteArray) (h : Calls P f #[.string (bs s.data.toList), v] w Q) : Calls P f #[.string s, v] w Q := by
  rw [bs_of] at h; exact h
theorem at_string2 {P : Program} {f : FuncId} {w : World} {Q : Ending → World → Prop} (s t : ByteArray) (h : Calls P f #[.string (bs s.data.toList), .string (bs t.data.toList)] w Q) : Calls P f #[.string s, .string t] w Q := by
  rw [bs_of, bs_of] at h; exact h
end Go.Proofs.YtnkokonkbklelaaGreatDoor.Lx
