/- lex: contracts: skipped text; letters and digits. -/
import Derived.Test.YtbicanlipgpioaaGreatDoorLxA
import Derived.Test.YtbicanlipgpioaaGreatDoorLxP
namespace Go.Proofs.YtbicanlipgpioaaGreatDoor.Lx
open Go.RowKit Go.Proofs.YtbicanlipgpioaaGreatDoor Go.Shelf

def strLen : Value → Nat
  | .string s => s.size
  | _ => 0

theorem trim_any (l : List UInt8) (w : World) : Calls Tryz.prog 19 #[.string (bs l), .string ⟨#[9, 10, 13, 32]⟩] w fun e w' => e = .returned (.string (bs (l.dropWhile isBl))) ∧ Only Nil w w' :=
  (Any.strings_TrimLeft_laid Tryz.lt (by kernel_rfl) (bs l) ⟨#[9, 10, 13, 32]⟩ w (by decide) (ascii_of_all (by decide))).mono fun _ _ ⟨h1, h2⟩ => ⟨by rw [h1, bs_list, trim_eq]; rfl, Only.ofBelow h2 _⟩
theorem hash_any (l : List UInt8) (w : World) : Calls Tryz.prog 20 #[.string (bs l), .string ⟨#[35]⟩] w fun e w' => e = .returned (.bool (Lib.hasPrefix l [35])) ∧ w = w' :=
  (Any.strings_HasPrefix Tryz.lh (bs l) ⟨#[35]⟩ w).mono fun _ _ ⟨h1, h2⟩ => ⟨by rw [h1, bs_list], h2.symm⟩
theorem index_any (l : List UInt8) (w : World) : Calls Tryz.prog 46 #[.string (bs l), .string ⟨#[10]⟩] w fun e w' => e = .returned (.int .i64 (Lib.indexByte l 10)) ∧ w = w' :=
  (Any.stringslite_Index_one Tryz.li (bs l) 10 w).mono fun _ _ ⟨h1, h2⟩ => ⟨by rw [h1, bs_list], h2.symm⟩
theorem clone_any (l : List UInt8) (w : World) (h : l.length ≤ 16384) : Calls Tryz.prog 49 #[.string (bs l)] w fun e w' => e = .returned (.string (bs l)) ∧ Only Nil w w' :=
  (Any.stringslite_Clone Tryz.lc (bs l) w (by rw [bs_size]; omega)).mono fun _ _ ⟨h1, h2⟩ => ⟨h1, Only.ofBelow h2 _⟩
theorem sclone_any (l : List UInt8) (w : World) (h : l.length ≤ 16384) : Calls Tryz.prog 37 #[.string (bs l)] w fun e w' => e = .returned (.string (bs l)) ∧ Only Nil w w' := by
  go_enter Tryz.func37, Tryz.ntmps37
  go_wp2_with (go_at_call 49; refine (clone_any l _ h).mono ?_; rintro e w' ⟨rfl, o⟩)
  go_ret
  exact ⟨rfl, o⟩

theorem isLetter_any (r : Int) (w : World) : Calls Tryz.prog 17 #[.int .i32 r] w fun e w' => e = .returned (.bool (decide (97 ≤ r) && decide (r ≤ 122))) ∧ w = w' := by
  by_cases h1 : 97 ≤ r <;> by_cases h2 : r ≤ 122 <;>
  · go_enter Tryz.func17, Tryz.ntmps17
    go_wp2
    go_ret
    exact ⟨by simp [h1, h2], rfl⟩
theorem isDigit_any (r : Int) (w : World) : Calls Tryz.prog 23 #[.int .i32 r] w fun e w' => e = .returned (.bool (decide (48 ≤ r) && decide (r ≤ 57))) ∧ w = w' := by
  by_cases h1 : 48 ≤ r <;> by_cases h2 : r ≤ 57 <;>
  · go_enter Tryz.func23, Tryz.ntmps23
    go_wp2
    go_ret
    exact ⟨by simp [h1, h2], rfl⟩
/-- Does a sign of the text end a name? -/
def ends (r : Int) : Bool := !(decide (97 ≤ r) && decide (r ≤ 122)) && !(decide (48 ≤ r) && decide (r ≤ 57)) && (r != 95)
theorem word1_any (r : Int) (w : World) : Calls Tryz.prog 29 #[.int .i32 r] w fun e w' => e = .returned (.bool (ends r)) ∧ w = w' := by
  have fin : ∀ b w', Ending.returned (.bool b) = .returned (.bool (ends r)) ∧ w = w' ↔ b = ends r ∧ w = w' := by intro b w'; simp
  generalize hL : (decide (97 ≤ r) && decide (r ≤ 122)) = bl
  generalize hD : (decide (48 ≤ r) && decide (r ≤ 57)) = bd
  have e : ends r = (!bl && !bd && (r != 95)) := by unfold ends; rw [hL, hD]
  have HL : Hid ((decide (97 ≤ r) && decide (r ≤ 122)) = bl) := Lib.hid hL
  have HD : Hid ((decide (48 ≤ r) && decide (r ≤ 57)) = bd) := Lib.hid hD
  have he := Lib.hid e
  clear hL hD e fin
  cases h5 : (r == 95) with
  | true =>
    obtain rfl : r = 95 := by simpa using h5
    clear h5
    cases bl <;> cases bd <;>
    · go_enter Tryz.func29, Tryz.ntmps29
      go_wp2_with (first
        | (go_at_call 17; refine (isLetter_any 95 _).mono ?_; rintro e w' ⟨rfl, rfl⟩; rw [HL.out])
        | (go_at_call 23; refine (isDigit_any 95 _).mono ?_; rintro e w' ⟨rfl, rfl⟩; rw [HD.out]))
      go_ret
      exact ⟨by rw [he.out]; simp, rfl⟩
  | false =>
    have h6 : (r != 95) = true := by simp [bne, h5]
    cases bl <;> cases bd <;>
    · go_enter Tryz.func29, Tryz.ntmps29
      go_wp2_with (first
        | (go_at_call 17; refine (isLetter_any r _).mono ?_; rintro e w' ⟨rfl, rfl⟩; rw [HL.out])
        | (go_at_call 23; refine (isDigit_any r _).mono ?_; rintro e w' ⟨rfl, rfl⟩; rw [HD.out]))
      go_ret
      exact ⟨by rw [he.out, h6]; rfl, rfl⟩
end Go.Proofs.YtbicanlipgpioaaGreatDoor.Lx
