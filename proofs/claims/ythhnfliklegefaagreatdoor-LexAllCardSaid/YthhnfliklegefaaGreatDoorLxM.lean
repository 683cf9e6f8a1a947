/- lex: alive. -/
import Derived.Test.YthhnfliklegefaaGreatDoorLxM3
namespace Go.Proofs.YthhnfliklegefaaGreatDoor.Lx
open Go.RowKit Go.Proofs.YthhnfliklegefaaGreatDoor Go.Shelf

def t1 : List UInt8 := [111, 110, 32, 97, 49, 32, 123, 32, 48, 55, 59, 32, 125, 32, 35, 32, 120]
def x1 : List (Tok × Nat) := [(⟨1, [111, 110], 0⟩, 0), (⟨1, [97, 49], 0⟩, 3), (⟨3, [123], 0⟩, 6), (⟨2, [48, 55], 7⟩, 8), (⟨3, [59], 0⟩, 10), (⟨3, [125], 0⟩, 12)]
theorem whole1 : whole t1 = (x1, 0, 0) := by decide +kernel
theorem whole2 : (whole [97, 36]).2 = (20, 1) := by decide +kernel
theorem whole3 : (whole [54, 53, 53, 51, 54]).2 = (21, 0) := by decide +kernel

set_option maxRecDepth 100000 in
set_option maxHeartbeats 2000000 in
theorem alive_any (w : World) (E : Env w) : Calls Tryz.prog 9 #[] w fun e w' => e = .returned (.bool true) ∧ Only Nil w w' := by
  have HE := Lib.hid E
  clear E
  go_enter Tryz.func9, Tryz.ntmps9
  go_wp2_with fail
  refine (all_ok t1 w (by decide) HE.out (by rw [whole1]) x1 (by rw [whole1]) 6 rfl).mono ?_
  rintro e w1 ⟨a, c, rfl, R1⟩
  have HR := Lib.hid R1
  obtain ⟨g, ha, _, hc⟩ := (R1.rin rfl) 0 (by decide)
  subst ha
  obtain ⟨d0, d1, d2, d3⟩ := hc 3 (by decide)
  have c0 : w1.cell? ⟨g, 12, none⟩ = some (.int .i64 2) := d0
  have c1 : w1.cell? ⟨g, 13, none⟩ = some (.string ⟨#[48, 55]⟩) := d1
  have c2 : w1.cell? ⟨g, 14, none⟩ = some (.int .i64 7) := d2
  have c3 : w1.cell? ⟨g, 15, none⟩ = some (.int .i64 8) := d3
  clear hc R1 d0 d1 d2 d3
  go_wp2_with fail
  refine (all_err [97, 36] w1 (by decide) (HE.out.keep HR.out.only) 20 1 whole2 (by decide)).mono ?_
  rintro e w2 ⟨b2, rfl, F2, o2⟩
  go_wp2_with fail
  refine (all_err [54, 53, 53, 51, 54] w2 (by decide) (HE.out.keep (HR.out.only.trans o2)) 21 0 whole3 (by decide)).mono ?_
  rintro e w3 ⟨b3, rfl, F3, o3⟩
  have E3 := Lib.hid (HE.out.keep ((HR.out.only.trans o2).trans o3))
  have F2' := Lib.hid (F2.keep o3)
  have F3' := Lib.hid F3
  clear F2 F3 c0 c1 c2 c3
  go_wp2_with fail
  refine (code_fault b2 20 1 w3 F2'.out E3.out).mono ?_
  rintro e w4 ⟨rfl, o4⟩
  go_wp2_with fail
  refine (at_fault b2 20 1 w4 (F2'.out.keep o4) (E3.out.keep o4)).mono ?_
  rintro e w5 ⟨rfl, o5⟩
  go_wp2_with fail
  refine (code_fault b3 21 0 w5 (F3'.out.keep (o4.trans o5)) (E3.out.keep (o4.trans o5))).mono ?_
  rintro e w6 ⟨rfl, o6⟩
  go_wp2_with fail
  refine (code_nil w6).mono ?_
  rintro e w7 ⟨rfl, o7⟩
  go_wp2_with fail
  refine (at_nil w7 (E3.out.keep (((o4.trans o5).trans o6).trans o7))).mono ?_
  rintro e w8 ⟨rfl, o8⟩
  go_wp2
  go_ret
  exact ⟨rfl, (((((((HR.out.only.trans o2).trans o3).trans o4).trans o5).trans o6).trans o7).trans o8)⟩
end Go.Proofs.YthhnfliklegefaaGreatDoor.Lx
