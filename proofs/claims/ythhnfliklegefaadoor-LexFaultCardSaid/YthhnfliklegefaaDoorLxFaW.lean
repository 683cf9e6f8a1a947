/- LexFault's walk. -/
import Derived.Test.YthhnfliklegefaaDoorLxM
import Derived.Test.YthhnfliklegefaaDoorLxM5
namespace Go.Proofs.YthhnfliklegefaaDoor.Lx
open Go.RowKit Go.Proofs.YthhnfliklegefaaDoor

set_option maxRecDepth 100000 in
set_option maxHeartbeats 2000000 in
theorem fault_all (c q : Int) (w : World) (E : Env w) : Calls Tryd.prog 3 #[.int .i64 c, .int .i64 q] w fun e w' => e = .returned (.bool true) ∧ Below w.heap.size w w' := by
  have HE := Lib.hid E
  clear E
  go_enter Tryd.func3, Tryd.ntmps3
  go_wp2_with fail
  refine (alive_any w HE.out).mono ?_
  rintro e w1 ⟨rfl, o1⟩
  have h1 := heap_new w1 (.cells #[.int .i64 c, .int .i64 q] 26)
  have o2 : Only Nil w1 (w1.alloc (.cells #[.int .i64 c, .int .i64 q] 26)) := (Only.refl Nil w1).alloc _
  have F : Ft (w1.alloc (.cells #[.int .i64 c, .int .i64 q] 26)) w1.heap.size c q := ⟨by simp only [World.cell?, h1]; rfl, by simp only [World.cell?, h1]; rfl⟩
  obtain ⟨w2, hw2⟩ : ∃ w2, w2 = w1.alloc (.cells #[.int .i64 c, .int .i64 q] 26) := ⟨_, rfl⟩
  rw [← hw2] at F o2
  have HF := Lib.hid F
  have HO := Lib.hid (o1.trans o2)
  have E2 := Lib.hid (HE.out.keep HO.out)
  have HW := Lib.hid hw2
  generalize hb : w1.heap.size = b at *
  have HBb := Lib.hid hb
  clear F h1 o2 hw2 hb
  go_upto_region 4 with (fail)
  rw [HBb.out, ← HW.out]
  go_wp2_with fail
  refine (code_fault b c q w2 HF.out E2.out).mono ?_
  rintro e w3 ⟨rfl, o3⟩
  go_wp2_with fail
  refine (at_fault b c q w3 (HF.out.keep o3) (E2.out.keep o3)).mono ?_
  rintro e w4 ⟨rfl, o4⟩
  go_wp2_with fail
  refine (code_errno 4 w4 (E2.out.keep (o3.trans o4))).mono ?_
  rintro e w5 ⟨rfl, o5⟩
  go_wp2_with fail
  refine (at_errno 4 w5 (E2.out.keep ((o3.trans o4).trans o5))).mono ?_
  rintro e w6 ⟨rfl, o6⟩
  have F6 := Lib.hid (HF.out.keep (((o3.trans o4).trans o5).trans o6))
  go_wp2_with fail
  refine (is_fault b c w6 F6.out.code).mono ?_
  rintro e w7 ⟨rfl, rfl⟩
  go_wp2_with fail
  refine (unwrap_any b c w6 F6.out.code).mono ?_
  rintro e w7 ⟨rfl, rfl⟩
  go_wp2
  go_ret
  exact ⟨rfl, (HO.out.trans (((o3.trans o4).trans o5).trans o6)).below (Nat.le_refl _) (fun k h => h.elim)⟩
end Go.Proofs.YthhnfliklegefaaDoor.Lx
