/- lex: the document's Name; LexNames' walk. -/
import Derived.Test.YthhnfliklegefaaGreatDoorLxNaW
import Derived.Test.YthhnfliklegefaaGreatDoorLxNr
namespace Go.Proofs.YthhnfliklegefaaGreatDoor.Lx
open Go.RowKit Go.Proofs.YthhnfliklegefaaGreatDoor

/-- What LexNames asks of the tokens. -/
def oneB (X : List (Tok × Nat)) (l : List UInt8) : Prop := ∃ t q, X = [(t, q)] ∧ t.k = 1 ∧ t.w = l
theorem k_ne {k : Nat} (h : k ≠ 1) : ((k : Int) == 1) = false := by rw [beq_eq_false_iff_ne]; omega

set_option maxRecDepth 100000 in
set_option maxHeartbeats 2000000 in
/-- The three calls behind what All answered. -/
theorem names_yes (l : List UInt8) (w : World) (hl : l.length ≤ 140737488355328) (E : Env w) (h : isNm l = true) : Calls Tryz.prog 4 #[.string (bs l)] w fun e w' => e = .returned (.bool true) ∧ Below w.heap.size w w' := by
  have HE := Lib.hid E
  have hw := whole_nm h
  have HA := Lib.hid (fun (w : World) (E : Env w) => all_ok l w hl E (by rw [hw]) [(⟨1, l, 0⟩, 0)] (by rw [hw]) 1 rfl)
  have HN : Hid (∀ w, Calls Tryz.prog 15 #[.string (bs l)] w fun e w' => e = .returned (.bool true) ∧ Only Nil w w') := Lib.hid fun w => by rw [← h]; exact name_any l w hl
  have HR : Hid (∀ w, Calls Tryz.prog 16 #[.string (bs l)] w fun e w' => e = .returned (.bool true) ∧ Only Nil w w') := Lib.hid fun w => by rw [← h]; exact rname_any l w hl
  clear E hw h
  go_enter Tryz.func4, Tryz.ntmps4
  go_wp2_with fail
  refine (alive_any w HE.out).mono ?_
  rintro e w1 ⟨rfl, o1⟩
  go_wp2_with fail
  refine (HA.out w1 (HE.out.keep o1)).mono ?_
  rintro e w2 ⟨a, c, rfl, R⟩
  have o2 := R.only
  obtain ⟨g, ha, _, hc⟩ := (R.rin rfl) 0 (by simp)
  subst ha
  obtain ⟨d0, d1, _, _⟩ := hc 0 (by simp)
  have c0 : w2.cell? ⟨g, 0, none⟩ = some (.int .i64 1) := d0
  have c1 : w2.cell? ⟨g, 1, none⟩ = some (.string (bs l)) := d1
  clear d0 d1 hc R
  go_wp2_with fail
  refine (HN.out w2).mono ?_
  rintro e w3 ⟨rfl, o3⟩
  go_wp2_with fail
  refine (HR.out w3).mono ?_
  rintro e w4 ⟨rfl, o4⟩
  go_wp2_with fail
  refine (HN.out w4).mono ?_
  rintro e w5 ⟨rfl, o5⟩
  go_wp2
  go_ret
  exact ⟨rfl, ((((o1.trans o2).trans o3).trans o4).trans o5).below (Nat.le_refl _) (fun k h => h.elim)⟩
set_option maxRecDepth 100000 in
set_option maxHeartbeats 2000000 in
theorem names_bad (l : List UInt8) (w : World) (hl : l.length ≤ 140737488355328) (E : Env w) (h : isNm l = false) (h0 : (whole l).2.1 ≠ 0) : Calls Tryz.prog 4 #[.string (bs l)] w fun e w' => e = .returned (.bool true) ∧ Below w.heap.size w w' := by
  have HE := Lib.hid E
  have HA := Lib.hid (fun (w : World) (E : Env w) => all_err l w hl E (whole l).2.1 (whole l).2.2 rfl h0)
  have HN : Hid (∀ w, Calls Tryz.prog 15 #[.string (bs l)] w fun e w' => e = .returned (.bool false) ∧ Only Nil w w') := Lib.hid fun w => by rw [← h]; exact name_any l w hl
  have HR : Hid (∀ w, Calls Tryz.prog 16 #[.string (bs l)] w fun e w' => e = .returned (.bool false) ∧ Only Nil w w') := Lib.hid fun w => by rw [← h]; exact rname_any l w hl
  clear E h h0
  generalize (whole l).2.1 = z at *
  generalize (whole l).2.2 = q at *
  go_enter Tryz.func4, Tryz.ntmps4
  go_wp2_with fail
  refine (alive_any w HE.out).mono ?_
  rintro e w1 ⟨rfl, o1⟩
  go_wp2_with fail
  refine (HA.out w1 (HE.out.keep o1)).mono ?_
  rintro e w2 ⟨b, rfl, _, o2⟩
  go_wp2_with fail
  refine (HN.out w2).mono ?_
  rintro e w3 ⟨rfl, o3⟩
  go_wp2_with fail
  refine (HR.out w3).mono ?_
  rintro e w4 ⟨rfl, o4⟩
  go_wp2_with fail
  refine (HN.out w4).mono ?_
  rintro e w5 ⟨rfl, o5⟩
  go_wp2
  go_ret
  exact ⟨rfl, ((((o1.trans o2).trans o3).trans o4).trans o5).below (Nat.le_refl _) (fun k h => h.elim)⟩
set_option maxRecDepth 100000 in
set_option maxHeartbeats 2000000 in
theorem names_many (l : List UInt8) (w : World) (hl : l.length ≤ 140737488355328) (E : Env w) (h : isNm l = false) (h0 : (whole l).2.1 = 0) (hn : (whole l).1.length ≠ 1) : Calls Tryz.prog 4 #[.string (bs l)] w fun e w' => e = .returned (.bool true) ∧ Below w.heap.size w w' := by
  have HE := Lib.hid E
  have HA := Lib.hid (fun (w : World) (E : Env w) => all_ok l w hl E h0 _ rfl _ rfl)
  have HN : Hid (∀ w, Calls Tryz.prog 15 #[.string (bs l)] w fun e w' => e = .returned (.bool false) ∧ Only Nil w w') := Lib.hid fun w => by rw [← h]; exact name_any l w hl
  have HR : Hid (∀ w, Calls Tryz.prog 16 #[.string (bs l)] w fun e w' => e = .returned (.bool false) ∧ Only Nil w w') := Lib.hid fun w => by rw [← h]; exact rname_any l w hl
  clear E h h0
  generalize (whole l).1 = X at *
  generalize X.length = n at *
  have hq := k_ne hn
  clear hn
  go_enter Tryz.func4, Tryz.ntmps4
  go_wp2_with fail
  refine (alive_any w HE.out).mono ?_
  rintro e w1 ⟨rfl, o1⟩
  go_wp2_with fail
  refine (HA.out w1 (HE.out.keep o1)).mono ?_
  rintro e w2 ⟨a, c, rfl, R⟩
  have o2 := R.only
  clear R
  go_wp2_with fail
  refine (HN.out w2).mono ?_
  rintro e w3 ⟨rfl, o3⟩
  go_wp2_with fail
  refine (HR.out w3).mono ?_
  rintro e w4 ⟨rfl, o4⟩
  go_wp2_with fail
  refine (HN.out w4).mono ?_
  rintro e w5 ⟨rfl, o5⟩
  go_wp2
  go_ret
  exact ⟨rfl, ((((o1.trans o2).trans o3).trans o4).trans o5).below (Nat.le_refl _) (fun k h => h.elim)⟩
end Go.Proofs.YthhnfliklegefaaGreatDoor.Lx
