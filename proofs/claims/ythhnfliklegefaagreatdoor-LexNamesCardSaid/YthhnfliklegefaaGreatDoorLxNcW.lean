/- LexNames' walk: one token that is not the text's name. -/
import Derived.Test.YthhnfliklegefaaGreatDoorLxNbW
namespace Go.Proofs.YthhnfliklegefaaGreatDoor.Lx
open Go.RowKit Go.Proofs.YthhnfliklegefaaGreatDoor

set_option maxRecDepth 100000 in
set_option maxHeartbeats 2000000 in
theorem names_kind (l : List UInt8) (w : World) (hl : l.length ≤ 140737488355328) (E : Env w) (h : isNm l = false) (h0 : (whole l).2.1 = 0) (t : Tok) (q : Nat) (hX : (whole l).1 = [(t, q)]) (hk : t.k ≠ 1) : Calls Tryz.prog 4 #[.string (bs l)] w fun e w' => e = .returned (.bool true) ∧ Below w.heap.size w w' := by
  have HE := Lib.hid E
  have HA := Lib.hid (fun (w : World) (E : Env w) => all_ok l w hl E h0 [(t, q)] hX 1 rfl)
  have HN : Hid (∀ w, Calls Tryz.prog 15 #[.string (bs l)] w fun e w' => e = .returned (.bool false) ∧ Only Nil w w') := Lib.hid fun w => by rw [← h]; exact name_any l w hl
  have HR : Hid (∀ w, Calls Tryz.prog 16 #[.string (bs l)] w fun e w' => e = .returned (.bool false) ∧ Only Nil w w') := Lib.hid fun w => by rw [← h]; exact rname_any l w hl
  clear E h h0 hX
  have hq := k_ne hk
  clear hk
  go_enter Tryz.func4, Tryz.ntmps4
  go_wp2_with fail
  refine (alive_any w HE.out).mono ?_
  rintro e w1 ⟨rfl, o1⟩
  go_wp2_with fail
  refine (HA.out w1 (HE.out.keep o1)).mono ?_
  rintro e w2 ⟨a, c, rfl, R⟩
  have o2 := R.only
  obtain ⟨g, ha, _, hc⟩ := (R.rin rfl) 0 (by simp)
  subst ha
  obtain ⟨d0, d1, _, _⟩ := hc 0 (by simp)
  have c0 : w2.cell? ⟨g, 0, none⟩ = some (.int .i64 (t.k : Int)) := d0
  have c1 : w2.cell? ⟨g, 1, none⟩ = some (.string (bs t.w)) := d1
  clear d0 d1 hc R
  go_wp2_with fail
  refine (HN.out w2).mono ?_
  rintro e w3 ⟨rfl, o3⟩
  go_wp2_with fail
  refine (HR.out w3).mono ?_
  rintro e w4 ⟨rfl, o4⟩
  go_wp2_with fail
  refine (HN.out w4).mono ?_
  rintro e w5 ⟨rfl, o5⟩
  go_wp2
  go_ret
  exact ⟨rfl, ((((o1.trans o2).trans o3).trans o4).trans o5).below (Nat.le_refl _) (fun k h => h.elim)⟩
set_option maxRecDepth 100000 in
set_option maxHeartbeats 2000000 in
theorem names_text (l : List UInt8) (w : World) (hl : l.length ≤ 140737488355328) (E : Env w) (h : isNm l = false) (h0 : (whole l).2.1 = 0) (t : Tok) (q : Nat) (hX : (whole l).1 = [(t, q)]) (hk : t.k = 1) (hw : t.w ≠ l) : Calls Tryz.prog 4 #[.string (bs l)] w fun e w' => e = .returned (.bool true) ∧ Below w.heap.size w w' := by
  have HE := Lib.hid E
  have HA := Lib.hid (fun (w : World) (E : Env w) => all_ok l w hl E h0 [(t, q)] hX 1 rfl)
  have HN : Hid (∀ w, Calls Tryz.prog 15 #[.string (bs l)] w fun e w' => e = .returned (.bool false) ∧ Only Nil w w') := Lib.hid fun w => by rw [← h]; exact name_any l w hl
  have HR : Hid (∀ w, Calls Tryz.prog 16 #[.string (bs l)] w fun e w' => e = .returned (.bool false) ∧ Only Nil w w') := Lib.hid fun w => by rw [← h]; exact rname_any l w hl
  clear E h h0 hX
  have hq : ((bs t.w).toList == (bs l).toList) = false := by rw [bs_toList', bs_toList', beq_eq_false_iff_ne]; exact hw
  have HK := Lib.hid hk
  clear hk hw
  go_enter Tryz.func4, Tryz.ntmps4
  go_wp2_with fail
  refine (alive_any w HE.out).mono ?_
  rintro e w1 ⟨rfl, o1⟩
  go_wp2_with fail
  refine (HA.out w1 (HE.out.keep o1)).mono ?_
  rintro e w2 ⟨a, c, rfl, R⟩
  have o2 := R.only
  obtain ⟨g, ha, _, hc⟩ := (R.rin rfl) 0 (by simp)
  subst ha
  obtain ⟨d0, d1, _, _⟩ := hc 0 (by simp)
  have c0 : w2.cell? ⟨g, 0, none⟩ = some (.int .i64 (t.k : Int)) := d0
  have c1 : w2.cell? ⟨g, 1, none⟩ = some (.string (bs t.w)) := d1
  rw [HK.out] at c0
  clear d0 d1 hc R
  go_wp2_with fail
  refine (HN.out w2).mono ?_
  rintro e w3 ⟨rfl, o3⟩
  go_wp2_with fail
  refine (HR.out w3).mono ?_
  rintro e w4 ⟨rfl, o4⟩
  go_wp2_with fail
  refine (HN.out w4).mono ?_
  rintro e w5 ⟨rfl, o5⟩
  go_wp2
  go_ret
  exact ⟨rfl, ((((o1.trans o2).trans o3).trans o4).trans o5).below (Nat.le_refl _) (fun k h => h.elim)⟩
theorem names_all (l : List UInt8) (w : World) (hl : l.length ≤ 140737488355328) (E : Env w) : Calls Tryz.prog 4 #[.string (bs l)] w fun e w' => e = .returned (.bool true) ∧ Below w.heap.size w w' := by
  cases h : isNm l with
  | true => exact names_yes l w hl E h
  | false =>
    by_cases h0 : (whole l).2.1 = 0
    · by_cases h1 : (whole l).1.length = 1
      · obtain ⟨x, hx⟩ := List.length_eq_one_iff.1 h1
        obtain ⟨t, q⟩ := x
        by_cases hk : t.k = 1
        · exact names_text l w hl E h h0 t q hx hk (fun hw => by rw [whole_one_nm h0 hx hk hw] at h; cases h)
        · exact names_kind l w hl E h h0 t q hx hk
      · exact names_many l w hl E h h0 h1
    · exact names_bad l w hl E h h0
end Go.Proofs.YthhnfliklegefaaGreatDoor.Lx
