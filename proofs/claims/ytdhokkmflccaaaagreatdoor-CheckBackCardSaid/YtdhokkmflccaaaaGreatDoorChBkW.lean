/- check: CheckBack's walk. -/
import Derived.Test.YtdhokkmflccaaaaGreatDoorChR
import Derived.Test.YtdhokkmflccaaaaGreatDoorPsRe
set_option linter.unusedVariables false
namespace Go.Proofs.YtdhokkmflccaaaaGreatDoor.Ch
open Go.RowKit Go.Proofs.YtdhokkmflccaaaaGreatDoor Lx Ps

theorem ret_nil : Ending.returned (.bool (bs []).toList.isEmpty) = .returned (.bool true) := by
  have e0 : (bs []).toList = [] := toList_bs []
  rw [e0]; rfl
theorem right_out {P : List Kd} (h : whole P = none) : outE P = 0 ∨ outE P = 5 := by
  rcases outE_cases P with h0 | h0 | h0
  · exact Or.inl h0
  · exfalso
    unfold outE er at h0
    rw [right_all h] at h0
    simp only [Bool.not_true, Bool.false_eq_true, if_false] at h0
    split at h0 <;> cases h0
  · exact Or.inr h0
set_option maxRecDepth 100000 in
set_option maxHeartbeats 8000000 in
theorem back_all (P : List Kd) (sl : Value) (w : World) (hx : XK w.heap.size w sl P) (wf : wfP P) (sz : szP P) (E : Env w ∧ Tab w) :
    Calls Tryz.prog 12 #[.agg #[sl]] w fun e w' => e = .returned (.bool true) ∧ Below w.heap.size w w' := by
  obtain ⟨sa, sc, rfl⟩ := hx.slice
  obtain ⟨w1, hw1⟩ : ∃ w1, w1 = w.alloc (.cells #[.slice sa P.length sc] 25) := ⟨_, rfl⟩
  have o1 : Only Nil w w1 := hw1 ▸ (Only.refl Nil w).alloc _
  have HB := Lib.hid (show Bx w1 w.heap.size [.slice sa P.length sc] 25 from hw1 ▸ bx_new w _ _)
  have HX := Lib.hid (hx.keep o1 (nilS · _))
  have HE := Lib.hid (E.1.keep o1)
  have HT := Lib.hid (E.2.keep o1)
  have HA := Lib.hid (alive_any w1 (EnvE.of HE.out))
  have HW := Lib.hid wf
  have HZ := Lib.hid sz
  have HV := Lib.hid (show VK w.heap.size w1 P sa P.length sc from ⟨hx.keep o1 (nilS · _), rfl, sz.1, sz, wf⟩)
  have O1 := Lib.hid o1
  clear hx wf sz E o1
  go_enter Tryz.func12, Tryz.ntmps12
  go_upto_region 1 with (fail)
  rw [← hw1]; clear hw1
  have HLe := Lib.hid (show w.heap.size ≤ w1.heap.size from O1.out.size)
  generalize hD : w.heap.size = D at *
  go_wp2_with fail
  refine HA.out.mono ?_
  rintro e w2 ⟨rfl, o2⟩
  have O2 := Lib.hid o2
  have c2 := (HB.out.keep o2).cell 0 (v := .slice sa P.length sc) rfl
  have HP := Lib.hid (prog_err (HV.out.keep o2) (Lib.hid (Nat.le_trans HLe.out o2.size)))
  clear o2
  cases hwh : whole P with
  | some x =>
    rw [hwh] at HP
    clear hwh
    go_wp2_with fail
    refine HP.out.mono ?_
    rintro e w3 ⟨v, rfl, ⟨b, rfl, _⟩, o3⟩
    go_wp2
    go_ret
    exact ⟨rfl, below_nil ((O1.out.trans O2.out).trans o3)⟩
  | none =>
    rw [hwh] at HP
    have HS := Lib.hid (right_sm hwh)
    have HO := Lib.hid (right_out hwh)
    have HWn := Lib.hid hwh
    clear hwh
    go_wp2_with fail
    refine HP.out.mono ?_
    rintro e w3 ⟨v, rfl, hv, o3⟩
    obtain rfl : v = .nilIface := hv
    have O3 := Lib.hid (O2.out.trans o3)
    clear o3 c2
    have c3 := (HB.out.keep O3.out).cell 0 (v := .slice sa P.length sc) rfl
    have HR := Lib.hid (print_any P (.slice sa P.length sc) (HX.out.keep O3.out (nilS · _)) (by have := HLe.out; have := O3.out.size; omega) HW.out HS.out (HT.out.keep O3.out))
    rcases HO.out with h0 | h0
    · have HBk := Lib.hid (out_back P h0)
      rw [h0] at HR
      clear h0
      have HL := Lib.hid (show (outT P).length ≤ 140737488355328 from by
        have := (prog_inv HBk.out).1; omega)
      go_wp2_with fail
      refine HR.out.mono ?_
      rintro e w4 ⟨rfl, o4⟩
      have O4 := Lib.hid (O3.out.trans o4)
      clear o4 c3
      have hz4 : (bs (outT P)).size = (outT P).length := bs_size _
      go_wp2_with fail
      refine (prog_ok_at (outT P) w4 HL.out (HE.out.keep O4.out) P HBk.out _ rfl).mono ?_
      rintro e w5 ⟨a5, c5, rfl, F5, o5⟩
      have O6 := Lib.hid ((O4.out.trans o5).trans ((Only.refl Nil w5).alloc (.cells #[.slice a5 P.length c5] 25)))
      have F6 := Lib.hid (F5.keep ((Only.refl Nil w5).alloc (.cells #[.slice a5 P.length c5] 25)) (nilS · _))
      have B6 := Lib.hid (bx_new w5 [.slice a5 P.length c5] 25)
      go_upto_region 9 with (fail)
      change Hid (Bx (w5.alloc (.cells #[.slice a5 P.length c5] 25)) w5.heap.size [.slice a5 P.length c5] 25) at B6
      have L6 := Lib.hid (show w5.heap.size ≤ (w5.alloc (.cells #[.slice a5 P.length c5] 25)).heap.size by simp)
      generalize w5.alloc (.cells #[.slice a5 P.length c5] 25) = w6 at *
      generalize w5.heap.size = D5 at *
      have c6 := B6.out.cell 0 (v := .slice a5 P.length c5) rfl
      clear F5 o5
      have HP6 := Lib.hid (prog_err (show VK D5 w6 P a5 P.length c5 from ⟨F6.out, rfl, HZ.out.1, HZ.out, HW.out⟩) L6)
      rw [HWn.out] at HP6
      go_wp2_with fail
      refine HP6.out.mono ?_
      rintro e w7 ⟨v, rfl, hv, o7⟩
      obtain rfl : v = .nilIface := hv
      have c67 := (B6.out.keep o7).cell 0 (v := .slice a5 P.length c5) rfl
      have c37 := (HB.out.keep (O6.out.trans o7)).cell 0 (v := .slice sa P.length sc) rfl
      have HSm := Lib.hid (same_self (HX.out.keep (O6.out.trans o7) (nilS · _)) (F6.out.keep o7 (nilS · _)) HS.out)
      have O7 := Lib.hid (O6.out.trans o7)
      clear o7 c6
      go_wp2_with (go_at_call 26; refine HSm.out.mono ?_; rintro e w8 ⟨rfl, o8⟩)
      go_ret
      exact ⟨rfl, below_nil ((O1.out.trans O7.out).trans o8)⟩
    · have hT : outT P = [] := if_neg (by rw [h0]; decide)
      rw [h0, hT] at HR
      clear h0 hT
      go_wp2_with fail
      refine HR.out.mono ?_
      rintro e w4 ⟨rfl, o4⟩
      go_wp2
      go_ret
      exact ⟨ret_nil, below_nil ((O1.out.trans O3.out).trans o4)⟩
end Go.Proofs.YtdhokkmflccaaaaGreatDoor.Ch
