/- parse: ParsePrints' walk. -/
import Derived.Test.YtdhokkmflccaaaaGreatDoorPsG2
import Derived.Test.YtdhokkmflccaaaaGreatDoorPsMc
import Derived.Test.YtdhokkmflccaaaaGreatDoorPsRw
import Derived.Test.YtdhokkmflccaaaaGreatDoorPsTt
set_option linter.unusedVariables false
namespace Go.Proofs.YtdhokkmflccaaaaGreatDoor.Ps
open Go.RowKit Go.Proofs.YtdhokkmflccaaaaGreatDoor Lx

theorem ret_nil : Ending.returned (.bool (bs []).toList.isEmpty) = .returned (.bool true) := by
  have e0 : (bs []).toList = [] := toList_bs []
  rw [e0]; rfl
set_option maxRecDepth 100000 in
set_option maxHeartbeats 8000000 in
theorem prints_all (P : List Kd) (sl : Value) (w : World) (hx : XK w.heap.size w sl P) (wf : wfP P) (sz : szP P) (E : Env w ∧ Tab w) :
    Calls Tryz.prog 4 #[.agg #[sl]] w fun e w' => e = .returned (.bool true) ∧ Below w.heap.size w w' := by
  obtain ⟨sa, sc, rfl⟩ := hx.slice
  obtain ⟨w1, hw1⟩ : ∃ w1, w1 = w.alloc (.cells #[.slice sa P.length sc] 25) := ⟨_, rfl⟩
  have o1 : Only Nil w w1 := hw1 ▸ (Only.refl Nil w).alloc _
  have HB := Lib.hid (show Bx w1 w.heap.size [.slice sa P.length sc] 25 from hw1 ▸ bx_new w _ _)
  have HX := Lib.hid (hx.keep o1 (nilS · _))
  have HE := Lib.hid (E.1.keep o1)
  have HT := Lib.hid (E.2.keep o1)
  have HA := Lib.hid (alive_any w1 HE.out HT.out)
  have HW := Lib.hid wf
  have HZ := Lib.hid sz
  have O1 := Lib.hid o1
  clear hx wf sz E o1
  go_enter Tryz.func4, Tryz.ntmps4
  go_upto_region 1 with (fail)
  rw [← hw1]; clear hw1
  have HLe := Lib.hid (show w.heap.size ≤ w1.heap.size from O1.out.size)
  generalize hD : w.heap.size = D at *
  go_wp2_with fail
  refine HA.out.mono ?_
  rintro e w2 ⟨rfl, o2⟩
  have O2 := Lib.hid o2
  have c2 := (HB.out.keep o2).cell 0 (v := .slice sa P.length sc) rfl
  clear o2
  go_wp2_with fail
  refine (great_cnt P (.slice sa P.length sc) (HX.out.keep O2.out (nilS · _)) HW.out HZ.out).mono ?_
  rintro e w3 ⟨g, rfl, hg, o3⟩
  have O3 := Lib.hid (O2.out.trans o3)
  clear o3 c2
  cases g with
  | true =>
    go_wp2
    go_ret
    exact ⟨rfl, below_nil (O1.out.trans O3.out)⟩
  | false =>
    have HS := Lib.hid (hg rfl).1
    have HC := Lib.hid (hg rfl).2
    clear hg
    have c3 := (HB.out.keep O3.out).cell 0 (v := .slice sa P.length sc) rfl
    have HR := Lib.hid (print_any P (.slice sa P.length sc) (HX.out.keep O3.out (nilS · _)) (by have := HLe.out; have := O3.out.size; omega) HW.out HS.out (HT.out.keep O3.out))
    have HWR := Lib.hid (fun w (x : XK D w (.slice sa P.length sc) P) => rwritable_any P _ x HW.out HS.out)
    cases hok : P.all okK with
    | false =>
      have h0 : outE P = 1 := by unfold outE; rw [hok]; rfl
      have hT : outT P = [] := if_neg (by rw [h0]; decide)
      rw [h0, hT] at HR
      rw [hok] at HWR
      clear h0 hT hok
      go_wp2_with fail
      refine HR.out.mono ?_
      rintro e w4 ⟨rfl, o4⟩
      have O4 := Lib.hid (O3.out.trans o4)
      have c4 := (HB.out.keep O4.out).cell 0 (v := .slice sa P.length sc) rfl
      clear o4 c3
      go_wp2_with fail
      refine (HWR.out _ (HX.out.keep O4.out (nilS · _))).mono ?_
      rintro e w5 ⟨rfl, o5⟩
      go_wp2
      go_ret
      exact ⟨ret_nil, below_nil ((O1.out.trans O4.out).trans o5)⟩
    | true =>
      rw [hok] at HWR
      have HTX := Lib.hid (fun w (x : XK D w (.slice sa P.length sc) P) (h : D ≤ w.heap.size) => rtext_any P _ x h hok HS.out HC.out)
      have hE : outE P = if 16384 < (joinW (P.flatMap wordsK)).length then 5 else 0 := by unfold outE; rw [hok]; rfl
      by_cases hl : 16384 < (joinW (P.flatMap wordsK)).length
      · have h0 : outE P = 5 := by rw [hE, if_pos hl]
        have hT : outT P = [] := if_neg (by rw [h0]; decide)
        rw [h0, hT] at HR
        clear h0 hT hok hE
        generalize joinW (P.flatMap wordsK) = t at *
        go_wp2_with fail
        refine HR.out.mono ?_
        rintro e w4 ⟨rfl, o4⟩
        have O4 := Lib.hid (O3.out.trans o4)
        have c4 := (HB.out.keep O4.out).cell 0 (v := .slice sa P.length sc) rfl
        clear o4 c3
        go_wp2_with fail
        refine (HWR.out _ (HX.out.keep O4.out (nilS · _))).mono ?_
        rintro e w5 ⟨rfl, o5⟩
        have O5 := Lib.hid (O4.out.trans o5)
        have c5 := (HB.out.keep O5.out).cell 0 (v := .slice sa P.length sc) rfl
        clear o5 c4
        go_wp2_with fail
        refine (HTX.out _ (HX.out.keep O5.out (nilS · _)) (by have := HLe.out; have := O5.out.size; omega)).mono ?_
        rintro e w6 ⟨rfl, o6⟩
        have hz : (bs t).size = t.length := bs_size _
        have hi : (16384 : Int) < (t.length : Int) := by omega
        go_wp2
        go_ret
        exact ⟨ret_nil, below_nil ((O1.out.trans O5.out).trans o6)⟩
      · have h0 : outE P = 0 := by rw [hE, if_neg hl]
        have hT : outT P = joinW (P.flatMap wordsK) := if_pos h0
        rw [h0, hT] at HR
        clear h0 hT hok hE
        generalize joinW (P.flatMap wordsK) = t at *
        go_wp2_with fail
        refine HR.out.mono ?_
        rintro e w4 ⟨rfl, o4⟩
        have O4 := Lib.hid (O3.out.trans o4)
        have c4 := (HB.out.keep O4.out).cell 0 (v := .slice sa P.length sc) rfl
        clear o4 c3
        go_wp2_with fail
        refine (HWR.out _ (HX.out.keep O4.out (nilS · _))).mono ?_
        rintro e w5 ⟨rfl, o5⟩
        have O5 := Lib.hid (O4.out.trans o5)
        have c5 := (HB.out.keep O5.out).cell 0 (v := .slice sa P.length sc) rfl
        clear o5 c4
        go_wp2_with fail
        refine (HTX.out _ (HX.out.keep O5.out (nilS · _)) (by have := HLe.out; have := O5.out.size; omega)).mono ?_
        rintro e w6 ⟨rfl, o6⟩
        have hz : (bs t).size = t.length := bs_size _
        have hi : ¬ (16384 : Int) < (t.length : Int) := by omega
        have hbq : ((bs t).toList == (bs t).toList) = true := beq_self_eq_true _
        go_wp2
        go_ret
        exact ⟨rfl, below_nil ((O1.out.trans O5.out).trans o6)⟩
end Go.Proofs.YtdhokkmflccaaaaGreatDoor.Ps
