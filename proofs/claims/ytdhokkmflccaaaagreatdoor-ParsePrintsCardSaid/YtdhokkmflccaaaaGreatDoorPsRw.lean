/- parse: the document's state and Writable. -/
import Derived.Test.YtdhokkmflccaaaaGreatDoorPsRb
set_option linter.unusedVariables false
namespace Go.Proofs.YtdhokkmflccaaaaGreatDoor.Ps
open Go.RowKit Go.Proofs.YtdhokkmflccaaaaGreatDoor Lx

theorem all_take_no {α : Type} {f : α → Bool} {L : List α} {k : Nat} (h : k < L.length) (hf : f L[k] = false) : L.all f = false := by
  rw [Bool.eq_false_iff]
  intro ha
  rw [List.all_eq_true.1 ha _ (List.getElem_mem h)] at hf
  cases hf
theorem okW_emp (z : Int) : (bs (pickW dirs (z - 1))).toList.isEmpty = !okP dirs (z - 1) := by
  rw [emp_bs]
  have hL : (dirs.length : Int) = 4 := rfl
  by_cases h : 1 ≤ z ∧ z ≤ 4
  · have : z = 1 ∨ z = 2 ∨ z = 3 ∨ z = 4 := by omega
    rcases this with rfl | rfl | rfl | rfl <;> decide
  · rw [pick_out (by omega)]
    unfold okP; rw [hL]
    by_cases h1 : 0 ≤ z - 1
    · have : ¬ z - 1 < 4 := by omega
      simp [this]
    · simp; omega
set_option maxRecDepth 100000 in
set_option maxHeartbeats 8000000 in
theorem rstate_any {D : Nat} {w : World} (y : Sta) (sl : Value) (hx : XR D w sl y.rows) (wf : wfS y) (sm : smS y) :
    Calls Tryz.prog 51 #[.agg #[.string (bs y.name), sl]] w fun e w' => e = .returned (.bool (okS y)) ∧ Only Nil w w' := by
  obtain ⟨sa, sc, rfl⟩ := hx.slice
  obtain ⟨w1, hw1⟩ : ∃ w1, w1 = w.alloc (.cells #[.string (bs y.name), .slice sa y.rows.length sc] 69) := ⟨_, rfl⟩
  have O1 := Lib.hid (show Only Nil w w1 from hw1 ▸ (Only.refl Nil w).alloc _)
  have BX := Lib.hid (show Bx w1 w.heap.size [.string (bs y.name), .slice sa y.rows.length sc] 69 from hw1 ▸ bx_new w _ _)
  have HX := Lib.hid (hx.keep O1.out (nilS · D))
  have HWF := Lib.hid wf
  have HSM := Lib.hid sm.2
  have hb : (y.rows.length : Int) ≤ 65000 := by have := sm.1; omega
  have eW := hw1.symm
  clear hx wf sm hw1
  generalize hn : y.rows.length = n at *
  have HN := Lib.hid hn
  clear hn
  have c0 := BX.out.cell 0 (v := .string (bs y.name)) rfl
  cases hnm : isNm y.name with
  | false =>
    have HF := Lib.hid (show okS y = false from by unfold okS; rw [hnm]; rfl)
    have HNM := Lib.hid (fun w => hnm ▸ rnameq_any y.name w HWF.out.name)
    clear hnm
    go_enter Tryz.func51, Tryz.ntmps51
    go_upto_region 1 with (fail)
    (try rw [eW]); clear eW
    go_wp2_with (go_at_call 48; (with_reducible refine (HNM.out _).mono ?_); rintro e wn ⟨rfl, rfl⟩)
    go_ret
    exact ⟨by rw [HF.out]; rfl, O1.out⟩
  | true =>
  have HNM := Lib.hid (fun w => hnm ▸ rnameq_any y.name w HWF.out.name)
  have HOKS := Lib.hid (show okS y = y.rows.all okR from by unfold okS; rw [hnm]; rfl)
  clear hnm
  go_enter Tryz.func51, Tryz.ntmps51
  go_upto_region 1 with (fail)
  (try rw [eW]); clear eW
  generalize w.heap.size = B at *
  have c1 := BX.out.cell 1 (v := .slice sa n sc) rfl
  go_wp2_with (go_at_call 48; (with_reducible refine (HNM.out _).mono ?_); rintro e wn ⟨rfl, rfl⟩)
  clear HNM
  go_loopw [3, 4, 5] (fun s3 _ _ wr => ∃ i : Nat, s3 = .int .i64 (i : Int) ∧ i ≤ n ∧ Hid ((y.rows.take i).all okR = true) ∧ Hid (Only Nil w1 wr))
    (fun s3 _ _ _ => n - (intOf s3).toNat)
  case atStart => exact ⟨0, rfl, Nat.zero_le _, Lib.hid (by rw [List.take_zero]; rfl), Lib.hid (Only.refl _ _)⟩
  case round =>
    obtain ⟨i, rfl, hi, hA, hO⟩ := hrel
    clear c0 c1
    have c1 := (BX.out.keep hO.out).cell 1 (v := .slice sa n sc) rfl
    by_cases hin : i < n
    · obtain ⟨u, ⟨q, off, rfl, hlt, hc⟩, gx⟩ := (HX.out.keep hO.out (nilS · D)).at_ HN.out i hin
      have hkl : i < y.rows.length := by rw [HN.out]; exact hin
      have HWR := Lib.hid (HWF.out.rows _ (List.getElem_mem hkl))
      have HSR := Lib.hid (HSM.out _ (List.getElem_mem hkl))
      have HNO := Lib.hid (fun h => all_take_no (f := okR) hkl h)
      have HYE := Lib.hid (all_snoc okR hkl)
      generalize y.rows[i] = x at *
      have e0 : wr.cell? ⟨q, off + i * 4, none⟩ = some (.string (bs x.tag)) := hc 0 (by decide)
      have e1 : wr.cell? ⟨q, off + i * 4 + 1, none⟩ = some (.bool x.only) := hc 1 (by decide)
      have e2 : wr.cell? ⟨q, off + i * 4 + 2, none⟩ = some (.int .i64 x.n) := hc 2 (by decide)
      have e3 : wr.cell? ⟨q, off + i * 4 + 3, none⟩ = some u := hc 3 (by decide)
      obtain ⟨ua, uc, rfl⟩ := gx.slice
      have GX := Lib.hid (gx.keep ((Only.refl Nil wr).alloc (.cells #[.string (bs x.tag), .bool x.only, .int .i64 x.n, .slice ua x.effs.length uc] 72)) (nilS · D))
      have BR := Lib.hid (show Bx (wr.alloc (.cells #[.string (bs x.tag), .bool x.only, .int .i64 x.n, .slice ua x.effs.length uc] 72)) wr.heap.size [.string (bs x.tag), .bool x.only, .int .i64 x.n, .slice ua x.effs.length uc] 72 from bx_new wr _ _)
      have OR := Lib.hid (hO.out.trans ((Only.refl Nil wr).alloc (.cells #[.string (bs x.tag), .bool x.only, .int .i64 x.n, .slice ua x.effs.length uc] 72)))
      clear hc hkl gx
      go_upto_region 7 with (fail)
      generalize wr.alloc (.cells #[.string (bs x.tag), .bool x.only, .int .i64 x.n, .slice ua x.effs.length uc] 72) = wo at *
      generalize wr.heap.size = R at *
      clear e0 e1 e2 e3 c1 hlt
      have r0 := BR.out.cell 0 (v := .string (bs x.tag)) rfl
      have r1 := BR.out.cell 1 (v := .bool x.only) rfl
      have r2 := BR.out.cell 2 (v := .int .i64 x.n) rfl
      go_cut [59] (fun s59 wx => ∃ b : Bool, s59 = .bool b ∧ Hid (b = !okH x) ∧ Hid (Only Nil wo wx))
      case first =>
        by_cases htag : x.tag = []
        · have he : (bs x.tag).toList.isEmpty = true := (emp_bs _).trans (decide_eq_true htag)
          cases hon : x.only with
          | true =>
            have HF := Lib.hid (show true = !okH x from by unfold okH; rw [hon, htag]; rfl)
            rw [hon] at r1
            clear hon htag
            go_wp2_with (first | (go_at_call 48; (with_reducible refine (HNM.out _).mono ?_); rintro e wn ⟨rfl, rfl⟩) | (go_at_call 49; (with_reducible refine (rsmall_any _ _).mono ?_); rintro e wn ⟨rfl, rfl⟩))
            go_meet
            exact ⟨_, rfl, HF, Lib.hid (Only.refl _ _)⟩
          | false =>
            rw [hon] at r1
            by_cases hn0 : x.n = 0
            · have HF := Lib.hid (show false = !okH x from by unfold okH; rw [hon, htag, hn0]; rfl)
              have hq : (x.n == 0) = true := by simpa using hn0
              have hq' : (x.n != 0) = false := by simpa using hn0
              clear hon htag hn0
              go_wp2_with (first | (go_at_call 48; (with_reducible refine (HNM.out _).mono ?_); rintro e wn ⟨rfl, rfl⟩) | (go_at_call 49; (with_reducible refine (rsmall_any _ _).mono ?_); rintro e wn ⟨rfl, rfl⟩))
              go_meet
              exact ⟨_, rfl, HF, Lib.hid (Only.refl _ _)⟩
            · have HF := Lib.hid (show true = !okH x from by unfold okH; rw [hon]; simp [hn0])
              have hq : (x.n == 0) = false := by simpa using hn0
              have hq' : (x.n != 0) = true := by simpa using hn0
              clear hon htag hn0
              go_wp2_with (first | (go_at_call 48; (with_reducible refine (HNM.out _).mono ?_); rintro e wn ⟨rfl, rfl⟩) | (go_at_call 49; (with_reducible refine (rsmall_any _ _).mono ?_); rintro e wn ⟨rfl, rfl⟩))
              go_meet
              exact ⟨_, rfl, HF, Lib.hid (Only.refl _ _)⟩
        · have he : (bs x.tag).toList.isEmpty = false := (emp_bs _).trans (decide_eq_false htag)
          have he' : (!(bs x.tag).toList.isEmpty) = true := by rw [he]; rfl
          cases hnm : isNm x.tag with
          | false =>
            have HF := Lib.hid (show true = !okH x from by unfold okH; rw [hnm]; cases x.only <;> simp [htag])
            have HNM := Lib.hid (fun w => hnm ▸ rnameq_any x.tag w HWR.out.tag)
            clear htag hnm
            cases hon : x.only with
            | true =>
              rw [hon] at r1
              clear hon
              go_wp2_with (first | (go_at_call 48; (with_reducible refine (HNM.out _).mono ?_); rintro e wn ⟨rfl, rfl⟩) | (go_at_call 49; (with_reducible refine (rsmall_any _ _).mono ?_); rintro e wn ⟨rfl, rfl⟩))
              go_meet
              exact ⟨_, rfl, HF, Lib.hid (Only.refl _ _)⟩
            | false =>
              rw [hon] at r1
              clear hon
              go_wp2_with (first | (go_at_call 48; (with_reducible refine (HNM.out _).mono ?_); rintro e wn ⟨rfl, rfl⟩) | (go_at_call 49; (with_reducible refine (rsmall_any _ _).mono ?_); rintro e wn ⟨rfl, rfl⟩))
              go_meet
              exact ⟨_, rfl, HF, Lib.hid (Only.refl _ _)⟩
          | true =>
            have HNM := Lib.hid (fun w => hnm ▸ rnameq_any x.tag w HWR.out.tag)
            cases hon : x.only with
            | true =>
              rw [hon] at r1
              cases hok : okN x.n with
              | true =>
                have HF := Lib.hid (show false = !okH x from by unfold okH; rw [hon, hnm, hok]; rfl)
                have HSM := Lib.hid (fun w => hok ▸ rsmall_any x.n w)
                clear htag hnm hon hok
                go_wp2_with (first | (go_at_call 48; (with_reducible refine (HNM.out _).mono ?_); rintro e wn ⟨rfl, rfl⟩) | (go_at_call 49; (with_reducible refine (HSM.out _).mono ?_); rintro e wn ⟨rfl, rfl⟩))
                go_meet
                exact ⟨_, rfl, HF, Lib.hid (Only.refl _ _)⟩
              | false =>
                have HF := Lib.hid (show true = !okH x from by unfold okH; rw [hon, hnm, hok]; rfl)
                have HSM := Lib.hid (fun w => hok ▸ rsmall_any x.n w)
                clear htag hnm hon hok
                go_wp2_with (first | (go_at_call 48; (with_reducible refine (HNM.out _).mono ?_); rintro e wn ⟨rfl, rfl⟩) | (go_at_call 49; (with_reducible refine (HSM.out _).mono ?_); rintro e wn ⟨rfl, rfl⟩))
                go_meet
                exact ⟨_, rfl, HF, Lib.hid (Only.refl _ _)⟩
            | false =>
              rw [hon] at r1
              by_cases hn0 : x.n = 0
              · have HF := Lib.hid (show false = !okH x from by unfold okH; rw [hon, hnm, hn0]; simp)
                have hq : (x.n == 0) = true := by simpa using hn0
                have hq' : (x.n != 0) = false := by simpa using hn0
                clear hon htag hn0 hnm
                go_wp2_with (first | (go_at_call 48; (with_reducible refine (HNM.out _).mono ?_); rintro e wn ⟨rfl, rfl⟩) | (go_at_call 49; (with_reducible refine (rsmall_any _ _).mono ?_); rintro e wn ⟨rfl, rfl⟩))
                go_meet
                exact ⟨_, rfl, HF, Lib.hid (Only.refl _ _)⟩
              · have HF := Lib.hid (show true = !okH x from by unfold okH; rw [hon]; simp [hn0])
                have hq : (x.n == 0) = false := by simpa using hn0
                have hq' : (x.n != 0) = true := by simpa using hn0
                clear hon htag hn0 hnm
                go_wp2_with (first | (go_at_call 48; (with_reducible refine (HNM.out _).mono ?_); rintro e wn ⟨rfl, rfl⟩) | (go_at_call 49; (with_reducible refine (rsmall_any _ _).mono ?_); rintro e wn ⟨rfl, rfl⟩))
                go_meet
                exact ⟨_, rfl, HF, Lib.hid (Only.refl _ _)⟩
      case rest =>
        obtain ⟨b, rfl, HB, HOC⟩ := hcut
        have r3 := (BR.out.keep HOC.out).cell 3 (v := .slice ua x.effs.length uc) rfl
        have BRC := Lib.hid (BR.out.keep HOC.out)
        have GXC := Lib.hid (GX.out.keep HOC.out (nilS · D))
        have ORC := Lib.hid (OR.out.trans HOC.out)
        clear r0 r1 r2 BR GX OR HOC
        cases b with
        | true =>
          have HF := Lib.hid (show okS y = false from by
            rw [HOKS.out]
            refine HNO.out ?_
            unfold okR
            have : okH x = false := by have := HB.out; cases h : okH x with | false => rfl | true => rw [h] at this; cases this
            rw [this]; rfl)
          go_wp2
          go_ret
          exact ⟨by rw [HF.out]; rfl, O1.out.trans ORC.out⟩
        | false =>
          have HOH := Lib.hid (show okR x = x.effs.all okE from by
            unfold okR
            have : okH x = true := by have := HB.out; cases h : okH x with | true => rfl | false => rw [h] at this; cases this
            rw [this]; rfl)
          have hbe : (x.effs.length : Int) ≤ 65000 := by have := HSR.out; unfold smR at this; omega
          generalize hne : x.effs.length = nE at *
          have HNE := Lib.hid hne
          clear hne
          generalize wc = wp at *
          go_wp2
          go_loopw [5] (fun s5 wr => ∃ j : Nat, s5 = .int .i64 (j : Int) ∧ j ≤ nE ∧ Hid ((x.effs.take j).all okE = true) ∧ Hid (Only Nil wp wr))
            (fun s5 _ => nE - (intOf s5).toNat)
          case atStart => exact ⟨0, rfl, Nat.zero_le _, Lib.hid (by rw [List.take_zero]; rfl), Lib.hid (Only.refl _ _)⟩
          case round =>
            obtain ⟨j, rfl, hj, hA', hO'⟩ := hrel
            clear r3
            have r3 := (BRC.out.keep hO'.out).cell 3 (v := .slice ua nE uc) rfl
            by_cases hjn : j < nE
            · obtain ⟨q', off', rfl, hlt', hc'⟩ := (GXC.out.keep hO'.out (nilS · D)).at_ HNE.out j hjn
              have hjl : j < x.effs.length := by rw [HNE.out]; exact hjn
              have HWE := Lib.hid (HWR.out.effs _ (List.getElem_mem hjl))
              have HNE2 := Lib.hid (fun h => all_take_no (f := okE) hjl h)
              have HYE2 := Lib.hid (all_snoc okE hjl)
              generalize x.effs[j] = z at *
              have g0 : wr.cell? ⟨q', off' + j * 7, none⟩ = some (.int .i64 z.act) := hc' 0 (by decide)
              have g1 : wr.cell? ⟨q', off' + j * 7 + 1, none⟩ = some (.string (bs z.ref)) := hc' 1 (by decide)
              have g2 : wr.cell? ⟨q', off' + j * 7 + 2, none⟩ = some (.string (bs z.slot)) := hc' 2 (by decide)
              have g3 : wr.cell? ⟨q', off' + j * 7 + 3, none⟩ = some (.string (bs z.name)) := hc' 3 (by decide)
              have g4 : wr.cell? ⟨q', off' + j * 7 + 4, none⟩ = some (.int .i64 z.val) := hc' 4 (by decide)
              have g5 : wr.cell? ⟨q', off' + j * 7 + 5, none⟩ = some (.int .i64 z.n) := hc' 5 (by decide)
              have g6 : wr.cell? ⟨q', off' + j * 7 + 6, none⟩ = some (.int .i64 z.delay) := hc' 6 (by decide)
              clear hc' hjl hlt'
              cases hez : okE z with
              | true =>
                have HEF := Lib.hid (fun w => hez ▸ reff_any z HWE.out w)
                have HX2 := Lib.hid (show (x.effs.take (j + 1)).all okE = true from by rw [← HYE2.out, hA'.out, hez]; rfl)
                clear hez
                go_wp2_with (go_at_call 79; (with_reducible refine (HEF.out _).mono ?_); rintro e wn ⟨rfl, on⟩; have ON := Lib.hid (hO'.out.trans on); clear on)
                go_roundw
                case rel => exact ⟨j + 1, by go_num, by omega, HX2, ON⟩
                case measure => simp [intOf]; omega
              | false =>
                have HEF := Lib.hid (fun w => hez ▸ reff_any z HWE.out w)
                have HF := Lib.hid (show okS y = false from by rw [HOKS.out]; exact HNO.out (HOH.out.trans (HNE2.out hez)))
                clear hez
                go_wp2_with (go_at_call 79; (with_reducible refine (HEF.out _).mono ?_); rintro e wn ⟨rfl, on⟩; have ON := Lib.hid (hO'.out.trans on); clear on)
                go_ret
                exact ⟨by rw [HF.out]; rfl, (O1.out.trans ORC.out).trans ON.out⟩
            · obtain rfl : j = nE := by omega
              have HX2 := Lib.hid (show (y.rows.take (i + 1)).all okR = true from by
                rw [← HYE.out, hA.out, HOH.out]
                have := hA'.out
                rw [List.take_of_length_le (by rw [HNE.out]; exact Nat.le_refl _)] at this
                rw [this]; rfl)
              have ON := Lib.hid (ORC.out.trans hO'.out)
              clear hjn hA'
              go_wp2
              go_roundw
              case rel => exact ⟨i + 1, by go_num, by omega, HX2, ON⟩
              case measure => simp [intOf]; omega
    · obtain rfl : i = n := by omega
      have HF := Lib.hid (show okS y = true from by
        rw [HOKS.out]
        have := hA.out
        rw [List.take_of_length_le (by rw [HN.out]; exact Nat.le_refl _)] at this
        exact this)
      clear hin hA
      go_wp2
      go_ret
      exact ⟨by rw [HF.out]; rfl, O1.out.trans hO.out⟩
set_option maxRecDepth 100000 in
set_option maxHeartbeats 8000000 in
theorem rwritable_any {D : Nat} {w : World} (P : List Kd) (sl : Value) (hx : XK D w sl P) (wf : wfP P) (sm : smP P) :
    Calls Tryz.prog 24 #[.agg #[sl]] w fun e w' => e = .returned (.bool (P.all okK)) ∧ Only Nil w w' := by
  obtain ⟨sa, sc, rfl⟩ := hx.slice
  have HX := Lib.hid hx
  have HWF := Lib.hid wf
  have HSM := Lib.hid sm.2
  have hb : (P.length : Int) ≤ 65000 := by have := sm.1; omega
  clear hx wf sm
  generalize hn : P.length = N at *
  have HN := Lib.hid hn
  clear hn
  have HB := Lib.hid (show Bx (w.alloc (.cells #[.slice sa N sc] 25)) w.heap.size [.slice sa N sc] 25 from bx_new w _ _)
  have O1 := Lib.hid ((Only.refl Nil w).alloc (.cells #[.slice sa N sc] 25))
  go_enter Tryz.func24, Tryz.ntmps24
  go_upto_region 1 with (fail)
  generalize w.alloc (.cells #[.slice sa N sc] 25) = w1 at *
  generalize w.heap.size = B at *
  go_wp2
  go_loopw [3, 4, 5, 6, 7] (fun s3 _ _ _ _ wr => ∃ i : Nat, s3 = .int .i64 (i : Int) ∧ i ≤ N ∧ Hid ((P.take i).all okK = true) ∧ Hid (Only Nil w1 wr))
    (fun s3 _ _ _ _ _ => N - (intOf s3).toNat)
  case atStart => exact ⟨0, rfl, Nat.zero_le _, Lib.hid (by rw [List.take_zero]; rfl), Lib.hid (Only.refl _ _)⟩
  case round =>
    obtain ⟨i, rfl, hi, hA, hO⟩ := hrel
    have c0 := (HB.out.keep hO.out).cell 0 (v := .slice sa N sc) rfl
    by_cases hiN : i < N
    · obtain ⟨s1, s2, ⟨q, off, rfl, hlt, hc⟩, gC, gS⟩ := (HX.out.keep (O1.out.trans hO.out) (nilS · D)).at_ HN.out i hiN
      have hkl : i < P.length := by rw [HN.out]; exact hiN
      have HWK := Lib.hid (HWF.out _ (List.getElem_mem hkl))
      have HSK := Lib.hid (HSM.out _ (List.getElem_mem hkl))
      have HNO := Lib.hid (fun h => all_take_no (f := okK) hkl h)
      have HYE := Lib.hid (all_snoc okK hkl)
      generalize P[i] = x at *
      have e0 : wr.cell? ⟨q, off + i * 5, none⟩ = some (.string (bs x.name)) := hc 0 (by decide)
      have e1 : wr.cell? ⟨q, off + i * 5 + 1, none⟩ = some (.int .i64 x.limit) := hc 1 (by decide)
      have e2 : wr.cell? ⟨q, off + i * 5 + 2, none⟩ = some (.int .i64 x.within) := hc 2 (by decide)
      have e3 : wr.cell? ⟨q, off + i * 5 + 3, none⟩ = some s1 := hc 3 (by decide)
      have e4 : wr.cell? ⟨q, off + i * 5 + 4, none⟩ = some s2 := hc 4 (by decide)
      obtain ⟨a1, c1, rfl⟩ := gC.slice
      obtain ⟨a2, c2, rfl⟩ := gS.slice
      have oK : Only Nil wr (wr.alloc (.cells #[.string (bs x.name), .int .i64 x.limit, .int .i64 x.within, .slice a1 x.cases.length c1, .slice a2 x.states.length c2] 66)) := (Only.refl Nil wr).alloc _
      have OK := Lib.hid (hO.out.trans oK)
      have GC := Lib.hid (gC.keep oK (nilS · D))
      have GS := Lib.hid (gS.keep oK (nilS · D))
      have BK := Lib.hid (show Bx (wr.alloc (.cells #[.string (bs x.name), .int .i64 x.limit, .int .i64 x.within, .slice a1 x.cases.length c1, .slice a2 x.states.length c2] 66)) wr.heap.size [.string (bs x.name), .int .i64 x.limit, .int .i64 x.within, .slice a1 x.cases.length c1, .slice a2 x.states.length c2] 66 from bx_new wr _ _)
      clear hc gC gS hkl oK
      go_upto_region 5 with (fail)
      generalize wr.alloc (.cells #[.string (bs x.name), .int .i64 x.limit, .int .i64 x.within, .slice a1 x.cases.length c1, .slice a2 x.states.length c2] 66) = wk at *
      generalize wr.heap.size = K at *
      clear e0 e1 e2 e3 e4 c0 hlt
      have k0 := BK.out.cell 0 (v := .string (bs x.name)) rfl
      have k1 := BK.out.cell 1 (v := .int .i64 x.limit) rfl
      have k2 := BK.out.cell 2 (v := .int .i64 x.within) rfl
      go_cut [35] (fun s35 wx => ∃ b : Bool, s35 = .bool b ∧ Hid (b = !(isNm x.name && (okN x.limit && okN x.within))) ∧ Hid (Only Nil wk wx))
      case first =>
        cases hnm : isNm x.name with
        | false =>
          have HF := Lib.hid (show true = !(isNm x.name && (okN x.limit && okN x.within)) from by rw [hnm]; rfl)
          have HNM := Lib.hid (fun w => hnm ▸ rnameq_any x.name w HWK.out.name)
          clear hnm
          go_wp2_with (first | (go_at_call 48; (with_reducible refine (HNM.out _).mono ?_); rintro e wn ⟨rfl, rfl⟩) | (go_at_call 49; (with_reducible refine (HS1.out _).mono ?_); rintro e wn ⟨rfl, rfl⟩) | (go_at_call 49; (with_reducible refine (HS2.out _).mono ?_); rintro e wn ⟨rfl, rfl⟩))
          go_meet
          exact ⟨_, rfl, HF, Lib.hid (Only.refl _ _)⟩
        | true =>
          have HNM := Lib.hid (fun w => hnm ▸ rnameq_any x.name w HWK.out.name)
          cases hl : okN x.limit with
          | false =>
            have HF := Lib.hid (show true = !(isNm x.name && (okN x.limit && okN x.within)) from by rw [hl, hnm]; rfl)
            have HS1 := Lib.hid (fun w => hl ▸ rsmall_any x.limit w)
            clear hnm hl
            go_wp2_with (first | (go_at_call 48; (with_reducible refine (HNM.out _).mono ?_); rintro e wn ⟨rfl, rfl⟩) | (go_at_call 49; (with_reducible refine (HS1.out _).mono ?_); rintro e wn ⟨rfl, rfl⟩) | (go_at_call 49; (with_reducible refine (HS2.out _).mono ?_); rintro e wn ⟨rfl, rfl⟩))
            go_meet
            exact ⟨_, rfl, HF, Lib.hid (Only.refl _ _)⟩
          | true =>
            have HS1 := Lib.hid (fun w => hl ▸ rsmall_any x.limit w)
            obtain ⟨ow, how⟩ : ∃ ow, okN x.within = ow := ⟨_, rfl⟩
            have HF := Lib.hid (show (!ow) = !(isNm x.name && (okN x.limit && okN x.within)) from by rw [hl, hnm, how]; rfl)
            have HS2 := Lib.hid (fun w => how ▸ rsmall_any x.within w)
            clear hnm hl how
            go_wp2_with (first | (go_at_call 48; (with_reducible refine (HNM.out _).mono ?_); rintro e wn ⟨rfl, rfl⟩) | (go_at_call 49; (with_reducible refine (HS1.out _).mono ?_); rintro e wn ⟨rfl, rfl⟩) | (go_at_call 49; (with_reducible refine (HS2.out _).mono ?_); rintro e wn ⟨rfl, rfl⟩))
            go_meet
            exact ⟨_, rfl, HF, Lib.hid (Only.refl _ _)⟩
      case rest =>
        obtain ⟨b, rfl, HBB, HOC⟩ := hcut
        clear k0 k1 k2
        cases b with
        | true =>
          have HF := Lib.hid (show P.all okK = false from by
            refine HNO.out ?_
            unfold okK
            have : (isNm x.name && (okN x.limit && okN x.within)) = false := by have := HBB.out; cases h : (isNm x.name && (okN x.limit && okN x.within)) with | false => rfl | true => rw [h] at this; cases this
            rw [this]; rfl)
          go_wp2
          go_ret
          exact ⟨by rw [HF.out]; rfl, (O1.out.trans OK.out).trans HOC.out⟩
        | false =>
          have HKK := Lib.hid (show okK x = (x.cases.all okC && x.states.all okS) from by
            unfold okK
            have : (isNm x.name && (okN x.limit && okN x.within)) = true := by have := HBB.out; cases h : (isNm x.name && (okN x.limit && okN x.within)) with | true => rfl | false => rw [h] at this; cases this
            rw [this]; rfl)
          clear HBB
          have hbc : (x.cases.length : Int) ≤ 65000 := by have := HSK.out.1; omega
          have hbs : (x.states.length : Int) ≤ 65000 := by have := HSK.out.2.1; omega
          have GC2 := Lib.hid (GC.out.keep HOC.out (nilS · D))
          have GS2 := Lib.hid (GS.out.keep HOC.out (nilS · D))
          have BK2 := Lib.hid (BK.out.keep HOC.out)
          have OK2 := Lib.hid (OK.out.trans HOC.out)
          clear GC GS BK OK HOC
          generalize hnC : x.cases.length = nC at *
          generalize hnS : x.states.length = nS at *
          have HNC := Lib.hid hnC
          have HNS := Lib.hid hnS
          clear hnC hnS
          generalize wc = wo at *
          go_wp2
          go_loopw [5, 6] (fun s5 _ wr => ∃ j : Nat, s5 = .int .i64 (j : Int) ∧ j ≤ nC ∧ Hid ((x.cases.take j).all okC = true) ∧ Hid (Only Nil wo wr))
            (fun s5 _ _ => nC - (intOf s5).toNat)
          case atStart => exact ⟨0, rfl, Nat.zero_le _, Lib.hid (by rw [List.take_zero]; rfl), Lib.hid (Only.refl _ _)⟩
          case round =>
            obtain ⟨j, rfl, hj, hA', hO'⟩ := hrel
            have k3 := (BK2.out.keep hO'.out).cell 3 (v := .slice a1 nC c1) rfl
            by_cases hjn : j < nC
            · obtain ⟨q', off', rfl, hlt', hc'⟩ := (GC2.out.keep hO'.out (nilS · D)).at_ HNC.out j hjn
              have hjl : j < x.cases.length := by rw [HNC.out]; exact hjn
              have HWC := Lib.hid (HWK.out.cases _ (List.getElem_mem hjl))
              have HNE2 := Lib.hid (fun h => all_take_no (f := okC) hjl h)
              have HYE2 := Lib.hid (all_snoc okC hjl)
              generalize x.cases[j] = y at *
              have g0 : wr.cell? ⟨q', off' + j * 2, none⟩ = some (.string (bs y.reason)) := hc' 0 (by decide)
              have g1 : wr.cell? ⟨q', off' + j * 2 + 1, none⟩ = some (.int .i64 y.act) := hc' 1 (by decide)
              have OC := Lib.hid (hO'.out.trans ((Only.refl Nil wr).alloc (.cells #[.string (bs y.reason), .int .i64 y.act] 93)))
              have BC := Lib.hid (show Bx (wr.alloc (.cells #[.string (bs y.reason), .int .i64 y.act] 93)) wr.heap.size [.string (bs y.reason), .int .i64 y.act] 93 from bx_new wr _ _)
              clear hc' hjl
              go_upto_region 11 with (fail)
              generalize wr.alloc (.cells #[.string (bs y.reason), .int .i64 y.act] 93) = wq at *
              generalize wr.heap.size = R at *
              clear g0 g1 k3 hlt'
              have r0 := BC.out.cell 0 (v := .string (bs y.reason)) rfl
              have r1 := BC.out.cell 1 (v := .int .i64 y.act) rfl
              go_cut [62] (fun s62 wx => ∃ b : Bool, s62 = .bool b ∧ Hid (b = !okC y) ∧ Hid (Only Nil wq wx))
              case first =>
                have HWD := Lib.hid (fun w => rword_any y.act w)
                have hwe := okW_emp y.act
                by_cases hrs : y.reason = []
                · have he : (bs y.reason).toList.isEmpty = true := (emp_bs _).trans (decide_eq_true hrs)
                  obtain ⟨ow, how⟩ : ∃ ow, okP dirs (y.act - 1) = ow := ⟨_, rfl⟩
                  have HF := Lib.hid (show (!ow) = !okC y from by unfold okC; rw [hrs, how]; rfl)
                  rw [how] at hwe
                  clear hrs how
                  go_wp2_with (first | (go_at_call 48; (with_reducible refine (HNM.out _).mono ?_); rintro e wn ⟨rfl, rfl⟩) | (go_at_call 50; (with_reducible refine (HWD.out _).mono ?_); rintro e wn ⟨rfl, rfl⟩))
                  go_meet
                  exact ⟨_, rfl, HF, Lib.hid (Only.refl _ _)⟩
                · have he : (bs y.reason).toList.isEmpty = false := (emp_bs _).trans (decide_eq_false hrs)
                  cases hnm : isNm y.reason with
                  | false =>
                    have HF := Lib.hid (show true = !okC y from by unfold okC; rw [hnm]; simp [hrs])
                    have HNM := Lib.hid (fun w => hnm ▸ rnameq_any y.reason w HWC.out.reason)
                    clear hrs hnm hwe
                    go_wp2_with (first | (go_at_call 48; (with_reducible refine (HNM.out _).mono ?_); rintro e wn ⟨rfl, rfl⟩) | (go_at_call 50; (with_reducible refine (HWD.out _).mono ?_); rintro e wn ⟨rfl, rfl⟩))
                    go_meet
                    exact ⟨_, rfl, HF, Lib.hid (Only.refl _ _)⟩
                  | true =>
                    obtain ⟨ow, how⟩ : ∃ ow, okP dirs (y.act - 1) = ow := ⟨_, rfl⟩
                    have HF := Lib.hid (show (!ow) = !okC y from by unfold okC; rw [hnm, how]; simp)
                    have HNM := Lib.hid (fun w => hnm ▸ rnameq_any y.reason w HWC.out.reason)
                    rw [how] at hwe
                    clear hrs hnm how
                    go_wp2_with (first | (go_at_call 48; (with_reducible refine (HNM.out _).mono ?_); rintro e wn ⟨rfl, rfl⟩) | (go_at_call 50; (with_reducible refine (HWD.out _).mono ?_); rintro e wn ⟨rfl, rfl⟩))
                    go_meet
                    exact ⟨_, rfl, HF, Lib.hid (Only.refl _ _)⟩
              case rest =>
                obtain ⟨b, rfl, HBB, HOC⟩ := hcut
                clear r0 r1 BC
                cases b with
                | true =>
                  have HF := Lib.hid (show P.all okK = false from by
                    refine HNO.out (HKK.out.trans ?_)
                    have : okC y = false := by have := HBB.out; cases h : okC y with | false => rfl | true => rw [h] at this; cases this
                    rw [HNE2.out this]; rfl)
                  go_wp2
                  go_ret
                  exact ⟨by rw [HF.out]; rfl, ((O1.out.trans OK2.out).trans OC.out).trans HOC.out⟩
                | false =>
                  have HX2 := Lib.hid (show (x.cases.take (j + 1)).all okC = true from by
                    have : okC y = true := by have := HBB.out; cases h : okC y with | true => rfl | false => rw [h] at this; cases this
                    rw [← HYE2.out, hA'.out, this]; rfl)
                  have ON := Lib.hid (OC.out.trans HOC.out)
                  clear HBB
                  go_wp2
                  go_roundw
                  case rel => exact ⟨j + 1, by go_num, by omega, HX2, ON⟩
                  case measure => simp [intOf]; omega
            · obtain rfl : j = nC := by omega
              have HKS := Lib.hid (show okK x = x.states.all okS from by
                rw [HKK.out]
                have := hA'.out
                rw [List.take_of_length_le (by rw [HNC.out]; exact Nat.le_refl _)] at this
                rw [this]; rfl)
              have GS3 := Lib.hid (GS2.out.keep hO'.out (nilS · D))
              have BK3 := Lib.hid (BK2.out.keep hO'.out)
              have OK3 := Lib.hid (OK2.out.trans hO'.out)
              clear hjn hA' GC2 GS2 BK2 OK2 HKK hO'
              generalize wr = wp at *
              go_wp2
              go_loopw [7] (fun s7 wr => ∃ j : Nat, s7 = .int .i64 (j : Int) ∧ j ≤ nS ∧ Hid ((x.states.take j).all okS = true) ∧ Hid (Only Nil wp wr))
                (fun s7 _ => nS - (intOf s7).toNat)
              case atStart => exact ⟨0, rfl, Nat.zero_le _, Lib.hid (by rw [List.take_zero]; rfl), Lib.hid (Only.refl _ _)⟩
              case round =>
                obtain ⟨j, rfl, hj, hA', hO'⟩ := hrel
                clear k3
                have k4 := (BK3.out.keep hO'.out).cell 4 (v := .slice a2 nS c2) rfl
                by_cases hjn : j < nS
                · obtain ⟨u, ⟨q', off', rfl, hlt', hc'⟩, gx⟩ := (GS3.out.keep hO'.out (nilS · D)).at_ HNS.out j hjn
                  have hjl : j < x.states.length := by rw [HNS.out]; exact hjn
                  have HWS := Lib.hid (HWK.out.states _ (List.getElem_mem hjl))
                  have HSS := Lib.hid (HSK.out.2.2 _ (List.getElem_mem hjl))
                  have HNE2 := Lib.hid (fun h => all_take_no (f := okS) hjl h)
                  have HYE2 := Lib.hid (all_snoc okS hjl)
                  generalize x.states[j] = y at *
                  obtain ⟨ua, uc, rfl⟩ := gx.slice
                  have GX := Lib.hid gx
                  have g0 : wr.cell? ⟨q', off' + j * 2, none⟩ = some (.string (bs y.name)) := hc' 0 (by decide)
                  have g1 : wr.cell? ⟨q', off' + j * 2 + 1, none⟩ = some (.slice ua y.rows.length uc) := hc' 1 (by decide)
                  clear hc' hjl gx
                  cases hez : okS y with
                  | true =>
                    have HST := Lib.hid (hez ▸ rstate_any y _ GX.out HWS.out HSS.out)
                    have HX2 := Lib.hid (show (x.states.take (j + 1)).all okS = true from by rw [← HYE2.out, hA'.out, hez]; rfl)
                    clear hez
                    go_wp2_with (go_at_call 51; (with_reducible refine HST.out.mono ?_); rintro e wn ⟨rfl, on⟩; have ON := Lib.hid (hO'.out.trans on); clear on)
                    go_roundw
                    case rel => exact ⟨j + 1, by go_num, by omega, HX2, ON⟩
                    case measure => simp [intOf]; omega
                  | false =>
                    have HST := Lib.hid (hez ▸ rstate_any y _ GX.out HWS.out HSS.out)
                    have HF := Lib.hid (show P.all okK = false from by exact HNO.out (HKS.out.trans (HNE2.out hez)))
                    clear hez
                    go_wp2_with (go_at_call 51; (with_reducible refine HST.out.mono ?_); rintro e wn ⟨rfl, on⟩; have ON := Lib.hid (hO'.out.trans on); clear on)
                    go_ret
                    exact ⟨by rw [HF.out]; rfl, (O1.out.trans OK3.out).trans ON.out⟩
                · obtain rfl : j = nS := by omega
                  have HX2 := Lib.hid (show (P.take (i + 1)).all okK = true from by
                    rw [← HYE.out, hA.out, HKS.out]
                    have := hA'.out
                    rw [List.take_of_length_le (by rw [HNS.out]; exact Nat.le_refl _)] at this
                    rw [this]; rfl)
                  have ON := Lib.hid (OK3.out.trans hO'.out)
                  clear hjn hA'
                  go_wp2
                  go_roundw
                  case rel => exact ⟨i + 1, by go_num, by omega, HX2, ON⟩
                  case measure => simp [intOf]; omega
    · obtain rfl : i = N := by omega
      have HF := Lib.hid (show P.all okK = true from by
        have := hA.out
        rw [List.take_of_length_le (by rw [HN.out]; exact Nat.le_refl _)] at this
        exact this)
      clear hiN hA
      go_wp2
      go_ret
      exact ⟨by rw [HF.out]; rfl, O1.out.trans hO.out⟩
end Go.Proofs.YtdhokkmflccaaaaGreatDoor.Ps
