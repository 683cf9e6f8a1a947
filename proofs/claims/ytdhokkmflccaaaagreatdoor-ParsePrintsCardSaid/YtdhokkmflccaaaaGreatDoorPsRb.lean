/- parse: the document's Effect: is an effect writable? -/
import Derived.Test.YtdhokkmflccaaaaGreatDoorPsMb
import Derived.Test.YtdhokkmflccaaaaGreatDoorPsRa
import Derived.Test.YtdhokkmflccaaaaGreatDoorLxNq
import Derived.Deep.QuietTactic
import Derived.BigQuiet
set_option linter.unusedVariables false
namespace Go.Proofs.YtdhokkmflccaaaaGreatDoor.Ps
open Go.RowKit Go.Proofs.YtdhokkmflccaaaaGreatDoor Lx

def nameR (s : Wd) (b : Bool) : Bool := if b then isNm s else decide (s = [])
def rE (x : Eff) : Bool :=
  !(decide (pickW effw (x.act - 1) = [])) && (nameR x.ref (hasP (parts x.act) 114) && (nameR x.slot (hasP (parts x.act) 115) && (nameR x.name (hasP (parts x.act) 110) &&
    ((if hasP (parts x.act) 100 then okN x.delay else decide (x.delay = 0)) &&
      (if hasP (parts x.act) 118 && decide (x.val = 2) then okN x.n else decide (x.n = 0) && (decide (x.val = 0) || decide (x.val = 1) && hasP (parts x.act) 118))))))
theorem okV_eq (v n : Int) : okV v n = (if v = 2 then okN n else decide (n = 0) && (decide (v = 0) || decide (v = 1))) := by
  unfold okV okP
  have : (vals.length : Int) = 2 := rfl
  rw [this]
  by_cases h2 : v = 2
  · rw [if_pos h2, if_pos h2]
  · rw [if_neg h2, if_neg h2]
    congr 1
    rw [Bool.eq_iff_iff]; simp; omega
theorem rE_eq (x : Eff) : rE x = okE x := by
  by_cases h : 1 ≤ x.act ∧ x.act ≤ 12
  · obtain ⟨z, ref, slot, name, val, n, delay⟩ := x
    obtain ⟨h1, h2⟩ := h
    dsimp only at h1 h2
    rcases act_cases h1 h2 with rfl | rfl | rfl | rfl | rfl | rfl | rfl | rfl | rfl | rfl | rfl | rfl
    all_goals
      rw [Bool.eq_iff_iff]
      simp [rE, okE, okP, parts, hasP, nameR, okPart, zeroP, eff0, okV_eq, pickW, effw, w_send, w_spawn, w_become, w_stash, w_unstash, w_watch, w_unwatch, w_timer, w_cancel, w_hold, w_stop, w_fail]
      (try intro _ _ _)
      constructor <;> (intro h; simp_all)
  · have hL : (effw.length : Int) = 12 := rfl
    have e : pickW effw (x.act - 1) = [] := pick_out (by omega)
    have e2 : okP effw (x.act - 1) = false := by
      unfold okP; rw [hL, Bool.and_eq_false_iff]; simp; omega
    unfold rE okE
    rw [e, e2]; simp
theorem emp_bs (s : Wd) : (bs s).toList.isEmpty = decide (s = []) := by
  rw [toList_bs]; cases s <;> rfl
theorem rnm_any (s : Wd) (b : Bool) (w : World) (hs : s.length ≤ 140737488355328) : Calls Tryz.prog 123 #[.string (bs s), .bool b] w fun e w' => e = .returned (.bool (nameR s b)) ∧ w = w' := by
  cases b with
  | false =>
    have HX := Lib.hid (emp_bs s)
    go_enter Tryz.func123, Tryz.ntmps123
    go_wp2
    go_ret
    exact ⟨by show Ending.returned (.bool (bs s).toList.isEmpty) = _; rw [HX.out]; rfl, rfl⟩
  | true =>
    have HC := Lib.hid (rnameq_any s w hs)
    go_enter Tryz.func123, Tryz.ntmps123
    go_wp2_with (go_at_call 48; refine HC.out.mono ?_; rintro e w' ⟨rfl, rfl⟩)
    go_ret
    exact ⟨rfl, rfl⟩
theorem parts_len (z : Int) : (parts z).length ≤ 1000 := by
  unfold parts; (repeat' split) <;> decide
set_option maxRecDepth 100000 in
set_option maxHeartbeats 8000000 in
theorem reff_any (x : Eff) (wf : wfE x) (w : World) : Calls Tryz.prog 79 #[.agg #[.int .i64 x.act, .string (bs x.ref), .string (bs x.slot), .string (bs x.name), .int .i64 x.val, .int .i64 x.n, .int .i64 x.delay]] w fun e w' => e = .returned (.bool (okE x)) ∧ Only Nil w w' := by
  have hres := (rE_eq x).symm
  unfold rE at hres
  have h114 : ∀ w, Calls Tryz.prog 102 #[.string (bs (parts x.act)), .int .u8 114] w fun e w' => e = .returned (.bool (hasP (parts x.act) 114)) ∧ w = w' := fun w => rhas_any _ 114 (parts_len _) w
  have h115 : ∀ w, Calls Tryz.prog 102 #[.string (bs (parts x.act)), .int .u8 115] w fun e w' => e = .returned (.bool (hasP (parts x.act) 115)) ∧ w = w' := fun w => rhas_any _ 115 (parts_len _) w
  have h110 : ∀ w, Calls Tryz.prog 102 #[.string (bs (parts x.act)), .int .u8 110] w fun e w' => e = .returned (.bool (hasP (parts x.act) 110)) ∧ w = w' := fun w => rhas_any _ 110 (parts_len _) w
  have h100 : ∀ w, Calls Tryz.prog 102 #[.string (bs (parts x.act)), .int .u8 100] w fun e w' => e = .returned (.bool (hasP (parts x.act) 100)) ∧ w = w' := fun w => rhas_any _ 100 (parts_len _) w
  have h118 : ∀ w, Calls Tryz.prog 102 #[.string (bs (parts x.act)), .int .u8 118] w fun e w' => e = .returned (.bool (hasP (parts x.act) 118)) ∧ w = w' := fun w => rhas_any _ 118 (parts_len _) w
  have n1 := fun w => rnm_any x.ref (hasP (parts x.act) 114) w wf.ref
  have n2 := fun w => rnm_any x.slot (hasP (parts x.act) 115) w wf.slot
  have n3 := fun w => rnm_any x.name (hasP (parts x.act) 110) w wf.name
  have vb := fun w => rverb_any x.act w
  have hemp := emp_bs (pickW effw (x.act - 1))
  generalize nameR x.ref (hasP (parts x.act) 114) = b1 at *
  generalize nameR x.slot (hasP (parts x.act) 115) = b2 at *
  generalize nameR x.name (hasP (parts x.act) 110) = b3 at *
  generalize hasP (parts x.act) 114 = hr at *
  generalize hasP (parts x.act) 115 = hs at *
  generalize hasP (parts x.act) 110 = hn at *
  generalize hasP (parts x.act) 100 = hd at *
  generalize hasP (parts x.act) 118 = hv at *
  generalize parts x.act = l at *
  generalize pickW effw (x.act - 1) = vw at *
  have H114 := Lib.hid h114
  have H115 := Lib.hid h115
  have H110 := Lib.hid h110
  have H100 := Lib.hid h100
  have H118 := Lib.hid h118
  have N1 := Lib.hid n1
  have N2 := Lib.hid n2
  have N3 := Lib.hid n3
  have VB := Lib.hid vb
  have HRES := Lib.hid hres
  obtain ⟨w1, hw1⟩ : ∃ w1, w1 = w.alloc (.cells (effC x).toArray 76) := ⟨_, rfl⟩
  have O1 := Lib.hid (show Only Nil w w1 from hw1 ▸ (Only.refl Nil w).alloc _)
  have BX := Lib.hid (show Bx w1 w.heap.size (effC x) 76 from hw1 ▸ bx_new w _ _)
  have eW : w.alloc (.cells #[.int .i64 x.act, .string (bs x.ref), .string (bs x.slot), .string (bs x.name), .int .i64 x.val, .int .i64 x.n, .int .i64 x.delay] 76) = w1 := hw1.symm
  have CC := Lib.hid (show ∀ w', Only Nil w1 w' → w'.cell? ⟨w.heap.size, 1, none⟩ = some (.string (bs x.ref)) ∧ w'.cell? ⟨w.heap.size, 2, none⟩ = some (.string (bs x.slot)) ∧ w'.cell? ⟨w.heap.size, 3, none⟩ = some (.string (bs x.name)) ∧ w'.cell? ⟨w.heap.size, 4, none⟩ = some (.int .i64 x.val) ∧ w'.cell? ⟨w.heap.size, 5, none⟩ = some (.int .i64 x.n) ∧ w'.cell? ⟨w.heap.size, 6, none⟩ = some (.int .i64 x.delay) from fun w' o => ⟨only_cell0 o (BX.out.cell 1 rfl), only_cell0 o (BX.out.cell 2 rfl), only_cell0 o (BX.out.cell 3 rfl), only_cell0 o (BX.out.cell 4 rfl), only_cell0 o (BX.out.cell 5 rfl), only_cell0 o (BX.out.cell 6 rfl)⟩)
  have c0 := BX.out.cell 0 (v := .int .i64 x.act) rfl
  obtain ⟨c1, c2, c3, c4, c5, c6⟩ := CC.out w1 (Only.refl _ _)
  clear hres h114 h115 h110 h100 h118 n1 n2 n3 vb hw1 wf
  by_cases hvw : vw = []
  · have HF := Lib.hid (show okE x = false from by rw [HRES.out, decide_eq_true hvw]; rfl)
    have hq : (bs vw).toList.isEmpty = true := hemp.trans (decide_eq_true hvw)
    clear hvw hemp
    go_enter Tryz.func79, Tryz.ntmps79
    go_upto_region 1 with (fail)
    (try rw [eW]); clear eW
    generalize w.heap.size = B at *
    go_upto_region 2 with (go_at_call 80; refine (VB.out _).mono ?_; rintro e wn ⟨rfl, rfl⟩)
    clear c0 VB BX
    go_quiet (first
      | (go_at_call 102; (with_reducible exact quiet_same (H114.out _)))
      | (go_at_call 102; (with_reducible exact quiet_same (H115.out _)))
      | (go_at_call 102; (with_reducible exact quiet_same (H110.out _)))
      | (go_at_call 123; (with_reducible exact quiet_same (N1.out _)))
      | (go_at_call 123; (with_reducible exact quiet_same (N2.out _)))
      | (go_at_call 123; (with_reducible exact quiet_same (N3.out _))))
    obtain ⟨w2, hw2⟩ : ∃ w2, w2 = w1.drewN nq := ⟨_, rfl⟩
    have OO := Lib.hid (show Only Nil w1 w2 from hw2 ▸ (Only.refl Nil w1).drewN nq)
    rw [← hw2]; clear hw2
    go_wp2
    go_ret
    exact ⟨by rw [HF.out]; rfl, O1.out.trans OO.out⟩
  have hq : (bs vw).toList.isEmpty = false := hemp.trans (decide_eq_false hvw)
  have HR0 := Lib.hid (HRES.out.trans (by rw [decide_eq_false hvw, Bool.not_false, Bool.true_and]))
  clear hvw hemp HRES
  cases b1 with
  | false =>
    have HF := Lib.hid (show okE x = false from by rw [HR0.out]; simp)
    go_enter Tryz.func79, Tryz.ntmps79
    go_upto_region 1 with (fail)
    (try rw [eW]); clear eW
    generalize w.heap.size = B at *
    go_upto_region 2 with (go_at_call 80; refine (VB.out _).mono ?_; rintro e wn ⟨rfl, rfl⟩)
    clear c0 VB BX
    go_quiet (first
      | (go_at_call 102; (with_reducible exact quiet_same (H114.out _)))
      | (go_at_call 102; (with_reducible exact quiet_same (H115.out _)))
      | (go_at_call 102; (with_reducible exact quiet_same (H110.out _)))
      | (go_at_call 123; (with_reducible exact quiet_same (N1.out _)))
      | (go_at_call 123; (with_reducible exact quiet_same (N2.out _)))
      | (go_at_call 123; (with_reducible exact quiet_same (N3.out _))))
    obtain ⟨w2, hw2⟩ : ∃ w2, w2 = w1.drewN nq := ⟨_, rfl⟩
    have OO := Lib.hid (show Only Nil w1 w2 from hw2 ▸ (Only.refl Nil w1).drewN nq)
    rw [← hw2]; clear hw2
    go_wp2
    go_ret
    exact ⟨by rw [HF.out]; rfl, O1.out.trans OO.out⟩
  | true =>
    cases b2 with
    | false =>
      have HF := Lib.hid (show okE x = false from by rw [HR0.out]; simp)
      go_enter Tryz.func79, Tryz.ntmps79
      go_upto_region 1 with (fail)
      (try rw [eW]); clear eW
      generalize w.heap.size = B at *
      go_upto_region 2 with (go_at_call 80; refine (VB.out _).mono ?_; rintro e wn ⟨rfl, rfl⟩)
      clear c0 VB BX
      go_quiet (first
        | (go_at_call 102; (with_reducible exact quiet_same (H114.out _)))
        | (go_at_call 102; (with_reducible exact quiet_same (H115.out _)))
        | (go_at_call 102; (with_reducible exact quiet_same (H110.out _)))
        | (go_at_call 123; (with_reducible exact quiet_same (N1.out _)))
        | (go_at_call 123; (with_reducible exact quiet_same (N2.out _)))
        | (go_at_call 123; (with_reducible exact quiet_same (N3.out _))))
      obtain ⟨w2, hw2⟩ : ∃ w2, w2 = w1.drewN nq := ⟨_, rfl⟩
      have OO := Lib.hid (show Only Nil w1 w2 from hw2 ▸ (Only.refl Nil w1).drewN nq)
      rw [← hw2]; clear hw2
      go_wp2
      go_ret
      exact ⟨by rw [HF.out]; rfl, O1.out.trans OO.out⟩
    | true =>
      cases b3 with
      | false =>
        have HF := Lib.hid (show okE x = false from by rw [HR0.out]; simp)
        go_enter Tryz.func79, Tryz.ntmps79
        go_upto_region 1 with (fail)
        (try rw [eW]); clear eW
        generalize w.heap.size = B at *
        go_upto_region 2 with (go_at_call 80; refine (VB.out _).mono ?_; rintro e wn ⟨rfl, rfl⟩)
        clear c0 VB BX
        go_quiet (first
          | (go_at_call 102; (with_reducible exact quiet_same (H114.out _)))
          | (go_at_call 102; (with_reducible exact quiet_same (H115.out _)))
          | (go_at_call 102; (with_reducible exact quiet_same (H110.out _)))
          | (go_at_call 123; (with_reducible exact quiet_same (N1.out _)))
          | (go_at_call 123; (with_reducible exact quiet_same (N2.out _)))
          | (go_at_call 123; (with_reducible exact quiet_same (N3.out _))))
        obtain ⟨w2, hw2⟩ : ∃ w2, w2 = w1.drewN nq := ⟨_, rfl⟩
        have OO := Lib.hid (show Only Nil w1 w2 from hw2 ▸ (Only.refl Nil w1).drewN nq)
        rw [← hw2]; clear hw2
        go_wp2
        go_ret
        exact ⟨by rw [HF.out]; rfl, O1.out.trans OO.out⟩
      | true =>
        have HR1 := Lib.hid (show okE x = ((if hd then okN x.delay else decide (x.delay = 0)) && (if hv && decide (x.val = 2) then okN x.n else decide (x.n = 0) && (decide (x.val = 0) || decide (x.val = 1) && hv))) from by rw [HR0.out]; simp)
        clear HR0
        go_enter Tryz.func79, Tryz.ntmps79
        go_upto_region 1 with (fail)
        (try rw [eW]); clear eW
        generalize w.heap.size = B at *
        go_upto_region 2 with (go_at_call 80; refine (VB.out _).mono ?_; rintro e wn ⟨rfl, rfl⟩)
        clear c0 VB BX
        go_quiet (first
          | (go_at_call 102; (with_reducible exact quiet_same (H114.out _)))
          | (go_at_call 102; (with_reducible exact quiet_same (H115.out _)))
          | (go_at_call 102; (with_reducible exact quiet_same (H110.out _)))
          | (go_at_call 123; (with_reducible exact quiet_same (N1.out _)))
          | (go_at_call 123; (with_reducible exact quiet_same (N2.out _)))
          | (go_at_call 123; (with_reducible exact quiet_same (N3.out _))))
        obtain ⟨w2, hw2⟩ : ∃ w2, w2 = w1.drewN nq := ⟨_, rfl⟩
        have OO := Lib.hid (show Only Nil w1 w2 from hw2 ▸ (Only.refl Nil w1).drewN nq)
        rw [← hw2]; clear hw2
        obtain ⟨c1, c2, c3, c4, c5, c6⟩ := CC.out _ OO.out
        clear CC H114 H115 H110 N1 N2 N3 c1 c2 c3
        cases hd with
        | true =>
          obtain ⟨sm, hsm⟩ : ∃ sm, sm = okN x.delay := ⟨_, rfl⟩
          have HSM := Lib.hid hsm
          have hsml : ∀ w, Calls Tryz.prog 49 #[.int .i64 x.delay] w fun e w' => e = .returned (.bool sm) ∧ w = w' := fun w => by rw [hsm]; exact rsmall_any _ _
          have SML := Lib.hid hsml
          clear hsm hsml
          cases sm with
          | false =>
            have HF := Lib.hid (show okE x = false from by rw [HR1.out, ← HSM.out]; simp)
            go_wp2_with (first
                | (go_at_call 102; (with_reducible refine (H100.out _).mono ?_); rintro e wn ⟨rfl, rfl⟩)
                | (go_at_call 102; (with_reducible refine (H118.out _).mono ?_); rintro e wn ⟨rfl, rfl⟩)
                | (go_at_call 49; (with_reducible refine (SML.out _).mono ?_); rintro e wn ⟨rfl, rfl⟩)
                | (go_at_call 49; refine (rsmall_any _ _).mono ?_; rintro e wn ⟨rfl, rfl⟩))
            go_ret
            exact ⟨by rw [HF.out]; rfl, O1.out.trans OO.out⟩
          | true =>
            have HR2 := Lib.hid (show okE x = (if hv && decide (x.val = 2) then okN x.n else decide (x.n = 0) && (decide (x.val = 0) || decide (x.val = 1) && hv)) from by rw [HR1.out]; rw [← HSM.out]; rfl)
            clear HR1
            cases hv with
            | true =>
              by_cases hv2 : x.val = 2
              · have HF := Lib.hid (show okE x = okN x.n from by rw [HR2.out]; simp [hv2])
                have hq2 : (x.val == 2) = true := by simpa using hv2
                have hq3 : (x.val != 2) = false := by simpa using hv2
                clear hv2
                go_wp2_with (first
                    | (go_at_call 102; (with_reducible refine (H100.out _).mono ?_); rintro e wn ⟨rfl, rfl⟩)
                    | (go_at_call 102; (with_reducible refine (H118.out _).mono ?_); rintro e wn ⟨rfl, rfl⟩)
                    | (go_at_call 49; (with_reducible refine (SML.out _).mono ?_); rintro e wn ⟨rfl, rfl⟩)
                    | (go_at_call 49; refine (rsmall_any _ _).mono ?_; rintro e wn ⟨rfl, rfl⟩))
                go_ret
                exact ⟨by rw [HF.out]; rfl, O1.out.trans OO.out⟩
              · have hq2 : (x.val == 2) = false := by simpa using hv2
                have hq3 : (x.val != 2) = true := by simpa using hv2
                by_cases hn0 : x.n = 0
                · have hn1 : (x.n == 0) = true := by simpa using hn0
                  by_cases hv0 : x.val = 0
                  · have HF := Lib.hid (show okE x = true from by rw [HR2.out]; simp [hn0, hv0])
                    have hw0 : (x.val == 0) = true := by simpa using hv0
                    clear hn0 hv0 hv2
                    go_wp2_with (first
                        | (go_at_call 102; (with_reducible refine (H100.out _).mono ?_); rintro e wn ⟨rfl, rfl⟩)
                        | (go_at_call 102; (with_reducible refine (H118.out _).mono ?_); rintro e wn ⟨rfl, rfl⟩)
                        | (go_at_call 49; (with_reducible refine (SML.out _).mono ?_); rintro e wn ⟨rfl, rfl⟩)
                        | (go_at_call 49; refine (rsmall_any _ _).mono ?_; rintro e wn ⟨rfl, rfl⟩))
                    go_ret
                    exact ⟨by rw [HF.out]; rfl, O1.out.trans OO.out⟩
                  · have hw0 : (x.val == 0) = false := by simpa using hv0
                    by_cases hv1 : x.val = 1
                    · have HF := Lib.hid (show okE x = true from by rw [HR2.out]; simp [hn0, hv1])
                      have hw1 : (x.val == 1) = true := by simpa using hv1
                      clear hn0 hv0 hv1 hv2
                      go_wp2_with (first
                          | (go_at_call 102; (with_reducible refine (H100.out _).mono ?_); rintro e wn ⟨rfl, rfl⟩)
                          | (go_at_call 102; (with_reducible refine (H118.out _).mono ?_); rintro e wn ⟨rfl, rfl⟩)
                          | (go_at_call 49; (with_reducible refine (SML.out _).mono ?_); rintro e wn ⟨rfl, rfl⟩)
                          | (go_at_call 49; refine (rsmall_any _ _).mono ?_; rintro e wn ⟨rfl, rfl⟩))
                      go_ret
                      exact ⟨by rw [HF.out]; rfl, O1.out.trans OO.out⟩
                    · have HF := Lib.hid (show okE x = false from by rw [HR2.out]; simp [hn0, hv0, hv1, hv2])
                      have hw1 : (x.val == 1) = false := by simpa using hv1
                      clear hn0 hv0 hv1 hv2
                      go_wp2_with (first
                          | (go_at_call 102; (with_reducible refine (H100.out _).mono ?_); rintro e wn ⟨rfl, rfl⟩)
                          | (go_at_call 102; (with_reducible refine (H118.out _).mono ?_); rintro e wn ⟨rfl, rfl⟩)
                          | (go_at_call 49; (with_reducible refine (SML.out _).mono ?_); rintro e wn ⟨rfl, rfl⟩)
                          | (go_at_call 49; refine (rsmall_any _ _).mono ?_; rintro e wn ⟨rfl, rfl⟩))
                      go_ret
                      exact ⟨by rw [HF.out]; rfl, O1.out.trans OO.out⟩
                · have HF := Lib.hid (show okE x = false from by rw [HR2.out]; simp [hn0, hv2])
                  have hn1 : (x.n == 0) = false := by simpa using hn0
                  clear hn0 hv2
                  go_wp2_with (first
                      | (go_at_call 102; (with_reducible refine (H100.out _).mono ?_); rintro e wn ⟨rfl, rfl⟩)
                      | (go_at_call 102; (with_reducible refine (H118.out _).mono ?_); rintro e wn ⟨rfl, rfl⟩)
                      | (go_at_call 49; (with_reducible refine (SML.out _).mono ?_); rintro e wn ⟨rfl, rfl⟩)
                      | (go_at_call 49; refine (rsmall_any _ _).mono ?_; rintro e wn ⟨rfl, rfl⟩))
                  go_ret
                  exact ⟨by rw [HF.out]; rfl, O1.out.trans OO.out⟩
            | false =>
              by_cases hn0 : x.n = 0
              · have hn1 : (x.n == 0) = true := by simpa using hn0
                by_cases hv0 : x.val = 0
                · have HF := Lib.hid (show okE x = true from by rw [HR2.out]; simp [hn0, hv0])
                  have hw0 : (x.val == 0) = true := by simpa using hv0
                  clear hn0 hv0
                  go_wp2_with (first
                      | (go_at_call 102; (with_reducible refine (H100.out _).mono ?_); rintro e wn ⟨rfl, rfl⟩)
                      | (go_at_call 102; (with_reducible refine (H118.out _).mono ?_); rintro e wn ⟨rfl, rfl⟩)
                      | (go_at_call 49; (with_reducible refine (SML.out _).mono ?_); rintro e wn ⟨rfl, rfl⟩)
                      | (go_at_call 49; refine (rsmall_any _ _).mono ?_; rintro e wn ⟨rfl, rfl⟩))
                  go_ret
                  exact ⟨by rw [HF.out]; rfl, O1.out.trans OO.out⟩
                · have hw0 : (x.val == 0) = false := by simpa using hv0
                  by_cases hv1 : x.val = 1
                  · have HF := Lib.hid (show okE x = false from by rw [HR2.out]; simp [hn0, hv1])
                    have hw1 : (x.val == 1) = true := by simpa using hv1
                    clear hn0 hv0 hv1
                    go_wp2_with (first
                        | (go_at_call 102; (with_reducible refine (H100.out _).mono ?_); rintro e wn ⟨rfl, rfl⟩)
                        | (go_at_call 102; (with_reducible refine (H118.out _).mono ?_); rintro e wn ⟨rfl, rfl⟩)
                        | (go_at_call 49; (with_reducible refine (SML.out _).mono ?_); rintro e wn ⟨rfl, rfl⟩)
                        | (go_at_call 49; refine (rsmall_any _ _).mono ?_; rintro e wn ⟨rfl, rfl⟩))
                    go_ret
                    exact ⟨by rw [HF.out]; rfl, O1.out.trans OO.out⟩
                  · have HF := Lib.hid (show okE x = false from by rw [HR2.out]; simp [hn0, hv0, hv1])
                    have hw1 : (x.val == 1) = false := by simpa using hv1
                    clear hn0 hv0 hv1
                    go_wp2_with (first
                        | (go_at_call 102; (with_reducible refine (H100.out _).mono ?_); rintro e wn ⟨rfl, rfl⟩)
                        | (go_at_call 102; (with_reducible refine (H118.out _).mono ?_); rintro e wn ⟨rfl, rfl⟩)
                        | (go_at_call 49; (with_reducible refine (SML.out _).mono ?_); rintro e wn ⟨rfl, rfl⟩)
                        | (go_at_call 49; refine (rsmall_any _ _).mono ?_; rintro e wn ⟨rfl, rfl⟩))
                    go_ret
                    exact ⟨by rw [HF.out]; rfl, O1.out.trans OO.out⟩
              · have HF := Lib.hid (show okE x = false from by rw [HR2.out]; simp [hn0])
                have hn1 : (x.n == 0) = false := by simpa using hn0
                clear hn0
                go_wp2_with (first
                    | (go_at_call 102; (with_reducible refine (H100.out _).mono ?_); rintro e wn ⟨rfl, rfl⟩)
                    | (go_at_call 102; (with_reducible refine (H118.out _).mono ?_); rintro e wn ⟨rfl, rfl⟩)
                    | (go_at_call 49; (with_reducible refine (SML.out _).mono ?_); rintro e wn ⟨rfl, rfl⟩)
                    | (go_at_call 49; refine (rsmall_any _ _).mono ?_; rintro e wn ⟨rfl, rfl⟩))
                go_ret
                exact ⟨by rw [HF.out]; rfl, O1.out.trans OO.out⟩
        | false =>
          by_cases hd0 : x.delay = 0
          · have hd1 : (x.delay == 0) = true := by simpa using hd0
            have hd2 : (x.delay != 0) = false := by simpa using hd0
            have HR2 := Lib.hid (show okE x = (if hv && decide (x.val = 2) then okN x.n else decide (x.n = 0) && (decide (x.val = 0) || decide (x.val = 1) && hv)) from by rw [HR1.out]; simp [hd0])
            clear HR1 hd0
            cases hv with
            | true =>
              by_cases hv2 : x.val = 2
              · have HF := Lib.hid (show okE x = okN x.n from by rw [HR2.out]; simp [hv2])
                have hq2 : (x.val == 2) = true := by simpa using hv2
                have hq3 : (x.val != 2) = false := by simpa using hv2
                clear hv2
                go_wp2_with (first
                    | (go_at_call 102; (with_reducible refine (H100.out _).mono ?_); rintro e wn ⟨rfl, rfl⟩)
                    | (go_at_call 102; (with_reducible refine (H118.out _).mono ?_); rintro e wn ⟨rfl, rfl⟩)
                    | (go_at_call 49; (with_reducible refine (SML.out _).mono ?_); rintro e wn ⟨rfl, rfl⟩)
                    | (go_at_call 49; refine (rsmall_any _ _).mono ?_; rintro e wn ⟨rfl, rfl⟩))
                go_ret
                exact ⟨by rw [HF.out]; rfl, O1.out.trans OO.out⟩
              · have hq2 : (x.val == 2) = false := by simpa using hv2
                have hq3 : (x.val != 2) = true := by simpa using hv2
                by_cases hn0 : x.n = 0
                · have hn1 : (x.n == 0) = true := by simpa using hn0
                  by_cases hv0 : x.val = 0
                  · have HF := Lib.hid (show okE x = true from by rw [HR2.out]; simp [hn0, hv0])
                    have hw0 : (x.val == 0) = true := by simpa using hv0
                    clear hn0 hv0 hv2
                    go_wp2_with (first
                        | (go_at_call 102; (with_reducible refine (H100.out _).mono ?_); rintro e wn ⟨rfl, rfl⟩)
                        | (go_at_call 102; (with_reducible refine (H118.out _).mono ?_); rintro e wn ⟨rfl, rfl⟩)
                        | (go_at_call 49; (with_reducible refine (SML.out _).mono ?_); rintro e wn ⟨rfl, rfl⟩)
                        | (go_at_call 49; refine (rsmall_any _ _).mono ?_; rintro e wn ⟨rfl, rfl⟩))
                    go_ret
                    exact ⟨by rw [HF.out]; rfl, O1.out.trans OO.out⟩
                  · have hw0 : (x.val == 0) = false := by simpa using hv0
                    by_cases hv1 : x.val = 1
                    · have HF := Lib.hid (show okE x = true from by rw [HR2.out]; simp [hn0, hv1])
                      have hw1 : (x.val == 1) = true := by simpa using hv1
                      clear hn0 hv0 hv1 hv2
                      go_wp2_with (first
                          | (go_at_call 102; (with_reducible refine (H100.out _).mono ?_); rintro e wn ⟨rfl, rfl⟩)
                          | (go_at_call 102; (with_reducible refine (H118.out _).mono ?_); rintro e wn ⟨rfl, rfl⟩)
                          | (go_at_call 49; (with_reducible refine (SML.out _).mono ?_); rintro e wn ⟨rfl, rfl⟩)
                          | (go_at_call 49; refine (rsmall_any _ _).mono ?_; rintro e wn ⟨rfl, rfl⟩))
                      go_ret
                      exact ⟨by rw [HF.out]; rfl, O1.out.trans OO.out⟩
                    · have HF := Lib.hid (show okE x = false from by rw [HR2.out]; simp [hn0, hv0, hv1, hv2])
                      have hw1 : (x.val == 1) = false := by simpa using hv1
                      clear hn0 hv0 hv1 hv2
                      go_wp2_with (first
                          | (go_at_call 102; (with_reducible refine (H100.out _).mono ?_); rintro e wn ⟨rfl, rfl⟩)
                          | (go_at_call 102; (with_reducible refine (H118.out _).mono ?_); rintro e wn ⟨rfl, rfl⟩)
                          | (go_at_call 49; (with_reducible refine (SML.out _).mono ?_); rintro e wn ⟨rfl, rfl⟩)
                          | (go_at_call 49; refine (rsmall_any _ _).mono ?_; rintro e wn ⟨rfl, rfl⟩))
                      go_ret
                      exact ⟨by rw [HF.out]; rfl, O1.out.trans OO.out⟩
                · have HF := Lib.hid (show okE x = false from by rw [HR2.out]; simp [hn0, hv2])
                  have hn1 : (x.n == 0) = false := by simpa using hn0
                  clear hn0 hv2
                  go_wp2_with (first
                      | (go_at_call 102; (with_reducible refine (H100.out _).mono ?_); rintro e wn ⟨rfl, rfl⟩)
                      | (go_at_call 102; (with_reducible refine (H118.out _).mono ?_); rintro e wn ⟨rfl, rfl⟩)
                      | (go_at_call 49; (with_reducible refine (SML.out _).mono ?_); rintro e wn ⟨rfl, rfl⟩)
                      | (go_at_call 49; refine (rsmall_any _ _).mono ?_; rintro e wn ⟨rfl, rfl⟩))
                  go_ret
                  exact ⟨by rw [HF.out]; rfl, O1.out.trans OO.out⟩
            | false =>
              by_cases hn0 : x.n = 0
              · have hn1 : (x.n == 0) = true := by simpa using hn0
                by_cases hv0 : x.val = 0
                · have HF := Lib.hid (show okE x = true from by rw [HR2.out]; simp [hn0, hv0])
                  have hw0 : (x.val == 0) = true := by simpa using hv0
                  clear hn0 hv0
                  go_wp2_with (first
                      | (go_at_call 102; (with_reducible refine (H100.out _).mono ?_); rintro e wn ⟨rfl, rfl⟩)
                      | (go_at_call 102; (with_reducible refine (H118.out _).mono ?_); rintro e wn ⟨rfl, rfl⟩)
                      | (go_at_call 49; (with_reducible refine (SML.out _).mono ?_); rintro e wn ⟨rfl, rfl⟩)
                      | (go_at_call 49; refine (rsmall_any _ _).mono ?_; rintro e wn ⟨rfl, rfl⟩))
                  go_ret
                  exact ⟨by rw [HF.out]; rfl, O1.out.trans OO.out⟩
                · have hw0 : (x.val == 0) = false := by simpa using hv0
                  by_cases hv1 : x.val = 1
                  · have HF := Lib.hid (show okE x = false from by rw [HR2.out]; simp [hn0, hv1])
                    have hw1 : (x.val == 1) = true := by simpa using hv1
                    clear hn0 hv0 hv1
                    go_wp2_with (first
                        | (go_at_call 102; (with_reducible refine (H100.out _).mono ?_); rintro e wn ⟨rfl, rfl⟩)
                        | (go_at_call 102; (with_reducible refine (H118.out _).mono ?_); rintro e wn ⟨rfl, rfl⟩)
                        | (go_at_call 49; (with_reducible refine (SML.out _).mono ?_); rintro e wn ⟨rfl, rfl⟩)
                        | (go_at_call 49; refine (rsmall_any _ _).mono ?_; rintro e wn ⟨rfl, rfl⟩))
                    go_ret
                    exact ⟨by rw [HF.out]; rfl, O1.out.trans OO.out⟩
                  · have HF := Lib.hid (show okE x = false from by rw [HR2.out]; simp [hn0, hv0, hv1])
                    have hw1 : (x.val == 1) = false := by simpa using hv1
                    clear hn0 hv0 hv1
                    go_wp2_with (first
                        | (go_at_call 102; (with_reducible refine (H100.out _).mono ?_); rintro e wn ⟨rfl, rfl⟩)
                        | (go_at_call 102; (with_reducible refine (H118.out _).mono ?_); rintro e wn ⟨rfl, rfl⟩)
                        | (go_at_call 49; (with_reducible refine (SML.out _).mono ?_); rintro e wn ⟨rfl, rfl⟩)
                        | (go_at_call 49; refine (rsmall_any _ _).mono ?_; rintro e wn ⟨rfl, rfl⟩))
                    go_ret
                    exact ⟨by rw [HF.out]; rfl, O1.out.trans OO.out⟩
              · have HF := Lib.hid (show okE x = false from by rw [HR2.out]; simp [hn0])
                have hn1 : (x.n == 0) = false := by simpa using hn0
                clear hn0
                go_wp2_with (first
                    | (go_at_call 102; (with_reducible refine (H100.out _).mono ?_); rintro e wn ⟨rfl, rfl⟩)
                    | (go_at_call 102; (with_reducible refine (H118.out _).mono ?_); rintro e wn ⟨rfl, rfl⟩)
                    | (go_at_call 49; (with_reducible refine (SML.out _).mono ?_); rintro e wn ⟨rfl, rfl⟩)
                    | (go_at_call 49; refine (rsmall_any _ _).mono ?_; rintro e wn ⟨rfl, rfl⟩))
                go_ret
                exact ⟨by rw [HF.out]; rfl, O1.out.trans OO.out⟩
          · have hd1 : (x.delay == 0) = false := by simpa using hd0
            have hd2 : (x.delay != 0) = true := by simpa using hd0
            have HF := Lib.hid (show okE x = false from by rw [HR1.out]; simp [hd0])
            clear hd0
            go_wp2_with (first
                | (go_at_call 102; (with_reducible refine (H100.out _).mono ?_); rintro e wn ⟨rfl, rfl⟩)
                | (go_at_call 102; (with_reducible refine (H118.out _).mono ?_); rintro e wn ⟨rfl, rfl⟩)
                | (go_at_call 49; (with_reducible refine (SML.out _).mono ?_); rintro e wn ⟨rfl, rfl⟩)
                | (go_at_call 49; refine (rsmall_any _ _).mono ?_; rintro e wn ⟨rfl, rfl⟩))
            go_ret
            exact ⟨by rw [HF.out]; rfl, O1.out.trans OO.out⟩
end Go.Proofs.YtdhokkmflccaaaaGreatDoor.Ps
