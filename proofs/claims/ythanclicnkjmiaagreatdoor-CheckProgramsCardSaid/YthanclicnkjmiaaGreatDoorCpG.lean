/- check: the document's Program. -/
import Derived.Test.YthanclicnkjmiaaGreatDoorCpF
import Derived.StillTailTactics
set_option linter.unusedVariables false
set_option linter.unusedSimpArgs false
namespace Go.Proofs.YthanclicnkjmiaaGreatDoor.Ch
open Go.RowKit Go.Proofs.YthanclicnkjmiaaGreatDoor Lx Ps

set_option maxHeartbeats 16000000 in
set_option maxRecDepth 100000 in
theorem rprog_any {D : Nat} {w : World} {P : List Kd} {a0 : Option Addr} {nP c0 : Nat} (hP : VK D w P a0 nP c0) :
    Calls Tryz.prog 15 #[.agg #[.slice a0 nP c0]] w fun e w' => FV w w' e (whole P) := by
  obtain ⟨W, hW⟩ : ∃ W, W = (w.alloc (.cells #[.slice a0 nP c0] 25)).alloc (.cells #[.int .i64 0, .slice none 0 0] 40) := ⟨_, rfl⟩
  obtain ⟨oW, b0, b1⟩ : Only Nil w W ∧ Bx W w.heap.size [.slice a0 nP c0] 25 ∧ Bx W (w.heap.size + 1) [.int .i64 0, .slice none 0 0] 40 := two_box hW
  have HB0 := Lib.hid b0
  have HB1 := Lib.hid b1
  have HV := Lib.hid (hP.keep oW)
  have O := Lib.hid oW
  have pb : (nP : Int) ≤ 140737488355328 := by have := hP.b; omega
  have hR := Lib.hid (show w.heap.size ≤ w.heap.size + 1 from by omega)
  have HN := Lib.hid hP.n
  clear oW b0 b1 hP
  have CC := Lib.hid (show ∀ w', Only Nil W w' → (w'.cell? ⟨w.heap.size, 0, none⟩ = some (.slice a0 nP c0) ∧ w'.cell? ⟨w.heap.size + 1, 0, none⟩ = some (.int .i64 0) ∧ w'.cell? ⟨w.heap.size + 1, 1, none⟩ = some (.slice none 0 0) ∧ w'.frozen? ⟨w.heap.size + 1, 0, none⟩ = false ∧ w'.frozen? ⟨w.heap.size + 1, 1, none⟩ = false) from fun w' o => by
    have h0 := HB0.out.keep o
    have h1 := HB1.out.keep o
    exact ⟨h0.cell 0 rfl, h1.cell 0 rfl, h1.cell 1 rfl, h1.free 0, h1.free 1⟩)
  have HS := Lib.hid (show ∀ (w5 : World) (c : Int) (x : Option Addr) (k : Nat) (V : List Nat), Only Nil W w5 → w5.ownsRow 0 3 1 (.slice x V.length k) V.length (intsC V) → Bx ((w5.setCell ⟨w.heap.size + 1, 0, none⟩ (.int .i64 c)).setCell ⟨w.heap.size + 1, 1, none⟩ (.slice x V.length k)) (w.heap.size + 1) [.int .i64 c, .slice x V.length k] 40 ∧
    ((w5.setCell ⟨w.heap.size + 1, 0, none⟩ (.int .i64 c)).setCell ⟨w.heap.size + 1, 1, none⟩ (.slice x V.length k)).ownsRow 0 3 1 (.slice x V.length k) V.length (intsC V) ∧ Only Nil w ((w5.setCell ⟨w.heap.size + 1, 0, none⟩ (.int .i64 c)).setCell ⟨w.heap.size + 1, 1, none⟩ (.slice x V.length k)) from fun w5 c x k V o ho => store_fault (HB1.out.keep o) ho (O.out.trans o) hR.out)
  go_enter Tryz.func15, Tryz.ntmps15
  go_upto_region 1 with (fail)
  rw [← hW]; clear hW
  have HB := Lib.hid hR
  generalize w.heap.size = B at *
  obtain ⟨y0, z0, z1, g0, g1⟩ := CC.out W (Only.refl _ _)
  by_cases hcnt : 1 ≤ nP ∧ nP ≤ 8
  · have n1 : ¬ ((nP : Int) < 1) := by omega
    have n1' : decide ((nP : Int) < 1) = false := decide_eq_false n1
    have n8 : ¬ ((8 : Int) < (nP : Int)) := by omega
    have HCN := Lib.hid (show 1 ≤ P.length ∧ P.length ≤ 8 from by rw [HN.out]; exact hcnt)
    clear hcnt
    go_wp2
    go_loopw [3] (fun s3 wr => ∃ i : Nat, i ≤ nP ∧ s3 = .int .i64 (i : Int) ∧ Hid (Free0 (ofKd P) i) ∧ Hid (Only Nil W wr))
      (fun s3 _ => nP - (intOf s3).toNat)
    case atStart => exact ⟨0, Nat.zero_le _, rfl, Lib.hid (Free0.zero _), Lib.hid (Only.refl _ _)⟩
    case round =>
      clear y0 z0 z1 g0 g1
      obtain ⟨i, hi, rfl, hF, hO⟩ := hrel
      obtain ⟨y0, z0, z1, g0, g1⟩ := CC.out wr hO.out
      have i8 : (i : Int) ≤ 8 := by omega
      by_cases hin : i < nP
      · have hin' : (i : Int) < (nP : Int) := by omega
        have HIL := Lib.hid (show i < P.length from by rw [HN.out]; exact hin)
        have KD := Lib.hid (rkd_any (HV.out.keep hO.out) i hin)
        obtain ⟨c, hc⟩ : ∃ c, c = codeF (hKd P i) := ⟨_, rfl⟩
        have hc100 : c ≤ 100 := by rw [hc]; exact code_le rfl (fun g hg => by
          simp only [List.mem_cons, List.not_mem_nil, or_false] at hg
          rcases hg with rfl | rfl | rfl | rfl | rfl <;> exact ⟨_, _, rfl, by decide⟩)
        rw [← hc] at KD
        have c100 : (c : Int) ≤ 100 := by omega
        rcases code_z (f := hKd P i) (fun x hx => (hkd_some hx).2) with ⟨hz, hk⟩ | ⟨hz, x, hk, hx⟩
        · have hc0 : c = 0 := by rw [hc]; exact hz
          subst hc0
          have HK := Lib.hid hk
          clear hk hz hc hc100 c100
          go_upto_region 10 with (go_at_call 36; (with_reducible refine KD.out.mono ?_); rintro e' w2 ⟨rfl, o2⟩; have O2 := Lib.hid (hO.out.trans o2); clear o2)
          clear KD hO y0 z0 z1 g0 g1
          obtain ⟨w2', rfl⟩ : ∃ w2', w2' = w2 := ⟨_, rfl⟩
          have HNS := Lib.hid (HV.out.sz.2 _ (gt_mem HIL.out))
          have HWK := Lib.hid (HV.out.wf _ (gt_mem HIL.out))
          obtain ⟨nS, hnS⟩ : ∃ nS, nS = (gt P i).states.length := ⟨_, rfl⟩
          have HnS := Lib.hid hnS
          have nS63 : (nS : Int) ≤ 140737488355328 := by have := HNS.out.2.1; omega
          clear hnS
          go_loopw [5] (fun s5 wr => ∃ j : Nat, j ≤ nS ∧ s5 = .int .i64 (j : Int) ∧ Hid (Free0 (ofSta (P.map Kd.name) (gt P i).states) j) ∧ Hid (Only Nil W wr))
            (fun s5 _ => nS - (intOf s5).toNat)
          case atStart => exact ⟨0, Nat.zero_le _, rfl, Lib.hid (Free0.zero _), O2⟩
          case round =>
            obtain ⟨j, hj, rfl, hFj, hO⟩ := hrel
            obtain ⟨y0, z0, z1, g0, g1⟩ := CC.out wr hO.out
            obtain ⟨q, off, a1, c1, a2, c2, rfl, ⟨e0, e1, e2, e3, e4⟩, gc, gsx⟩ := kd_at (HV.out.keep hO.out).x HV.out.n i (by rw [← HN.out]; exact HIL.out)
            have VX' := Lib.hid (show VX D wr (gt P i) a1 (gt P i).cases.length c1 a2 (gt P i).states.length c2 from ⟨gc, rfl, HNS.out.1, gsx, rfl, HNS.out.2.1, HNS.out, HWK.out⟩)
            rw [← HnS.out] at e4 VX'
            clear gc gsx
            have CE0 := Lib.hid (show ∀ w', Only Nil wr w' → (w'.cell? ⟨q, off + i * 5, none⟩ = some (.string (bs (gt P i).name)) ∧ w'.cell? ⟨q, off + i * 5 + 1, none⟩ = some (.int .i64 (gt P i).limit) ∧ w'.cell? ⟨q, off + i * 5 + 2, none⟩ = some (.int .i64 (gt P i).within) ∧ w'.cell? ⟨q, off + i * 5 + 3, none⟩ = some (.slice a1 (gt P i).cases.length c1) ∧ w'.cell? ⟨q, off + i * 5 + 4, none⟩ = some (.slice a2 nS c2)) from fun w' o => ⟨only_cell0 o e0, only_cell0 o e1, only_cell0 o e2, only_cell0 o e3, only_cell0 o e4⟩)
            by_cases hjn : j < nS
            · have hjn' : (j : Int) < (nS : Int) := by omega
              have HJL := Lib.hid (show j < (gt P i).states.length from by rw [← HnS.out]; exact hjn)
              have j63 : (j : Int) ≤ 140737488355328 := by omega
              have ST := Lib.hid (rsta_any VX'.out j hjn)
              obtain ⟨c, hc⟩ : ∃ c, c = codeF (hSta (gt P i).states j) := ⟨_, rfl⟩
              have hc100 : c ≤ 100 := by rw [hc]; exact code_le rfl (fun g hg => by
                simp only [List.mem_cons, List.not_mem_nil, or_false] at hg
                rcases hg with rfl | rfl | rfl <;> exact ⟨_, _, rfl, by decide⟩)
              rw [← hc] at ST
              have c100 : (c : Int) ≤ 100 := by omega
              obtain ⟨nm, hnm⟩ : ∃ nm, nm = bs (gt P i).name := ⟨_, rfl⟩
              obtain ⟨nC, hnC⟩ : ∃ nC, nC = (gt P i).cases.length := ⟨_, rfl⟩
              rcases code_z (f := hSta (gt P i).states j) (fun x hx => (hsta_some hx).2) with ⟨hz, hk⟩ | ⟨hz, x, hk, hx⟩
              · have hc0 : c = 0 := by rw [hc]; exact hz
                subst hc0
                have HKs := Lib.hid hk
                clear hk hz hc hc100 c100 hnm hnC
                go_upto_region 15 with (go_at_call 37; (with_reducible refine ST.out.mono ?_); rintro e' w3 ⟨rfl, o3⟩; have O3 := Lib.hid (hO.out.trans o3); have e4 := only_cell0 o3 e4; have y0 := (CC.out w3 O3.out).1; obtain ⟨qs, offs, a3, c3, rfl, ⟨f0, f1⟩, gr⟩ := sta_at (VX'.out.keep o3).s VX'.out.sn j hjn; have GR := Lib.hid gr; have O23 := Lib.hid o3; clear o3 gr)
                have HWS := Lib.hid (HWK.out.states _ (gt_mem HJL.out))
                have HSS := Lib.hid (HNS.out.2.2 _ (gt_mem HJL.out))
                have CE := Lib.hid (show ∀ w', Only Nil w3 w' → (w'.cell? ⟨q, off + i * 5, none⟩ = some (.string (bs (gt P i).name)) ∧ w'.cell? ⟨q, off + i * 5 + 1, none⟩ = some (.int .i64 (gt P i).limit) ∧ w'.cell? ⟨q, off + i * 5 + 2, none⟩ = some (.int .i64 (gt P i).within) ∧ w'.cell? ⟨q, off + i * 5 + 3, none⟩ = some (.slice a1 (gt P i).cases.length c1) ∧ w'.cell? ⟨q, off + i * 5 + 4, none⟩ = some (.slice (some ⟨qs, offs, none⟩) nS c2)) from fun w' o => CE0.out w' (O23.out.trans o))
                have VX3 := Lib.hid (VX'.out.keep O23.out)
                obtain ⟨nR, hnR⟩ : ∃ nR, nR = (gt (gt P i).states j).rows.length := ⟨_, rfl⟩
                have HnR := Lib.hid hnR
                rw [← hnR] at f1 GR
                have nR63 : (nR : Int) ≤ 140737488355328 := by have := HSS.out.1; omega
                clear hnR VX' CE0 O23 hO e0 e1 e2 e3 z0 z1 g0 g1
                go_upto_region 17 with (fail)
                clear e4 f0 f1 y0
                go_loopw [8] (fun s8 wr => ∃ n : Nat, n ≤ nR ∧ s8 = .int .i64 (n : Int) ∧ Hid (Free0 (ofRow (P.map Kd.name) ((gt P i).states.map Sta.name) (gt (gt P i).states j).rows) n) ∧ Hid (Only Nil w3 wr))
                  (fun s8 _ => nR - (intOf s8).toNat)
                case atStart => exact ⟨0, Nat.zero_le _, rfl, Lib.hid (Free0.zero _), Lib.hid (Only.refl _ _)⟩
                case round =>
                  obtain ⟨n, hn, rfl, hFn, hO⟩ := hrel
                  have VY' := Lib.hid (show VY D wr (gt (gt P i).states j) a3 nR c3 from ⟨GR.out.keep hO.out (nilS · D), HnR.out.symm, by have := HSS.out.1; omega, HSS.out, HWS.out⟩)
                  by_cases hnn : n < nR
                  · have hnn' : (n : Int) < (nR : Int) := by omega
                    have n63 : (n : Int) ≤ 140737488355328 := by omega
                    have HNL := Lib.hid (show n < (gt (gt P i).states j).rows.length from by rw [← HnR.out]; exact hnn)
                    have RW := Lib.hid (rrow_any VY'.out n hnn)
                    obtain ⟨c, hc⟩ : ∃ c, c = codeF (hRow (gt (gt P i).states j).rows n) := ⟨_, rfl⟩
                    have hc100 : c ≤ 100 := by rw [hc]; exact code_le rfl (fun g hg => by
                      simp only [List.mem_cons, List.not_mem_nil, or_false] at hg
                      rcases hg with rfl | rfl | rfl | rfl <;> exact ⟨_, _, rfl, by decide⟩)
                    rw [← hc] at RW
                    have c100 : (c : Int) ≤ 100 := by omega
                    rcases code_z (f := hRow (gt (gt P i).states j).rows n) (fun x hx => (hrow_some hx).2) with ⟨hz, hk⟩ | ⟨hz, x, hk, hx⟩
                    · have hc0 : c = 0 := by rw [hc]; exact hz
                      subst hc0
                      have HKr := Lib.hid hk
                      clear hk hz hc hc100 c100
                      go_upto_region 23 with (go_at_call 38; (with_reducible refine RW.out.mono ?_); rintro e' w4 ⟨rfl, o4⟩; have O4 := Lib.hid (hO.out.trans o4); clear o4)
                      obtain ⟨qr, offr, a4, c4, rfl, ⟨_, _, _, r3⟩, ge⟩ := row_at (GR.out.keep O4.out (nilS · D)) HnR.out.symm n hnn
                      have GE := Lib.hid ge
                      obtain ⟨nE, hnE⟩ : ∃ nE, nE = (gt (gt (gt P i).states j).rows n).effs.length := ⟨_, rfl⟩
                      have HnE := Lib.hid hnE
                      have HWR := Lib.hid (HWS.out.rows _ (gt_mem HNL.out))
                      have HSR := Lib.hid (HSS.out.2 _ (gt_mem HNL.out))
                      rw [← hnE] at r3 GE
                      have CR := Lib.hid (show ∀ w', Only Nil w4 w' → w'.cell? ⟨qr, offr + n * 4 + 3, none⟩ = some (.slice a4 nE c4) from fun w' o => only_cell0 o r3)
                      have nE63 : (nE : Int) ≤ 140737488355328 := by have := HSR.out; unfold szR at this; omega
                      clear ge hnE RW hO VY' r3
                      go_loopw [10] (fun s10 wr => ∃ m : Nat, m ≤ nE ∧ s10 = .int .i64 (m : Int) ∧ Hid (Free0 (ofEff (P.map Kd.name) ((gt P i).states.map Sta.name) (gt (gt (gt P i).states j).rows n).effs) m) ∧ Hid (Only Nil w4 wr))
                        (fun s10 _ => nE - (intOf s10).toNat)
                      case atStart => exact ⟨0, Nat.zero_le _, rfl, Lib.hid (Free0.zero _), Lib.hid (Only.refl _ _)⟩
                      case round =>
                        obtain ⟨m, hm, rfl, hFm, hO⟩ := hrel
                        have r3 := CR.out wr hO.out
                        have O34 := Lib.hid (O4.out.trans hO.out)
                        by_cases hmn : m < nE
                        · have hmn' : (m : Int) < (nE : Int) := by omega
                          have m63 : (m : Int) ≤ 140737488355328 := by omega
                          have HML := Lib.hid (show m < (gt (gt (gt P i).states j).rows n).effs.length from by rw [← HnE.out]; exact hmn)
                          have EF := Lib.hid (reffect_any (P := P) (z := gt (gt (gt P i).states j).rows n) (HV.out.keep (((O3.out.trans O34.out)).drew)) (VX3.out.keep O34.out.drew) (show VZ D wr.drew (gt (gt (gt P i).states j).rows n) a4 nE c4 from ⟨GE.out.keep hO.out.drew (nilS · D), HnE.out.symm, by have := HSR.out; unfold szR at this; omega, HSR.out, HWR.out⟩) m hmn)
                          obtain ⟨c, hc⟩ : ∃ c, c = codeF (ofEff (P.map Kd.name) ((gt P i).states.map Sta.name) (gt (gt (gt P i).states j).rows n).effs m) := ⟨_, rfl⟩
                          have hc100 : c ≤ 100 := by rw [hc]; exact code_le rfl (fun g hg => by
                            simp only [List.mem_cons, List.not_mem_nil, or_false] at hg
                            rcases hg with rfl | rfl | rfl <;> exact ⟨_, _, rfl, by decide⟩)
                          rw [← hc] at EF
                          have c100 : (c : Int) ≤ 100 := by omega
                          obtain ⟨e0, e1, e2, e3, e4⟩ := CE.out wr O34.out
                          have y0 := (CC.out wr (O3.out.trans O34.out)).1
                          have OC := Lib.hid (code_z (f := ofEff (P.map Kd.name) ((gt P i).states.map Sta.name) (gt (gt (gt P i).states j).rows n).effs m) (fun x hx => (oeff_some hx).2))
                          have HCe := Lib.hid hc
                          clear hc
                          have hi8 : (i : Int) < (nP : Int) := hin'
                          go_upto_region 25 with (fail)
                          go_still_tail 12, (by kernel_rfl)
                          change wpList _ _ _ _ _ (World.drew _)
                          go_upto_region 26 with (go_at_call 39; (with_reducible refine EF.out.mono ?_); rintro e' w6 ⟨rfl, o6⟩; have O6 := Lib.hid ((hO.out.drew).trans o6); clear o6)
                          clear EF e0 e1 e2 e3 e4 y0 r3
                          rcases OC.out with ⟨hz, hk⟩ | ⟨hz, x, hk, hx⟩
                          · have hc0 : c = 0 := by rw [HCe.out]; exact hz
                            subst hc0
                            have hF2 := Lib.hid (hFm.out.succ hk)
                            clear hk hz hFm
                            go_wp2
                            go_roundw
                            case rel => exact ⟨m + 1, by omega, by go_num, hF2, O6⟩
                            case measure => simp [intOf]; omega
                          · have hcz : ((c : Int) != 0) = true := by rw [← HCe.out] at hz; simp; omega
                            have HWh := Lib.hid (show whole P = some (c, [i + 1, j + 1, n + 1, m + 1]) from by rw [whole_kd HCN.out HIL.out hF.out (kd_sta HK.out HJL.out hFj.out (sta_row HKs.out HNL.out hFn.out (row_eff HKr.out HML.out hFm.out hk))), HCe.out, hx])
                            clear hk hx hz hc100
                            have FA := Lib.hid (show Calls Tryz.prog 35 #[.int .i64 (c : Int), .slice (some ⟨w6.heap.size, 0, none⟩) 4 4] (w6.alloc (.cells #[.int .i64 ((i : Int) + 1), .int .i64 ((j : Int) + 1), .int .i64 ((n : Int) + 1), .int .i64 ((m : Int) + 1)] 3)) fun e w' => FV w6 w' e (some (c, [i + 1, j + 1, n + 1, m + 1])) from fault_at c [i + 1, j + 1, n + 1, m + 1] (by simp) (by simp) w6)
                            go_wp2_with (go_at_call 35; (with_reducible refine FA.out.mono ?_); rintro e' w5 ⟨v, rfl, hrow, o5⟩; obtain ⟨x5, k5, rfl⟩ := own_slice_n hrow; have o05 := ((O3.out.trans O4.out).trans O6.out).trans o5; obtain ⟨_, u0, u1, h0, h1⟩ := CC.out w5 o05; have HRow := Lib.hid hrow; have HO5 := Lib.hid o05; clear hrow o5 o05)
                            obtain ⟨t1, t2, t3⟩ := HS.out w5 c x5 k5 [i + 1, j + 1, n + 1, m + 1] HO5.out HRow.out
                            refine bodyPost_ret (results_agg rfl _ _ (B + 1) [_, _] Tryz.isAgg40 Tryz.sizeOf40 rfl t1) rfl ?_
                            refine (?_ : FV _ _ _ (whole P))
                            rw [HWh.out]
                            exact ⟨_, rfl, t2, t3⟩
                        · obtain rfl : m = nE := by omega
                          have hmm : ¬ (m : Int) < (m : Int) := by omega
                          have HNo := Lib.hid (row_no (PN := P.map Kd.name) (SN := (gt P i).states.map Sta.name) HKr.out (by rw [← HnE.out]; exact hFm.out))
                          have hF2 := Lib.hid (hFn.out.succ HNo.out)
                          clear hmn hFm
                          go_wp2
                          go_roundw
                          case rel => exact ⟨n + 1, by omega, by go_num, hF2, O34⟩
                          case measure => simp [intOf]; omega
                    · have hcz : ((c : Int) != 0) = true := by simp; omega
                      have HWh := Lib.hid (show whole P = some (c, [i + 1, j + 1, n + 1]) from by rw [whole_kd HCN.out HIL.out hF.out (kd_sta HK.out HJL.out hFj.out (sta_row HKs.out HNL.out hFn.out (row_hit hk))), hc, hx])
                      clear hk hx hz hc hc100
                      go_upto_region 21 with (go_at_call 38; (with_reducible refine RW.out.mono ?_); rintro e' w4 ⟨rfl, o4⟩; have O4 := Lib.hid (hO.out.trans o4); clear o4)
                      have FA := Lib.hid (show Calls Tryz.prog 35 #[.int .i64 (c : Int), .slice (some ⟨w4.heap.size, 0, none⟩) 3 3] (w4.alloc (.cells #[.int .i64 ((i : Int) + 1), .int .i64 ((j : Int) + 1), .int .i64 ((n : Int) + 1)] 3)) fun e w' => FV w4 w' e (some (c, [i + 1, j + 1, n + 1])) from fault_at c [i + 1, j + 1, n + 1] (by simp) (by simp) w4)
                      go_wp2_with (go_at_call 35; (with_reducible refine FA.out.mono ?_); rintro e' w5 ⟨v, rfl, hrow, o5⟩; obtain ⟨x5, k5, rfl⟩ := own_slice_n hrow; have o05 := (O3.out.trans O4.out).trans o5; obtain ⟨_, u0, u1, h0, h1⟩ := CC.out w5 o05; have HRow := Lib.hid hrow; have HO5 := Lib.hid o05; clear hrow o5 o05)
                      obtain ⟨t1, t2, t3⟩ := HS.out w5 c x5 k5 [i + 1, j + 1, n + 1] HO5.out HRow.out
                      refine bodyPost_ret (results_agg rfl _ _ (B + 1) [_, _] Tryz.isAgg40 Tryz.sizeOf40 rfl t1) rfl ?_
                      refine (?_ : FV _ _ _ (whole P))
                      rw [HWh.out]
                      exact ⟨_, rfl, t2, t3⟩
                  · obtain rfl : n = nR := by omega
                    have hnn2 : ¬ (n : Int) < (n : Int) := by omega
                    have HNo := Lib.hid (sta_no (PN := P.map Kd.name) HKs.out (by rw [← HnR.out]; exact hFn.out))
                    have hF2 := Lib.hid (hFj.out.succ HNo.out)
                    have OO := Lib.hid (O3.out.trans hO.out)
                    clear hnn hFn
                    go_wp2
                    go_roundw
                    case rel => exact ⟨j + 1, by omega, by go_num, hF2, OO⟩
                    case measure => simp [intOf]; omega
              · have hcz : ((c : Int) != 0) = true := by simp; omega
                have HWh := Lib.hid (show whole P = some (c, [i + 1, j + 1]) from by rw [whole_kd HCN.out HIL.out hF.out (kd_sta HK.out HJL.out hFj.out (sta_hit hk)), hc, hx])
                clear hk hx hz hc hc100 hF hFj hnm hnC
                go_upto_region 14 with (go_at_call 37; (with_reducible refine ST.out.mono ?_); rintro e' w3 ⟨rfl, o3⟩; have O3 := Lib.hid (hO.out.trans o3); clear o3)
                have FA := Lib.hid (show Calls Tryz.prog 35 #[.int .i64 (c : Int), .slice (some ⟨w3.heap.size, 0, none⟩) 2 2] (w3.alloc (.cells #[.int .i64 ((i : Int) + 1), .int .i64 ((j : Int) + 1)] 3)) fun e w' => FV w3 w' e (some (c, [i + 1, j + 1])) from fault_at c [i + 1, j + 1] (by simp) (by simp) w3)
                go_wp2_with (go_at_call 35; (with_reducible refine FA.out.mono ?_); rintro e' w5 ⟨v, rfl, hrow, o5⟩; obtain ⟨x5, k5, rfl⟩ := own_slice_n hrow; have o05 := (O3.out).trans o5; obtain ⟨_, u0, u1, h0, h1⟩ := CC.out w5 o05; have HRow := Lib.hid hrow; have HO5 := Lib.hid o05; clear hrow o5 o05)
                obtain ⟨t1, t2, t3⟩ := HS.out w5 c x5 k5 [i + 1, j + 1] HO5.out HRow.out
                refine bodyPost_ret (results_agg rfl _ _ (B + 1) [_, _] Tryz.isAgg40 Tryz.sizeOf40 rfl t1) rfl ?_
                refine (?_ : FV _ _ _ (whole P))
                rw [HWh.out]
                exact ⟨_, rfl, t2, t3⟩
            · obtain rfl : j = nS := by omega
              have hjj : ¬ (j : Int) < (j : Int) := by omega
              have HNo := Lib.hid (kd_no HK.out (by rw [← HnS.out]; exact hFj.out))
              have hF2 := Lib.hid (hF.out.succ HNo.out)
              clear hjn hFj
              go_wp2
              go_roundw
              case rel => exact ⟨i + 1, by omega, by go_num, hF2, hO⟩
              case measure => simp [intOf]; omega
        · have hcz : ((c : Int) != 0) = true := by simp; omega
          have HWh := Lib.hid (show whole P = some (c, [i + 1]) from by rw [whole_kd HCN.out HIL.out hF.out (kd_hit hk), hc, hx])
          clear hk hx hz hc hc100 hF
          go_upto_region 8 with (go_at_call 36; (with_reducible refine KD.out.mono ?_); rintro e' w2 ⟨rfl, o2⟩; have O2 := Lib.hid (hO.out.trans o2); clear o2)
          have FA := Lib.hid (show Calls Tryz.prog 35 #[.int .i64 (c : Int), .slice (some ⟨w2.heap.size, 0, none⟩) 1 1] (w2.alloc (.cells #[.int .i64 ((i : Int) + 1)] 3)) fun e w' => FV w2 w' e (some (c, [i + 1])) from fault_at c [i + 1] (by simp) (by simp) w2)
          go_wp2_with (go_at_call 35; (with_reducible refine FA.out.mono ?_); rintro e' w5 ⟨v, rfl, hrow, o5⟩; obtain ⟨x5, k5, rfl⟩ := own_slice_n hrow; have o05 := (O2.out).trans o5; obtain ⟨_, u0, u1, h0, h1⟩ := CC.out w5 o05; have HRow := Lib.hid hrow; have HO5 := Lib.hid o05; clear hrow o5 o05)
          obtain ⟨t1, t2, t3⟩ := HS.out w5 c x5 k5 [i + 1] HO5.out HRow.out
          refine bodyPost_ret (results_agg rfl _ _ (B + 1) [_, _] Tryz.isAgg40 Tryz.sizeOf40 rfl t1) rfl ?_
          refine (?_ : FV _ _ _ (whole P))
          rw [HWh.out]
          exact ⟨_, rfl, t2, t3⟩
      · obtain rfl : i = nP := by omega
        have hii : ¬ (i : Int) < (i : Int) := by omega
        have HWh := Lib.hid (whole_no HCN.out (by rw [HN.out]; exact hF.out))
        clear hin hF
        go_wp2
        obtain ⟨t1, t2, t3⟩ := HS.out wr 0 none 0 [] hO.out (World.ownsRow_nil _ _ _ _)
        refine bodyPost_ret (results_agg rfl _ _ (B + 1) [_, _] Tryz.isAgg40 Tryz.sizeOf40 rfl t1) rfl ?_
        refine (?_ : FV _ _ _ (whole P))
        rw [HWh.out]
        exact ⟨_, rfl, t2, t3⟩
  · have HWh := Lib.hid (whole_cnt (P := P) (by rw [HN.out]; exact hcnt))
    have FA := Lib.hid (show ∀ w, Calls Tryz.prog 35 #[.int .i64 40, .slice none 0 0] w fun e w' => FV w w' e (some (40, [])) from fun w => fault_nil 40 w)
    by_cases n1 : (nP : Int) < 1
    · go_wp2_with (go_at_call 35; (with_reducible refine (FA.out _).mono ?_); rintro e' w5 ⟨v, rfl, hrow, o5⟩; obtain ⟨x5, k5, rfl⟩ := own_slice_n hrow; have o05 := (Only.refl Nil W).trans o5; obtain ⟨_, u0, u1, h0, h1⟩ := CC.out w5 o05; have HRow := Lib.hid hrow; have HO5 := Lib.hid o05; clear hrow o5 o05)
      obtain ⟨t1, t2, t3⟩ := HS.out w5 40 x5 k5 [] HO5.out HRow.out
      refine bodyPost_ret (results_agg rfl _ _ (B + 1) [_, _] Tryz.isAgg40 Tryz.sizeOf40 rfl t1) rfl ?_
      refine (?_ : FV _ _ _ (whole P))
      rw [HWh.out]
      exact ⟨_, rfl, t2, t3⟩
    · have n8 : (8 : Int) < (nP : Int) := by omega
      go_wp2_with (go_at_call 35; (with_reducible refine (FA.out _).mono ?_); rintro e' w5 ⟨v, rfl, hrow, o5⟩; obtain ⟨x5, k5, rfl⟩ := own_slice_n hrow; have o05 := (Only.refl Nil W).trans o5; obtain ⟨_, u0, u1, h0, h1⟩ := CC.out w5 o05; have HRow := Lib.hid hrow; have HO5 := Lib.hid o05; clear hrow o5 o05)
      obtain ⟨t1, t2, t3⟩ := HS.out w5 40 x5 k5 [] HO5.out HRow.out
      refine bodyPost_ret (results_agg rfl _ _ (B + 1) [_, _] Tryz.isAgg40 Tryz.sizeOf40 rfl t1) rfl ?_
      refine (?_ : FV _ _ _ (whole P))
      rw [HWh.out]
      exact ⟨_, rfl, t2, t3⟩
end Go.Proofs.YthanclicnkjmiaaGreatDoor.Ch
