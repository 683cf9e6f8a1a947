/- check: the document's kind. -/
import Derived.Test.YthanclicnkjmiaaGreatDoorCpC
set_option linter.unusedVariables false
set_option linter.unusedSimpArgs false
namespace Go.Proofs.YthanclicnkjmiaaGreatDoor.Ch
open Go.RowKit Go.Proofs.YthanclicnkjmiaaGreatDoor Lx Ps

def hKd (P : List Kd) (i : Nat) : Fau := firstO [un 43 (kdIn (gt P i)), un 41 (isNew (P.map Kd.name) i), un 40 (kdCount (gt P i)), un 43 ((gt P i).cases.all caseIn), un 41 (once ((gt P i).cases.map Cs.reason))]
theorem hkd_split (P : List Kd) (i : Nat) : ofKd P i = match hKd P i with | some x => some x | none => eachO (gt P i).states.length (ofSta (P.map Kd.name) (gt P i).states) := by
  unfold ofKd hKd
  generalize un 43 (kdIn (gt P i)) = a
  generalize un 41 (isNew (P.map Kd.name) i) = b
  generalize un 40 (kdCount (gt P i)) = c
  generalize un 43 ((gt P i).cases.all caseIn) = d
  generalize un 41 (once ((gt P i).cases.map Cs.reason)) = e
  generalize eachO (gt P i).states.length (ofSta (P.map Kd.name) (gt P i).states) = f
  cases a <;> cases b <;> cases c <;> cases d <;> cases e <;> cases f <;> rfl
theorem casein_em (c : Cs) : caseIn c = (emN c.reason && wn c.act 1 4) := rfl
/-- Some of the first j are old. -/
def Old (C : List Wd) (j : Nat) : Bool := !((List.range j).all fun i => isNew C i)
theorem old_zero (C : List Wd) : Old C 0 = false := rfl
theorem old_succ (C : List Wd) (j : Nat) : Old C (j + 1) = (Old C j || !isNew C j) := by
  unfold Old
  rw [List.range_succ, List.all_append]
  simp only [List.all_cons, List.all_nil, Bool.and_true, Bool.not_and]
theorem old_all (C : List Wd) : once C = !Old C C.length := by unfold once Old; simp
/-- What the inner loop has found. -/
def Fnd (L : List Cs) (j n : Nat) (t : Bool) : Prop := (t = true ∧ (Old (L.map Cs.reason) j = true ∨ ∃ k, k < n ∧ (gt L k).reason = (gt L j).reason)) ∨ (t = false ∧ Old (L.map Cs.reason) j = false ∧ Far Cs.reason L j n)
theorem Fnd.zero (L : List Cs) (j : Nat) : Fnd L j 0 (Old (L.map Cs.reason) j) := by
  cases h : Old (L.map Cs.reason) j with
  | true => exact .inl ⟨rfl, .inl h⟩
  | false => exact .inr ⟨rfl, h, Far.zero _ _ _⟩
theorem Fnd.old {L : List Cs} {j n : Nat} (h : Fnd L j n true) : Fnd L j (n + 1) true := by
  rcases h with ⟨_, h | ⟨k, hk, e⟩⟩ | ⟨h, _⟩
  · exact .inl ⟨rfl, .inl h⟩
  · exact .inl ⟨rfl, .inr ⟨k, by omega, e⟩⟩
  · cases h
theorem Fnd.hit {L : List Cs} {j n : Nat} (e : (gt L n).reason = (gt L j).reason) : Fnd L j (n + 1) true := .inl ⟨rfl, .inr ⟨n, by omega, e⟩⟩
theorem Fnd.miss {L : List Cs} {j n : Nat} (h : Fnd L j n false) (e : ¬ (gt L n).reason = (gt L j).reason) : Fnd L j (n + 1) false := by
  rcases h with ⟨h, _⟩ | ⟨_, h1, h2⟩
  · cases h
  · exact .inr ⟨rfl, h1, h2.succ e⟩
theorem Fnd.done {L : List Cs} {j : Nat} {t : Bool} (hj : j < L.length) (h : Fnd L j j t) : t = Old (L.map Cs.reason) (j + 1) := by
  rw [old_succ]
  rcases h with ⟨rfl, h | ⟨k, hk, e⟩⟩ | ⟨rfl, h1, h2⟩
  · rw [h]; rfl
  · rw [near_old hj hk e]; simp
  · rw [h1, far_new hj h2]; rfl

set_option maxHeartbeats 8000000 in
set_option maxRecDepth 100000 in
theorem rkd_any {D : Nat} {w : World} {P : List Kd} {a0 : Option Addr} {nP c0 : Nat} (hP : VK D w P a0 nP c0) (i : Nat) (hi : i < nP) :
    Calls Tryz.prog 36 #[.agg #[.slice a0 nP c0], .int .i64 (i : Int)] w fun e w' => e = .returned (.int .i64 (codeF (hKd P i) : Int)) ∧ Only Nil w w' := by
  obtain ⟨q, off, a1, c1, a2, c2, rfl, ⟨e0, e1, e2, e3, e4⟩, g1, g2⟩ := kd_at hP.x hP.n i hi
  obtain ⟨k, hk⟩ : ∃ k, k = gt P i := ⟨_, rfl⟩
  have hiL : i < P.length := by rw [hP.n]; exact hi
  have hwk := hP.wf _ (gt_mem hiL)
  have hsz := hP.sz.2 _ (gt_mem hiL)
  have hH : hKd P i = firstO [un 43 (kdIn k), un 41 (isNew (P.map Kd.name) i), un 40 (kdCount k), un 43 (k.cases.all caseIn), un 41 (once (k.cases.map Cs.reason))] := by rw [hk]; rfl
  rw [← hk] at e0 e1 e2 e3 e4 g1 g2 hwk hsz
  obtain ⟨W0, hW0⟩ : ∃ W0, W0 = w.alloc (.cells #[.slice (some ⟨q, off, none⟩) nP c0] 25) := ⟨_, rfl⟩
  obtain ⟨W, hW⟩ : ∃ W, W = W0.alloc (.cells #[.string (bs k.name), .int .i64 k.limit, .int .i64 k.within, .slice a1 k.cases.length c1, .slice a2 k.states.length c2] 56) := ⟨_, rfl⟩
  have o0 : Only Nil w W0 := hW0 ▸ (Only.refl Nil w).alloc _
  have oW : Only Nil W0 W := hW ▸ (Only.refl Nil W0).alloc _
  have b0 : Bx W0 w.heap.size [.slice (some ⟨q, off, none⟩) nP c0] 25 := hW0 ▸ bx_new w _ _
  have s0 : W0.heap.size = w.heap.size + 1 := by rw [hW0]; simp
  have HB0 := Lib.hid (b0.keep oW)
  have b1 : Bx W W0.heap.size [.string (bs k.name), .int .i64 k.limit, .int .i64 k.within, .slice a1 k.cases.length c1, .slice a2 k.states.length c2] 56 := hW ▸ bx_new W0 _ _
  rw [s0] at b1
  have HB := Lib.hid b1
  have z0 := b0.cell 0 (v := .slice (some ⟨q, off, none⟩) nP c0) rfl
  have e0 := only_cell0 o0 e0
  have e1 := only_cell0 o0 e1
  have e2 := only_cell0 o0 e2
  have e3 := only_cell0 o0 e3
  have e4 := only_cell0 o0 e4
  have HV := Lib.hid (hP.keep (o0.trans oW))
  have G1 := Lib.hid (g1.keep (o0.trans oW) (nilS · D))
  have O := Lib.hid (o0.trans oW)
  have HH := Lib.hid hH
  have HKe := Lib.hid hk
  have HIL := Lib.hid hiL
  have HI := Lib.hid hi
  have nb : (nP : Int) ≤ 140737488355328 := by have := hP.b; omega
  have hi' : (i : Int) < (nP : Int) := by omega
  have HNM := Lib.hid (fun w => rnameq_any k.name w hwk.name)
  have HCW := Lib.hid hwk.cases
  have ncb : (k.cases.length : Int) ≤ 140737488355328 := by have := hsz.1; omega
  have nsb : (k.states.length : Int) ≤ 140737488355328 := by have := hsz.2.1; omega
  obtain ⟨nC, hnC⟩ : ∃ nC, nC = k.cases.length := ⟨_, rfl⟩
  obtain ⟨nS, hnS⟩ : ∃ nS, nS = k.states.length := ⟨_, rfl⟩
  have HNC := Lib.hid hnC
  have HNS := Lib.hid hnS
  have HW := Lib.hid hW
  rw [← hnC] at e3 HB G1 ncb HW
  rw [← hnS] at e4 HB nsb HW
  clear b0 b1 o0 oW hP g1 g2 hH hk hiL hi hwk hsz hnC hnS hW
  go_enter Tryz.func36, Tryz.ntmps36
  go_upto_region 1 with (fail)
  rw [← hW0]; clear hW0
  go_upto_region 2 with (fail)
  rw [← HW.out]
  clear HW e0 e1 e2 e3 e4 z0 s0
  generalize w.heap.size = B at *
  have r0 := HB.out.cell 0 (v := .string (bs k.name)) rfl
  have r1 := HB.out.cell 1 (v := .int .i64 k.limit) rfl
  have r2 := HB.out.cell 2 (v := .int .i64 k.within) rfl
  go_cut [38] (fun s38 wx => ∃ b : Bool, s38 = .bool b ∧ Hid (b = !kdIn k) ∧ W = wx)
  case first =>
    obtain ⟨l, hl⟩ : ∃ l, l = k.limit := ⟨_, rfl⟩
    obtain ⟨m, hm⟩ : ∃ m, m = k.within := ⟨_, rfl⟩
    have HKI := Lib.hid (show kdIn k = (isNm k.name && (decide (0 ≤ l) && decide (l ≤ 100)) && (decide (1 ≤ m) && decide (m ≤ 4095))) from by rw [hl, hm]; rfl)
    rw [← hl] at r1
    rw [← hm] at r2
    generalize bs k.name = nmb at *
    clear hl hm
    cases hnm : isNm k.name with
    | false =>
      have HF := Lib.hid (show true = !kdIn k from by rw [HKI.out, hnm]; rfl)
      rw [hnm] at HNM
      clear hnm
      go_wp2_with (go_at_call 64; (with_reducible refine (HNM.out _).mono ?_); rintro e wn ⟨rfl, rfl⟩)
      go_meet
      exact ⟨_, rfl, HF, rfl⟩
    | true =>
      rw [hnm] at HNM
      by_cases t0 : l < 0
      · have d0 : decide (l < 0) = true := decide_eq_true t0
        have HF := Lib.hid (show true = !kdIn k from by rw [HKI.out, hnm, decide_eq_false (show ¬ 0 ≤ l by omega)]; simp)
        clear hnm
        go_wp2_with (go_at_call 64; (with_reducible refine (HNM.out _).mono ?_); rintro e wn ⟨rfl, rfl⟩)
        go_meet
        exact ⟨_, rfl, HF, rfl⟩
      have d0 : decide (l < 0) = false := decide_eq_false t0
      by_cases t1 : 100 < l
      · have d1 : decide (100 < l) = true := decide_eq_true t1
        have HF := Lib.hid (show true = !kdIn k from by rw [HKI.out, hnm, decide_eq_false (show ¬ l ≤ 100 by omega)]; simp)
        clear hnm
        go_wp2_with (go_at_call 64; (with_reducible refine (HNM.out _).mono ?_); rintro e wn ⟨rfl, rfl⟩)
        go_meet
        exact ⟨_, rfl, HF, rfl⟩
      have d1 : decide (100 < l) = false := decide_eq_false t1
      by_cases t2 : m < 1
      · have d2 : decide (m < 1) = true := decide_eq_true t2
        have HF := Lib.hid (show true = !kdIn k from by rw [HKI.out, hnm, decide_eq_false (show ¬ 1 ≤ m by omega)]; simp)
        clear hnm
        go_wp2_with (go_at_call 64; (with_reducible refine (HNM.out _).mono ?_); rintro e wn ⟨rfl, rfl⟩)
        go_meet
        exact ⟨_, rfl, HF, rfl⟩
      have d2 : decide (m < 1) = false := decide_eq_false t2
      by_cases t3 : 4095 < m
      · have d3 : decide (4095 < m) = true := decide_eq_true t3
        have HF := Lib.hid (show true = !kdIn k from by rw [HKI.out, hnm, decide_eq_false (show ¬ m ≤ 4095 by omega)]; simp)
        clear hnm
        go_wp2_with (go_at_call 64; (with_reducible refine (HNM.out _).mono ?_); rintro e wn ⟨rfl, rfl⟩)
        go_meet
        exact ⟨_, rfl, HF, rfl⟩
      have d3 : decide (4095 < m) = false := decide_eq_false t3
      have HF := Lib.hid (show false = !kdIn k from by rw [HKI.out, hnm, decide_eq_true (show 0 ≤ l by omega), decide_eq_true (show l ≤ 100 by omega), decide_eq_true (show 1 ≤ m by omega), decide_eq_true (show m ≤ 4095 by omega)]; rfl)
      clear hnm
      go_wp2_with (go_at_call 64; (with_reducible refine (HNM.out _).mono ?_); rintro e wn ⟨rfl, rfl⟩)
      go_meet
      exact ⟨_, rfl, HF, rfl⟩
  case rest =>
    obtain ⟨bb, rfl, hbb, rfl⟩ := hcut
    cases hin : kdIn k with
    | false =>
      obtain rfl : bb = true := by rw [hbb.out, hin]; rfl
      have H43 := Lib.hid (show codeF (hKd P i) = 43 from by rw [HH.out, hin]; rfl)
      clear hin hbb
      go_wp2
      go_ret
      exact ⟨by rw [H43.out]; rfl, O.out⟩
    | true =>
      obtain rfl : bb = false := by rw [hbb.out, hin]; rfl
      rw [hin] at HH
      clear hin hbb HNM r1 r2
      have HT := Lib.hid (show Hid (isNew (P.map Kd.name) i = false) → codeF (hKd P i) = 41 from fun h => by rw [HH.out, h.out]; rfl)
      go_upto_region 5 with (fail)
      go_loopw [6] (fun s6 wr => ∃ j : Nat, j ≤ i ∧ s6 = .int .i64 (j : Int) ∧ Hid (Far Kd.name P i j) ∧ Hid (Only Nil W wr))
        (fun s6 _ => i - (intOf s6).toNat)
      case atStart => exact ⟨0, Nat.zero_le _, rfl, Lib.hid (Far.zero _ _ _), Lib.hid (Only.refl _ _)⟩
      case round =>
        clear r0
        obtain ⟨j, hj, rfl, hF, hO⟩ := hrel
        have HBr := Lib.hid (HB.out.keep hO.out)
        have z0 := (HB0.out.keep hO.out).cell 0 (v := .slice (some ⟨q, off, none⟩) nP c0) rfl
        by_cases hji : j < i
        · have hji' : (j : Int) < (i : Int) := by omega
          have hjn' : (j : Int) < (nP : Int) := by omega
          obtain ⟨q', off', _, _, _, _, eq', ⟨f0, _⟩, _⟩ := kd_at (HV.out.keep hO.out).x HV.out.n j (by have := HI.out; omega)
          cases eq'
          have r0 := HBr.out.cell 0 (v := .string (bs k.name)) rfl
          have hq : ((bs (gt P j).name).toList == (bs k.name).toList) = decide ((gt P j).name = k.name) := bsq _ _
          have HE := Lib.hid (show (gt P j).name = k.name → codeF (hKd P i) = 41 from fun h => HT.out (Lib.hid (near_old (f := Kd.name) HIL.out hji (by rw [← HKe.out]; exact h))))
          have HS := Lib.hid (show ¬ (gt P j).name = k.name → Far Kd.name P i (j + 1) from fun h => hF.out.succ (by rw [← HKe.out]; exact h))
          generalize gt P j = t at *
          generalize bs t.name = bt at *
          generalize bs k.name = bk at *
          clear hF
          by_cases h1 : t.name = k.name
          · rw [decide_eq_true h1] at hq
            have H41 := Lib.hid (HE.out h1)
            clear h1
            go_upto_region 7 with (fail)
            go_quiet (fail)
            go_wp2
            go_ret
            exact ⟨by rw [H41.out]; rfl, (O.out.trans hO.out).drewN nq⟩
          · rw [decide_eq_false h1] at hq
            have HF2 := Lib.hid (HS.out h1)
            clear h1
            go_upto_region 7 with (fail)
            go_quiet (fail)
            go_wp2
            go_roundw
            case rel => exact ⟨j + 1, by omega, by go_num, HF2, Lib.hid (hO.out.drewN nq)⟩
            case measure => simp [intOf]; omega
        · obtain rfl : j = i := by omega
          have hjj : ¬ (j : Int) < (j : Int) := by omega
          have HNew := Lib.hid (far_new HIL.out hF.out)
          rw [HNew.out] at HH
          have r3 := HBr.out.cell 3 (v := .slice a1 nC c1) rfl
          have r4 := HBr.out.cell 4 (v := .slice a2 nS c2) rfl
          clear hji hF HT z0
          have HCt := Lib.hid (show kdCount k = (decide (nC ≤ 8) && (decide (1 ≤ nS) && decide (nS ≤ 8))) from by rw [HNC.out, HNS.out]; rfl)
          by_cases hct : nC ≤ 8 ∧ 1 ≤ nS ∧ nS ≤ 8
          · obtain ⟨k1, k2, k3⟩ := hct
            have t1 : ¬ ((8 : Int) < (nC : Int)) := by omega
            have t2 : ¬ ((nS : Int) < 1) := by omega
            have t3 : ¬ ((8 : Int) < (nS : Int)) := by omega
            have t2' : decide ((nS : Int) < 1) = false := decide_eq_false t2
            have t2'' : decide (nS < 1) = false := decide_eq_false (by omega)
            have HH2 := Lib.hid (show hKd P j = firstO [un 43 (k.cases.all caseIn), un 41 (once (k.cases.map Cs.reason))] from by rw [HH.out, HCt.out, decide_eq_true k1, decide_eq_true k2, decide_eq_true k3]; rfl)
            clear HH HCt
            go_upto_region 13 with (fail)
            have HCw := Lib.hid (show ∀ j, j < k.cases.length → k.cases.all caseIn = true → caseIn (gt k.cases j) = true from fun j hj h => List.all_eq_true.1 h _ (gt_mem hj))
            clear r4
            obtain ⟨w1, rfl⟩ : ∃ w1, w1 = wr := ⟨_, rfl⟩
            go_loopw [7, 8, 9] (fun s7 s8 _ wx => ∃ jj : Nat, jj ≤ nC ∧ s8 = .int .i64 (jj : Int) ∧ s7 = .bool (Old (k.cases.map Cs.reason) jj) ∧ Hid (∀ n, n < jj → caseIn (gt k.cases n) = true) ∧ Hid (Only Nil w1 wx))
              (fun _ s8 _ _ => nC - (intOf s8).toNat)
            case atStart => exact ⟨0, Nat.zero_le _, rfl, rfl, Lib.hid (fun n h => absurd h (Nat.not_lt_zero _)), Lib.hid (Only.refl _ _)⟩
            case round =>
              clear r3
              obtain ⟨jj, hjc, rfl, rfl, hAll, hO2⟩ := hrel
              have r3 := (HBr.out.keep hO2.out).cell 3 (v := .slice a1 nC c1) rfl
              by_cases hjn : jj < nC
              · have hjn' : (jj : Int) < (nC : Int) := by omega
                have HJL := Lib.hid (show jj < k.cases.length from by rw [← HNC.out]; exact hjn)
                obtain ⟨g, off2, rfl, f0, f1⟩ := cs_at (G1.out.keep (hO.out.trans hO2.out) (nilS · D)) HNC.out.symm jj hjn
                have HEM := Lib.hid (fun w => rempty_any (gt k.cases jj).reason w (HCW.out _ (gt_mem HJL.out)).reason)
                generalize hold : Old (k.cases.map Cs.reason) jj = t0 at *
                have HOld := Lib.hid hold
                clear hold
                go_upto_region 15 with (fail)
                go_cut [101] (fun s101 wy => ∃ b : Bool, s101 = .bool b ∧ Hid (b = !caseIn (gt k.cases jj)) ∧ wr = wy)
                case first =>
                  obtain ⟨z, hz⟩ : ∃ z, z = (gt k.cases jj).act := ⟨_, rfl⟩
                  have HCI := Lib.hid (show caseIn (gt k.cases jj) = (emN (gt k.cases jj).reason && (decide (1 ≤ z) && decide (z ≤ 4))) from by rw [hz]; rfl)
                  rw [← hz] at f1
                  clear hz
                  generalize bs (gt k.cases jj).reason = bt at *
                  cases hem : emN (gt k.cases jj).reason with
                  | false =>
                    have HF := Lib.hid (show true = !caseIn (gt k.cases jj) from by rw [HCI.out, hem]; rfl)
                    rw [hem] at HEM
                    clear hem
                    go_wp2_with (go_at_call 65; (with_reducible refine (HEM.out _).mono ?_); rintro e wn ⟨rfl, rfl⟩)
                    go_meet
                    exact ⟨_, rfl, HF, rfl⟩
                  | true =>
                    rw [hem] at HEM
                    by_cases t1 : z < 1
                    · have d1 : decide (z < 1) = true := decide_eq_true t1
                      have HF := Lib.hid (show true = !caseIn (gt k.cases jj) from by rw [HCI.out, hem, decide_eq_false (show ¬ 1 ≤ z by omega)]; simp)
                      clear hem
                      go_wp2_with (go_at_call 65; (with_reducible refine (HEM.out _).mono ?_); rintro e wn ⟨rfl, rfl⟩)
                      go_meet
                      exact ⟨_, rfl, HF, rfl⟩
                    · have d1 : decide (z < 1) = false := decide_eq_false t1
                      by_cases t2 : 4 < z
                      · have d2 : decide (4 < z) = true := decide_eq_true t2
                        have HF := Lib.hid (show true = !caseIn (gt k.cases jj) from by rw [HCI.out, hem, decide_eq_false (show ¬ z ≤ 4 by omega)]; simp)
                        clear hem
                        go_wp2_with (go_at_call 65; (with_reducible refine (HEM.out _).mono ?_); rintro e wn ⟨rfl, rfl⟩)
                        go_meet
                        exact ⟨_, rfl, HF, rfl⟩
                      · have d2 : decide (4 < z) = false := decide_eq_false t2
                        have HF := Lib.hid (show false = !caseIn (gt k.cases jj) from by rw [HCI.out, hem, decide_eq_true (show 1 ≤ z by omega), decide_eq_true (show z ≤ 4 by omega)]; rfl)
                        clear hem
                        go_wp2_with (go_at_call 65; (with_reducible refine (HEM.out _).mono ?_); rintro e wn ⟨rfl, rfl⟩)
                        go_meet
                        exact ⟨_, rfl, HF, rfl⟩
                case rest =>
                  obtain ⟨bb, rfl, hbb, rfl⟩ := hcut
                  cases hin : caseIn (gt k.cases jj) with
                  | false =>
                    obtain rfl : bb = true := by rw [hbb.out, hin]; rfl
                    have H43 := Lib.hid (show codeF (hKd P j) = 43 from by
                      have : k.cases.all caseIn = false := by
                        cases h : k.cases.all caseIn with
                        | false => rfl
                        | true => have := HCw.out jj HJL.out h; rw [hin] at this; cases this
                      rw [HH2.out, this]; rfl)
                    clear hin hbb
                    go_wp2
                    go_ret
                    exact ⟨by rw [H43.out]; rfl, (O.out.trans hO.out).trans hO2.out⟩
                  | true =>
                    obtain rfl : bb = false := by rw [hbb.out, hin]; rfl
                    have hAll2 := Lib.hid (show ∀ n, n < jj + 1 → caseIn (gt k.cases n) = true from fun n hn => by
                      rcases Nat.lt_or_ge n jj with h | h
                      · exact hAll.out n h
                      · obtain rfl : n = jj := by omega
                        exact hin)
                    clear hin hbb hAll f1
                    go_upto_region 18 with (fail)
                    have hF0 := Lib.hid (show Fnd k.cases jj 0 t0 from by rw [← HOld.out]; exact Fnd.zero _ _)
                    obtain ⟨w2, rfl⟩ : ∃ w2, w2 = wr := ⟨_, rfl⟩
                    go_loopw [7, 9] (fun s7 s9 wz => ∃ (n : Nat) (t : Bool), n ≤ jj ∧ s9 = .int .i64 (n : Int) ∧ s7 = .bool t ∧ Hid (Fnd k.cases jj n t) ∧ Hid (Only Nil w2 wz))
                      (fun _ s9 _ => jj - (intOf s9).toNat)
                    case atStart => exact ⟨0, t0, Nat.zero_le _, rfl, rfl, hF0, Lib.hid (Only.refl _ _)⟩
                    case round =>
                      clear r3 hF0
                      obtain ⟨n, t, hnj, rfl, rfl, hF, hO3⟩ := hrel
                      have OO := Lib.hid (hO2.out.trans hO3.out)
                      have r3 := (HBr.out.keep OO.out).cell 3 (v := .slice (some ⟨g, off2, none⟩) nC c1) rfl
                      have f0 := only_cell0 hO3.out f0
                      by_cases hn : n < jj
                      · have hn' : (n : Int) < (jj : Int) := by omega
                        have hn'' : (n : Int) < (nC : Int) := by omega
                        cases t with
                        | true =>
                          have hF2 := Lib.hid hF.out.old
                          clear hF
                          go_upto_region 20 with (fail)
                          go_quiet (fail)
                          go_wp2
                          go_roundw
                          case rel => exact ⟨n + 1, true, by omega, by go_num, rfl, hF2, Lib.hid (hO3.out.drewN nq)⟩
                          case measure => simp [intOf]; omega
                        | false =>
                          obtain ⟨g', off', eq', f2, _⟩ := cs_at (G1.out.keep (hO.out.trans OO.out) (nilS · D)) HNC.out.symm n (by omega)
                          cases eq'
                          have hq : ((bs (gt k.cases n).reason).toList == (bs (gt k.cases jj).reason).toList) = decide ((gt k.cases n).reason = (gt k.cases jj).reason) := bsq _ _
                          by_cases h1 : (gt k.cases n).reason = (gt k.cases jj).reason
                          · rw [decide_eq_true h1] at hq
                            have hF2 := Lib.hid (Fnd.hit h1)
                            clear h1 hF
                            generalize bs (gt k.cases n).reason = b1 at *
                            generalize bs (gt k.cases jj).reason = b2 at *
                            go_upto_region 20 with (fail)
                            go_quiet (fail)
                            go_wp2
                            go_roundw
                            case rel => exact ⟨n + 1, true, by omega, by go_num, rfl, hF2, Lib.hid (hO3.out.drewN nq)⟩
                            case measure => simp [intOf]; omega
                          · rw [decide_eq_false h1] at hq
                            have hF2 := Lib.hid (hF.out.miss h1)
                            clear h1 hF
                            generalize bs (gt k.cases n).reason = b1 at *
                            generalize bs (gt k.cases jj).reason = b2 at *
                            go_upto_region 20 with (fail)
                            go_quiet (fail)
                            go_wp2
                            go_roundw
                            case rel => exact ⟨n + 1, false, by omega, by go_num, rfl, hF2, Lib.hid (hO3.out.drewN nq)⟩
                            case measure => simp [intOf]; omega
                      · obtain rfl : n = jj := by omega
                        have hnn : ¬ (n : Int) < (n : Int) := by omega
                        have hDn := Lib.hid (hF.out.done HJL.out)
                        clear hn hF
                        go_wp2
                        go_roundw
                        case rel => exact ⟨n + 1, by omega, by go_num, by rw [hDn.out], hAll2, OO⟩
                        case measure => simp [intOf]; omega
              · obtain rfl : jj = nC := by omega
                have hnn : ¬ (jj : Int) < (jj : Int) := by omega
                have HAll := Lib.hid (show k.cases.all caseIn = true from by
                  rw [List.all_eq_true]
                  intro c hc
                  obtain ⟨m, hm, rfl⟩ := List.getElem_of_mem hc
                  have := hAll.out m (by rw [HNC.out]; exact hm)
                  rwa [gt_eq hm] at this)
                have HOn := Lib.hid (show once (k.cases.map Cs.reason) = !Old (k.cases.map Cs.reason) jj from by rw [old_all, List.length_map, ← HNC.out])
                clear hjn hAll
                cases hold : Old (k.cases.map Cs.reason) jj with
                | true =>
                  have H41 := Lib.hid (show codeF (hKd P j) = 41 from by rw [HH2.out, HAll.out, HOn.out, hold]; rfl)
                  clear hold
                  go_wp2
                  go_ret
                  exact ⟨by rw [H41.out]; rfl, (O.out.trans hO.out).trans hO2.out⟩
                | false =>
                  have H0 := Lib.hid (show codeF (hKd P j) = 0 from by rw [HH2.out, HAll.out, HOn.out, hold]; rfl)
                  clear hold
                  go_wp2
                  go_ret
                  exact ⟨by rw [H0.out]; rfl, (O.out.trans hO.out).trans hO2.out⟩
          · have H40 := Lib.hid (show codeF (hKd P j) = 40 from by
              rw [HH.out, HCt.out]
              have : (decide (nC ≤ 8) && (decide (1 ≤ nS) && decide (nS ≤ 8))) = false := by
                rw [Bool.eq_false_iff]; intro h; simp at h; omega
              rw [this]; rfl)
            clear HH HCt
            by_cases t1 : (8 : Int) < (nC : Int)
            · go_wp2
              go_ret
              exact ⟨by rw [H40.out]; rfl, O.out.trans hO.out⟩
            · by_cases t2 : (nS : Int) < 1
              · go_wp2
                go_ret
                exact ⟨by rw [H40.out]; rfl, O.out.trans hO.out⟩
              · have t3 : (8 : Int) < (nS : Int) := by omega
                go_wp2
                go_ret
                exact ⟨by rw [H40.out]; rfl, O.out.trans hO.out⟩
end Go.Proofs.YthanclicnkjmiaaGreatDoor.Ch
