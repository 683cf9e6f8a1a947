/- check: the document's row. -/
import Derived.Test.YthanclicnkjmiaaGreatDoorCpB
set_option linter.unusedVariables false
set_option linter.unusedSimpArgs false
namespace Go.Proofs.YthanclicnkjmiaaGreatDoor.Ch
open Go.RowKit Go.Proofs.YthanclicnkjmiaaGreatDoor Lx Ps

def hRow (R : List Rw) (i : Nat) : Fau := firstO [un 43 (rowIn (gt R i)), un 41 (isNew (R.map headR) i), un 40 (decide ((gt R i).effs.length ≤ 8)), un 45 (alone (gt R i).effs)]
theorem hrow_split (PN SN : List Wd) (R : List Rw) (i : Nat) : ofRow PN SN R i = match hRow R i with | some x => some x | none => eachO (gt R i).effs.length (ofEff PN SN (gt R i).effs) := by
  unfold ofRow hRow
  generalize un 43 (rowIn (gt R i)) = a
  generalize un 41 (isNew (R.map headR) i) = b
  generalize un 40 (decide ((gt R i).effs.length ≤ 8)) = c
  generalize un 45 (alone (gt R i).effs) = d
  generalize eachO (gt R i).effs.length (ofEff PN SN (gt R i).effs) = e
  cases a <;> cases b <;> cases c <;> cases d <;> cases e <;> rfl
theorem nm_nil : isNm [] = false := by decide
theorem rowin_iff (r : Rw) : rowIn r = (emN r.tag && !(r.only && decide (r.tag = [])) && decide (0 ≤ r.n) && decide (r.n ≤ 255) && (r.only || decide (r.n = 0))) := by
  unfold rowIn emN wn
  by_cases ht : r.tag = []
  · rw [ht, nm_nil]
    cases r.only <;> by_cases hn : r.n = 0 <;> simp [hn]
  · cases isNm r.tag <;> cases r.only <;> by_cases hn : r.n = 0 <;> simp [hn, ht] <;> omega
theorem eff0_at {D : Nat} {w : World} {a : Option Addr} {n c : Nat} {L : List Eff} (h : XE D w (.slice a n c) L) (hn : L.length = n) (j : Nat) (hj : j < n) :
    ∃ b off, a = some ⟨b, off, none⟩ ∧ w.cell? ⟨b, off + j * 7, none⟩ = some (.int .i64 (gt L j).act) ∧ ∀ k, k < 7 → w.cell? ⟨b, off + j * 7 + k, none⟩ = (effC (gt L j))[k]? := by
  obtain ⟨b, off, ha, hlt, hc⟩ := h.at_ hn j hj
  rw [gt_eq (by omega : j < L.length)]
  exact ⟨b, off, ha, hc 0 (by decide), hc⟩
/-- None of the first n is a stash. -/
def NoSt (L : List Eff) (n : Nat) : Prop := ∀ j, j < n → ¬ (gt L j).act = 4
theorem NoSt.zero (L : List Eff) : NoSt L 0 := fun j hj => absurd hj (Nat.not_lt_zero _)
theorem NoSt.succ {L : List Eff} {n : Nat} (h : NoSt L n) (hn : ¬ (gt L n).act = 4) : NoSt L (n + 1) := fun j hj => by
  rcases Nat.lt_or_ge j n with h1 | h1
  · exact h j h1
  · obtain rfl : j = n := by omega
    exact hn
theorem alone_no {L : List Eff} (h : NoSt L L.length) : alone L = true := by
  unfold alone
  have : (L.any fun e => decide (e.act = 4)) = false := by
    rw [List.any_eq_false]
    intro e he
    obtain ⟨j, hj, rfl⟩ := List.getElem_of_mem he
    have := h j hj
    rw [gt_eq hj] at this
    simpa using this
  rw [this]; simp
theorem alone_few {L : List Eff} (h : L.length ≤ 1) : alone L = true := by
  unfold alone
  match L, h with
  | [], _ => rfl
  | [e], _ => rfl
theorem alone_not {L : List Eff} {j : Nat} (hj : j < L.length) (h : (gt L j).act = 4) (h1 : 1 < L.length) : alone L = false := by
  unfold alone
  have : (L.any fun e => decide (e.act = 4)) = true := by
    rw [List.any_eq_true]
    exact ⟨gt L j, gt_mem hj, by simp [h]⟩
  rw [this, decide_eq_false (by omega)]; rfl

set_option maxHeartbeats 4000000 in
set_option maxRecDepth 100000 in
theorem rrow_any {D : Nat} {w : World} {y : Sta} {a3 : Option Addr} {nR c3 : Nat} (hY : VY D w y a3 nR c3) (i : Nat) (hi : i < nR) :
    Calls Tryz.prog 38 #[.slice a3 nR c3, .int .i64 (i : Int)] w fun e w' => e = .returned (.int .i64 (codeF (hRow y.rows i) : Int)) ∧ Only Nil w w' := by
  obtain ⟨q, off, u, uc, rfl, ⟨e0, e1, e2, e3⟩, gx⟩ := row_at hY.r hY.n i hi
  obtain ⟨r, hr⟩ : ∃ r, r = gt y.rows i := ⟨_, rfl⟩
  have hiL : i < y.rows.length := by rw [hY.n]; exact hi
  have hwr := hY.wf.rows _ (gt_mem hiL)
  have hsz := hY.sz.2 _ (gt_mem hiL)
  have hH : hRow y.rows i = firstO [un 43 (rowIn r), un 41 (isNew (y.rows.map headR) i), un 40 (decide (r.effs.length ≤ 8)), un 45 (alone r.effs)] := by rw [hr]; rfl
  rw [← hr] at e0 e1 e2 e3 gx hwr hsz
  obtain ⟨W, hW⟩ : ∃ W, W = w.alloc (.cells #[.string (bs r.tag), .bool r.only, .int .i64 r.n, .slice u r.effs.length uc] 62) := ⟨_, rfl⟩
  have oW : Only Nil w W := hW ▸ (Only.refl Nil w).alloc _
  have HB := Lib.hid (show Bx W w.heap.size [.string (bs r.tag), .bool r.only, .int .i64 r.n, .slice u r.effs.length uc] 62 from hW ▸ bx_new w _ _)
  have HV := Lib.hid (hY.keep oW)
  have GX := Lib.hid (gx.keep oW (nilS · D))
  have O := Lib.hid oW
  have HR := Lib.hid hr
  have HH := Lib.hid hH
  have HIL := Lib.hid hiL
  have hb : (nR : Int) ≤ 140737488355328 := by have := hY.b; omega
  have HEM := Lib.hid (fun w => rempty_any r.tag w hwr.tag)
  have hi' : (i : Int) < (nR : Int) := by omega
  have heb : (r.effs.length : Int) ≤ 140737488355328 := by unfold szR at hsz; omega
  obtain ⟨nE, hnE⟩ : ∃ nE, nE = r.effs.length := ⟨_, rfl⟩
  have HNE := Lib.hid hnE
  rw [← hnE] at e3 HB GX heb hW
  have HI := Lib.hid hi
  have HRI := Lib.hid (rowin_iff r)
  clear oW hY gx hr hH hiL hwr hsz hnE hi
  go_enter Tryz.func38, Tryz.ntmps38
  go_upto_region 2 with (fail)
  rw [← hW]; clear hW e0 e1 e2 e3
  generalize w.heap.size = B at *
  have r0 := HB.out.cell 0 (v := .string (bs r.tag)) rfl
  have r1 := HB.out.cell 1 (v := .bool r.only) rfl
  have r2 := HB.out.cell 2 (v := .int .i64 r.n) rfl
  go_cut [44] (fun s44 wx => ∃ b : Bool, s44 = .bool b ∧ Hid (b = !rowIn r) ∧ W = wx)
  case first =>
    have he0 := emp_bs r.tag
    obtain ⟨tg, htg⟩ : ∃ tg, tg = bs r.tag := ⟨_, rfl⟩
    rw [← htg] at he0 r0 HEM
    clear htg
    cases hem : emN r.tag with
    | false =>
      have HF := Lib.hid (show true = !rowIn r from by rw [HRI.out, hem]; rfl)
      rw [hem] at HEM
      clear hem he0
      go_wp2_with (go_at_call 65; (with_reducible refine (HEM.out _).mono ?_); rintro e wn ⟨rfl, rfl⟩)
      go_meet
      exact ⟨_, rfl, HF, rfl⟩
    | true =>
      rw [hem] at HEM
      cases hon : r.only with
      | true =>
        rw [hon] at r1
        by_cases ht : r.tag = []
        · have he : tg.toList.isEmpty = true := by rw [he0]; exact decide_eq_true ht
          have HF := Lib.hid (show true = !rowIn r from by rw [HRI.out, hem, hon, decide_eq_true ht]; rfl)
          clear hem he0 ht hon
          go_wp2_with (go_at_call 65; (with_reducible refine (HEM.out _).mono ?_); rintro e wn ⟨rfl, rfl⟩)
          go_meet
          exact ⟨_, rfl, HF, rfl⟩
        · have he : tg.toList.isEmpty = false := by rw [he0]; exact decide_eq_false ht
          by_cases hn0 : r.n < 0
          · have HF := Lib.hid (show true = !rowIn r from by rw [HRI.out, decide_eq_false (show ¬ 0 ≤ r.n by omega)]; simp)
            clear hem he0 ht hon
            go_wp2_with (go_at_call 65; (with_reducible refine (HEM.out _).mono ?_); rintro e wn ⟨rfl, rfl⟩)
            go_meet
            exact ⟨_, rfl, HF, rfl⟩
          · by_cases hn1 : 255 < r.n
            · have HF := Lib.hid (show true = !rowIn r from by rw [HRI.out, decide_eq_false (show ¬ r.n ≤ 255 by omega)]; simp)
              clear hem he0 ht hon
              go_wp2_with (go_at_call 65; (with_reducible refine (HEM.out _).mono ?_); rintro e wn ⟨rfl, rfl⟩)
              go_meet
              exact ⟨_, rfl, HF, rfl⟩
            · have HF := Lib.hid (show (decide (r.n < 0) || decide (255 < r.n)) = !rowIn r from by rw [decide_eq_false hn0, decide_eq_false hn1, HRI.out, hem, hon, decide_eq_false ht, decide_eq_true (show 0 ≤ r.n by omega), decide_eq_true (show r.n ≤ 255 by omega)]; rfl)
              clear hem he0 ht hon
              go_wp2_with (go_at_call 65; (with_reducible refine (HEM.out _).mono ?_); rintro e wn ⟨rfl, rfl⟩)
              go_meet
              exact ⟨_, rfl, HF, rfl⟩
      | false =>
        rw [hon] at r1
        by_cases hn0 : r.n < 0
        · have HF := Lib.hid (show true = !rowIn r from by rw [HRI.out, decide_eq_false (show ¬ 0 ≤ r.n by omega)]; simp)
          clear hem he0 hon
          go_wp2_with (go_at_call 65; (with_reducible refine (HEM.out _).mono ?_); rintro e wn ⟨rfl, rfl⟩)
          go_meet
          exact ⟨_, rfl, HF, rfl⟩
        · by_cases hn1 : 255 < r.n
          · have HF := Lib.hid (show true = !rowIn r from by rw [HRI.out, decide_eq_false (show ¬ r.n ≤ 255 by omega)]; simp)
            clear hem he0 hon
            go_wp2_with (go_at_call 65; (with_reducible refine (HEM.out _).mono ?_); rintro e wn ⟨rfl, rfl⟩)
            go_meet
            exact ⟨_, rfl, HF, rfl⟩
          · by_cases hz : r.n = 0
            · have HF := Lib.hid (show (decide (r.n < 0) || decide (255 < r.n)) = !rowIn r from by rw [decide_eq_false hn0, decide_eq_false hn1, HRI.out, hem, hon, hz]; rfl)
              have hz' : (r.n != 0) = false := by simp [hz]
              clear hem he0 hon hz
              go_wp2_with (go_at_call 65; (with_reducible refine (HEM.out _).mono ?_); rintro e wn ⟨rfl, rfl⟩)
              go_meet
              exact ⟨_, rfl, HF, rfl⟩
            · have HF := Lib.hid (show true = !rowIn r from by rw [HRI.out, hem, hon, decide_eq_false hz]; simp)
              have hz' : (r.n != 0) = true := by simp [hz]
              clear hem he0 hon hz
              go_wp2_with (go_at_call 65; (with_reducible refine (HEM.out _).mono ?_); rintro e wn ⟨rfl, rfl⟩)
              go_meet
              exact ⟨_, rfl, HF, rfl⟩
  case rest =>
    obtain ⟨bb, rfl, hbb, rfl⟩ := hcut
    cases hin : rowIn r with
    | false =>
      obtain rfl : bb = true := by rw [hbb.out, hin]; rfl
      have H43 := Lib.hid (show codeF (hRow y.rows i) = 43 from by rw [HH.out, hin]; rfl)
      clear hin hbb
      go_wp2
      go_ret
      exact ⟨by rw [H43.out]; rfl, O.out⟩
    | true =>
      obtain rfl : bb = false := by rw [hbb.out, hin]; rfl
      rw [hin] at HH
      clear hin hbb
      have HT := Lib.hid (show Hid (isNew (y.rows.map headR) i = false) → codeF (hRow y.rows i) = 41 from fun h => by rw [HH.out, h.out]; rfl)
      have HG := Lib.hid (show Hid (isNew (y.rows.map headR) i = true) → ¬ nE ≤ 8 → codeF (hRow y.rows i) = 40 from fun h h2 => by rw [HH.out, h.out, ← HNE.out, decide_eq_false h2]; rfl)
      have H5 := Lib.hid (show Hid (isNew (y.rows.map headR) i = true) → nE ≤ 8 → Hid (alone r.effs = false) → codeF (hRow y.rows i) = 45 from fun h h2 h3 => by rw [HH.out, h.out, ← HNE.out, decide_eq_true h2, h3.out]; rfl)
      have H0 := Lib.hid (show Hid (isNew (y.rows.map headR) i = true) → nE ≤ 8 → Hid (alone r.effs = true) → codeF (hRow y.rows i) = 0 from fun h h2 h3 => by rw [HH.out, h.out, ← HNE.out, decide_eq_true h2, h3.out]; rfl)
      clear HH HEM HRI
      go_upto_region 5 with (fail)
      go_loopw [6] (fun s6 wr => ∃ j : Nat, j ≤ i ∧ s6 = .int .i64 (j : Int) ∧ Hid (Far headR y.rows i j) ∧ Hid (Only Nil W wr))
        (fun s6 _ => i - (intOf s6).toNat)
      case atStart => exact ⟨0, Nat.zero_le _, rfl, Lib.hid (Far.zero _ _ _), Lib.hid (Only.refl _ _)⟩
      case round =>
        clear r0 r1 r2
        obtain ⟨j, hj, rfl, hF, hO⟩ := hrel
        have HBr := Lib.hid (HB.out.keep hO.out)
        by_cases hji : j < i
        · have hji' : (j : Int) < (i : Int) := by omega
          have hjn' : (j : Int) < (nR : Int) := by omega
          obtain ⟨q', off', u', uc', eq', ⟨f0, f1, f2, _⟩, _⟩ := row_at (HV.out.keep hO.out).r HV.out.n j (by have := HI.out; omega)
          cases eq'
          have r0 := HBr.out.cell 0 (v := .string (bs r.tag)) rfl
          have r1 := HBr.out.cell 1 (v := .bool r.only) rfl
          have r2 := HBr.out.cell 2 (v := .int .i64 r.n) rfl
          have HK := Lib.hid (show headR (gt y.rows j) = headR (gt y.rows i) ↔ (gt y.rows j).tag = r.tag ∧ (gt y.rows j).only = r.only ∧ (gt y.rows j).n = r.n from by rw [← HR.out]; unfold headR; simp)
          have hq : ((bs (gt y.rows j).tag).toList == (bs r.tag).toList) = decide ((gt y.rows j).tag = r.tag) := bsq _ _
          have ho : ((gt y.rows j).only == r.only) = decide ((gt y.rows j).only = r.only) := by cases (gt y.rows j).only <;> cases r.only <;> rfl
          have hm : ((gt y.rows j).n == r.n) = decide ((gt y.rows j).n = r.n) := by by_cases h : (gt y.rows j).n = r.n <;> simp [h]
          have HS := Lib.hid (fun h => hF.out.succ (f := headR) (L := y.rows) (i := i) (n := j) h)
          have HN := Lib.hid (fun h => HT.out (Lib.hid (near_old (f := headR) HIL.out hji h)))
          generalize gt y.rows j = t at *
          generalize bs t.tag = bt at *
          generalize bs r.tag = br at *
          generalize t.only = ot at *
          generalize t.n = nt at *
          clear hF
          by_cases h1 : t.tag = r.tag
          · rw [decide_eq_true h1] at hq
            by_cases h2 : ot = r.only
            · rw [decide_eq_true h2] at ho
              by_cases h3 : nt = r.n
              · rw [decide_eq_true h3] at hm
                have H41 := Lib.hid (HN.out (HK.out.2 ⟨h1, h2, h3⟩))
                clear h1 h2 h3
                go_upto_region 7 with (fail)
                go_quiet (fail)
                go_wp2
                go_ret
                exact ⟨by rw [H41.out]; rfl, (O.out.trans hO.out).drewN nq⟩
              · rw [decide_eq_false h3] at hm
                have HF2 := Lib.hid (HS.out (fun h => h3 (HK.out.1 h).2.2))
                clear h1 h2 h3
                go_upto_region 7 with (fail)
                go_quiet (fail)
                go_wp2
                go_roundw
                case rel => exact ⟨j + 1, by omega, by go_num, HF2, Lib.hid (hO.out.drewN nq)⟩
                case measure => simp [intOf]; omega
            · rw [decide_eq_false h2] at ho
              have HF2 := Lib.hid (HS.out (fun h => h2 (HK.out.1 h).2.1))
              clear h1 h2
              go_upto_region 7 with (fail)
              go_quiet (fail)
              go_wp2
              go_roundw
              case rel => exact ⟨j + 1, by omega, by go_num, HF2, Lib.hid (hO.out.drewN nq)⟩
              case measure => simp [intOf]; omega
          · rw [decide_eq_false h1] at hq
            have HF2 := Lib.hid (HS.out (fun h => h1 (HK.out.1 h).1))
            clear h1
            go_upto_region 7 with (fail)
            go_quiet (fail)
            go_wp2
            go_roundw
            case rel => exact ⟨j + 1, by omega, by go_num, HF2, Lib.hid (hO.out.drewN nq)⟩
            case measure => simp [intOf]; omega
        · obtain rfl : j = i := by omega
          have hjj : ¬ (j : Int) < (j : Int) := by omega
          have HNew := Lib.hid (far_new HIL.out hF.out)
          have r3 := HBr.out.cell 3 (v := .slice u nE uc) rfl
          clear hji hF
          by_cases h8 : nE ≤ 8
          · have h8' : ¬ ((8 : Int) < (nE : Int)) := by omega
            have HA := Lib.hid (H0.out HNew h8)
            have HB5 := Lib.hid (H5.out HNew h8)
            clear HG HT H0 H5
            go_upto_region 12 with (fail)
            go_loopw [7] (fun s7 wx => ∃ k : Nat, k ≤ nE ∧ s7 = .int .i64 (k : Int) ∧ Hid (1 < nE → NoSt r.effs k) ∧ wr = wx)
              (fun s7 _ => nE - (intOf s7).toNat)
            case atStart => exact ⟨0, Nat.zero_le _, rfl, Lib.hid (fun _ => NoSt.zero _), rfl⟩
            case round =>
              obtain ⟨k, hk, rfl, hN, rfl⟩ := hrel
              by_cases hkn : k < nE
              · have hkn' : (k : Int) < (nE : Int) := by omega
                obtain ⟨g, off2, rfl, g0, _⟩ := eff0_at (GX.out.keep hO.out (nilS · D)) HNE.out.symm k hkn
                obtain ⟨z, hz⟩ : ∃ z, z = (gt r.effs k).act := ⟨_, rfl⟩
                rw [← hz] at g0
                have HZ := Lib.hid hz
                have HKL := Lib.hid (show k < r.effs.length from by rw [← HNE.out]; exact hkn)
                clear hz
                by_cases h4 : z = 4
                · have h4' : (z == 4) = true := by simp [h4]
                  by_cases h1 : 1 < nE
                  · have h1' : (1 : Int) < (nE : Int) := by omega
                    have H45 := Lib.hid (HB5.out (Lib.hid (alone_not HKL.out (by rw [← HZ.out]; exact h4) (by rw [← HNE.out]; exact h1))))
                    clear h4
                    go_wp2
                    go_ret
                    exact ⟨by rw [H45.out]; rfl, O.out.trans hO.out⟩
                  · have h1' : ¬ (1 : Int) < (nE : Int) := by omega
                    have HN2 := Lib.hid (show 1 < nE → NoSt r.effs (k + 1) from fun h => absurd h h1)
                    clear h4
                    go_wp2
                    go_roundw
                    case rel => exact ⟨k + 1, by omega, by go_num, HN2, trivial⟩
                    case measure => simp [intOf]; omega
                · have h4' : (z == 4) = false := by simp [h4]
                  have HN2 := Lib.hid (show 1 < nE → NoSt r.effs (k + 1) from fun h => (hN.out h).succ (by rw [← HZ.out]; exact h4))
                  clear h4 hN
                  go_wp2
                  go_roundw
                  case rel => exact ⟨k + 1, by omega, by go_num, HN2, trivial⟩
                  case measure => simp [intOf]; omega
              · obtain rfl : k = nE := by omega
                have hkk : ¬ (k : Int) < (k : Int) := by omega
                have H00 := Lib.hid (HA.out (Lib.hid (by
                  by_cases h : 1 < k
                  · exact alone_no (by rw [← HNE.out]; exact hN.out h)
                  · exact alone_few (by rw [← HNE.out]; omega))))
                clear hkn
                go_wp2
                go_ret
                exact ⟨by rw [H00.out]; rfl, O.out.trans hO.out⟩
          · have h8' : ((8 : Int) < (nE : Int)) := by omega
            have H40 := Lib.hid (HG.out HNew h8)
            go_wp2
            go_ret
            exact ⟨by rw [H40.out]; rfl, O.out.trans hO.out⟩
end Go.Proofs.YthanclicnkjmiaaGreatDoor.Ch
