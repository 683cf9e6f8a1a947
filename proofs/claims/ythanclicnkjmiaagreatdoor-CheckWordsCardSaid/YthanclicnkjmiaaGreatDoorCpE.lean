/- check: the document's effect. -/
import Derived.Test.YthanclicnkjmiaaGreatDoorCpD
set_option linter.unusedVariables false
set_option linter.unusedSimpArgs false
namespace Go.Proofs.YthanclicnkjmiaaGreatDoor.Ch
open Go.RowKit Go.Proofs.YthanclicnkjmiaaGreatDoor Lx Ps

def wfE1 (e : Eff) : Bool := okE e && decide (e.n ≤ 255) && (decide (e.ref = []) || isRef e.ref) && (decide (e.slot = []) || isSlot e.slot)
theorem wfef_eq (e : Eff) : wfEf e = (wfE1 e && (!hasP (parts e.act) 100 || wn e.delay 1 4095)) := rfl
/-- Whether one of the first j has the name. -/
def Thr {α : Type} [Inhabited α] (f : α → Wd) (L : List α) (nm : Wd) (j : Nat) (t : Bool) : Prop := (t = true ∧ ∃ k, k < j ∧ k < L.length ∧ f (gt L k) = nm) ∨ (t = false ∧ ∀ k, k < j → ¬ f (gt L k) = nm)
section
variable {α : Type} [Inhabited α] {f : α → Wd} {L : List α} {nm : Wd} {j : Nat} {t : Bool}
theorem Thr.zero : Thr f L nm 0 false := .inr ⟨rfl, fun k h => absurd h (Nat.not_lt_zero _)⟩
theorem Thr.old (h : Thr f L nm j true) : Thr f L nm (j + 1) true := by
  rcases h with ⟨_, k, h1, h2, h3⟩ | ⟨h, _⟩
  · exact .inl ⟨rfl, k, by omega, h2, h3⟩
  · cases h
theorem Thr.hit (hj : j < L.length) (e : f (gt L j) = nm) : Thr f L nm (j + 1) true := .inl ⟨rfl, j, by omega, hj, e⟩
theorem Thr.miss (h : Thr f L nm j false) (e : ¬ f (gt L j) = nm) : Thr f L nm (j + 1) false := by
  rcases h with ⟨h, _⟩ | ⟨_, h⟩
  · cases h
  · refine .inr ⟨rfl, fun k hk => ?_⟩
    rcases Nat.lt_or_ge k j with h1 | h1
    · exact h k h1
    · obtain rfl : k = j := by omega
      exact e
theorem Thr.done (h : Thr f L nm L.length t) : t = decide (nm ∈ L.map f) := by
  rcases h with ⟨rfl, k, h1, h2, h3⟩ | ⟨rfl, h⟩
  · symm; rw [decide_eq_true_iff]
    rw [gt_eq h2] at h3
    exact List.mem_map.2 ⟨_, List.getElem_mem h2, h3⟩
  · symm; rw [decide_eq_false_iff_not]
    intro hm
    obtain ⟨y, hy, e⟩ := List.mem_map.1 hm
    obtain ⟨k, hk, rfl⟩ := List.getElem_of_mem hy
    exact h k hk (by rw [gt_eq hk]; exact e)
end

set_option maxHeartbeats 8000000 in
set_option maxRecDepth 100000 in
theorem reffect_any {D : Nat} {w : World} {P : List Kd} {a0 : Option Addr} {nP c0 : Nat} {x : Kd} {a1 a2 : Option Addr} {nC c1 nS c2 : Nat} {z : Rw} {a4 : Option Addr} {nE c4 : Nat} (hP : VK D w P a0 nP c0) (hX : VX D w x a1 nC c1 a2 nS c2) (hZ : VZ D w z a4 nE c4) (i : Nat) (hi : i < nE) :
    Calls Tryz.prog 39 #[.agg #[.slice a0 nP c0], .agg #[.string (bs x.name), .int .i64 x.limit, .int .i64 x.within, .slice a1 nC c1, .slice a2 nS c2], .slice a4 nE c4, .int .i64 (i : Int)] w fun e w' =>
      e = .returned (.int .i64 (codeF (ofEff (P.map Kd.name) (x.states.map Sta.name) z.effs i) : Int)) ∧ Only Nil w w' := by
  obtain ⟨q, off, rfl, e0, ee⟩ := eff0_at hZ.e hZ.n i hi
  have hiL : i < z.effs.length := by rw [hZ.n]; exact hi
  obtain ⟨e, he⟩ : ∃ e, e = gt z.effs i := ⟨_, rfl⟩
  have hwe := hZ.wf.effs _ (gt_mem hiL)
  have hH : ofEff (P.map Kd.name) (x.states.map Sta.name) z.effs i = firstO [un 43 (wfEf e), un 42 (there (P.map Kd.name) (x.states.map Sta.name) e), un 44 (lastOk nE i e)] := by rw [he, ← hZ.n]; rfl
  rw [← he] at e0 ee hwe
  obtain ⟨W0, hW0⟩ : ∃ W0, W0 = (w.alloc (.cells #[.slice a0 nP c0] 25)).alloc (.cells #[.string (bs x.name), .int .i64 x.limit, .int .i64 x.within, .slice a1 nC c1, .slice a2 nS c2] 56) := ⟨_, rfl⟩
  obtain ⟨o0, b0, b1⟩ : Only Nil w W0 ∧ Bx W0 w.heap.size [.slice a0 nP c0] 25 ∧ Bx W0 (w.heap.size + 1) [.string (bs x.name), .int .i64 x.limit, .int .i64 x.within, .slice a1 nC c1, .slice a2 nS c2] 56 := two_box hW0
  have s0 : W0.heap.size = w.heap.size + 2 := by rw [hW0]; simp
  obtain ⟨W, hW⟩ : ∃ W, W = W0.alloc (.cells #[.int .i64 e.act, .string (bs e.ref), .string (bs e.slot), .string (bs e.name), .int .i64 e.val, .int .i64 e.n, .int .i64 e.delay] 67) := ⟨_, rfl⟩
  have oW : Only Nil W0 W := hW ▸ (Only.refl Nil W0).alloc _
  have b2 : Bx W W0.heap.size [.int .i64 e.act, .string (bs e.ref), .string (bs e.slot), .string (bs e.name), .int .i64 e.val, .int .i64 e.n, .int .i64 e.delay] 67 := hW ▸ bx_new W0 _ _
  rw [s0] at b2
  have HB0 := Lib.hid (b0.keep oW)
  have HB1 := Lib.hid (b1.keep oW)
  have HB2 := Lib.hid b2
  have k0 : W0.cell? ⟨q, off + i * 7, none⟩ = some (.int .i64 e.act) := only_cell0 o0 e0
  have k1 : W0.cell? ⟨q, off + i * 7 + 1, none⟩ = some (.string (bs e.ref)) := only_cell0 o0 (ee 1 (by decide))
  have k2 : W0.cell? ⟨q, off + i * 7 + 2, none⟩ = some (.string (bs e.slot)) := only_cell0 o0 (ee 2 (by decide))
  have k3 : W0.cell? ⟨q, off + i * 7 + 3, none⟩ = some (.string (bs e.name)) := only_cell0 o0 (ee 3 (by decide))
  have k4 : W0.cell? ⟨q, off + i * 7 + 4, none⟩ = some (.int .i64 e.val) := only_cell0 o0 (ee 4 (by decide))
  have k5 : W0.cell? ⟨q, off + i * 7 + 5, none⟩ = some (.int .i64 e.n) := only_cell0 o0 (ee 5 (by decide))
  have k6 : W0.cell? ⟨q, off + i * 7 + 6, none⟩ = some (.int .i64 e.delay) := only_cell0 o0 (ee 6 (by decide))
  have HVP := Lib.hid (hP.keep (o0.trans oW))
  have HVX := Lib.hid (hX.keep (o0.trans oW))
  have O := Lib.hid (o0.trans oW)
  have HH := Lib.hid hH
  have HI := Lib.hid hi
  have pb : (nP : Int) ≤ 140737488355328 := by have := hP.b; omega
  have sb : (nS : Int) ≤ 140737488355328 := by have := hX.sb; omega
  have eb : (nE : Int) ≤ 140737488355328 := by have := hZ.b; omega
  have hi' : (i : Int) < (nE : Int) := by omega
  have HEF := Lib.hid (fun w => reff_any e hwe w)
  have HRF := Lib.hid (fun w => rref_any e.ref w)
  have HSL := Lib.hid (fun w => rslot_any e.slot w)
  have HVB := Lib.hid (fun w => rverb_any e.act w)
  have HHA := Lib.hid (fun w => show Calls Tryz.prog 70 #[.string (bs (parts e.act)), .int .u8 100] w fun e' w' => e' = .returned (.bool (hasP (parts e.act) 100)) ∧ w = w' from rhas_any (parts e.act) 100 (parts_len _) w)
  have HWI := Lib.hid hwe
  have HWq := Lib.hid hW
  clear b0 b1 b2 o0 oW hP hX hZ e0 ee hH he hiL hi hwe hW
  go_enter Tryz.func39, Tryz.ntmps39
  go_upto_region 1 with (fail)
  rw [← hW0]; clear hW0
  go_upto_region 2 with (fail)
  rw [← HWq.out]
  clear HWq k0 k1 k2 k3 k4 k5 k6 s0
  generalize w.heap.size = B at *
  have CC := Lib.hid (show ∀ w', Only Nil W w' → (w'.cell? ⟨B + 2, 0, none⟩ = some (.int .i64 e.act) ∧ w'.cell? ⟨B + 2, 1, none⟩ = some (.string (bs e.ref)) ∧ w'.cell? ⟨B + 2, 2, none⟩ = some (.string (bs e.slot)) ∧ w'.cell? ⟨B + 2, 3, none⟩ = some (.string (bs e.name)) ∧ w'.cell? ⟨B + 2, 4, none⟩ = some (.int .i64 e.val) ∧ w'.cell? ⟨B + 2, 5, none⟩ = some (.int .i64 e.n) ∧ w'.cell? ⟨B + 2, 6, none⟩ = some (.int .i64 e.delay)) from fun w' o => by
    have h := HB2.out.keep o
    exact ⟨h.cell 0 rfl, h.cell 1 rfl, h.cell 2 rfl, h.cell 3 rfl, h.cell 4 rfl, h.cell 5 rfl, h.cell 6 rfl⟩)
  go_cut [48] (fun s48 wx => ∃ b : Bool, s48 = .bool b ∧ Hid (b = !wfE1 e) ∧ Hid (Only Nil W wx))
  case first =>
    obtain ⟨y0, y1, y2, y3, y4, y5, y6⟩ := CC.out W (Only.refl _ _)
    have HQ := Lib.hid (show wfE1 e = (okE e && decide (e.n ≤ 255) && (decide (e.ref = []) || isRef e.ref) && (decide (e.slot = []) || isSlot e.slot)) from rfl)
    have hr0 := emp_bs e.ref
    have hs0 := emp_bs e.slot
    obtain ⟨rb, hrb⟩ : ∃ rb, rb = bs e.ref := ⟨_, rfl⟩
    obtain ⟨sb', hsb⟩ : ∃ sb', sb' = bs e.slot := ⟨_, rfl⟩
    have CC2 := Lib.hid (show ∀ w', Only Nil W w' → (w'.cell? ⟨B + 2, 1, none⟩ = some (.string rb) ∧ w'.cell? ⟨B + 2, 2, none⟩ = some (.string sb') ∧ w'.cell? ⟨B + 2, 5, none⟩ = some (.int .i64 e.n)) from fun w' o => by
      rw [hrb, hsb]; exact ⟨(CC.out w' o).2.1, (CC.out w' o).2.2.1, (CC.out w' o).2.2.2.2.2.1⟩)
    rw [← hrb] at hr0 HRF y1 HEF
    rw [← hsb] at hs0 HSL y2 HEF
    clear hrb hsb
    cases hok : okE e with
    | false =>
      rw [hok] at HEF
      have HF := Lib.hid (show true = !wfE1 e from by rw [HQ.out, hok]; rfl)
      clear hok
      go_wp2_with (first
        | (go_at_call 66; (with_reducible refine (HEF.out _).mono ?_); rintro e' w5 ⟨rfl, o5⟩; have O5 := Lib.hid o5; obtain ⟨v1, v2, v5⟩ := CC2.out w5 o5; clear o5)
        | (go_at_call 67; (with_reducible refine (HRF.out _).mono ?_); rintro e' wn ⟨rfl, rfl⟩)
        | (go_at_call 68; (with_reducible refine (HSL.out _).mono ?_); rintro e' wn ⟨rfl, rfl⟩))
      go_meet
      exact ⟨_, rfl, HF, O5⟩
    | true =>
      rw [hok] at HEF
      by_cases t5 : 255 < e.n
      · have d5 : decide (255 < e.n) = true := decide_eq_true t5
        have HF := Lib.hid (show true = !wfE1 e from by rw [HQ.out, hok, decide_eq_false (show ¬ e.n ≤ 255 by omega)]; simp)
        clear hok
        go_wp2_with (first
          | (go_at_call 66; (with_reducible refine (HEF.out _).mono ?_); rintro e' w5 ⟨rfl, o5⟩; have O5 := Lib.hid o5; obtain ⟨v1, v2, v5⟩ := CC2.out w5 o5; clear o5)
          | (go_at_call 67; (with_reducible refine (HRF.out _).mono ?_); rintro e' wn ⟨rfl, rfl⟩)
          | (go_at_call 68; (with_reducible refine (HSL.out _).mono ?_); rintro e' wn ⟨rfl, rfl⟩))
        go_meet
        exact ⟨_, rfl, HF, O5⟩
      have d5 : decide (255 < e.n) = false := decide_eq_false t5
      have t5' : e.n ≤ 255 := by omega
      by_cases hr : e.ref = []
      · have f1 : rb.toList.isEmpty = true := by rw [hr0]; exact decide_eq_true hr
        have f2 : (!rb.toList.isEmpty) = false := by rw [f1]; rfl
        by_cases hs : e.slot = []
        · have g1 : sb'.toList.isEmpty = true := by rw [hs0]; exact decide_eq_true hs
          have g2 : (!sb'.toList.isEmpty) = false := by rw [g1]; rfl
          have HF := Lib.hid (show false = !wfE1 e from by rw [HQ.out, hok, decide_eq_true t5', decide_eq_true hr, decide_eq_true hs]; simp)
          clear hok
          go_wp2_with (first
            | (go_at_call 66; (with_reducible refine (HEF.out _).mono ?_); rintro e' w5 ⟨rfl, o5⟩; have O5 := Lib.hid o5; obtain ⟨v1, v2, v5⟩ := CC2.out w5 o5; clear o5)
            | (go_at_call 67; (with_reducible refine (HRF.out _).mono ?_); rintro e' wn ⟨rfl, rfl⟩)
            | (go_at_call 68; (with_reducible refine (HSL.out _).mono ?_); rintro e' wn ⟨rfl, rfl⟩))
          go_meet
          exact ⟨_, rfl, HF, O5⟩
        · have g1 : sb'.toList.isEmpty = false := by rw [hs0]; exact decide_eq_false hs
          have g2 : (!sb'.toList.isEmpty) = true := by rw [g1]; rfl
          cases hsl : isSlot e.slot with
          | false =>
            rw [hsl] at HSL
            have HF := Lib.hid (show true = !wfE1 e from by rw [HQ.out, decide_eq_false hs, hsl]; simp)
            clear hok hsl
            go_wp2_with (first
              | (go_at_call 66; (with_reducible refine (HEF.out _).mono ?_); rintro e' w5 ⟨rfl, o5⟩; have O5 := Lib.hid o5; obtain ⟨v1, v2, v5⟩ := CC2.out w5 o5; clear o5)
              | (go_at_call 67; (with_reducible refine (HRF.out _).mono ?_); rintro e' wn ⟨rfl, rfl⟩)
              | (go_at_call 68; (with_reducible refine (HSL.out _).mono ?_); rintro e' wn ⟨rfl, rfl⟩))
            go_meet
            exact ⟨_, rfl, HF, O5⟩
          | true =>
            rw [hsl] at HSL
            have HF := Lib.hid (show false = !wfE1 e from by rw [HQ.out, hok, decide_eq_true t5', decide_eq_true hr, hsl]; simp)
            clear hok hsl
            go_wp2_with (first
              | (go_at_call 66; (with_reducible refine (HEF.out _).mono ?_); rintro e' w5 ⟨rfl, o5⟩; have O5 := Lib.hid o5; obtain ⟨v1, v2, v5⟩ := CC2.out w5 o5; clear o5)
              | (go_at_call 67; (with_reducible refine (HRF.out _).mono ?_); rintro e' wn ⟨rfl, rfl⟩)
              | (go_at_call 68; (with_reducible refine (HSL.out _).mono ?_); rintro e' wn ⟨rfl, rfl⟩))
            go_meet
            exact ⟨_, rfl, HF, O5⟩
      · have f1 : rb.toList.isEmpty = false := by rw [hr0]; exact decide_eq_false hr
        have f2 : (!rb.toList.isEmpty) = true := by rw [f1]; rfl
        cases hrf : isRef e.ref with
        | false =>
          rw [hrf] at HRF
          have HF := Lib.hid (show true = !wfE1 e from by rw [HQ.out, decide_eq_false hr, hrf]; simp)
          clear hok hrf
          go_wp2_with (first
            | (go_at_call 66; (with_reducible refine (HEF.out _).mono ?_); rintro e' w5 ⟨rfl, o5⟩; have O5 := Lib.hid o5; obtain ⟨v1, v2, v5⟩ := CC2.out w5 o5; clear o5)
            | (go_at_call 67; (with_reducible refine (HRF.out _).mono ?_); rintro e' wn ⟨rfl, rfl⟩)
            | (go_at_call 68; (with_reducible refine (HSL.out _).mono ?_); rintro e' wn ⟨rfl, rfl⟩))
          go_meet
          exact ⟨_, rfl, HF, O5⟩
        | true =>
          rw [hrf] at HRF
          by_cases hs : e.slot = []
          · have g1 : sb'.toList.isEmpty = true := by rw [hs0]; exact decide_eq_true hs
            have g2 : (!sb'.toList.isEmpty) = false := by rw [g1]; rfl
            have HF := Lib.hid (show false = !wfE1 e from by rw [HQ.out, hok, decide_eq_true t5', hrf, decide_eq_true hs]; simp)
            clear hok
            go_wp2_with (first
              | (go_at_call 66; (with_reducible refine (HEF.out _).mono ?_); rintro e' w5 ⟨rfl, o5⟩; have O5 := Lib.hid o5; obtain ⟨v1, v2, v5⟩ := CC2.out w5 o5; clear o5)
              | (go_at_call 67; (with_reducible refine (HRF.out _).mono ?_); rintro e' wn ⟨rfl, rfl⟩)
              | (go_at_call 68; (with_reducible refine (HSL.out _).mono ?_); rintro e' wn ⟨rfl, rfl⟩))
            go_meet
            exact ⟨_, rfl, HF, O5⟩
          · have g1 : sb'.toList.isEmpty = false := by rw [hs0]; exact decide_eq_false hs
            have g2 : (!sb'.toList.isEmpty) = true := by rw [g1]; rfl
            cases hsl : isSlot e.slot with
            | false =>
              rw [hsl] at HSL
              have HF := Lib.hid (show true = !wfE1 e from by rw [HQ.out, decide_eq_false hs, hsl]; simp)
              clear hok hsl
              go_wp2_with (first
                | (go_at_call 66; (with_reducible refine (HEF.out _).mono ?_); rintro e' w5 ⟨rfl, o5⟩; have O5 := Lib.hid o5; obtain ⟨v1, v2, v5⟩ := CC2.out w5 o5; clear o5)
                | (go_at_call 67; (with_reducible refine (HRF.out _).mono ?_); rintro e' wn ⟨rfl, rfl⟩)
                | (go_at_call 68; (with_reducible refine (HSL.out _).mono ?_); rintro e' wn ⟨rfl, rfl⟩))
              go_meet
              exact ⟨_, rfl, HF, O5⟩
            | true =>
              rw [hsl] at HSL
              have HF := Lib.hid (show false = !wfE1 e from by rw [HQ.out, hok, decide_eq_true t5', hrf, hsl]; simp)
              clear hok hsl
              go_wp2_with (first
                | (go_at_call 66; (with_reducible refine (HEF.out _).mono ?_); rintro e' w5 ⟨rfl, o5⟩; have O5 := Lib.hid o5; obtain ⟨v1, v2, v5⟩ := CC2.out w5 o5; clear o5)
                | (go_at_call 67; (with_reducible refine (HRF.out _).mono ?_); rintro e' wn ⟨rfl, rfl⟩)
                | (go_at_call 68; (with_reducible refine (HSL.out _).mono ?_); rintro e' wn ⟨rfl, rfl⟩))
              go_meet
              exact ⟨_, rfl, HF, O5⟩
  case rest =>
    obtain ⟨bb, rfl, hbb, hO⟩ := hcut
    cases hin : wfE1 e with
    | false =>
      obtain rfl : bb = true := by rw [hbb.out, hin]; rfl
      have H43 := Lib.hid (show codeF (ofEff (P.map Kd.name) (x.states.map Sta.name) z.effs i) = 43 from by rw [HH.out, wfef_eq, hin]; rfl)
      clear hin hbb
      go_wp2
      go_ret
      exact ⟨by rw [H43.out]; rfl, O.out.trans hO.out⟩
    | true =>
      obtain rfl : bb = false := by rw [hbb.out, hin]; rfl
      have HQ := Lib.hid (show wfEf e = (!hasP (parts e.act) 100 || (decide (1 ≤ e.delay) && decide (e.delay ≤ 4095))) from by rw [wfef_eq, hin]; rfl)
      clear hin hbb HEF HRF HSL
      obtain ⟨w1, rfl⟩ : ∃ w1, w1 = wc := ⟨_, rfl⟩
      have hD : Hid (wfEf e = false → codeF (ofEff (P.map Kd.name) (x.states.map Sta.name) z.effs i) = 43) := Lib.hid (fun h => by rw [HH.out, h]; rfl)
      have hE : Hid (wfEf e = true → codeF (ofEff (P.map Kd.name) (x.states.map Sta.name) z.effs i) = codeF (firstO [un 42 (there (P.map Kd.name) (x.states.map Sta.name) e), un 44 (lastOk nE i e)])) := Lib.hid (fun h => by rw [HH.out, h]; rfl)
      obtain ⟨y0, y1, y2, y3, y4, y5, y6⟩ := CC.out w1 hO.out
      clear HH
      go_upto_region 5 with (go_at_call 69; (with_reducible refine (HVB.out _).mono ?_); rintro e' wn ⟨rfl, rfl⟩)
      clear HVB
      go_cut [66] (fun s66 wx => ∃ b : Bool, s66 = .bool b ∧ Hid (b = !wfEf e) ∧ w1 = wx)
      case first =>
        obtain ⟨dl, hdl⟩ : ∃ dl, dl = e.delay := ⟨_, rfl⟩
        rw [← hdl] at HQ y6
        clear hdl
        cases hh : hasP (parts e.act) 100 with
        | false =>
          have HF := Lib.hid (show false = !wfEf e from by rw [HQ.out, hh]; rfl)
          rw [hh] at HHA
          clear hh
          go_wp2_with (go_at_call 70; (with_reducible refine (HHA.out _).mono ?_); rintro e' wn ⟨rfl, rfl⟩)
          go_meet
          exact ⟨_, rfl, HF, rfl⟩
        | true =>
          rw [hh] at HHA
          by_cases t1 : dl < 1
          · have d1 : decide (dl < 1) = true := decide_eq_true t1
            have HF := Lib.hid (show true = !wfEf e from by rw [HQ.out, hh, decide_eq_false (show ¬ 1 ≤ dl by omega)]; rfl)
            clear hh
            go_wp2_with (go_at_call 70; (with_reducible refine (HHA.out _).mono ?_); rintro e' wn ⟨rfl, rfl⟩)
            go_meet
            exact ⟨_, rfl, HF, rfl⟩
          · have d1 : decide (dl < 1) = false := decide_eq_false t1
            by_cases t2 : 4095 < dl
            · have d2 : decide (4095 < dl) = true := decide_eq_true t2
              have HF := Lib.hid (show true = !wfEf e from by rw [HQ.out, hh, decide_eq_false (show ¬ dl ≤ 4095 by omega)]; simp)
              clear hh
              go_wp2_with (go_at_call 70; (with_reducible refine (HHA.out _).mono ?_); rintro e' wn ⟨rfl, rfl⟩)
              go_meet
              exact ⟨_, rfl, HF, rfl⟩
            · have d2 : decide (4095 < dl) = false := decide_eq_false t2
              have HF := Lib.hid (show false = !wfEf e from by rw [HQ.out, hh, decide_eq_true (show 1 ≤ dl by omega), decide_eq_true (show dl ≤ 4095 by omega)]; rfl)
              clear hh
              go_wp2_with (go_at_call 70; (with_reducible refine (HHA.out _).mono ?_); rintro e' wn ⟨rfl, rfl⟩)
              go_meet
              exact ⟨_, rfl, HF, rfl⟩
      case rest =>
        obtain ⟨bb, rfl, hbb, rfl⟩ := hcut
        cases hin : wfEf e with
        | false =>
          obtain rfl : bb = true := by rw [hbb.out, hin]; rfl
          have H43 := Lib.hid (hD.out hin)
          clear hin hbb
          go_wp2
          go_ret
          exact ⟨by rw [H43.out]; rfl, O.out.trans hO.out⟩
        | true =>
          obtain rfl : bb = false := by rw [hbb.out, hin]; rfl
          have HE := Lib.hid (hE.out hin)
          clear hin hbb HQ hD hE HHA y1 y2 y4 y5 y6
          obtain ⟨z0, hz0⟩ : ∃ z0, z0 = e.act := ⟨_, rfl⟩
          have HT := Lib.hid (show there (P.map Kd.name) (x.states.map Sta.name) e = (if z0 = 2 then decide (e.name ∈ P.map Kd.name) else if z0 = 3 then decide (e.name ∈ x.states.map Sta.name) else true) from by rw [hz0]; rfl)
          have HL := Lib.hid (show lastOk nE i e = (decide (i + 1 = nE) || !(decide (z0 = 11) || decide (z0 = 12))) from by rw [hz0]; rfl)
          have CA := Lib.hid (show ∀ w', Only Nil w1 w' → (w'.cell? ⟨B + 2, 0, none⟩ = some (.int .i64 z0) ∧ w'.cell? ⟨B + 2, 3, none⟩ = some (.string (bs e.name)) ∧ w'.cell? ⟨B, 0, none⟩ = some (.slice a0 nP c0) ∧ w'.cell? ⟨B + 1, 4, none⟩ = some (.slice a2 nS c2)) from fun w' o => by
            rw [hz0]; exact ⟨(CC.out w' (hO.out.trans o)).1, (CC.out w' (hO.out.trans o)).2.2.2.1, (HB0.out.keep (hO.out.trans o)).cell 0 rfl, (HB1.out.keep (hO.out.trans o)).cell 4 rfl⟩)
          have VP := Lib.hid (HVP.out.keep hO.out)
          have VX' := Lib.hid (HVX.out.keep hO.out)
          have OO := Lib.hid (O.out.trans hO.out)
          clear hz0 y0 y3 CC HB0 HB1 HB2 HVP HVX
          obtain ⟨y0, y3, yp, yk⟩ := CA.out w1 (Only.refl _ _)
          clear y3 hO
          by_cases hz : z0 = 2
          · have a2 : (z0 == 2) = true := by simp [hz]
            have b2 : (z0 != 2) = false := by simp [hz]
            have a3 : (z0 == 3) = false := by simp [hz]
            have b3 : (z0 != 3) = true := by simp [hz]
            have a11 : (z0 == 11) = false := by simp [hz]
            have b11 : (z0 != 11) = true := by simp [hz]
            have a12 : (z0 == 12) = false := by simp [hz]
            have b12 : (z0 != 12) = true := by simp [hz]
            go_wp2
            go_loopw [12, 13] (fun s12 s13 wr => ∃ (j : Nat) (t : Bool), j ≤ nP ∧ s13 = .int .i64 (j : Int) ∧ s12 = .bool t ∧ Hid (Thr Kd.name P e.name j t) ∧ Hid (Only Nil w1 wr))
              (fun _ s13 _ => nP - (intOf s13).toNat)
            case atStart => exact ⟨0, false, Nat.zero_le _, rfl, rfl, Lib.hid Thr.zero, Lib.hid (Only.refl _ _)⟩
            case round =>
              clear y0 yp yk
              obtain ⟨j, t, hj, rfl, rfl, hF, hO⟩ := hrel
              obtain ⟨y0, y3, yp, yk⟩ := CA.out wr hO.out
              by_cases hjn : j < nP
              · have hjn' : (j : Int) < (nP : Int) := by omega
                cases t with
                | true =>
                  have hF2 := Lib.hid hF.out.old
                  clear hF
                  go_upto_region 11 with (fail)
                  go_quiet (fail)
                  go_wp2
                  go_roundw
                  case rel => exact ⟨j + 1, true, by omega, by go_num, rfl, hF2, Lib.hid (hO.out.drewN nq)⟩
                  case measure => simp [intOf]; omega
                | false =>
                  obtain ⟨q2, off2, _, _, _, _, eq2, ⟨f0, _⟩, _⟩ := kd_at (VP.out.keep hO.out).x VP.out.n j (by omega)
                  subst eq2
                  have HJ := Lib.hid (show j < P.length from by rw [VP.out.n]; exact hjn)
                  have hq : ((bs (gt P j).name).toList == (bs e.name).toList) = decide ((gt P j).name = e.name) := bsq _ _
                  by_cases h1 : (gt P j).name = e.name
                  · rw [decide_eq_true h1] at hq
                    have hF2 := Lib.hid (Thr.hit (f := Kd.name) HJ.out h1)
                    clear h1 hF
                    generalize bs (gt P j).name = u1 at *
                    go_upto_region 11 with (fail)
                    go_quiet (fail)
                    go_wp2
                    go_roundw
                    case rel => exact ⟨j + 1, true, by omega, by go_num, rfl, hF2, Lib.hid (hO.out.drewN nq)⟩
                    case measure => simp [intOf]; omega
                  · rw [decide_eq_false h1] at hq
                    have hF2 := Lib.hid (hF.out.miss h1)
                    clear h1 hF
                    generalize bs (gt P j).name = u1 at *
                    go_upto_region 11 with (fail)
                    go_quiet (fail)
                    go_wp2
                    go_roundw
                    case rel => exact ⟨j + 1, false, by omega, by go_num, rfl, hF2, Lib.hid (hO.out.drewN nq)⟩
                    case measure => simp [intOf]; omega
              · obtain rfl : j = nP := by omega
                have hjj : ¬ (j : Int) < (j : Int) := by omega
                have hT := Lib.hid (show t = there (P.map Kd.name) (x.states.map Sta.name) e from by
                  have := hF.out
                  rw [← VP.out.n] at this
                  rw [HT.out, if_pos hz]
                  exact this.done)
                clear hjn hF y3
                obtain ⟨w2, rfl⟩ : ∃ w2, w2 = wr := ⟨_, rfl⟩
                go_wp2
                go_loopw [12, 14] (fun s12 s14 wr => s12 = .bool t ∧ s14 = .int .i64 0 ∧ w2 = wr) (fun _ _ _ => 0)
                case atStart => exact ⟨rfl, rfl, rfl⟩
                case round =>
                  obtain ⟨rfl, rfl, rfl⟩ := hrel
                  cases t with
                  | false =>
                    have H42 := Lib.hid (show codeF (ofEff (P.map Kd.name) (x.states.map Sta.name) z.effs i) = 42 from by rw [HE.out, ← hT.out]; rfl)
                    go_wp2
                    go_ret
                    exact ⟨by rw [H42.out]; rfl, OO.out.trans hO.out⟩
                  | true =>
                    have H0 := Lib.hid (show codeF (ofEff (P.map Kd.name) (x.states.map Sta.name) z.effs i) = 0 from by rw [HE.out, ← hT.out, HL.out, decide_eq_false (show ¬ z0 = 11 by omega), decide_eq_false (show ¬ z0 = 12 by omega)]; simp [codeF])
                    go_wp2
                    go_ret
                    exact ⟨by rw [H0.out]; rfl, OO.out.trans hO.out⟩
          by_cases hz3 : z0 = 3
          · have a2 : (z0 == 2) = false := by simp [hz3]
            have b2 : (z0 != 2) = true := by simp [hz3]
            have a3 : (z0 == 3) = true := by simp [hz3]
            have b3 : (z0 != 3) = false := by simp [hz3]
            have a11 : (z0 == 11) = false := by simp [hz3]
            have b11 : (z0 != 11) = true := by simp [hz3]
            have a12 : (z0 == 12) = false := by simp [hz3]
            have b12 : (z0 != 12) = true := by simp [hz3]
            go_wp2
            go_loopw [12, 13] (fun s12 s13 wr => s12 = .bool false ∧ s13 = .int .i64 0 ∧ w1 = wr) (fun _ _ _ => 0)
            case atStart => exact ⟨rfl, rfl, rfl⟩
            case round =>
              obtain ⟨rfl, rfl, rfl⟩ := hrel
              go_wp2
              go_loopw [12, 14] (fun s12 s14 wr => ∃ (j : Nat) (t : Bool), j ≤ nS ∧ s14 = .int .i64 (j : Int) ∧ s12 = .bool t ∧ Hid (Thr Sta.name x.states e.name j t) ∧ Hid (Only Nil w1 wr))
                (fun _ s14 _ => nS - (intOf s14).toNat)
              case atStart => exact ⟨0, false, Nat.zero_le _, rfl, rfl, Lib.hid Thr.zero, Lib.hid (Only.refl _ _)⟩
              case round =>
                clear y0 yp yk
                obtain ⟨j, t, hj, rfl, rfl, hF, hO⟩ := hrel
                obtain ⟨y0, y3, yp, yk⟩ := CA.out wr hO.out
                by_cases hjn : j < nS
                · have hjn' : (j : Int) < (nS : Int) := by omega
                  cases t with
                  | true =>
                    have hF2 := Lib.hid hF.out.old
                    clear hF
                    go_upto_region 15 with (fail)
                    go_quiet (fail)
                    go_wp2
                    go_roundw
                    case rel => exact ⟨j + 1, true, by omega, by go_num, rfl, hF2, Lib.hid (hO.out.drewN nq)⟩
                    case measure => simp [intOf]; omega
                  | false =>
                    obtain ⟨q2, off2, _, _, eq2, ⟨f0, _⟩, _⟩ := sta_at (VX'.out.keep hO.out).s VX'.out.sn j (by omega)
                    subst eq2
                    have HJ := Lib.hid (show j < x.states.length from by rw [VX'.out.sn]; exact hjn)
                    have hq : ((bs (gt x.states j).name).toList == (bs e.name).toList) = decide ((gt x.states j).name = e.name) := bsq _ _
                    by_cases h1 : (gt x.states j).name = e.name
                    · rw [decide_eq_true h1] at hq
                      have hF2 := Lib.hid (Thr.hit (f := Sta.name) HJ.out h1)
                      clear h1 hF
                      generalize bs (gt x.states j).name = u1 at *
                      go_upto_region 15 with (fail)
                      go_quiet (fail)
                      go_wp2
                      go_roundw
                      case rel => exact ⟨j + 1, true, by omega, by go_num, rfl, hF2, Lib.hid (hO.out.drewN nq)⟩
                      case measure => simp [intOf]; omega
                    · rw [decide_eq_false h1] at hq
                      have hF2 := Lib.hid (hF.out.miss h1)
                      clear h1 hF
                      generalize bs (gt x.states j).name = u1 at *
                      go_upto_region 15 with (fail)
                      go_quiet (fail)
                      go_wp2
                      go_roundw
                      case rel => exact ⟨j + 1, false, by omega, by go_num, rfl, hF2, Lib.hid (hO.out.drewN nq)⟩
                      case measure => simp [intOf]; omega
                · obtain rfl : j = nS := by omega
                  have hjj : ¬ (j : Int) < (j : Int) := by omega
                  have hT := Lib.hid (show t = there (P.map Kd.name) (x.states.map Sta.name) e from by
                    have := hF.out
                    rw [← VX'.out.sn] at this
                    rw [HT.out, if_neg (by omega), if_pos hz3]
                    exact this.done)
                  clear hjn hF y3
                  cases t with
                  | false =>
                    have H42 := Lib.hid (show codeF (ofEff (P.map Kd.name) (x.states.map Sta.name) z.effs i) = 42 from by rw [HE.out, ← hT.out]; rfl)
                    go_wp2
                    go_ret
                    exact ⟨by rw [H42.out]; rfl, OO.out.trans hO.out⟩
                  | true =>
                    have H0 := Lib.hid (show codeF (ofEff (P.map Kd.name) (x.states.map Sta.name) z.effs i) = 0 from by rw [HE.out, ← hT.out, HL.out, decide_eq_false (show ¬ z0 = 11 by omega), decide_eq_false (show ¬ z0 = 12 by omega)]; simp [codeF])
                    go_wp2
                    go_ret
                    exact ⟨by rw [H0.out]; rfl, OO.out.trans hO.out⟩
          have HT2 := Lib.hid (show there (P.map Kd.name) (x.states.map Sta.name) e = true from by rw [HT.out, if_neg hz, if_neg hz3])
          by_cases h11 : z0 = 11 ∨ z0 = 12
          · have HLL := Lib.hid (show lastOk nE i e = decide (i + 1 = nE) from by
              rw [HL.out]
              rcases h11 with h | h <;> simp [h])
            by_cases hl : i + 1 = nE
            · have H0 := Lib.hid (show codeF (ofEff (P.map Kd.name) (x.states.map Sta.name) z.effs i) = 0 from by rw [HE.out, HT2.out, HLL.out, decide_eq_true hl]; rfl)
              have hl' : ¬ ((i : Int) < (nE : Int) - 1) := by omega
              have a2 : (z0 == 2) = false := by simp [hz]
              have b2 : (z0 != 2) = true := by simp [hz]
              have a3 : (z0 == 3) = false := by simp [hz3]
              have b3 : (z0 != 3) = true := by simp [hz3]
              rcases h11 with hy | hy
              · have a11 : (z0 == 11) = true := by simp [hy]
                go_wp2
                go_loopw [12, 13] (fun s12 s13 wr => s12 = .bool true ∧ s13 = .int .i64 0 ∧ w1 = wr) (fun _ _ _ => 0)
                case atStart => exact ⟨rfl, rfl, rfl⟩
                case round =>
                  obtain ⟨rfl, rfl, rfl⟩ := hrel
                  go_wp2
                  go_loopw [12, 14] (fun s12 s14 wr => s12 = .bool true ∧ s14 = .int .i64 0 ∧ w1 = wr) (fun _ _ _ => 0)
                  case atStart => exact ⟨rfl, rfl, rfl⟩
                  case round =>
                    obtain ⟨rfl, rfl, rfl⟩ := hrel
                    go_wp2
                    go_ret
                    exact ⟨by rw [H0.out]; rfl, OO.out⟩
              · have a11 : (z0 == 11) = false := by simp [hy]
                have a12 : (z0 == 12) = true := by simp [hy]
                go_wp2
                go_loopw [12, 13] (fun s12 s13 wr => s12 = .bool true ∧ s13 = .int .i64 0 ∧ w1 = wr) (fun _ _ _ => 0)
                case atStart => exact ⟨rfl, rfl, rfl⟩
                case round =>
                  obtain ⟨rfl, rfl, rfl⟩ := hrel
                  go_wp2
                  go_loopw [12, 14] (fun s12 s14 wr => s12 = .bool true ∧ s14 = .int .i64 0 ∧ w1 = wr) (fun _ _ _ => 0)
                  case atStart => exact ⟨rfl, rfl, rfl⟩
                  case round =>
                    obtain ⟨rfl, rfl, rfl⟩ := hrel
                    go_wp2
                    go_ret
                    exact ⟨by rw [H0.out]; rfl, OO.out⟩
            · have H0 := Lib.hid (show codeF (ofEff (P.map Kd.name) (x.states.map Sta.name) z.effs i) = 44 from by rw [HE.out, HT2.out, HLL.out, decide_eq_false hl]; rfl)
              have hl' : ((i : Int) < (nE : Int) - 1) := by have := HI.out; omega
              have a2 : (z0 == 2) = false := by simp [hz]
              have b2 : (z0 != 2) = true := by simp [hz]
              have a3 : (z0 == 3) = false := by simp [hz3]
              have b3 : (z0 != 3) = true := by simp [hz3]
              rcases h11 with hy | hy
              · have a11 : (z0 == 11) = true := by simp [hy]
                go_wp2
                go_loopw [12, 13] (fun s12 s13 wr => s12 = .bool true ∧ s13 = .int .i64 0 ∧ w1 = wr) (fun _ _ _ => 0)
                case atStart => exact ⟨rfl, rfl, rfl⟩
                case round =>
                  obtain ⟨rfl, rfl, rfl⟩ := hrel
                  go_wp2
                  go_loopw [12, 14] (fun s12 s14 wr => s12 = .bool true ∧ s14 = .int .i64 0 ∧ w1 = wr) (fun _ _ _ => 0)
                  case atStart => exact ⟨rfl, rfl, rfl⟩
                  case round =>
                    obtain ⟨rfl, rfl, rfl⟩ := hrel
                    go_wp2
                    go_ret
                    exact ⟨by rw [H0.out]; rfl, OO.out⟩
              · have a11 : (z0 == 11) = false := by simp [hy]
                have a12 : (z0 == 12) = true := by simp [hy]
                go_wp2
                go_loopw [12, 13] (fun s12 s13 wr => s12 = .bool true ∧ s13 = .int .i64 0 ∧ w1 = wr) (fun _ _ _ => 0)
                case atStart => exact ⟨rfl, rfl, rfl⟩
                case round =>
                  obtain ⟨rfl, rfl, rfl⟩ := hrel
                  go_wp2
                  go_loopw [12, 14] (fun s12 s14 wr => s12 = .bool true ∧ s14 = .int .i64 0 ∧ w1 = wr) (fun _ _ _ => 0)
                  case atStart => exact ⟨rfl, rfl, rfl⟩
                  case round =>
                    obtain ⟨rfl, rfl, rfl⟩ := hrel
                    go_wp2
                    go_ret
                    exact ⟨by rw [H0.out]; rfl, OO.out⟩
          · have n11 : ¬ z0 = 11 := fun h => h11 (.inl h)
            have n12 : ¬ z0 = 12 := fun h => h11 (.inr h)
            have H0 := Lib.hid (show codeF (ofEff (P.map Kd.name) (x.states.map Sta.name) z.effs i) = 0 from by rw [HE.out, HT2.out, HL.out, decide_eq_false n11, decide_eq_false n12]; simp [codeF])
            have a2 : (z0 == 2) = false := by simp [hz]
            have b2 : (z0 != 2) = true := by simp [hz]
            have a3 : (z0 == 3) = false := by simp [hz3]
            have b3 : (z0 != 3) = true := by simp [hz3]
            have a11 : (z0 == 11) = false := by simp [n11]
            have a12 : (z0 == 12) = false := by simp [n12]
            go_wp2
            go_loopw [12, 13] (fun s12 s13 wr => s12 = .bool true ∧ s13 = .int .i64 0 ∧ w1 = wr) (fun _ _ _ => 0)
            case atStart => exact ⟨rfl, rfl, rfl⟩
            case round =>
              obtain ⟨rfl, rfl, rfl⟩ := hrel
              go_wp2
              go_loopw [12, 14] (fun s12 s14 wr => s12 = .bool true ∧ s14 = .int .i64 0 ∧ w1 = wr) (fun _ _ _ => 0)
              case atStart => exact ⟨rfl, rfl, rfl⟩
              case round =>
                obtain ⟨rfl, rfl, rfl⟩ := hrel
                go_wp2
                go_ret
                exact ⟨by rw [H0.out]; rfl, OO.out⟩
end Go.Proofs.YthanclicnkjmiaaGreatDoor.Ch
