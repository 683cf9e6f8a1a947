/- ONE STEP, wherever an operation of a box stands. -/
import Derived.Test.YtmkcmncbiancgaaPoJ
namespace Go.Proofs.Ytmkcmncbiancgaa.Po
open Go.RowKit Go.Proofs.Ytmkcmncbiancgaa

section
variable {A : BA} {F G H H' S : Nat → Prop} {w W w' w1 w2 : World} {g f v p : Value} {s : PS} {ro a r q ob sg : Nat} {k : Bool} {os : OS} {L L' : List Int} {t t' : Int}
theorem swap_no {i : Nat} {y x : Int} (h : ¬ L.getD i 0 = y) : doAcc L (.swap i y x) = (L, 0) := by simp only [doAcc]; rw [if_neg h]
theorem swap_yes {i : Nat} {y x : Int} (h : L.getD i 0 = y) : doAcc L (.swap i y x) = (L.set i x, 1) := by simp only [doAcc]; rw [if_pos h]
set_option maxHeartbeats 4000000 in
theorem step_any (s : PS) (hB : Bx w A L t) (hP : PIn A w F ob s) (ok : s.ok) (hn : PNums A L) (t1 : t < 4611686018427386000) :
    Calls Try.prog 30 #[ptr ob] w fun e w' => e = .returned (.bool (pstepS A L s).isO) ∧ Done1 A (pstepL A L s) (pstepT s t) F ob w (pstepS A L s) w' := by
  obtain ⟨p, f, hop, fm, G, hG, hn0⟩ := hP.nx
  have m := hB.mem
  have t0 := hB.t0
  have nB : ∀ i, F i → ¬ Blk A.hb A.rb i := fun i hi h => hP.own i hi (.inl h)
  have GF : ∀ {K : Nat → Prop}, (∀ i, K i → G i) → (∀ i, K i → ¬ Blk A.hb A.rb i) ∧ (∀ i, K i → i < w.heap.size) := fun hK => ⟨fun i hi => nB i (hG i (hK i hi)).1, fun i hi => hP.lt i (hG i (hK i hi)).1⟩
  have GR : ∀ {ro w1}, Only (fun i => Blk A.hb A.rb i ∨ i = ro) w w1 → ∀ i, (G i ∧ i ≠ ro) → i < w1.heap.size := fun o i hi => Nat.lt_of_lt_of_le (hP.lt i (hG i hi.1).1) o.size
  have GK : ∀ {ro i}, (G i ∧ i ≠ ro) → ¬ (Blk A.hb A.rb i ∨ i = ro) := fun hi h => h.elim (nB _ (hG _ hi.1).1) hi.2
  cases s with
  | over o x =>
    refine (cstep_over hop (by show ¬ ((o : Int) = 0); have : 1 ≤ o := ok; omega)).mono ?_
    rintro e w' ⟨rfl, rfl⟩
    exact ⟨rfl, ⟨F, fun i hi => .inl hi, hP⟩, hB, Only.refl _ w⟩
  | put k os =>
    obtain ⟨ro, rfl, hr, hO, a, r, rfl, hc⟩ := hn0
    obtain ⟨hd, hh⟩ := op_head hO
    rw [put_eq]
    exact ring_step (k := k) (go := PS.put k) (kk := (fun o _ => if o = 1 then PS.load k else .over o 0)) (enters_of Try.func76 (by kernel_rfl) rfl) hP hB ok hn t1 hop hG hr hO
      (fun os' ho => ⟨rfl, rfl, rfl, fun w1 h1 o1 => ⟨ro, rfl, hr, h1, _, _, rfl, ((capR_not hh hc).keep o1 (fun i hi => GK hi)).mono (fun i hi => hi.1)⟩⟩)
      (fun o x tk h1 => by
        by_cases ho : o = 1
        · subst ho
          exact ⟨trivial, fun w1 q1 o1 => b_bring_yes ((capR_not hh hc).keep o1 (fun i hi => GK hi)) (GR o1)⟩
        · simp only [if_neg ho]
          exact ⟨h1, fun w1 q1 o1 => b_bring_no o ho⟩)
  | whole k os =>
    obtain ⟨ro, rfl, hr, hO, q, rfl, hc⟩ := hn0
    obtain ⟨hd, hh⟩ := op_head hO
    rw [whole_eq]
    exact ring_step (k := k) (go := PS.whole k) (kk := (fun o x => PS.over o x)) (enters_of Try.func80 (by kernel_rfl) rfl) hP hB ok hn t1 hop hG hr hO
      (fun os' ho => ⟨rfl, rfl, rfl, fun w1 h1 o1 => ⟨ro, rfl, hr, h1, _, rfl, ((hc.not hh (cells_ne (by decide))).keep o1 (fun i hi => GK hi)).mono (fun i hi => hi.1)⟩⟩)
      (fun o x tk h1 => ⟨h1, fun w1 q1 o1 => b_whole o x tk ((hc.not hh (cells_ne (by decide))).keep o1 (fun i hi => GK hi)) q1⟩)
  | lookN h os =>
    obtain ⟨ro, rfl, hr, hO, q, a, rfl, ha, hq⟩ := hn0
    obtain ⟨hd, hh⟩ := op_head hO
    rw [lookN_eq]
    exact ring_step (k := true) (go := PS.lookN h) (kk := (fun o _ => if o = 1 ∨ h = true then looked h o else .lookM .look0)) (enters_of Try.func73 (by kernel_rfl) rfl) hP hB ok hn t1 hop hG hr hO
      (fun os' ho => ⟨rfl, rfl, rfl, fun w1 h1 o1 => ⟨ro, rfl, hr, h1, _, _, rfl, ((ha.not hh (cells_ne (by decide))).keep o1 (fun i hi => GK hi)).mono (fun i hi => hi.1), ((hq.not hh (cells_ne (by decide))).keep o1 (fun i hi => GK hi)).mono (fun i hi => hi.1)⟩⟩)
      (fun o x tk h1 => by
        by_cases ho : o = 1
        · subst ho
          simp only [true_or, if_true]
          exact ⟨looked_ok _ _, fun w1 q1 o1 => b_lookN_yes h ((ha.not hh (cells_ne (by decide))).keep o1 (fun i hi => GK hi)) ((hq.not hh (cells_ne (by decide))).keep o1 (fun i hi => GK hi)) (GR o1)⟩
        · cases h with
          | true =>
            simp only [or_true, if_true, looked, if_neg ho]
            exact ⟨(by decide : 1 ≤ 4), fun w1 q1 o1 => b_lookN_held o ho ((ha.not hh (cells_ne (by decide))).keep o1 (fun i hi => GK hi)) ((hq.not hh (cells_ne (by decide))).keep o1 (fun i hi => GK hi))⟩
          | false =>
            simp only [ho, Bool.false_eq_true, or_self, if_false]
            exact ⟨⟨rfl, trivial⟩, fun w1 q1 o1 => b_lookN_on o ho (hB.box.keep o1 (fun z => z.elim hB.nb (fun e => hP.own ro (hG ro hr).1 (e ▸ .inr (.inl rfl))))) ((ha.not hh (cells_ne (by decide))).keep o1 (fun i hi => GK hi)) ((hq.not hh (cells_ne (by decide))).keep o1 (fun i hi => GK hi)) (GR o1)⟩)
  | lookM os =>
    obtain ⟨ro, rfl, hr, hO, a, q, rfl, ha, hq⟩ := hn0
    obtain ⟨hd, hh⟩ := op_head hO
    rw [lookM_eq]
    exact ring_step (k := false) (go := PS.lookM) (kk := (fun o _ => looked false o)) (enters_of Try.func75 (by kernel_rfl) rfl) hP hB ok hn t1 hop hG hr hO
      (fun os' ho => ⟨rfl, rfl, rfl, fun w1 h1 o1 => ⟨ro, rfl, hr, h1, _, _, rfl, ((ha.not hh (cells_ne (by decide))).keep o1 (fun i hi => GK hi)).mono (fun i hi => hi.1), ((hq.not hh (cells_ne (by decide))).keep o1 (fun i hi => GK hi)).mono (fun i hi => hi.1)⟩⟩)
      (fun o x tk h1 => by
        by_cases ho : o = 1
        · subst ho
          exact ⟨looked_ok _ _, fun w1 q1 o1 => b_lookM_yes ((ha.not hh (cells_ne (by decide))).keep o1 (fun i hi => GK hi)) ((hq.not hh (cells_ne (by decide))).keep o1 (fun i hi => GK hi)) (GR o1)⟩
        · simp only [looked, if_neg ho]
          exact ⟨(by decide : 1 ≤ 4), fun w1 q1 o1 => b_lookM_no o ho ((ha.not hh (cells_ne (by decide))).keep o1 (fun i hi => GK hi)) ((hq.not hh (cells_ne (by decide))).keep o1 (fun i hi => GK hi))⟩)
  | load k =>
    obtain ⟨q, sg, H, g, y0, y1, y2, y3, rfl, rfl, hq, hs, hH, ⟨a, r, rfl, hc⟩⟩ := hn0
    cases he : rsts k (L.getD A.b 0) with
    | true =>
      have e : pstepS A L (.load k) = .swap k (L.getD A.b 0) := if_pos (of_decide_eq_true he)
      rw [e]
      exact sing_step (enters_of Try.func89 (by kernel_rfl) rfl) hP hB hop hG hq hs hH (c_load_yes m hB.box hB.nb (GF (fun i hi => (hH i hi).1)).1 (GF (fun i hi => (hH i hi).1)).2 hB.b0 hB.b1 t0 (by omega) hc he) rfl trivial
    | false =>
      have e : pstepS A L (.load k) = .over 1 0 := if_neg (of_decide_eq_false he)
      rw [e]
      exact sing_step (enters_of Try.func89 (by kernel_rfl) rfl) hP hB hop hG hq hs hH (c_load_no m hB.box hB.nb (GF (fun i hi => (hH i hi).1)).1 (GF (fun i hi => (hH i hi).1)).2 hB.b0 hB.b1 t0 (by omega) hc he) rfl (by decide : 1 ≤ 1)
  | swap k z =>
    obtain ⟨q, sg, H, g, y0, y1, y2, y3, rfl, rfl, hq, hs, hH, ⟨a, r, r2, rfl, hc, hz⟩⟩ := hn0
    by_cases he : L.getD A.b 0 = z
    · have e : pstepS A L (.swap k z) = .over 7 0 := if_neg (show ¬ (doAcc L (pacc A (.swap k z))).2 = 0 by show ¬ (doAcc L (.swap _ _ _)).2 = 0; rw [swap_yes he]; exact (by decide : ¬ (1 : Int) = 0))
      rw [e]
      exact sing_step (enters_of Try.func91 (by kernel_rfl) rfl) hP hB hop hG hq hs hH (c_swap_yes m hB.box hB.nb (GF (fun i hi => (hH i hi).1)).1 (GF (fun i hi => (hH i hi).1)).2 hB.b0 hB.b1 t0 (by omega) z hc hz he) (pstepL_length A L _) (by decide : 1 ≤ 7)
    · have e : pstepS A L (.swap k z) = .load k := if_pos (show (doAcc L (pacc A (.swap k z))).2 = 0 by show (doAcc L (.swap _ _ _)).2 = 0; rw [swap_no he])
      rw [e]
      exact sing_step (enters_of Try.func91 (by kernel_rfl) rfl) hP hB hop hG hq hs hH (c_swap_no m hB.box hB.nb (GF (fun i hi => (hH i hi).1)).1 (GF (fun i hi => (hH i hi).1)).2 hB.b0 hB.b1 t0 (by omega) z hc hz he) (pstepL_length A L _) trivial
  | ask z =>
    obtain ⟨q, sg, H, g, y0, y1, y2, y3, rfl, rfl, hq, hs, hH, ⟨a, r, rfl, ha, hz⟩⟩ := hn0
    by_cases he : L.getD (A.b + 1) 0 = 0
    · have e : pstepS A L (.ask z) = .put true (.put0 z) := if_neg (show ¬ (doAcc L (pacc A (.ask z))).2 = 0 by show ¬ (doAcc L (.swap _ _ _)).2 = 0; rw [swap_yes he]; exact (by decide : ¬ (1 : Int) = 0))
      rw [e]
      exact sing_step (enters_of Try.func60 (by kernel_rfl) rfl) hP hB hop hG hq hs hH (c_ask_yes m hB.box hB.nb (GF (fun i hi => (hH i hi).1)).1 (GF (fun i hi => (hH i hi).1)).2 hB.b0 hB.b1 t0 (by omega) z ha hz he) (pstepL_length A L _) ⟨rfl, trivial⟩
    · have e : pstepS A L (.ask z) = .over 4 0 := if_pos (show (doAcc L (pacc A (.ask z))).2 = 0 by show (doAcc L (.swap _ _ _)).2 = 0; rw [swap_no he])
      rw [e]
      exact sing_step (enters_of Try.func60 (by kernel_rfl) rfl) hP hB hop hG hq hs hH (c_ask_no m hB.box hB.nb (GF (fun i hi => (hH i hi).1)).1 (GF (fun i hi => (hH i hi).1)).2 hB.b0 hB.b1 t0 (by omega) z ha hz he) (pstepL_length A L _) (by decide : 1 ≤ 4)
  | stand z =>
    obtain ⟨q, sg, H, g, y0, y1, y2, y3, rfl, rfl, hq, hs, hH, ⟨a, r, rfl, ha, hz⟩⟩ := hn0
    exact sing_step (enters_of Try.func79 (by kernel_rfl) rfl) hP hB hop hG hq hs hH (c_stand m hB.box hB.nb (GF (fun i hi => (hH i hi).1)).1 (GF (fun i hi => (hH i hi).1)).2 hB.b0 hB.b1 t0 (by omega) z ha hz) (pstepL_length A L _) (by decide : 1 ≤ 1)
  | gone =>
    obtain ⟨q, sg, H, g, y0, y1, y2, y3, rfl, rfl, hq, hs, hH, ⟨a, rfl, ha⟩⟩ := hn0
    by_cases he : L.getD A.b 0 = 4
    · have e : pstepS A L .gone = .over 1 0 := if_pos he
      rw [e]
      exact sing_step (enters_of Try.func63 (by kernel_rfl) rfl) hP hB hop hG hq hs hH (c_gone_yes m hB.box hB.nb (GF (fun i hi => (hH i hi).1)).1 (GF (fun i hi => (hH i hi).1)).2 hB.b0 hB.b1 t0 (by omega) ha he) rfl (by decide : 1 ≤ 1)
    · have e : pstepS A L .gone = .over 4 0 := if_neg he
      rw [e]
      exact sing_step (enters_of Try.func63 (by kernel_rfl) rfl) hP hB hop hG hq hs hH (c_gone_no m hB.box hB.nb (GF (fun i hi => (hH i hi).1)).1 (GF (fun i hi => (hH i hi).1)).2 hB.b0 hB.b1 t0 (by omega) ha he) rfl (by decide : 1 ≤ 4)
  | set h =>
    obtain ⟨q, sg, H, g, y0, y1, y2, y3, rfl, rfl, hq, hs, hH, ⟨a, r, rfl, ha, hz⟩⟩ := hn0
    exact sing_step (enters_of Try.func52 (by kernel_rfl) rfl) hP hB hop hG hq hs hH (c_set m hB.box hB.nb (GF (fun i hi => (hH i hi).1)).1 (GF (fun i hi => (hH i hi).1)).2 hB.b0 hB.b1 t0 (by omega) h ha hz) (pstepL_length A L _) ⟨rfl, trivial⟩
  | charge h =>
    obtain ⟨q, sg, H, g, y0, y1, y2, y3, rfl, rfl, hq, hs, hH, ⟨a, r, rfl, ha, hz⟩⟩ := hn0
    by_cases he : L.getD A.b 0 = rest h
    · have e : pstepS A L (.charge h) = .over 8 0 := if_neg (show ¬ (doAcc L (pacc A (.charge h))).2 = 0 by show ¬ (doAcc L (.swap _ _ _)).2 = 0; rw [swap_yes he]; exact (by decide : ¬ (1 : Int) = 0))
      rw [e]
      exact sing_step (enters_of Try.func88 (by kernel_rfl) rfl) hP hB hop hG hq hs hH (c_charge_yes m hB.box hB.nb (GF (fun i hi => (hH i hi).1)).1 (GF (fun i hi => (hH i hi).1)).2 hB.b0 hB.b1 t0 (by omega) h ha hz he) (pstepL_length A L _) (by decide : 1 ≤ 8)
    · have e : pstepS A L (.charge h) = .over 1 0 := if_pos (show (doAcc L (pacc A (.charge h))).2 = 0 by show (doAcc L (.swap _ _ _)).2 = 0; rw [swap_no he])
      rw [e]
      exact sing_step (enters_of Try.func88 (by kernel_rfl) rfl) hP hB hop hG hq hs hH (c_charge_no m hB.box hB.nb (GF (fun i hi => (hH i hi).1)).1 (GF (fun i hi => (hH i hi).1)).2 hB.b0 hB.b1 t0 (by omega) h ha hz he) (pstepL_length A L _) (by decide : 1 ≤ 1)
end
end Go.Proofs.Ytmkcmncbiancgaa.Po
