/- parse, the document's reader: a kind, in plain words. -/
import Derived.Test.YtnkokonkbklelaaGreatDoorPpE
set_option linter.unusedSimpArgs false
set_option linter.unusedVariables false
namespace Go.Proofs.YtnkokonkbklelaaGreatDoor.Ps
open Go.RowKit Go.Proofs.YtnkokonkbklelaaGreatDoor Lx

/-! ### A direction -/
theorem dirs_all : dirs.all (fun s => noDgB s && !s.isEmpty) = true := by decide
theorem dirs_nd {i : Nat} (hi : i < 4) : NoDg (dirs.getD i []) ∧ dirs.getD i [] ≠ [] := by
  have h := List.all_eq_true.1 dirs_all (dirs.getD i []) (by
    have : i < dirs.length := hi
    rw [List.getD_eq_getElem?_getD, List.getElem?_eq_getElem this]
    exact List.getElem_mem this)
  rw [Bool.and_eq_true, Bool.not_eq_true', List.isEmpty_eq_false_iff] at h
  exact ⟨noDg_of h.1, h.2⟩
theorem dpick_at {i : Nat} (hi : i < 4) : pickW dirs ((i : Int) + 1 - 1) = dirs.getD i [] := by
  unfold pickW
  rw [if_pos ⟨by omega, by show (i : Int) + 1 - 1 < 4; omega⟩]
  congr 1
  omega
def chD (T : Tks) : PR Int := (ch dirs T).bind fun d r => .ok ((d : Int) + 1) r
theorem dir_hit {st : DSt} {i : Nat} (hi : i < 4) (h : dW (dirs.getD i []) st = true) (hl : st.1 = true ∨ i ≤ dirs.idxOf (hw st.2)) : lift chD st = (false, st.2.tail) ∧ Val chD st ((i : Int) + 1) := by
  obtain ⟨h1, h2⟩ := dW_yes h
  have hle : i ≤ dirs.idxOf (hw st.2) := hl.resolve_left (by rw [h1]; decide)
  have hge := idx_le dirs (hw st.2) i hi h2.symm
  have e : dirs.idxOf (hw st.2) = i := by omega
  have hm : hw st.2 ∈ dirs := by
    have : i < dirs.length := hi
    rw [h2, List.getD_eq_getElem?_getD, List.getElem?_eq_getElem this]
    exact List.getElem_mem this
  have e2 : chD st.2 = .ok ((i : Int) + 1) st.2.tail := by
    unfold chD ch
    rw [if_pos hm, e]
    rfl
  obtain ⟨b, T⟩ := st
  simp only at h1 e2
  subst h1
  exact ⟨by rw [lift_go, e2]; rfl, fun _ a' r h => by simp only at h; rw [e2] at h; cases h; rfl⟩
theorem dir_miss {st : DSt} {i : Nat} (hi : i < 4) (h : dW (dirs.getD i []) st = false) (hl : st.1 = true ∨ i ≤ dirs.idxOf (hw st.2)) : st.1 = true ∨ i + 1 ≤ dirs.idxOf (hw st.2) := by
  cases hb : st.1 with
  | true => exact .inl rfl
  | false =>
    right
    refine idx_ne dirs (hw st.2) i hi (hl.resolve_left (by rw [hb]; decide)) ?_
    exact fun e => dW_no h hb e.symm
theorem dir_none {st : DSt} (hl : st.1 = true ∨ 4 ≤ dirs.idxOf (hw st.2)) : lift chD st = (true, st.2) ∧ ∀ z, Val chD st z := by
  obtain ⟨b, T⟩ := st
  cases b with
  | true => exact ⟨rfl, fun e => Val.of_bad rfl e⟩
  | false =>
    have hm : ¬ hw T ∈ dirs := by
      intro hm
      have := List.idxOf_lt_length_iff.2 hm
      have h2 : dirs.length = 4 := rfl
      have h3 := hl.resolve_left (by simp)
      simp only at h3
      omega
    have e : chD T = .bad T := by
      unfold chD ch
      rw [if_neg hm]
      rfl
    exact ⟨by rw [lift_go, e]; rfl, fun x _ a' r h => by simp only at h; rw [e] at h; cases h⟩

/-! ### A case -/
def caseF (T : Tks) : PR (List Cs) := Many pCase noCase T
def csTl (rs : Wd) (T : Tks) : PR Cs := (chD T).bind fun z r2 => (pass w_semi r2).bind fun _ r3 => .ok ⟨rs, z⟩ r3
def csNm (T : Tks) : PR Cs := (tk 1 T).bind fun t r => csTl t.w r
theorem csTl_eq (rs : Wd) (T : Tks) : csTl rs T = (ch dirs T).bind fun d r2 => (pass w_semi r2).bind fun _ r3 => .ok ⟨rs, (d : Int) + 1⟩ r3 := by
  unfold csTl chD
  cases ch dirs T <;> rfl
theorem case_way1 {st : DSt} (h : dW w_case st = true) : Gw pCase st csNm (false, st.2.tail) := by
  obtain ⟨h1, h2⟩ := dW_yes h
  have e := (Gw.start pCase st).bind (p := pass w_case) (q := fun _ => csNm) (a := ()) (fun _ => by
    unfold pCase ch pass csNm
    rw [h2, if_pos (by decide), if_pos rfl]
    simp only [csTl_eq]
    rfl) (pass_val _ _)
  rw [dW_pass h] at e
  exact e
theorem case_way2 {st : DSt} (h : dW w_else st = true) : Gw pCase st (csTl []) (false, st.2.tail) := by
  obtain ⟨h1, h2⟩ := dW_yes h
  have e := (Gw.start pCase st).bind (p := pass w_else) (q := fun _ => csTl []) (a := ()) (fun _ => by
    unfold pCase ch pass
    rw [h2, if_pos (by decide), if_pos rfl]
    exact (csTl_eq [] st.2.tail).symm) (pass_val _ _)
  rw [dW_pass h] at e
  exact e
theorem case_end {st st2 : DSt} {rs : Wd} {z : Int} (g : Gw pCase st (csTl rs) st2) (v : Val chD st2 z) : lift pCase st = lift (pass w_semi) (lift chD st2) ∧ Val pCase st ⟨rs, z⟩ := by
  have g1 := g.bind (p := chD) (q := fun z r2 => (pass w_semi r2).bind fun _ r3 => .ok ⟨rs, z⟩ r3) (fun _ => rfl) v
  have g2 := g1.bind (p := pass w_semi) (q := fun _ r3 => .ok ⟨rs, z⟩ r3) (fun _ => rfl) (pass_val _ _)
  exact g2.ret rfl
theorem caseF_more {st : DSt} (h : dW w_case st = true ∨ dW w_else st = true) : caseF st.2 = (pCase st.2).bind fun a r => (caseF r).bind fun l r' => .ok (a :: l) r' := by
  unfold caseF
  rw [Many_eq pCase_eats, if_neg]
  unfold noCase
  rcases h with h | h
  · rw [(dW_yes h).2]; decide
  · rw [(dW_yes h).2]; decide
theorem cs_more {st0 st : DSt} {A : List Cs} {x : Cs} (l : Lp caseF st0 st A) (h : dW w_case st = true ∨ dW w_else st = true) (v : Val pCase st x) : Lp caseF st0 (lift pCase st) (A ++ [x]) := l.step (fun _ => caseF_more h) v
theorem cs_end {st0 st : DSt} {A : List Cs} (l : Lp caseF st0 st A) (h1 : dW w_case st = false) (h2 : dW w_else st = false) : lift caseF st0 = st ∧ Val caseF st0 A := by
  cases hb : st.1 with
  | true => exact l.endBad hb
  | false =>
    have e : caseF st.2 = .ok [] st.2 := by
      unfold caseF
      refine case_stop ?_
      simp
      exact ⟨dW_no h1 hb, dW_no h2 hb⟩
    obtain ⟨g1, g2⟩ := l.endOk hb e
    refine ⟨g1.trans ?_, g2⟩
    obtain ⟨b, T⟩ := st
    simp only at hb
    subst hb
    rfl

/-! ### A kind -/
def kdS (nm : Wd) (a b : Int) (C : List Cs) (T : Tks) : PR Kd := (blkF pState T).bind fun S r6 => .ok ⟨nm, a, b, C, S⟩ r6
def kdC (nm : Wd) (a b : Int) (T : Tks) : PR Kd := (caseF T).bind fun C r4 => kdS nm a b C r4
def kdL4 (nm : Wd) (T : Tks) : PR Kd := (pLimit T).bind fun lw r3 => kdC nm lw.1 lw.2 r3
def kdO (nm : Wd) (T : Tks) : PR Kd := (pass w_open T).bind fun _ r => kdL4 nm r
def kdB (T : Tks) : PR Kd := (tk 1 T).bind fun t r => kdO t.w r
theorem kdS_eq (nm : Wd) (a b : Int) (C : List Cs) (T : Tks) : kdS nm a b C T = (Many pState (isW w_close) T).bind fun S r5 => (pass w_close r5).bind fun _ r6 => .ok ⟨nm, a, b, C, S⟩ r6 := by
  unfold kdS blkF
  cases Many pState (isW w_close) T with
  | bad r => rfl
  | ok S r =>
    simp only [PR.bind_ok]
    cases pass w_close r <;> rfl
theorem pKind_eq (T : Tks) : pKind T = (pass w_kind T).bind fun _ r => kdB r := by
  simp only [pKind, kdB, kdO, kdL4, kdC, kdS_eq, caseF]
def limA (nm : Wd) (T : Tks) : PR Kd := (tk 2 T).bind fun a r1 => (pass w_in r1).bind fun _ r2 => (tk 2 r2).bind fun b r3 => (pass w_semi r3).bind fun _ r4 => kdC nm (a.n : Int) (b.n : Int) r4
theorem lim_way1 {P0 : Tks → PR Kd} {st0 st : DSt} {nm : Wd} (g : Gw P0 st0 (kdL4 nm) st) (h : dW w_limit st = true) : Gw P0 st0 (limA nm) (false, st.2.tail) := by
  obtain ⟨h1, h2⟩ := dW_yes h
  have e := g.bind (p := pass w_limit) (q := fun _ => limA nm) (a := ()) (fun _ => by
    unfold kdL4 pLimit limA
    rw [if_pos h2]
    cases pass w_limit st.2 with
    | bad r => rfl
    | ok u r =>
      simp only [PR.bind_ok]
      cases tk 2 r with
      | bad r => rfl
      | ok t r =>
        simp only [PR.bind_ok]
        cases pass w_in r with
        | bad r => rfl
        | ok u r =>
          simp only [PR.bind_ok]
          cases tk 2 r with
          | bad r => rfl
          | ok t r =>
            simp only [PR.bind_ok]
            cases pass w_semi r <;> rfl) (pass_val _ _)
  rw [dW_pass h] at e
  exact e
theorem lim_way2 {P0 : Tks → PR Kd} {st0 st : DSt} {nm : Wd} (g : Gw P0 st0 (kdL4 nm) st) (h : dW w_limit st = false) : Gw P0 st0 (kdC nm 0 1) st := by
  refine g.congr fun hb => ?_
  unfold kdL4 pLimit
  rw [if_neg (dW_no h hb)]
  rfl
theorem kd_end {P0 : Tks → PR Kd} {st0 st4 st5 : DSt} {nm : Wd} {a b : Int} {C : List Cs} {S : List Sta} (g : Gw P0 st0 (kdS nm a b C) st4) (e : lift (blkF pState) st4 = st5) (v : Val (blkF pState) st4 S) : lift P0 st0 = st5 ∧ Val P0 st0 ⟨nm, a, b, C, S⟩ := by
  have g2 := g.bind (p := blkF pState) (q := fun S r => .ok ⟨nm, a, b, C, S⟩ r) (fun _ => rfl) v
  rw [e] at g2
  exact g2.ret rfl

/-! ### A state -/
def stR (nm : Wd) (T : Tks) : PR Sta := (blkF pRow T).bind fun R r2 => .ok ⟨nm, R⟩ r2
def stO (nm : Wd) (T : Tks) : PR Sta := (pass w_open T).bind fun _ r => stR nm r
def stB (T : Tks) : PR Sta := (tk 1 T).bind fun t r1 => stO t.w r1
theorem stO_eq (nm : Wd) (T : Tks) : stO nm T = (block pRow T).bind fun R r2 => .ok ⟨nm, R⟩ r2 := by
  unfold stO stR block
  cases pass w_open T with
  | bad r => rfl
  | ok u r => rfl
theorem pState_eq (T : Tks) : pState T = (pass w_state T).bind fun _ r => stB r := by
  simp only [pState, stB, stO_eq]
theorem sta_way {st : DSt} (h : dW w_state st = true) : Gw pState st stB (false, st.2.tail) := by
  have e := (Gw.start pState st).bind (p := pass w_state) (q := fun _ => stB) (a := ()) (fun _ => pState_eq _) (pass_val _ _)
  rw [dW_pass h] at e
  exact e
theorem sta_end {st st4 st5 : DSt} {nm : Wd} {E : List Rw} (g : Gw pState st (stR nm) st4) (e : lift (blkF pRow) st4 = st5) (v : Val (blkF pRow) st4 E) : lift pState st = st5 ∧ Val pState st ⟨nm, E⟩ := by
  have g2 := g.bind (p := blkF pRow) (q := fun E r => .ok ⟨nm, E⟩ r) (fun _ => rfl) v
  rw [e] at g2
  exact g2.ret rfl
theorem sta_bad {st st4 st5 : DSt} {nm : Wd} {E : List Rw} (g : Gw pState st (stR nm) st4) (l : Lp (blkF pRow) st4 st5 E) (hb : st5.1 = true) : lift pState st = st5 ∧ Val pState st ⟨nm, E⟩ := by
  obtain ⟨e, v⟩ := l.endBad hb
  exact sta_end g e v
theorem sta_close {st st4 st5 : DSt} {nm : Wd} {E : List Rw} (g : Gw pState st (stR nm) st4) (l : Lp (blkF pRow) st4 st5 E) (h : dW w_close st5 = true) : lift pState st = (false, st5.2.tail) ∧ Val pState st ⟨nm, E⟩ := by
  obtain ⟨h1, h2⟩ := dW_yes h
  obtain ⟨e, v⟩ := l.endOk h1 (blkF_stop pRow_eats h2)
  exact sta_end g e v
theorem rw_more {st4 st5 : DSt} {E : List Rw} {x : Rw} (l : Lp (blkF pRow) st4 st5 E) (h : dW w_close st5 = false) (hv : Val pRow st5 x) : Lp (blkF pRow) st4 (lift pRow st5) (E ++ [x]) :=
  l.step (fun hb => blkF_more pRow_eats (dW_no h hb)) hv
theorem sta_more {st0 st : DSt} {A : List Sta} {x : Sta} (l : Lp (blkF pState) st0 st A) (h : dW w_state st = true) (v : Val pState st x) : Lp (blkF pState) st0 (lift pState st) (A ++ [x]) :=
  l.step (fun hb => blkF_more pState_eats (by rw [(dW_yes h).2]; decide)) v
theorem sta_fin {st0 st : DSt} {A : List Sta} (l : Lp (blkF pState) st0 st A) (h : dW w_state st = false) : lift (blkF pState) st0 = lift (pass w_close) st ∧ Val (blkF pState) st0 A := by
  refine l.endBy fun hb => ?_
  by_cases hc : hw st.2 = w_close
  · rw [blkF_stop pState_eats hc]
    unfold pass
    rw [if_pos hc]
    rfl
  · rw [blkF_more pState_eats hc, pState_eq]
    unfold pass
    rw [if_neg (dW_no h hb), if_neg hc]
    rfl
end Go.Proofs.YtnkokonkbklelaaGreatDoor.Ps
