/- parse: ParseRead's walk. -/
import Derived.Test.YtdhokkmflccaaaaGreatDoorPsMb
import Derived.Test.YtdhokkmflccaaaaGreatDoorPsMc
set_option linter.unusedVariables false
namespace Go.Proofs.YtdhokkmflccaaaaGreatDoor.Ps
open Go.RowKit Go.Proofs.YtdhokkmflccaaaaGreatDoor Lx

theorem LX_le (N k : Nat) (m : Wd) (hk : m.length ≤ k) : (∀ x ∈ (LX N m).1, x.2 ≤ N) ∧ (LX N m).2.2 ≤ N := by
  induction k generalizing m with
  | zero =>
    have : m = [] := List.eq_nil_of_length_eq_zero (by omega)
    subst this
    rw [LX_nil rfl]; exact ⟨(fun x hx => by cases hx), Nat.zero_le _⟩
  | succ k ih =>
    cases hs : sk false m with
    | nil => rw [LX_nil hs]; exact ⟨(fun x hx => by cases hx), Nat.zero_le _⟩
    | cons c r =>
      by_cases h0 : (Lx.tok (c :: r)).1 = 0
      · rw [LX_tok hs h0]
        have hl1 := sk_le false m
        rw [hs] at hl1
        obtain ⟨hp, hpre⟩ := tok_pos h0
        have hpl := hpre.length_le
        obtain ⟨i1, i2⟩ := ih ((c :: r).drop (Lx.tok (c :: r)).2.w.length) (by simp at hl1 hpl ⊢; omega)
        refine ⟨fun x hx => ?_, i2⟩
        rcases List.mem_cons.1 hx with rfl | hx
        · dsimp only; omega
        · exact i1 x hx
      · rw [LX_bad hs h0]; exact ⟨(fun x hx => by cases hx), by dsimp only; omega⟩
theorem bad_facts {l : Wd} {z q : Nat} (h : prog l = .bad z q) : z ≠ 0 ∧ q ≤ l.length ∧ z ≤ 100 := by
  have hw : whole l = ([], 5, 0) ∨ whole l = LX l.length l := by
    unfold whole; split
    · exact Or.inl rfl
    · exact Or.inr rfl
  have hc : ∀ k m N, m.length ≤ k → (LX N m).2.1 ≤ 100 := by
    intro k
    induction k with
    | zero =>
      intro m N hk
      have : m = [] := List.eq_nil_of_length_eq_zero (by omega)
      subst this
      rw [LX_nil rfl]; exact Nat.zero_le _
    | succ k ih =>
      intro m N hk
      cases hs : sk false m with
      | nil => rw [LX_nil hs]; exact Nat.zero_le _
      | cons c r =>
        by_cases h0 : (Lx.tok (c :: r)).1 = 0
        · rw [LX_tok hs h0]
          have hl1 := sk_le false m
          rw [hs] at hl1
          obtain ⟨hp, hpre⟩ := tok_pos h0
          have hpl := hpre.length_le
          exact ih _ _ (by simp at hl1 hpl ⊢; omega)
        · rw [LX_bad hs h0]
          dsimp only
          rw [tok_c]; (repeat' split) <;> simp
  unfold prog at h
  split at h
  · rename_i h0
    cases hq : pProg (whole l).1 with
    | ok P r => rw [hq] at h; cases h
    | bad r =>
      rw [hq] at h
      have hs := pProg_suf (whole l).1
      rw [hq] at hs
      cases r with
      | nil => cases h; exact ⟨by simp [flt], Nat.le_refl _, by simp [flt]⟩
      | cons x r =>
        cases h
        refine ⟨by simp [flt], ?_, by simp [flt]⟩
        have hx : x ∈ (whole l).1 := hs.subset (List.mem_cons_self ..)
        rcases hw with hw | hw
        · rw [hw] at hx; cases hx
        · rw [hw] at hx; exact (LX_le _ _ l (Nat.le_refl _)).1 x hx
  · rename_i h0
    cases h
    refine ⟨h0, ?_, ?_⟩
    · rcases hw with hw | hw
      · rw [hw]; exact Nat.zero_le _
      · rw [hw]; exact (LX_le _ _ l (Nat.le_refl _)).2
    · rcases hw with hw | hw
      · rw [hw]; decide
      · rw [hw]; exact hc _ l _ (Nat.le_refl _)
theorem same_self {D D' : Nat} {w : World} {v v' : Value} {P : List Kd} (h1 : XK D w v P) (h2 : XK D' w v' P) (hs : smP P) :
    Calls Tryz.prog 26 #[.agg #[v], .agg #[v']] w fun e w' => e = .returned (.bool true) ∧ Only Nil w w' := by
  have := same_any h1 h2 hs
  simpa using this

set_option maxRecDepth 100000 in
set_option maxHeartbeats 2000000 in
theorem read_bad (l : Wd) (w : World) (hl : l.length ≤ 140737488355328) (E : Env w) (T : Tab w) (z q : Nat) (h : prog l = .bad z q) :
    Calls Tryz.prog 7 #[.string (bs l)] w fun e w' => e = .returned (.bool true) ∧ Below w.heap.size w w' := by
  have HE := Lib.hid E
  have HA := Lib.hid (alive_any w E T)
  have HP := Lib.hid (fun w E => prog_bad_any l w hl E z q h)
  have hz : (bs l).size = l.length := bs_size l
  obtain ⟨hz0, hq, hz9⟩ := bad_facts h
  have hz1 : ((z : Int) != 0) = true := by simpa using hz0
  have hz2 : (z != 0) = true := by simpa using hz0
  clear E T h hz0
  go_enter Tryz.func7, Tryz.ntmps7
  go_wp2_with fail
  refine HA.out.mono ?_
  rintro e w1 ⟨rfl, o1⟩
  go_wp2_with fail
  refine (HP.out w1 (HE.out.keep o1)).mono ?_
  rintro e w2 ⟨b, rfl, F, o2⟩
  have O3 := Lib.hid ((o1.trans o2).trans ((Only.refl Nil w2).alloc (.cells #[.slice none 0 0] 25)))
  have F3 := Lib.hid (F.keep ((Only.refl Nil w2).alloc (.cells #[.slice none 0 0] 25)))
  go_upto_region 5 with (fail)
  generalize w2.alloc (.cells #[.slice none 0 0] 25) = w3 at *
  have E3 := Lib.hid (HE.out.keep O3.out)
  clear F o1 o2
  go_wp2_with fail
  refine (code_fault b _ _ w3 F3.out E3.out).mono ?_
  rintro e w4 ⟨rfl, o4⟩
  have O4 := Lib.hid o4
  clear o4
  go_wp2_with fail
  refine (at_fault b _ _ w4 (F3.out.keep O4.out) (E3.out.keep O4.out)).mono ?_
  rintro e w5 ⟨rfl, o5⟩
  have O5 := Lib.hid (O4.out.trans o5)
  clear o5
  go_wp2_with fail
  refine (at_fault b _ _ w5 (F3.out.keep O5.out) (E3.out.keep O5.out)).mono ?_
  rintro e w6 ⟨rfl, o6⟩
  go_wp2
  go_ret
  exact ⟨rfl, below_nil ((O3.out.trans O5.out).trans o6)⟩
set_option maxRecDepth 100000 in
set_option maxHeartbeats 4000000 in
theorem read_ok (l : Wd) (w : World) (hl : l.length ≤ 140737488355328) (E : Env w) (T : Tab w) (P : List Kd) (h : prog l = .ok P) :
    Calls Tryz.prog 7 #[.string (bs l)] w fun e w' => e = .returned (.bool true) ∧ Below w.heap.size w w' := by
  have HE := Lib.hid E
  have HT := Lib.hid T
  have HA := Lib.hid (alive_any w E T)
  have HP := Lib.hid (fun w E => prog_ok_at l w hl E P h _ rfl)
  have hz : (bs l).size = l.length := bs_size l
  obtain ⟨hok, hwf, hsm, _⟩ := prog_write h
  have HW := Lib.hid hwf
  have HS := Lib.hid hsm
  have ho := read_out h
  have h16 := (prog_inv h).1
  clear E T h hok hwf hsm
  go_enter Tryz.func7, Tryz.ntmps7
  go_wp2_with fail
  refine HA.out.mono ?_
  rintro e w1 ⟨rfl, o1⟩
  go_wp2_with fail
  refine (HP.out w1 (HE.out.keep o1)).mono ?_
  rintro e w2 ⟨a, c, rfl, F, o2⟩
  have O3 := Lib.hid ((o1.trans o2).trans ((Only.refl Nil w2).alloc (.cells #[.slice a P.length c] 25)))
  have F3 := Lib.hid (F.keep ((Only.refl Nil w2).alloc (.cells #[.slice a P.length c] 25)) (nilS · _))
  have B3 := Lib.hid (bx_new w2 [.slice a P.length c] 25)
  go_upto_region 6 with (fail)
  change Hid (Bx (w2.alloc (.cells #[.slice a P.length c] 25)) w2.heap.size [.slice a P.length c] 25) at B3
  have L3 := Lib.hid (show w2.heap.size ≤ (w2.alloc (.cells #[.slice a P.length c] 25)).heap.size by simp)
  generalize w2.alloc (.cells #[.slice a P.length c] 25) = w3 at *
  generalize w2.heap.size = D at *
  have c3 := B3.out.cell 0 (v := .slice a P.length c) rfl
  have E3 := Lib.hid (HE.out.keep O3.out)
  have T3 := Lib.hid (HT.out.keep O3.out)
  clear F o1 o2
  have HR := Lib.hid (print_any P (.slice a P.length c) F3.out L3.out HW.out HS.out T3.out)
  rcases ho with h0 | ⟨h5, h6⟩
  · have HB := Lib.hid (out_back P h0)
    rw [h0] at HR
    clear h0
    have HL := Lib.hid (show (outT P).length ≤ 140737488355328 from by
      have := (prog_inv HB.out).1; omega)
    go_wp2_with fail
    refine HR.out.mono ?_
    rintro e w4 ⟨rfl, o4⟩
    have O4 := Lib.hid o4
    clear o4
    have hz4 : (bs (outT P)).size = (outT P).length := bs_size _
    go_wp2_with fail
    refine (prog_ok_at (outT P) w4 HL.out (E3.out.keep O4.out) P HB.out _ rfl).mono ?_
    rintro e w5 ⟨a5, c5, rfl, F5, o5⟩
    have O6 := Lib.hid ((O4.out.trans o5).trans ((Only.refl Nil w5).alloc (.cells #[.slice a5 P.length c5] 25)))
    have F6 := Lib.hid (F5.keep ((Only.refl Nil w5).alloc (.cells #[.slice a5 P.length c5] 25)) (nilS · _))
    have B6 := Lib.hid (bx_new w5 [.slice a5 P.length c5] 25)
    go_upto_region 10 with (fail)
    change Hid (Bx (w5.alloc (.cells #[.slice a5 P.length c5] 25)) w5.heap.size [.slice a5 P.length c5] 25) at B6
    generalize w5.alloc (.cells #[.slice a5 P.length c5] 25) = w6 at *
    generalize w5.heap.size = D5 at *
    have c6 := B6.out.cell 0 (v := .slice a5 P.length c5) rfl
    have B36 := Lib.hid (B3.out.keep O6.out)
    have c36 := B36.out.cell 0 (v := .slice a P.length c) rfl
    clear c3 F5 o5
    have HSm := Lib.hid (same_self (F3.out.keep O6.out (nilS · _)) F6.out HS.out)
    go_wp2_with (go_at_call 26; refine HSm.out.mono ?_; rintro e w7 ⟨rfl, o7⟩)
    go_ret
    exact ⟨rfl, below_nil ((O3.out.trans O6.out).trans o7)⟩
  · rw [h5] at HR
    clear h5
    have h7 : (16384 : Int) < 5 * (l.length : Int) := by omega
    have h8 : IntKind.i64.wrap (5 * (l.length : Int)) = 5 * (l.length : Int) := IntWalk.i64_in _ (by omega)
    clear h6
    go_wp2_with fail
    refine HR.out.mono ?_
    rintro e w4 ⟨rfl, o4⟩
    go_wp2
    go_ret
    exact ⟨rfl, below_nil (O3.out.trans o4)⟩
theorem read_all (l : Wd) (w : World) (hl : l.length ≤ 140737488355328) (E : Env w ∧ Tab w) :
    Calls Tryz.prog 7 #[.string (bs l)] w fun e w' => e = .returned (.bool true) ∧ Below w.heap.size w w' := by
  cases h : prog l with
  | bad z q => exact read_bad l w hl E.1 E.2 z q h
  | ok P => exact read_ok l w hl E.1 E.2 P h
end Go.Proofs.YtdhokkmflccaaaaGreatDoor.Ps
