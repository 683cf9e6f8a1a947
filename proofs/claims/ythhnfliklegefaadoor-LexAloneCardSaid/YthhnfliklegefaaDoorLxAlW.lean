/- LexAlone's walk. -/
import Derived.Test.YthhnfliklegefaaDoorLxPlW
import Derived.Test.YthhnfliklegefaaDoorLxM4
import Derived.Test.YthhnfliklegefaaDoorLxNuB
namespace Go.Proofs.YthhnfliklegefaaDoor.Lx
open Go.RowKit Go.Proofs.YthhnfliklegefaaDoor

theorem cat_take (X : List (Tok × Nat)) (i : Nat) : (cat (X.take i)).length ≤ (cat X).length := by
  have : cat X = cat (X.take i) ++ cat (X.drop i) := by
    rw [cat, cat, cat, ← List.flatMap_append, List.take_append_drop]
  rw [this, List.length_append]; omega
theorem take_next {X : List (Tok × Nat)} {i : Nat} (h : i < X.length) : cat (X.take (i + 1)) = cat (X.take i) ++ (X.getD i default).1.w ++ [32] := by
  rw [← cat_snoc, List.take_succ_eq_append_getElem h]
  have : X.getD i default = X[i] := by simp [List.getD, h]
  rw [this]
theorem getD_mem {X : List (Tok × Nat)} {i : Nat} (h : i < X.length) : X.getD i default ∈ X := by
  have : X.getD i default = X[i] := by simp [List.getD, h]
  rw [this]; exact List.getElem_mem h
theorem fst_eq {X Y : List (Tok × Nat)} (h : Y.map (·.1) = X.map (·.1)) {i : Nat} (hi : i < X.length) : (Y.getD i default).1 = (X.getD i default).1 := by
  have hl : Y.length = X.length := by have := congrArg List.length h; simpa using this
  have e1 : X.getD i default = X[i] := by simp [List.getD, hi]
  have e2 : Y.getD i default = Y[i]'(by omega) := by simp [List.getD, hl, hi]
  rw [e1, e2]
  have := congrArg (fun l => l[i]?) h
  simpa [hi, hl] using this

set_option maxRecDepth 100000 in
set_option maxHeartbeats 2000000 in
theorem alone_bad (l : List UInt8) (w : World) (hl : l.length ≤ 140737488355328) (E : Env w) (h0 : (whole l).2.1 ≠ 0) : Calls Tryd.prog 5 #[.string (bs l)] w fun e w' => e = .returned (.bool true) ∧ Below w.heap.size w w' := by
  have HE := Lib.hid E
  clear E
  have HA := Lib.hid (fun (w : World) (E : Env w) => all_err l w hl E (whole l).2.1 (whole l).2.2 rfl h0)
  clear h0
  generalize (whole l).2.1 = z at *
  generalize (whole l).2.2 = q at *
  go_enter Tryd.func5, Tryd.ntmps5
  go_wp2_with fail
  refine (alive_any w HE.out).mono ?_
  rintro e w1 ⟨rfl, o1⟩
  go_wp2_with fail
  refine (HA.out w1 (HE.out.keep o1)).mono ?_
  rintro e w2 ⟨b, rfl, _, o2⟩
  go_wp2
  go_ret
  exact ⟨rfl, (o1.trans o2).below (Nat.le_refl _) (fun k h => h.elim)⟩
set_option maxRecDepth 100000 in
set_option maxHeartbeats 2000000 in
theorem alone_long (l : List UInt8) (w : World) (hl : l.length ≤ 140737488355328) (E : Env w) (h0 : (whole l).2.1 = 0) (h4 : 4000 < l.length) : Calls Tryd.prog 5 #[.string (bs l)] w fun e w' => e = .returned (.bool true) ∧ Below w.heap.size w w' := by
  have HE := Lib.hid E
  clear E
  have hz : (bs l).size = l.length := bs_size l
  have HA := Lib.hid (fun (w : World) (E : Env w) => all_ok l w hl E h0 _ rfl _ rfl)
  clear h0
  generalize (whole l).1 = X at *
  generalize X.length = n at *
  go_enter Tryd.func5, Tryd.ntmps5
  go_wp2_with fail
  refine (alive_any w HE.out).mono ?_
  rintro e w1 ⟨rfl, o1⟩
  go_wp2_with fail
  refine (HA.out w1 (HE.out.keep o1)).mono ?_
  rintro e w2 ⟨a, c, rfl, R⟩
  go_wp2
  go_ret
  exact ⟨rfl, (o1.trans R.only).below (Nat.le_refl _) (fun k h => h.elim)⟩

set_option maxRecDepth 100000 in
set_option maxHeartbeats 4000000 in
theorem alone_ok (l : List UInt8) (w : World) (E : Env w) (h0 : (whole l).2.1 = 0) (h4 : l.length ≤ 4000) : Calls Tryd.prog 5 #[.string (bs l)] w fun e w' => e = .returned (.bool true) ∧ Below w.heap.size w w' := by
  have HE := Lib.hid E
  clear E
  obtain ⟨hs, hw⟩ := whole_ok h0
  have hG : ∀ x ∈ (whole l).1, Good x.1 := by rw [hw]; exact good_LX l.length l.length l (Nat.le_refl _)
  have hcat : (cat (whole l).1).length ≤ 8000 := by rw [hw]; have := cat_len l.length l.length l (Nat.le_refl _); omega
  have hcnt : (whole l).1.length ≤ 16384 := by rw [hw]; have := LX_count l.length l.length l (Nat.le_refl _); omega
  have HA := Lib.hid (fun (w : World) (E : Env w) => all_ok l w (by omega) E h0 _ rfl _ rfl)
  clear h0 hw
  generalize (whole l).1 = X at *
  have hc2 := LX_cat (cat X).length X hG
  have HG := Lib.hid hG
  have hwc : whole (cat X) = LX (cat X).length (cat X) := if_neg (by omega)
  have HY := Lib.hid hc2
  have hY0 : Hid (∀ (w : World) (E : Env w), Calls Tryd.prog 13 #[.string (bs (cat X))] w fun e w' => ∃ a c, e = .returned (.tuple #[.slice a X.length c, .nilIface]) ∧ Rs w w' (.slice a X.length c) (LX (cat X).length (cat X)).1) :=
    Lib.hid fun w E => all_ok (cat X) w (by omega) E (by rw [hwc, hc2.2]) _ (by rw [hwc]) _ (by have := congrArg List.length hc2.1; simpa using this)
  have hYm := Lib.hid hc2.1
  clear hG hc2 hwc HY
  generalize (LX (cat X).length (cat X)).1 = Y at *
  have HYl : Hid (Y.length = X.length) := Lib.hid (by have := congrArg List.length hYm.out; simpa using this)
  generalize hn : X.length = n at *
  have HN := Lib.hid hn
  clear hn
  have hz : (bs l).size = l.length := bs_size l
  go_enter Tryd.func5, Tryd.ntmps5
  go_wp2_with fail
  refine (alive_any w HE.out).mono ?_
  rintro e w1 ⟨rfl, o1⟩
  go_wp2_with fail
  refine (HA.out w1 (HE.out.keep o1)).mono ?_
  rintro e w2 ⟨a, c, rfl, R⟩
  have HR := Lib.hid R
  clear R
  have o2 := Lib.hid (o1.trans HR.out.only)
  go_wp2_with fail
  go_loopw [5, 6] (fun s5 s6 wr => ∃ i : Nat, i ≤ n ∧ s5 = .string (bs (cat (X.take i))) ∧ s6 = .int .i64 (i : Int) ∧ Only Nil w wr ∧ RIn wr a X)
    (fun _ s6 _ => n - (intOf s6).toNat)
  case atStart => exact ⟨0, Nat.zero_le _, rfl, rfl, o2.out, HR.out.rin HN.out⟩
  case round =>
    obtain ⟨i, hi, rfl, rfl, o, hin⟩ := hrel
    have HI := Lib.hid hin
    clear hin
    have hct := cat_take X i
    by_cases hlt : i < n
    · have hltX : i < X.length := by rw [HN.out]; exact hlt
      obtain ⟨b, ha, _, hcells⟩ := HI.out i hltX
      subst ha
      obtain ⟨c0, c1, c2, c3⟩ := hcells i hltX
      have hg := HG.out _ (getD_mem hltX)
      have hnx := Lib.hid (take_next hltX)
      have hct1 := cat_take X (i + 1)
      have hlen : (cat (X.take (i + 1))).length = (cat (X.take i)).length + (X.getD i default).1.w.length + 1 := by rw [hnx.out, List.length_append, List.length_append]; rfl
      have hw1 : (X.getD i default).1.w.length ≤ 16384 := by omega
      have H1 := Lib.hid (whole_one hg hw1)
      generalize hT : (X.getD i default).1 = t at *
      generalize (X.getD i default).2 = q at *
      clear hT hcells hg
      have ha1 : ∀ w, (Op.stringOp .add (bs (cat (X.take i))) (bs t.w)).run Tryd.prog w = .ok (.string (bs (cat (X.take i) ++ t.w))) w := fun w => str_add _ _ (by omega) w
      have ha2 : ∀ w, (Op.stringOp .add (bs (cat (X.take i) ++ t.w)) ⟨#[32]⟩).run Tryd.prog w = .ok (.string (bs (cat (X.take (i + 1))))) w := fun w => by
        rw [hnx.out]
        exact str_add (cat (X.take i) ++ t.w) [32] (by simp; omega) w
      have HA1 := Lib.hid ha1
      have HA2 := Lib.hid ha2
      clear ha1 ha2 hlen hct1
      go_wp2_with fail
      refine (all_ok t.w wr (by omega) (HE.out.keep o) (by rw [H1.out]) [(t, 0)] (by rw [H1.out]) 1 rfl).mono ?_
      rintro e w3 ⟨a3, c3', rfl, R3⟩
      have H3 := Lib.hid R3
      obtain ⟨g, hg3, _, hc3⟩ := (R3.rin rfl) 0 (by simp)
      subst hg3
      obtain ⟨d0, d1, d2, _⟩ := hc3 0 (by simp)
      have d0' : w3.cell? ⟨g, 0, none⟩ = some (.int .i64 (t.k : Int)) := d0
      have d1' : w3.cell? ⟨g, 1, none⟩ = some (.string (bs t.w)) := d1
      have d2' : w3.cell? ⟨g, 2, none⟩ = some (.int .i64 (t.n : Int)) := d2
      have e0 := only_cell H3.out.only c0
      have e1 := only_cell H3.out.only c1
      have e2 := only_cell H3.out.only c2
      have I3 := Lib.hid (HI.out.keep H3.out.only)
      clear d0 d1 d2 c0 c1 c2 c3 hc3 R3
      go_upto_region 11 with (fail)
      go_quiet (fail)
      have e1' : (w3.drewN nq).cell? ⟨b, i * 4 + 1, none⟩ = some (.string (bs t.w)) := e1
      clear d0' d1' d2' e0 e1 e2
      have ha1 := HA1.out
      have ha2 := HA2.out
      go_wp2
      go_roundw
      case rel => exact ⟨i + 1, by omega, rfl, by go_num, (o.trans H3.out.only).drewN _, I3.out.keep ((Only.refl Nil _).drewN _)⟩
      case measure => simp [intOf]; omega
    · obtain rfl : i = n := by omega
      have hfull : X.take i = X := List.take_of_length_le (by rw [HN.out]; exact Nat.le_refl _)
      rw [hfull] at *
      clear hfull
      go_wp2_with fail
      refine (hY0.out wr (HE.out.keep o)).mono ?_
      rintro e w3 ⟨a3, c3, rfl, R3⟩
      have H3 := Lib.hid R3
      clear R3
      have I1 := Lib.hid (HI.out.keep H3.out.only)
      have I2 := Lib.hid (H3.out.rin HYl.out)
      generalize wr = wo at *
      go_wp2_with fail
      go_loopw [11] (fun s11 wr => ∃ j : Nat, j ≤ i ∧ s11 = .int .i64 (j : Int) ∧ Only Nil w wr ∧ RIn wr a X ∧ RIn wr a3 Y)
        (fun s11 _ => i - (intOf s11).toNat)
      case atStart => exact ⟨0, Nat.zero_le _, rfl, o.trans H3.out.only, I1.out, I2.out⟩
      case round =>
        obtain ⟨j, hj, rfl, oj, hx, hy⟩ := hrel
        have HX := Lib.hid hx
        have HYr := Lib.hid hy
        clear hx hy
        by_cases hlt : j < i
        · have hltX : j < X.length := by rw [HN.out]; exact hlt
          have hltY : j < Y.length := by rw [HYl.out]; exact hlt
          obtain ⟨b, ha, _, hcx⟩ := HX.out j hltX
          subst ha
          obtain ⟨c0, c1, c2, _⟩ := hcx j hltX
          obtain ⟨b3, ha3, _, hcy⟩ := HYr.out j hltY
          subst ha3
          obtain ⟨d0, d1, d2, _⟩ := hcy j hltY
          have he := fst_eq hYm.out hltX
          rw [he] at d0 d1 d2
          generalize (X.getD j default).1 = t at *
          clear hcx hcy he
          go_upto_region 20 with (fail)
          go_quiet (fail)
          clear c0 c1 c2 d0 d1 d2
          go_wp2
          go_roundw
          case rel => exact ⟨j + 1, by omega, by go_num, oj.drewN _, HX.out.keep ((Only.refl Nil _).drewN _), HYr.out.keep ((Only.refl Nil _).drewN _)⟩
          case measure => simp [intOf]; omega
        · go_wp2
          go_ret
          exact ⟨rfl, oj.below (Nat.le_refl _) (fun k h => h.elim)⟩
theorem alone_all (l : List UInt8) (w : World) (hl : l.length ≤ 140737488355328) (E : Env w) : Calls Tryd.prog 5 #[.string (bs l)] w fun e w' => e = .returned (.bool true) ∧ Below w.heap.size w w' := by
  by_cases h0 : (whole l).2.1 = 0
  · by_cases h4 : l.length ≤ 4000
    · exact alone_ok l w E h0 h4
    · exact alone_long l w hl E h0 (by omega)
  · exact alone_bad l w hl E h0
end Go.Proofs.YthhnfliklegefaaDoor.Lx
