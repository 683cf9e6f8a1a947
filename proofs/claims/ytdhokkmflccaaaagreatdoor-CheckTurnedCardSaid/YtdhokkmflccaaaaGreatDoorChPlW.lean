/- check: CheckPlaces' walk. -/
import Derived.Test.YtdhokkmflccaaaaGreatDoorChR
import Derived.Deep.QuietTactic
import Derived.StillTailTactics
set_option linter.unusedVariables false
namespace Go.Proofs.YtdhokkmflccaaaaGreatDoor.Ch
open Go.RowKit Go.Proofs.YtdhokkmflccaaaaGreatDoor Lx Ps

theorem place_of (P : List Kd) : Place P (whereF (whole P)) := by
  cases h : whole P with
  | none => exact Or.inl rfl
  | some x => exact whole_place h
theorem place_len {P : List Kd} {W : List Nat} (h : Place P W) : W.length ≤ 100 := by
  rcases h with rfl | ⟨i, _, rfl | ⟨j, _, rfl | ⟨n, _, rfl | ⟨m, _, rfl⟩⟩⟩⟩ <;> simp
theorem w_back (i : Nat) (A : Int) (hA : A = (i : Int) + 1) (hb : (i : Int) ≤ 140737488355328) : IntKind.i64.wrap (A - 1) = (i : Int) := by
  subst hA
  rw [show (i : Int) + 1 - 1 = i by omega]
  exact IntWalk.i64_in _ (by omega)
set_option maxRecDepth 100000 in
set_option maxHeartbeats 16000000 in
theorem places_all (P : List Kd) (sl : Value) (w : World) (hx : XK w.heap.size w sl P) (wf : wfP P) (sz : szP P) (E : EnvE w) :
    Calls Tryz.prog 15 #[.agg #[sl]] w fun e w' => e = .returned (.bool true) ∧ Below w.heap.size w w' := by
  obtain ⟨sa, sc, rfl⟩ := hx.slice
  generalize hnP : P.length = nP at *
  obtain ⟨w1, hw1⟩ : ∃ w1, w1 = w.alloc (.cells #[.slice sa nP sc] 25) := ⟨_, rfl⟩
  have o1 : Only Nil w w1 := hw1 ▸ (Only.refl Nil w).alloc _
  have HB := Lib.hid (show Bx w1 w.heap.size [.slice sa nP sc] 25 from hw1 ▸ bx_new w _ _)
  have hbP : nP ≤ 140737488355328 := by rw [← hnP]; exact sz.1
  have HV := Lib.hid (show VK w.heap.size w1 P sa nP sc from ⟨hx.keep o1 (nilS · _), hnP, hbP, sz, wf⟩)
  have HE := Lib.hid (E.keep o1)
  have HA := Lib.hid (alive_any w1 HE.out)
  have HPl := Lib.hid (place_of P)
  have O1 := Lib.hid o1
  clear hx wf sz E o1 hnP
  go_enter Tryz.func15, Tryz.ntmps15
  go_upto_region 1 with (fail)
  rw [← hw1]; clear hw1
  have HLe := Lib.hid (show w.heap.size ≤ w1.heap.size from O1.out.size)
  generalize hD : w.heap.size = D at *
  go_wp2_with fail
  refine HA.out.mono ?_
  rintro e w2 ⟨rfl, o2⟩
  have O2 := Lib.hid o2
  have c2 := (HB.out.keep o2).cell 0 (v := .slice sa nP sc) rfl
  have HP := Lib.hid (prog_err (HV.out.keep o2) (Lib.hid (Nat.le_trans HLe.out o2.size)))
  clear o2
  go_wp2_with fail
  refine HP.out.mono ?_
  rintro e w3 ⟨v, rfl, hv, o3⟩
  have O3 := Lib.hid (O2.out.trans o3)
  have HW := Lib.hid (where_any hv (HE.out.keep O3.out) (place_len HPl.out))
  have hform : v = .nilIface ∨ ∃ b, v = .iface 56 (.pointer (some ⟨b, 0, none⟩)) := by
    revert hv; cases whole P with
    | none => intro h; exact Or.inl h
    | some x => rintro ⟨b, h, _⟩; exact Or.inr ⟨b, h⟩
  generalize whereF (whole P) = W at *
  clear hv o3
  have key : Hid (∃ w4 a c, Only Nil w3 w4 ∧ w4.ownsRow w3.heap.size 3 1 (.slice a W.length c) W.length (intsC W)) → True := fun _ => trivial
  clear key
  go_wp2_with fail
  refine HW.out.mono ?_
  rintro e w4 ⟨a, c, rfl, hown, o4⟩
  have O4 := Lib.hid (O3.out.trans o4)
  have HO := Lib.hid hown
  clear o4 hown c2 HW HP HA hform
  have c4 := (HB.out.keep O4.out).cell 0 (v := .slice sa nP sc) rfl
  have hP := HPl.out
  have hbP' : (nP : Int) ≤ 140737488355328 := by omega
  rcases hP with rfl | ⟨i, hi, hP⟩
  · clear HO HPl
    go_upto_region 4 with (fail)
    go_quiet (fail)
    go_wp2
    go_ret
    exact ⟨rfl, below_nil (O1.out.trans (O4.out.trans ((Only.refl Nil w4).drewN _)))⟩
  · have hiN : i < nP := by have := HV.out.n; omega
    have hs0 : 0 < W.length := by rcases hP with rfl | ⟨j, _, rfl | ⟨n, _, rfl | ⟨m, _, rfl⟩⟩⟩ <;> simp
    have hW0 : W.getD 0 0 = i + 1 := by rcases hP with rfl | ⟨j, _, rfl | ⟨n, _, rfl | ⟨m, _, rfl⟩⟩⟩ <;> rfl
    obtain ⟨b, rfl, x0⟩ := own_ints HO.out 0 hs0
    rw [hW0] at x0
    obtain ⟨A0, hA0⟩ : ∃ A0 : Int, A0 = ((i + 1 : Nat) : Int) := ⟨_, rfl⟩
    rw [← hA0] at x0
    have t1 : decide (A0 < 1) = false := decide_eq_false (by omega)
    have t2 : decide ((nP : Int) < A0) = false := decide_eq_false (by omega)
    have hwb := w_back i A0 (by omega) (by omega)
    rcases hP with rfl | ⟨j, hj, hP⟩
    · clear HO HPl hwb hA0 hiN hs0 hW0 hi hbP hbP'
      go_upto_region 4 with (fail)
      go_quiet (fail)
      go_wp2
      go_ret
      exact ⟨rfl, below_nil (O1.out.trans (O4.out.trans ((Only.refl Nil w4).drewN _)))⟩
    · have hl2 : 2 ≤ W.length := by rcases hP with rfl | ⟨n, _, rfl | ⟨m, _, rfl⟩⟩ <;> simp
      have hW1 : W.getD 1 0 = j + 1 := by rcases hP with rfl | ⟨n, _, rfl | ⟨m, _, rfl⟩⟩ <;> rfl
      obtain ⟨b', hb', x1⟩ := own_ints HO.out 1 hl2
      obtain rfl : b = b' := by simpa using hb'
      rw [hW1] at x1
      obtain ⟨A1, hA1⟩ : ∃ A1 : Int, A1 = ((j + 1 : Nat) : Int) := ⟨_, rfl⟩
      rw [← hA1] at x1
      obtain ⟨s1, s2, ⟨q, off, rfl, hlt, hc⟩, gC, gS⟩ := (HV.out.keep O4.out).x.at_ HV.out.n i hiN
      obtain ⟨a1, c1, rfl⟩ := gC.slice
      obtain ⟨a2, c2, rfl⟩ := gS.slice
      have hil : i < P.length := by rw [HV.out.n]; exact hiN
      have hgP : gt P i = P[i] := gt_eq hil
      rw [hgP] at hj hP
      have hszK := HV.out.sz.2 _ (List.getElem_mem hil)
      generalize P[i] = x at *
      generalize hnC : x.cases.length = nC at *
      generalize hnS : x.states.length = nS at *
      have hbS : nS ≤ 140737488355328 := by rw [← hnS]; exact hszK.2.1
      have hbS' : (nS : Int) ≤ 140737488355328 := by omega
      have e0 : w4.cell? ⟨q, off + i * 5, none⟩ = some (.string (bs x.name)) := hc 0 (by decide)
      have e1 : w4.cell? ⟨q, off + i * 5 + 1, none⟩ = some (.int .i64 x.limit) := hc 1 (by decide)
      have e2 : w4.cell? ⟨q, off + i * 5 + 2, none⟩ = some (.int .i64 x.within) := hc 2 (by decide)
      have e3 : w4.cell? ⟨q, off + i * 5 + 3, none⟩ = some (.slice a1 nC c1) := hc 3 (by decide)
      have e4 : w4.cell? ⟨q, off + i * 5 + 4, none⟩ = some (.slice a2 nS c2) := hc 4 (by decide)
      have CC := Lib.hid (show ∀ w', Only Nil w4 w' → (fun w' : World => w'.cell? ⟨D, 0, none⟩ = some (.slice (some ⟨q, off, none⟩) nP sc) ∧ w'.cell? ⟨b, 0, none⟩ = some (.int .i64 A0) ∧ w'.cell? ⟨b, 1, none⟩ = some (.int .i64 A1) ∧ w'.cell? ⟨q, off + i * 5, none⟩ = some (.string (bs x.name)) ∧ w'.cell? ⟨q, off + i * 5 + 1, none⟩ = some (.int .i64 x.limit) ∧ w'.cell? ⟨q, off + i * 5 + 2, none⟩ = some (.int .i64 x.within) ∧ w'.cell? ⟨q, off + i * 5 + 3, none⟩ = some (.slice a1 nC c1) ∧ w'.cell? ⟨q, off + i * 5 + 4, none⟩ = some (.slice a2 nS c2)) w' from fun w' o => ⟨only_cell0 o c4, only_cell0 o x0, only_cell0 o x1, only_cell0 o e0, only_cell0 o e1, only_cell0 o e2, only_cell0 o e3, only_cell0 o e4⟩)
      have h0i : (0 : Int) ≤ (i : Int) := Int.natCast_nonneg i
      have hiN' : (i : Int) < (nP : Int) := by omega
      have t3 : decide (A1 < 1) = false := decide_eq_false (by omega)
      have t4 : decide ((nS : Int) < A1) = false := decide_eq_false (by omega)
      have hwb1 := w_back j A1 (by omega) (by omega)
      have HJ := Lib.hid hj
      have hn2 : ∀ n, n < (gt x.states j).rows.length → True := fun _ _ => trivial
      clear hn2
      have HSS := Lib.hid gS
      have HnS := Lib.hid hnS
      have HszK := Lib.hid hszK
      have HJ := Lib.hid hj
      have HO2 := HO
      clear hc hb' hgP hszK hnC hnS hA0 hA1 hW0 hW1 hs0 hl2 hj gC gS hil HPl hbS hbS' hbP hbP' hiN hi
      rcases hP with rfl | ⟨n, hn, hP⟩
      · clear HSS HnS HszK HJ
        go_upto_region 4 with (fail)
        go_quiet (fail)
        go_upto_region 8 with (fail)
        have OA := Lib.hid (show Only Nil w4 (w4.drewN nq) from (Only.refl Nil w4).drewN nq)
        have OO := Lib.hid (show Only Nil w4 (w4.drewN nq).drew from ((Only.refl Nil w4).drewN nq).drew)
        generalize w4.drewN nq = w5 at *
        refine wp_region_held_drew (S := fun w' => w'.cell? ⟨D, 0, none⟩ = some (.slice (some ⟨q, off, none⟩) nP sc) ∧ w'.cell? ⟨b, 0, none⟩ = some (.int .i64 A0) ∧ w'.cell? ⟨b, 1, none⟩ = some (.int .i64 A1) ∧ w'.cell? ⟨q, off + i * 5, none⟩ = some (.string (bs x.name)) ∧ w'.cell? ⟨q, off + i * 5 + 1, none⟩ = some (.int .i64 x.limit) ∧ w'.cell? ⟨q, off + i * 5 + 2, none⟩ = some (.int .i64 x.within) ∧ w'.cell? ⟨q, off + i * 5 + 3, none⟩ = some (.slice a1 nC c1) ∧ w'.cell? ⟨q, off + i * 5 + 4, none⟩ = some (.slice a2 nS c2)) (by kernel_rfl) (CC.out _ OO.out) (fun hHeld => ?_)
        refine take_dst (some 37) (i := 0) (v := ?vh1) rfl (by kernel_rfl) (by kernel_rfl) (by kernel_rfl) (by kernel_rfl) (fun _ _ _ h => h) (Or.inl ⟨by kernel_rfl, ?hh1⟩) (by assumption) ?rh1
        case hh1 => (intro w hSw; (try dsimp only at hSw); first | (go_simp; done) | (go_simp; with_reducible rfl))
        try simp only [Act.put, List.setIfInBounds_toArray, List.set_cons_zero, List.set_cons_succ]
        refine take_dst (some 38) (i := 1) (v := ?vh2) rfl (by kernel_rfl) (by kernel_rfl) (by kernel_rfl) (by kernel_rfl) (fun _ _ _ h => h) (Or.inl ⟨by kernel_rfl, ?hh2⟩) (by assumption) ?rh2
        case hh2 => (intro w hSw; (try dsimp only at hSw); first | (go_simp; done) | (go_simp; with_reducible rfl))
        try simp only [Act.put, List.setIfInBounds_toArray, List.set_cons_zero, List.set_cons_succ]
        refine take_dst (some 39) (i := 2) (v := ?vh3) rfl (by kernel_rfl) (by kernel_rfl) (by kernel_rfl) (by kernel_rfl) (fun _ _ _ h => h) (Or.inl ⟨by kernel_rfl, ?hh3⟩) (by assumption) ?rh3
        case hh3 => (intro w hSw; (try dsimp only at hSw); first | (go_simp; done) | (go_simp; with_reducible rfl))
        try simp only [Act.put, List.setIfInBounds_toArray, List.set_cons_zero, List.set_cons_succ]
        refine take_dst (some 40) (i := 3) (v := ?vh4) rfl (by kernel_rfl) (by kernel_rfl) (by kernel_rfl) (by kernel_rfl) (fun _ _ _ h => h) (Or.inl ⟨by kernel_rfl, ?hh4⟩) (by assumption) ?rh4
        case hh4 => (intro w hSw; (try dsimp only at hSw); first | (go_simp; done) | (go_simp; with_reducible rfl))
        try simp only [Act.put, List.setIfInBounds_toArray, List.set_cons_zero, List.set_cons_succ]
        refine take_dst (some 41) (i := 4) (v := ?vh5) rfl (by kernel_rfl) (by kernel_rfl) (by kernel_rfl) (by kernel_rfl) (fun _ _ _ h => h) (Or.inl ⟨by kernel_rfl, ?hh5⟩) (by assumption) ?rh5
        case hh5 => (intro w hSw; (try dsimp only at hSw); first | (go_simp; done) | (go_simp; with_reducible rfl))
        try simp only [Act.put, List.setIfInBounds_toArray, List.set_cons_zero, List.set_cons_succ]
        refine take_dst (some 42) (i := 5) (v := ?vh6) rfl (by kernel_rfl) (by kernel_rfl) (by kernel_rfl) (by kernel_rfl) (fun _ _ _ h => h) (Or.inl ⟨by kernel_rfl, ?hh6⟩) (by assumption) ?rh6
        case hh6 => (intro w hSw; (try dsimp only at hSw); first | (go_simp; done) | (go_simp; with_reducible rfl))
        try simp only [Act.put, List.setIfInBounds_toArray, List.set_cons_zero, List.set_cons_succ]
        refine take_dst (some 43) (i := 6) (v := ?vh7) rfl (by kernel_rfl) (by kernel_rfl) (by kernel_rfl) (by kernel_rfl) (fun _ _ _ h => h) (Or.inl ⟨by kernel_rfl, ?hh7⟩) (by assumption) ?rh7
        case hh7 => (intro w hSw; (try dsimp only at hSw); first | (go_simp; done) | (go_simp; with_reducible rfl))
        try simp only [Act.put, List.setIfInBounds_toArray, List.set_cons_zero, List.set_cons_succ]
        refine take_dst (some 44) (i := 7) (v := ?vh8) rfl (by kernel_rfl) (by kernel_rfl) (by kernel_rfl) (by kernel_rfl) (fun _ _ _ h => h) (Or.inl ⟨by kernel_rfl, ?hh8⟩) (by assumption) ?rh8
        case hh8 => (intro w hSw; (try dsimp only at hSw); first | (go_simp; done) | (go_simp; with_reducible rfl))
        try simp only [Act.put, List.setIfInBounds_toArray, List.set_cons_zero, List.set_cons_succ]
        refine wpAnyH_ready (rs := [8]) (by kernel_rfl) (by simp) ?_
        refine AllReadyH.cons rfl (fun Kh9 hKh9 => ?_) AllReadyH.nil
        go_simp
        refine hKh9.out _ _ ?sh9 (fun hHeldh9 => ?_)
        case sh9 => exact CC.out _ (OO.out.alloc _)
        clear hKh9 Kh9
        try simp only [Act.put, List.setIfInBounds_toArray, List.set_cons_zero, List.set_cons_succ]
        refine wpAnyH_ready (rs := [9]) (by kernel_rfl) (by simp) ?_
        refine AllReadyH.cons rfl (fun Kh10 hKh10 => ?_) AllReadyH.nil
        go_simp
        refine hKh10.out _ _ ?sh10 (fun hHeldh10 => ?_)
        case sh10 => exact CC.out _ (OO.out.alloc _)
        clear hKh10 Kh10
        try simp only [Act.put, List.setIfInBounds_toArray, List.set_cons_zero, List.set_cons_succ]
        refine wpAnyH_done (by kernel_rfl) ?_ _
        obtain ⟨w6, hw6⟩ : ∃ w6, w6 = (w5.alloc (.cells #[.string (bs x.name), .int .i64 x.limit, .int .i64 x.within, .slice a1 nC c1, .slice a2 nS c2] 66)).drew := ⟨_, rfl⟩
        rw [← hw6]
        have O6 := Lib.hid (show Only Nil w4 w6 from hw6 ▸ ((OA.out.alloc _).drew))
        have B6 : Bx w6 w5.heap.size [.string (bs x.name), .int .i64 x.limit, .int .i64 x.within, .slice a1 nC c1, .slice a2 nS c2] 66 := hw6 ▸ ((bx_new w5 _ _).keep (Only.refl Nil _).drew)
        clear hw6 hHeld
        generalize w5.heap.size = Q5 at *
        clear OA OO
        obtain ⟨_, y0, y1, _⟩ := CC.out _ O6.out
        have b6_0 := B6.cell 0 (v := .string (bs x.name)) rfl
        have b6_1 := B6.cell 1 (v := .int .i64 x.limit) rfl
        have b6_2 := B6.cell 2 (v := .int .i64 x.within) rfl
        have b6_3 := B6.cell 3 (v := .slice a1 nC c1) rfl
        have b6_4 := B6.cell 4 (v := .slice a2 nS c2) rfl
        clear CC B6
        go_upto_region 9 with (fail)
        go_quiet (fail)
        go_wp2
        go_ret
        exact ⟨rfl, below_nil (O1.out.trans (O4.out.trans (O6.out.trans ((Only.refl Nil w6).drewN _))))⟩

      · rcases hP with rfl | ⟨m, hm, rfl⟩
        · obtain ⟨sr, ⟨q2, off2, rfl, _, hc2⟩, gR⟩ := HSS.out.at_ HnS.out j (by have := HJ.out; have := HnS.out; omega)
          obtain ⟨a3, c3, rfl⟩ := gR.slice
          have hjl : j < x.states.length := by have := HJ.out; have := HnS.out; omega
          rw [gt_eq hjl] at hn
          have hszS := HszK.out.2.2 _ (List.getElem_mem hjl)
          generalize x.states[j] = y at *
          generalize hnR : y.rows.length = nR at *
          have u1 : w4.cell? ⟨q2, off2 + j * 2 + 1, none⟩ = some (.slice a3 nR c3) := hc2 1 (by decide)
          have h0j : (0 : Int) ≤ (j : Int) := Int.natCast_nonneg j
          have hjS : (j : Int) < (nS : Int) := by have := HJ.out; have := HnS.out; omega
          have hbR : (nR : Int) ≤ 140737488355328 := by have := hszS.1; omega
          obtain ⟨b2, hb2, x2⟩ := own_ints HO2.out 2 (by simp)
          obtain rfl : b = b2 := by simpa using hb2
          obtain ⟨A2, hA2⟩ : ∃ A2 : Int, A2 = ((n + 1 : Nat) : Int) := ⟨_, rfl⟩
          have x2 : w4.cell? ⟨b, 2, none⟩ = some (.int .i64 A2) := by rw [hA2]; exact x2
          have t5 : decide (A2 < 1) = false := decide_eq_false (by omega)
          have t6 : decide ((nR : Int) < A2) = false := decide_eq_false (by omega)
          have CD := Lib.hid (show ∀ w', Only Nil w4 w' → (fun w' : World => w'.cell? ⟨q2, off2 + j * 2 + 1, none⟩ = some (.slice a3 nR c3) ∧ w'.cell? ⟨b, 2, none⟩ = some (.int .i64 A2)) w' from fun w' o => ⟨only_cell0 o u1, only_cell0 o x2⟩)
          clear HO2 HSS HnS HszK HJ hb2 hA2 hc2 hjl hszS hnR gR hbR hn
          go_upto_region 4 with (fail)
          go_quiet (fail)
          go_upto_region 8 with (fail)
          have OA := Lib.hid (show Only Nil w4 (w4.drewN nq) from (Only.refl Nil w4).drewN nq)
          have OO := Lib.hid (show Only Nil w4 (w4.drewN nq).drew from ((Only.refl Nil w4).drewN nq).drew)
          generalize w4.drewN nq = w5 at *
          refine wp_region_held_drew (S := fun w' => w'.cell? ⟨D, 0, none⟩ = some (.slice (some ⟨q, off, none⟩) nP sc) ∧ w'.cell? ⟨b, 0, none⟩ = some (.int .i64 A0) ∧ w'.cell? ⟨b, 1, none⟩ = some (.int .i64 A1) ∧ w'.cell? ⟨q, off + i * 5, none⟩ = some (.string (bs x.name)) ∧ w'.cell? ⟨q, off + i * 5 + 1, none⟩ = some (.int .i64 x.limit) ∧ w'.cell? ⟨q, off + i * 5 + 2, none⟩ = some (.int .i64 x.within) ∧ w'.cell? ⟨q, off + i * 5 + 3, none⟩ = some (.slice a1 nC c1) ∧ w'.cell? ⟨q, off + i * 5 + 4, none⟩ = some (.slice (some ⟨q2, off2, none⟩) nS c2)) (by kernel_rfl) (CC.out _ OO.out) (fun hHeld => ?_)
          refine take_dst (some 37) (i := 0) (v := ?vhg1) rfl (by kernel_rfl) (by kernel_rfl) (by kernel_rfl) (by kernel_rfl) (fun _ _ _ h => h) (Or.inl ⟨by kernel_rfl, ?hhg1⟩) (by assumption) ?rhg1
          case hhg1 => (intro w hSw; (try dsimp only at hSw); first | (go_simp; done) | (go_simp; with_reducible rfl))
          try simp only [Act.put, List.setIfInBounds_toArray, List.set_cons_zero, List.set_cons_succ]
          refine take_dst (some 38) (i := 1) (v := ?vhg2) rfl (by kernel_rfl) (by kernel_rfl) (by kernel_rfl) (by kernel_rfl) (fun _ _ _ h => h) (Or.inl ⟨by kernel_rfl, ?hhg2⟩) (by assumption) ?rhg2
          case hhg2 => (intro w hSw; (try dsimp only at hSw); first | (go_simp; done) | (go_simp; with_reducible rfl))
          try simp only [Act.put, List.setIfInBounds_toArray, List.set_cons_zero, List.set_cons_succ]
          refine take_dst (some 39) (i := 2) (v := ?vhg3) rfl (by kernel_rfl) (by kernel_rfl) (by kernel_rfl) (by kernel_rfl) (fun _ _ _ h => h) (Or.inl ⟨by kernel_rfl, ?hhg3⟩) (by assumption) ?rhg3
          case hhg3 => (intro w hSw; (try dsimp only at hSw); first | (go_simp; done) | (go_simp; with_reducible rfl))
          try simp only [Act.put, List.setIfInBounds_toArray, List.set_cons_zero, List.set_cons_succ]
          refine take_dst (some 40) (i := 3) (v := ?vhg4) rfl (by kernel_rfl) (by kernel_rfl) (by kernel_rfl) (by kernel_rfl) (fun _ _ _ h => h) (Or.inl ⟨by kernel_rfl, ?hhg4⟩) (by assumption) ?rhg4
          case hhg4 => (intro w hSw; (try dsimp only at hSw); first | (go_simp; done) | (go_simp; with_reducible rfl))
          try simp only [Act.put, List.setIfInBounds_toArray, List.set_cons_zero, List.set_cons_succ]
          refine take_dst (some 41) (i := 4) (v := ?vhg5) rfl (by kernel_rfl) (by kernel_rfl) (by kernel_rfl) (by kernel_rfl) (fun _ _ _ h => h) (Or.inl ⟨by kernel_rfl, ?hhg5⟩) (by assumption) ?rhg5
          case hhg5 => (intro w hSw; (try dsimp only at hSw); first | (go_simp; done) | (go_simp; with_reducible rfl))
          try simp only [Act.put, List.setIfInBounds_toArray, List.set_cons_zero, List.set_cons_succ]
          refine take_dst (some 42) (i := 5) (v := ?vhg6) rfl (by kernel_rfl) (by kernel_rfl) (by kernel_rfl) (by kernel_rfl) (fun _ _ _ h => h) (Or.inl ⟨by kernel_rfl, ?hhg6⟩) (by assumption) ?rhg6
          case hhg6 => (intro w hSw; (try dsimp only at hSw); first | (go_simp; done) | (go_simp; with_reducible rfl))
          try simp only [Act.put, List.setIfInBounds_toArray, List.set_cons_zero, List.set_cons_succ]
          refine take_dst (some 43) (i := 6) (v := ?vhg7) rfl (by kernel_rfl) (by kernel_rfl) (by kernel_rfl) (by kernel_rfl) (fun _ _ _ h => h) (Or.inl ⟨by kernel_rfl, ?hhg7⟩) (by assumption) ?rhg7
          case hhg7 => (intro w hSw; (try dsimp only at hSw); first | (go_simp; done) | (go_simp; with_reducible rfl))
          try simp only [Act.put, List.setIfInBounds_toArray, List.set_cons_zero, List.set_cons_succ]
          refine take_dst (some 44) (i := 7) (v := ?vhg8) rfl (by kernel_rfl) (by kernel_rfl) (by kernel_rfl) (by kernel_rfl) (fun _ _ _ h => h) (Or.inl ⟨by kernel_rfl, ?hhg8⟩) (by assumption) ?rhg8
          case hhg8 => (intro w hSw; (try dsimp only at hSw); first | (go_simp; done) | (go_simp; with_reducible rfl))
          try simp only [Act.put, List.setIfInBounds_toArray, List.set_cons_zero, List.set_cons_succ]
          refine wpAnyH_ready (rs := [8]) (by kernel_rfl) (by simp) ?_
          refine AllReadyH.cons rfl (fun Khg9 hKhg9 => ?_) AllReadyH.nil
          go_simp
          refine hKhg9.out _ _ ?shg9 (fun hHeldhg9 => ?_)
          case shg9 => exact CC.out _ (OO.out.alloc _)
          clear hKhg9 Khg9
          try simp only [Act.put, List.setIfInBounds_toArray, List.set_cons_zero, List.set_cons_succ]
          refine wpAnyH_ready (rs := [9]) (by kernel_rfl) (by simp) ?_
          refine AllReadyH.cons rfl (fun Khg10 hKhg10 => ?_) AllReadyH.nil
          go_simp
          refine hKhg10.out _ _ ?shg10 (fun hHeldhg10 => ?_)
          case shg10 => exact CC.out _ (OO.out.alloc _)
          clear hKhg10 Khg10
          try simp only [Act.put, List.setIfInBounds_toArray, List.set_cons_zero, List.set_cons_succ]
          refine wpAnyH_done (by kernel_rfl) ?_ _
          obtain ⟨w6, hw6⟩ : ∃ w6, w6 = (w5.alloc (.cells #[.string (bs x.name), .int .i64 x.limit, .int .i64 x.within, .slice a1 nC c1, .slice (some ⟨q2, off2, none⟩) nS c2] 66)).drew := ⟨_, rfl⟩
          rw [← hw6]
          have O6 := Lib.hid (show Only Nil w4 w6 from hw6 ▸ ((OA.out.alloc _).drew))
          have B6 : Bx w6 w5.heap.size [.string (bs x.name), .int .i64 x.limit, .int .i64 x.within, .slice a1 nC c1, .slice (some ⟨q2, off2, none⟩) nS c2] 66 := hw6 ▸ ((bx_new w5 _ _).keep (Only.refl Nil _).drew)
          clear hw6 hHeld
          generalize w5.heap.size = Q5 at *
          clear OA OO
          obtain ⟨_, y0, y1, _⟩ := CC.out _ O6.out
          have b6_0 := B6.cell 0 (v := .string (bs x.name)) rfl
          have b6_1 := B6.cell 1 (v := .int .i64 x.limit) rfl
          have b6_2 := B6.cell 2 (v := .int .i64 x.within) rfl
          have b6_3 := B6.cell 3 (v := .slice a1 nC c1) rfl
          have b6_4 := B6.cell 4 (v := .slice (some ⟨q2, off2, none⟩) nS c2) rfl
          clear CC B6
          obtain ⟨v1, y2⟩ := CD.out _ O6.out
          clear CD
          go_upto_region 9 with (fail)
          go_quiet (fail)
          have O7 := Lib.hid (show Only Nil w4 (w6.drewN nq) from O6.out.trans ((Only.refl Nil w6).drewN _))
          go_upto_region 13 with (fail)
          go_quiet (fail)
          go_upto_region 16 with (fail)
          go_quiet (fail)
          go_wp2
          go_ret
          exact ⟨rfl, below_nil (O1.out.trans (O4.out.trans (O6.out.trans (((Only.refl Nil w6).drewN _).drewN _))))⟩
        · obtain ⟨sr, ⟨q2, off2, rfl, _, hc2⟩, gR⟩ := HSS.out.at_ HnS.out j (by have := HJ.out; have := HnS.out; omega)
          obtain ⟨a3, c3, rfl⟩ := gR.slice
          have hjl : j < x.states.length := by have := HJ.out; have := HnS.out; omega
          rw [gt_eq hjl] at hn hm
          have hszS := HszK.out.2.2 _ (List.getElem_mem hjl)
          generalize x.states[j] = y at *
          generalize hnR : y.rows.length = nR at *
          have u1 : w4.cell? ⟨q2, off2 + j * 2 + 1, none⟩ = some (.slice a3 nR c3) := hc2 1 (by decide)
          have h0j : (0 : Int) ≤ (j : Int) := Int.natCast_nonneg j
          have hjS : (j : Int) < (nS : Int) := by have := HJ.out; have := HnS.out; omega
          have hbR : (nR : Int) ≤ 140737488355328 := by have := hszS.1; omega
          obtain ⟨b2, hb2, x2⟩ := own_ints HO2.out 2 (by simp)
          obtain rfl : b = b2 := by simpa using hb2
          obtain ⟨A2, hA2⟩ : ∃ A2 : Int, A2 = ((n + 1 : Nat) : Int) := ⟨_, rfl⟩
          have x2 : w4.cell? ⟨b, 2, none⟩ = some (.int .i64 A2) := by rw [hA2]; exact x2
          have t5 : decide (A2 < 1) = false := decide_eq_false (by omega)
          have t6 : decide ((nR : Int) < A2) = false := decide_eq_false (by omega)
          have hnl : n < y.rows.length := by omega
          rw [gt_eq hnl] at hm
          obtain ⟨se, ⟨q3, off3, rfl, _, hc3⟩, gE⟩ := gR.at_ hnR n (by omega)
          obtain ⟨a4, c4, rfl⟩ := gE.slice
          have hszR := hszS.2 _ (List.getElem_mem hnl)
          generalize y.rows[n] = z at *
          generalize hnE : z.effs.length = nE at *
          have r3 : w4.cell? ⟨q3, off3 + n * 4 + 3, none⟩ = some (.slice a4 nE c4) := hc3 3 (by decide)
          have hbE : (nE : Int) ≤ 140737488355328 := by have := hszR; unfold szR at this; omega
          obtain ⟨b3, hb3, x3⟩ := own_ints HO2.out 3 (by simp)
          obtain rfl : b = b3 := by simpa using hb3
          obtain ⟨A3, hA3⟩ : ∃ A3 : Int, A3 = ((m + 1 : Nat) : Int) := ⟨_, rfl⟩
          have h0n : (0 : Int) ≤ (n : Int) := Int.natCast_nonneg n
          have hnR' : (n : Int) < (nR : Int) := by omega
          have hwb2 := w_back n A2 (by omega) (by omega)
          have t7 : decide (1 ≤ A3) = true := decide_eq_true (by omega)
          have t8 : decide (A3 ≤ (nE : Int)) = true := decide_eq_true (by omega)
          have x3 : w4.cell? ⟨b, 3, none⟩ = some (.int .i64 A3) := by rw [hA3]; exact x3
          have CD := Lib.hid (show ∀ w', Only Nil w4 w' → (fun w' : World => w'.cell? ⟨q2, off2 + j * 2 + 1, none⟩ = some (.slice (some ⟨q3, off3, none⟩) nR c3) ∧ w'.cell? ⟨b, 2, none⟩ = some (.int .i64 A2) ∧ w'.cell? ⟨b, 3, none⟩ = some (.int .i64 A3) ∧ w'.cell? ⟨q3, off3 + n * 4 + 3, none⟩ = some (.slice a4 nE c4)) w' from fun w' o => ⟨only_cell0 o u1, only_cell0 o x2, only_cell0 o x3, only_cell0 o r3⟩)
          clear HO2 HSS HnS HszK HJ hb2 hA2 hc2 hjl hszS hnR gR hbR hn hb3 hc3 hm gE hszR hnl hnE hbE hA3
          go_upto_region 4 with (fail)
          go_quiet (fail)
          go_upto_region 8 with (fail)
          have OA := Lib.hid (show Only Nil w4 (w4.drewN nq) from (Only.refl Nil w4).drewN nq)
          have OO := Lib.hid (show Only Nil w4 (w4.drewN nq).drew from ((Only.refl Nil w4).drewN nq).drew)
          generalize w4.drewN nq = w5 at *
          refine wp_region_held_drew (S := fun w' => w'.cell? ⟨D, 0, none⟩ = some (.slice (some ⟨q, off, none⟩) nP sc) ∧ w'.cell? ⟨b, 0, none⟩ = some (.int .i64 A0) ∧ w'.cell? ⟨b, 1, none⟩ = some (.int .i64 A1) ∧ w'.cell? ⟨q, off + i * 5, none⟩ = some (.string (bs x.name)) ∧ w'.cell? ⟨q, off + i * 5 + 1, none⟩ = some (.int .i64 x.limit) ∧ w'.cell? ⟨q, off + i * 5 + 2, none⟩ = some (.int .i64 x.within) ∧ w'.cell? ⟨q, off + i * 5 + 3, none⟩ = some (.slice a1 nC c1) ∧ w'.cell? ⟨q, off + i * 5 + 4, none⟩ = some (.slice (some ⟨q2, off2, none⟩) nS c2)) (by kernel_rfl) (CC.out _ OO.out) (fun hHeld => ?_)
          refine take_dst (some 37) (i := 0) (v := ?vhh1) rfl (by kernel_rfl) (by kernel_rfl) (by kernel_rfl) (by kernel_rfl) (fun _ _ _ h => h) (Or.inl ⟨by kernel_rfl, ?hhh1⟩) (by assumption) ?rhh1
          case hhh1 => (intro w hSw; (try dsimp only at hSw); first | (go_simp; done) | (go_simp; with_reducible rfl))
          try simp only [Act.put, List.setIfInBounds_toArray, List.set_cons_zero, List.set_cons_succ]
          refine take_dst (some 38) (i := 1) (v := ?vhh2) rfl (by kernel_rfl) (by kernel_rfl) (by kernel_rfl) (by kernel_rfl) (fun _ _ _ h => h) (Or.inl ⟨by kernel_rfl, ?hhh2⟩) (by assumption) ?rhh2
          case hhh2 => (intro w hSw; (try dsimp only at hSw); first | (go_simp; done) | (go_simp; with_reducible rfl))
          try simp only [Act.put, List.setIfInBounds_toArray, List.set_cons_zero, List.set_cons_succ]
          refine take_dst (some 39) (i := 2) (v := ?vhh3) rfl (by kernel_rfl) (by kernel_rfl) (by kernel_rfl) (by kernel_rfl) (fun _ _ _ h => h) (Or.inl ⟨by kernel_rfl, ?hhh3⟩) (by assumption) ?rhh3
          case hhh3 => (intro w hSw; (try dsimp only at hSw); first | (go_simp; done) | (go_simp; with_reducible rfl))
          try simp only [Act.put, List.setIfInBounds_toArray, List.set_cons_zero, List.set_cons_succ]
          refine take_dst (some 40) (i := 3) (v := ?vhh4) rfl (by kernel_rfl) (by kernel_rfl) (by kernel_rfl) (by kernel_rfl) (fun _ _ _ h => h) (Or.inl ⟨by kernel_rfl, ?hhh4⟩) (by assumption) ?rhh4
          case hhh4 => (intro w hSw; (try dsimp only at hSw); first | (go_simp; done) | (go_simp; with_reducible rfl))
          try simp only [Act.put, List.setIfInBounds_toArray, List.set_cons_zero, List.set_cons_succ]
          refine take_dst (some 41) (i := 4) (v := ?vhh5) rfl (by kernel_rfl) (by kernel_rfl) (by kernel_rfl) (by kernel_rfl) (fun _ _ _ h => h) (Or.inl ⟨by kernel_rfl, ?hhh5⟩) (by assumption) ?rhh5
          case hhh5 => (intro w hSw; (try dsimp only at hSw); first | (go_simp; done) | (go_simp; with_reducible rfl))
          try simp only [Act.put, List.setIfInBounds_toArray, List.set_cons_zero, List.set_cons_succ]
          refine take_dst (some 42) (i := 5) (v := ?vhh6) rfl (by kernel_rfl) (by kernel_rfl) (by kernel_rfl) (by kernel_rfl) (fun _ _ _ h => h) (Or.inl ⟨by kernel_rfl, ?hhh6⟩) (by assumption) ?rhh6
          case hhh6 => (intro w hSw; (try dsimp only at hSw); first | (go_simp; done) | (go_simp; with_reducible rfl))
          try simp only [Act.put, List.setIfInBounds_toArray, List.set_cons_zero, List.set_cons_succ]
          refine take_dst (some 43) (i := 6) (v := ?vhh7) rfl (by kernel_rfl) (by kernel_rfl) (by kernel_rfl) (by kernel_rfl) (fun _ _ _ h => h) (Or.inl ⟨by kernel_rfl, ?hhh7⟩) (by assumption) ?rhh7
          case hhh7 => (intro w hSw; (try dsimp only at hSw); first | (go_simp; done) | (go_simp; with_reducible rfl))
          try simp only [Act.put, List.setIfInBounds_toArray, List.set_cons_zero, List.set_cons_succ]
          refine take_dst (some 44) (i := 7) (v := ?vhh8) rfl (by kernel_rfl) (by kernel_rfl) (by kernel_rfl) (by kernel_rfl) (fun _ _ _ h => h) (Or.inl ⟨by kernel_rfl, ?hhh8⟩) (by assumption) ?rhh8
          case hhh8 => (intro w hSw; (try dsimp only at hSw); first | (go_simp; done) | (go_simp; with_reducible rfl))
          try simp only [Act.put, List.setIfInBounds_toArray, List.set_cons_zero, List.set_cons_succ]
          refine wpAnyH_ready (rs := [8]) (by kernel_rfl) (by simp) ?_
          refine AllReadyH.cons rfl (fun Khh9 hKhh9 => ?_) AllReadyH.nil
          go_simp
          refine hKhh9.out _ _ ?shh9 (fun hHeldhh9 => ?_)
          case shh9 => exact CC.out _ (OO.out.alloc _)
          clear hKhh9 Khh9
          try simp only [Act.put, List.setIfInBounds_toArray, List.set_cons_zero, List.set_cons_succ]
          refine wpAnyH_ready (rs := [9]) (by kernel_rfl) (by simp) ?_
          refine AllReadyH.cons rfl (fun Khh10 hKhh10 => ?_) AllReadyH.nil
          go_simp
          refine hKhh10.out _ _ ?shh10 (fun hHeldhh10 => ?_)
          case shh10 => exact CC.out _ (OO.out.alloc _)
          clear hKhh10 Khh10
          try simp only [Act.put, List.setIfInBounds_toArray, List.set_cons_zero, List.set_cons_succ]
          refine wpAnyH_done (by kernel_rfl) ?_ _
          obtain ⟨w6, hw6⟩ : ∃ w6, w6 = (w5.alloc (.cells #[.string (bs x.name), .int .i64 x.limit, .int .i64 x.within, .slice a1 nC c1, .slice (some ⟨q2, off2, none⟩) nS c2] 66)).drew := ⟨_, rfl⟩
          rw [← hw6]
          have O6 := Lib.hid (show Only Nil w4 w6 from hw6 ▸ ((OA.out.alloc _).drew))
          have B6 : Bx w6 w5.heap.size [.string (bs x.name), .int .i64 x.limit, .int .i64 x.within, .slice a1 nC c1, .slice (some ⟨q2, off2, none⟩) nS c2] 66 := hw6 ▸ ((bx_new w5 _ _).keep (Only.refl Nil _).drew)
          clear hw6 hHeld
          generalize w5.heap.size = Q5 at *
          clear OA OO
          obtain ⟨_, y0, y1, _⟩ := CC.out _ O6.out
          have b6_0 := B6.cell 0 (v := .string (bs x.name)) rfl
          have b6_1 := B6.cell 1 (v := .int .i64 x.limit) rfl
          have b6_2 := B6.cell 2 (v := .int .i64 x.within) rfl
          have b6_3 := B6.cell 3 (v := .slice a1 nC c1) rfl
          have b6_4 := B6.cell 4 (v := .slice (some ⟨q2, off2, none⟩) nS c2) rfl
          clear CC B6
          obtain ⟨v1, y2, y3, v3⟩ := CD.out _ O6.out
          clear CD
          go_upto_region 9 with (fail)
          go_quiet (fail)
          have O7 := Lib.hid (show Only Nil w4 (w6.drewN nq) from O6.out.trans ((Only.refl Nil w6).drewN _))
          go_upto_region 13 with (fail)
          go_quiet (fail)
          go_upto_region 16 with (fail)
          go_quiet (fail)
          go_wp2
          go_ret
          exact ⟨rfl, below_nil (O1.out.trans (O4.out.trans (O6.out.trans (((Only.refl Nil w6).drewN _).drewN _))))⟩
end Go.Proofs.YtdhokkmflccaaaaGreatDoor.Ch
