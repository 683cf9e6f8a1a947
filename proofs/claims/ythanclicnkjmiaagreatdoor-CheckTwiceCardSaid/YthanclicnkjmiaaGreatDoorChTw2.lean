/- check: the rest of a row, appended to one element. -/
import Derived.Test.YthanclicnkjmiaaGreatDoorChTw0
import Derived.Deep.DeepCutAuto
set_option linter.unusedVariables false
namespace Go.Proofs.YthanclicnkjmiaaGreatDoor.Ch
open Go Go.RowKit Go.Proofs.YthanclicnkjmiaaGreatDoor Lx Ps

theorem cin_tail {α : Type} {D s n c q off : Nat} {w : World} {f : α → List Value} (hf : ∀ x, (f x).length = s) {Z : List α} (h : CIn D w (.slice (some ⟨q, off, none⟩) n c) n s (Z.flatMap f)) (hZ : Z.length = n) (hn : 1 ≤ n) (A : Addr) (hA : A = ⟨q, off + s, none⟩ ∨ n = 1) :
    CIn D w (.slice (some A) (n - 1) (c - 1)) (n - 1) s ((Z.drop 1).flatMap f) := by
  have hcap := CIn.cap h
  obtain ⟨a', c', ⟨h1, _⟩, h2, h3⟩ := h
  simp only [Value.slice.injEq] at h1
  obtain ⟨rfl, _, rfl⟩ := h1
  have hl : ((Z.drop 1).flatMap f).length = (n - 1) * s := by rw [flat_len hf, List.length_drop, hZ]
  refine ⟨_, _, ⟨rfl, by omega⟩, hl, fun i hi => ?_⟩
  rcases hA with rfl | h1
  · match Z, hZ with
    | z :: T, hZ =>
      simp only [List.drop_succ_cons, List.drop_zero] at hl hi ⊢
      rw [List.flatMap_cons] at h2 h3
      obtain ⟨b, o, ha, hD, hb, hc⟩ := h3 i (by rw [List.length_append]; omega)
      simp only [Option.some.injEq, Addr.mk.injEq, and_true] at ha
      obtain ⟨rfl, rfl⟩ := ha
      refine ⟨q, off + s, rfl, hD, hb, fun j hj => ?_⟩
      have := hc (s + j) (by rw [List.length_append, hf]; omega)
      rw [List.getElem?_append_right (by rw [hf]; omega), hf, Nat.add_sub_cancel_left] at this
      rw [Nat.add_assoc]
      exact this
  · subst h1
    rw [hl] at hi
    simp at hi
/-- append of what came in to one element of one's own. -/
theorem app_rest {P : Program} {w : World} {t ty e : TypeId} {z : Value} {size bytes : Nat} (ht : P.underlying t = some (.slice e)) (hi : (P.info? e).map (fun i => (i.zero, i.size, i.bytes)) = some (some z, size, bytes)) (hzs : z.cells.size = size)
    {D m c b : Nat} {A : Addr} {xs cs : List Value} (hB : Bx w b xs e) (hl : xs.length = size) (h : CIn D w (.slice (some A) m c) m size cs) (hs : 0 < size) (hy : 0 < bytes) (hb : (1 + m) * bytes ≤ 140737488355328) :
    ∃ g' c' w', (Builtin.append_ #[t, t] ty #[.slice (some ⟨b, 0, none⟩) 1 1, .slice (some A) m c]).run P w = .ok (.slice (some ⟨g', 0, none⟩) (1 + m) c') w' ∧ w'.ownsRow 0 e size (.slice (some ⟨g', 0, none⟩) (1 + m) c') (1 + m) (xs ++ cs) ∧ Only Nil w w' ∧ (g' = b ∨ w.heap.size ≤ g') := by
  obtain ⟨i0, hi0, hz0, hz1, hz2⟩ := info_parts hi
  have own1 : w.ownsRow 0 e size (.slice (some ⟨b, 0, none⟩) 1 1) 1 xs :=
    ⟨by omega, Or.inr ⟨b, 1, xs.toArray, rfl, Nat.zero_le _, hB, Nat.le_refl _, by unfold maxLen; omega, by simp [hl], by rw [Nat.one_mul, ← hl]; exact List.take_length⟩⟩
  by_cases h0 : m = 0
  · subst h0
    obtain ⟨a', c0, ⟨h1, _⟩, h2, h3⟩ := h
    obtain rfl : cs = [] := List.eq_nil_of_length_eq_zero (by omega)
    refine ⟨b, 1, w, ?_, by simpa using own1, Only.refl _ _, Or.inl rfl⟩
    have hf := run_firstCells_some (P := P) w i0.size 0 A 0 c [] (by simp) (by simp)
    simp [Builtin.append_, run_underlying ht, sizeOf, typeInfo, hi0, Builtin.lenOf, hf, storeCells, Result.andThen]
  · obtain ⟨a', c0, ⟨h1, _⟩, h2, h3⟩ := h
    simp only [Value.slice.injEq] at h1
    obtain ⟨rfl, _, rfl⟩ := h1
    obtain ⟨b', off, hA, _, _, hc⟩ := h3 0 (by rw [h2]; exact Nat.mul_pos (by omega) hs)
    obtain rfl : A = ⟨b', off, none⟩ := Option.some.inj hA
    have hnb : (1 + m) * 1 ≤ (1 + m) * bytes := Nat.mul_le_mul_left _ hy
    obtain ⟨c', w', hr, ho, hon⟩ := run_append_new (P := P) w t ty e i0 z size bytes ht hi0 hz0 hz1 hz2 hzs (some ⟨b, 0, none⟩) 1 xs own1 ⟨b', off, none⟩ m c (by omega) cs h2 (fun j u hj => by
      have hl : j < cs.length := (List.getElem?_eq_some_iff.1 hj).1
      have := (hc j hl).trans hj
      rw [show (⟨b', off, none⟩ : Addr).add j = ⟨b', off + j, none⟩ from by by_cases h0 : j = 0 <;> simp [Addr.add, h0]]
      exact this) (by unfold maxLen; omega) hb
    exact ⟨_, c', w', hr, ho, hon, Or.inr (Nat.le_refl _)⟩
end Go.Proofs.YthanclicnkjmiaaGreatDoor.Ch

/- check: CheckTwice, where a row is added once more. -/
set_option linter.unusedVariables false
set_option linter.unusedSimpArgs false
namespace Go.Proofs.YthanclicnkjmiaaGreatDoor.Ch
open Go Go.RowKit Go.Proofs.YthanclicnkjmiaaGreatDoor Lx Ps

/-- A statement, behind others. -/
structure Split_twice_2 (S : Prop) where
  P1 : Prop
  go : Hid P1 → S
set_option maxRecDepth 100000 in
set_option maxHeartbeats 100000000 in
noncomputable def split_twice_2 : Split_twice_2 (∀ (P : List Kd) (sl : Value) (wh lv : Int) (w : World) (hx : XK w.heap.size w sl P) (wf : wfP P) (bz : bzP P) (iw : 0 ≤ wh ∧ wh ≤ 255) (h3 : lv.tmod 3 = 2) (E : EnvE w), Calls Tryz.prog 6 #[.agg #[sl], .int .u8 wh, .int .u8 lv] w fun e w' => e = .returned (.bool true) ∧ Below w.heap.size w w') := ⟨_, fun hS1z => by
  intro P sl wh lv w hx wf bz iw h3 E
  have sz := bz.sz
  obtain ⟨sa, sc, rfl⟩ := hx.slice
  generalize hnP : P.length = nP at *
  obtain ⟨w1, hw1⟩ : ∃ w1, w1 = w.alloc (.cells #[.slice sa nP sc] 25) := ⟨_, rfl⟩
  have o1 : Only Nil w w1 := hw1 ▸ (Only.refl Nil w).alloc _
  have HB := Lib.hid (show Bx w1 w.heap.size [.slice sa nP sc] 25 from hw1 ▸ bx_new w _ _)
  have hbP : nP ≤ 140737488355328 := by rw [← hnP]; exact sz.1
  have HV := Lib.hid (show VK w.heap.size w1 P sa nP sc from ⟨hx.keep o1 (nilS · _), hnP, hbP, sz, wf⟩)
  have HZ := Lib.hid bz
  have HE1 := Lib.hid (E.keep o1)
  have HA := Lib.hid (alive_any w1 (E.keep o1))
  have O1 := Lib.hid o1
  clear hx wf sz E o1 hnP bz
  go_enter Tryz.func6, Tryz.ntmps6
  go_upto_region 1 with (fail)
  rw [← hw1]; clear hw1
  have HLe := Lib.hid (show w.heap.size ≤ w1.heap.size from O1.out.size)
  have HDlt := Lib.hid (show w.heap.size < w1.heap.size from lt_of_block HB.out)
  generalize hD : w.heap.size = D at *
  go_wp2_with fail
  refine HA.out.mono ?_
  rintro e w2' ⟨rfl, o2⟩
  have c2' := (HB.out.keep o2).cell 0 (v := .slice sa nP sc) rfl
  have HP := Lib.hid (prog_err (HV.out.keep o2) (Lib.hid (Nat.le_trans HLe.out o2.size)))
  have O2' := Lib.hid o2
  clear o2 HA
  cases hwh : whole P with
  | some x =>
    rw [hwh] at HP
    clear hwh
    go_wp2_with fail
    refine HP.out.mono ?_
    rintro e w3 ⟨v, rfl, ⟨b, rfl, _⟩, o3⟩
    go_wp2
    go_ret
    exact ⟨rfl, below_nil ((O1.out.trans O2'.out).trans o3)⟩
  | none =>
  rw [hwh] at HP
  have HWn := Lib.hid hwh
  have hn18 : 1 ≤ nP ∧ nP ≤ 8 := by rw [← HV.out.n]; exact (whole_none.1 hwh).1
  clear hwh
  go_wp2_with fail
  refine HP.out.mono ?_
  rintro e w2 ⟨v, rfl, hv, o3⟩
  obtain rfl : v = .nilIface := hv
  have O2 := Lib.hid (O2'.out.trans o3)
  clear o3 c2' HP O2'
  have c2 := (HB.out.keep O2.out).cell 0 (v := .slice sa nP sc) rfl
  obtain ⟨Z, hZ, hcK, hiK⟩ := (HV.out.keep O2.out).x
  rw [HV.out.n] at hcK
  have hZl : Z.length = nP := by rw [← HV.out.n, ← hZ, List.length_map]
  obtain ⟨i, hi⟩ : ∃ i : Nat, wh.tmod (nP : Int) = (i : Int) := ⟨(wh.tmod nP).toNat, by have := Int.tmod_nonneg (nP : Int) iw.1; omega⟩
  have hiN : i < nP := by have := Int.tmod_lt_of_pos wh (show (0 : Int) < (nP : Int) by omega); omega
  have hil : i < P.length := by rw [HV.out.n]; exact hiN
  obtain ⟨q, off, rfl, hlt, hc⟩ := CIn.at_ (f := kdCs) (s := 5) (fun _ => rfl) (by decide) hcK hZl i hiN
  obtain ⟨gC, gS⟩ := hiK _ (List.getElem_mem (show i < Z.length by omega))
  have hzx : (Z[i]'(by omega)).1 = P[i] := by subst hZ; simp
  obtain ⟨z, hzi⟩ : ∃ z, z = Z[i]'(by omega) := ⟨_, rfl⟩
  rw [← hzi] at hc gC gS hzx
  obtain ⟨x, s1, s2⟩ := z
  dsimp only at hc gC gS hzx
  obtain ⟨a1, c1, rfl⟩ := gC.slice
  obtain ⟨a2, c2', rfl⟩ := gS.slice
  have HZk := Lib.hid (HZ.out.2 _ (List.getElem_mem hil))
  have HWk := Lib.hid (HV.out.wf _ (List.getElem_mem hil))
  obtain ⟨x', hxx⟩ : ∃ x', x' = P[i] := ⟨_, rfl⟩
  rw [← hxx] at HZk HWk hzx
  subst hzx
  have HXX := Lib.hid hxx
  clear hxx
  generalize hnC : x.cases.length = nC at *
  generalize hnS : x.states.length = nS at *
  have hbS : nS * 40 ≤ 140737488355328 := by rw [← hnS]; exact HZk.out.2.1
  have hiNi : (i : Int) < (nP : Int) := by omega
  have h0i : (0 : Int) ≤ (i : Int) := Int.natCast_nonneg i
  have hnz : ¬ ((nP : Int) = 0) := by omega
  have HSS := Lib.hid gS
  have HCC := Lib.hid gC
  have HcK := Lib.hid hcK
  have HiK := Lib.hid hiK
  have HZi := Lib.hid (show ∀ h : i < Z.length, (x, Value.slice a1 nC c1, Value.slice a2 nS c2') = Z[i]'h from fun _ => hzi)
  have HZe := Lib.hid hZ
  have HZl := Lib.hid hZl
  clear hcK hiK hzi hZ
  have hDl : D < w2.heap.size := Nat.lt_of_lt_of_le HDlt.out O2.out.size
  have oa : Only Nil w2 (w2.alloc (.cells #[] 56)) := (Only.refl Nil w2).alloc _
  obtain ⟨cq, w3, hrun1, own1, o3⟩ := copy_cin (P := Tryz.prog) (t := 23) (ty := 23) Tryz.underlying23 Tryz.infoKd rfl (HcK.out.keep oa (nilS · D)) (own_empty w2 56 5) (by omega) (by decide) (by decide) (by have := HZ.out.1; rw [HV.out.n] at this; exact this)
  have HR1 := Lib.hid hrun1
  have ca := only_cell0 oa c2
  have hsa : (w2.alloc (.cells #[] 56)).heap.size = w2.heap.size + 1 := by simp
  rw [hsa] at own1
  have k6_0 : w2.cell? ⟨q, off + i * 5, none⟩ = some (.string (bs x.name)) := hc 0 (by decide)
  have k6_1 : w2.cell? ⟨q, off + i * 5 + 1, none⟩ = some (.int .i64 x.limit) := hc 1 (by decide)
  have k6_2 : w2.cell? ⟨q, off + i * 5 + 2, none⟩ = some (.int .i64 x.within) := hc 2 (by decide)
  have k6_3 : w2.cell? ⟨q, off + i * 5 + 3, none⟩ = some (.slice a1 nC c1) := hc 3 (by decide)
  have k6_4 : w2.cell? ⟨q, off + i * 5 + 4, none⟩ = some (.slice a2 nS c2') := hc 4 (by decide)
  have HC5 := Lib.hid hc
  clear hc gC gS
  go_upto_region 5 with (fail)
  go_upto_region 6 with (at_builtin; refine Lib.wpList_append_run _ rfl (.tmp 22) (.tmp 24) 23 23 rfl _ _ rfl rfl _ _ HR1.out ?_)
  have hg1 := (own1.lt (w2.heap.size + 1) rfl).2
  have OW1 := Lib.hid own1
  have hg1' : w2.heap.size < w2.heap.size + 1 := by omega
  generalize w2.heap.size + 1 = g1 at *
  obtain ⟨w4, hw4⟩ : ∃ w4, w4 = w3.alloc (.cells #[.slice (some ⟨g1, 0, none⟩) nP cq] 25) := ⟨_, rfl⟩
  rw [← hw4]
  have o34 : Only Nil w3 w4 := hw4 ▸ (Only.refl Nil w3).alloc _
  have OT := Lib.hid (oa.trans (o3.trans o34))
  have BQ := Lib.hid (show Bx w4 w3.heap.size [.slice (some ⟨g1, 0, none⟩) nP cq] 25 from hw4 ▸ bx_new w3 _ _)
  have OW4 := Lib.hid (own_keep OW1.out o34 (fun _ _ h => h))
  clear OW1 own1 hw4 oa o3 o34 hrun1 HR1 ca hsa
  generalize w3.heap.size = Qb at *
  have hQl := lt_of_block BQ.out
  have k7_0 := only_cell0 OT.out k6_0
  have k7_1 := only_cell0 OT.out k6_1
  have k7_2 := only_cell0 OT.out k6_2
  have k7_3 := only_cell0 OT.out k6_3
  have k7_4 := only_cell0 OT.out k6_4
  have c4 := only_cell0 OT.out c2
  clear k6_0 k6_1 k6_2 k6_3 k6_4 c2
  go_upto_region 7 with (fail)
  obtain ⟨w5, hw5⟩ : ∃ w5, w5 = w4.alloc (.cells #[.string (bs x.name), .int .i64 x.limit, .int .i64 x.within, .slice a1 nC c1, .slice a2 nS c2'] 56) := ⟨_, rfl⟩
  go_upto_region 8 with (fail)
  rw [← hw5]
  have o45 : Only Nil w4 w5 := hw5 ▸ (Only.refl Nil w4).alloc _
  have BK := Lib.hid (show Bx w5 w4.heap.size [.string (bs x.name), .int .i64 x.limit, .int .i64 x.within, .slice a1 nC c1, .slice a2 nS c2'] 56 from hw5 ▸ bx_new w4 _ _)
  clear hw5 k7_0 k7_1 k7_2 k7_3 k7_4 c4 hi
  have hKl := lt_of_block BK.out
  have hQK : Qb < w4.heap.size := hQl
  generalize w4.heap.size = Kb at *
  have OT5 := Lib.hid (OT.out.trans o45)
  have BQ5 := Lib.hid (BQ.out.keep o45)
  have OW5 := Lib.hid (own_keep OW4.out o45 (fun _ _ h => h))
  clear o45 BQ OW4 OT
  have hk18 : 1 ≤ nS ∧ nS ≤ 8 := by
    have h0 := (whole_none.1 HWn.out).2.1 _ (show x ∈ P by rw [HXX.out]; exact List.getElem_mem _)
    have h1 := h0.2.1
    unfold kdCount at h1
    simp only [Bool.and_eq_true, decide_eq_true_eq] at h1
    omega
  obtain ⟨Zs, hZs, hcS, hiS⟩ := HSS.out
  rw [hnS] at hcS
  have hZsl : Zs.length = nS := by rw [← hnS, ← hZs, List.length_map]
  obtain ⟨q2, off2, rfl, hq2, hc2⟩ := CIn.at_ (f := staCs) (s := 2) (fun _ => rfl) (by decide) hcS hZsl 0 (by omega)
  have gR := hiS _ (List.getElem_mem (show 0 < Zs.length by omega))
  obtain ⟨z, hzj⟩ : ∃ z, z = Zs[0]'(by omega) := ⟨_, rfl⟩
  rw [← hzj] at hc2 gR
  obtain ⟨y, sr⟩ := z
  dsimp only at hc2 gR
  obtain ⟨a3, c3, rfl⟩ := gR.slice
  generalize hnR : y.rows.length = nR at *
  have u0 : w2.cell? ⟨q2, off2, none⟩ = some (.string (bs y.name)) := by have := hc2 0 (by decide); simp only [Nat.zero_mul, Nat.add_zero] at this; exact this
  have u1 : w2.cell? ⟨q2, off2 + 1, none⟩ = some (.slice a3 nR c3) := by have := hc2 1 (by decide); simp only [Nat.zero_mul, Nat.add_zero] at this; exact this
  have HcS := Lib.hid hcS
  have HiS := Lib.hid hiS
  have HZs := Lib.hid hZs
  have HZsl := Lib.hid hZsl
  have HZ0 := Lib.hid (show ∀ h : 0 < Zs.length, (y, Value.slice a3 nR c3) = Zs[0]'h from fun _ => hzj)
  have hw25 := OT5.out.size
  have CC := Lib.hid (show ∀ w', Only (At Kb) w5 w' → (fun w' : World => w'.cell? ⟨q2, off2, none⟩ = some (.string (bs y.name)) ∧ w'.cell? ⟨q2, off2 + 1, none⟩ = some (.slice a3 nR c3)) w' from fun w' o => ⟨only_cellS o (fun h => by have : q2 = Kb := h; omega) (only_cell0 OT5.out u0), only_cellS o (fun h => by have : q2 = Kb := h; omega) (only_cell0 OT5.out u1)⟩)
  clear hc2 gR hcS hiS hzj hZs u0 u1
  have hS0 : 0 < nS := by omega
  have BK5 := BK.out.cell 4 (v := .slice (some ⟨q2, off2, none⟩) nS c2') rfl
  have u0 := (CC.out w5 (Only.refl _ _)).1
  have u1 := (CC.out w5 (Only.refl _ _)).2
  go_upto_region 21 with (fail)
  clear BK5 u0 u1
  obtain ⟨w6, hw6⟩ : ∃ w6, w6 = w5.alloc (.cells #[.string (bs y.name), .slice a3 nR c3] 59) := ⟨_, rfl⟩
  rw [← hw6]
  have o56 : Only Nil w5 w6 := hw6 ▸ (Only.refl Nil w5).alloc _
  have BS := Lib.hid (show Bx w6 w5.heap.size [.string (bs y.name), .slice a3 nR c3] 59 from hw6 ▸ bx_new w5 _ _)
  clear hw6
  have hKS : Kb < w5.heap.size := hKl
  have hSl := lt_of_block BS.out
  generalize w5.heap.size = Sb at *
  have OT6 := Lib.hid (OT5.out.trans o56)
  have BK6 := Lib.hid (BK.out.keep o56)
  have BQ6 := Lib.hid (BQ5.out.keep o56)
  have OW6 := Lib.hid (own_keep OW5.out o56 (fun _ _ h => h))
  clear o56 BK BQ5 OW5 CC OT5 hw25
  have s1 := BS.out.cell 1 (v := .slice a3 nR c3) rfl
  by_cases hR0 : nR = 0
  · have hR0' : ((nR : Int) == 0) = true := by rw [hR0]; rfl
    clear hR0
    go_wp2
    go_ret
    exact ⟨rfl, below_nil (O1.out.trans (O2.out.trans OT6.out))⟩
  have hR0' : ((nR : Int) == 0) = false := by simp; omega
  have hszs := HZk.out.2.2 y (by
    rw [← HZs.out]
    have h0 : 0 < Zs.length := by have := HZsl.out; omega
    exact List.mem_map.2 ⟨Zs[0]'h0, List.getElem_mem h0, by rw [← HZ0.out h0]⟩)
  have hbR : nR * 56 ≤ 140737488355328 := by rw [← hnR]; exact hszs.1
  have hR16 : nR ≤ 16 := by
    have h0 := (whole_none.1 HWn.out).2.1 _ (show x ∈ P by rw [HXX.out]; exact List.getElem_mem _)
    have h1 := h0.2.2.2.2.1 y (by
      rw [← HZs.out]
      have h0 : 0 < Zs.length := by have := HZsl.out; omega
      exact List.mem_map.2 ⟨Zs[0]'h0, List.getElem_mem h0, by rw [← HZ0.out h0]⟩)
    rw [← hnR]
    exact h1.2.1
  have gR := HiS.out _ (show (y, Value.slice a3 nR c3) ∈ Zs from by
    have h0 : 0 < Zs.length := by have := HZsl.out; omega
    rw [HZ0.out h0]; exact List.getElem_mem h0)
  have HGR := Lib.hid gR
  obtain ⟨Zr, hZr, hcR, hiR⟩ := gR
  dsimp only at hZr hcR
  rw [hnR] at hcR
  have hZrl : Zr.length = nR := by rw [← hnR, ← hZr, List.length_map]
  obtain ⟨q3, off3, rfl, hq3, hc3⟩ := CIn.at_ (f := rowCs) (s := 4) (fun _ => rfl) (by decide) hcR hZrl 0 (by omega)
  have gE := hiR _ (List.getElem_mem (show 0 < Zr.length by omega))
  obtain ⟨z, hzj⟩ : ∃ z, z = Zr[0]'(by omega) := ⟨_, rfl⟩
  rw [← hzj] at hc3 gE
  obtain ⟨t1, l1⟩ := z
  dsimp only at hc3 gE
  obtain ⟨e1, d1, rfl⟩ := CIn.slice gE
  generalize t1.effs.length = m1 at *
  have u0 : w2.cell? ⟨q3, off3, none⟩ = some (.string (bs t1.tag)) := by have := hc3 0 (by decide); simp only [Nat.zero_mul, Nat.add_zero] at this; exact this
  have u1 : w2.cell? ⟨q3, off3 + 1, none⟩ = some (.bool t1.only) := by have := hc3 1 (by decide); simp only [Nat.zero_mul, Nat.add_zero] at this; exact this
  have u2 : w2.cell? ⟨q3, off3 + 2, none⟩ = some (.int .i64 t1.n) := by have := hc3 2 (by decide); simp only [Nat.zero_mul, Nat.add_zero] at this; exact this
  have u3 : w2.cell? ⟨q3, off3 + 3, none⟩ = some (.slice e1 m1 d1) := by have := hc3 3 (by decide); simp only [Nat.zero_mul, Nat.add_zero] at this; exact this
  have HcR := Lib.hid hcR
  have HiR := Lib.hid hiR
  have HZr := Lib.hid hZr
  have HZrl := Lib.hid hZrl
  have HZ0r := Lib.hid (show ∀ h : 0 < Zr.length, (t1, Value.slice e1 m1 d1) = Zr[0]'h from fun _ => hzj)
  have hw26 := OT6.out.size
  have CR := Lib.hid (show ∀ w', Only (At Sb) w6 w' → (fun w' : World => w'.cell? ⟨q3, off3, none⟩ = some (.string (bs t1.tag)) ∧ w'.cell? ⟨q3, off3 + 1, none⟩ = some (.bool t1.only) ∧ w'.cell? ⟨q3, off3 + 2, none⟩ = some (.int .i64 t1.n) ∧ w'.cell? ⟨q3, off3 + 3, none⟩ = some (.slice e1 m1 d1)) w' from fun w' o => ⟨only_cellS o (fun h => by have : q3 = Sb := h; omega) (only_cell0 OT6.out u0), only_cellS o (fun h => by have : q3 = Sb := h; omega) (only_cell0 OT6.out u1), only_cellS o (fun h => by have : q3 = Sb := h; omega) (only_cell0 OT6.out u2), only_cellS o (fun h => by have : q3 = Sb := h; omega) (only_cell0 OT6.out u3)⟩)
  clear hc3 gE hcR hiR hzj hZr u0 u1 u2 u3 hszs
  have hRp : 0 < nR := by omega
  go_upto_region 23 with (fail)
  clear s1
  go_cut [] (fun wx => ∃ g' c' : Nat, Hid (wx.ownsRow 0 62 4 (.slice (some ⟨g', 0, none⟩) (nR + 1) c') (nR + 1) (Zr.flatMap rowCs ++ [.string (bs t1.tag), .bool t1.only, .int .i64 t1.n, .slice e1 m1 d1])) ∧ Hid (Bx wx Sb [.string (bs y.name), .slice (some ⟨g', 0, none⟩) (nR + 1) c'] 59) ∧ Hid (Only (At Sb) w6 wx) ∧ Hid (w6.heap.size ≤ g'))
  case first =>
    repeat (first | revert ‹World› | revert ‹Int› | revert ‹Nat› | revert ‹Bool› | revert ‹Value› | revert ‹List Kd› | revert ‹Kd› | revert ‹List Sta› | revert ‹Sta› | revert ‹List Rw› | revert ‹Rw› | revert ‹List Eff› | revert ‹Eff› | revert ‹Option Addr› | revert ‹Wd› | revert ‹ByteArray› | revert ‹List (Kd × Value × Value)› | revert ‹List (Sta × Value)› | revert ‹List (Rw × Value)› | revert ‹Array Value› | revert ‹Array Bool› | revert ‹Act› | revert ‹Act → World → Prop› | revert ‹Exit → Act → World → Prop›)
    exact hS1z.out
  case rest =>
    obtain ⟨g', c', HO, HBS, HOn, Hg⟩ := hcut
    have b0 := HBS.out.cell 0 (v := .string (bs y.name)) rfl
    have b1 := HBS.out.cell 1 (v := .slice (some ⟨g', 0, none⟩) (nR + 1) c') rfl
    have BKw := Lib.hid (BK6.out.at_ HOn.out (by omega))
    have CB := Lib.hid (show ∀ w', Only (At Kb) wc w' → (fun w' : World => w'.cell? ⟨Sb, 0, none⟩ = some (.string (bs y.name)) ∧ w'.cell? ⟨Sb, 1, none⟩ = some (.slice (some ⟨g', 0, none⟩) (nR + 1) c')) w' from fun w' o => ⟨only_cellS o (fun h => by have : Sb = Kb := h; omega) b0, only_cellS o (fun h => by have : Sb = Kb := h; omega) b1⟩)
    have h1c : nS ≤ c2' := CIn.cap HcS.out
    have h1S : (1 : Int) ≤ (nS : Int) := by omega
    have hcs := HOn.out.size
    generalize wc = wF at *
    have OO := Lib.hid (show Only Nil wF wF.drew from (Only.refl Nil wF).drew)
    have BKc := Lib.hid (BKw.out.keep OO.out)
    clear b0 b1
    go_upto_region 24 with (fail)
    go_cut [] (fun wx => ∃ g9 c9 : Nat, Hid (wx.ownsRow 0 59 2 (.slice (some ⟨g9, 0, none⟩) (1 + (nS - 1)) c9) (1 + (nS - 1)) ([.string (bs y.name), .slice (some ⟨g', 0, none⟩) (nR + 1) c'] ++ (Zs.drop 1).flatMap staCs)) ∧ Hid (Bx wx Kb [.string (bs x.name), .int .i64 x.limit, .int .i64 x.within, .slice a1 nC c1, .slice (some ⟨g9, 0, none⟩) (1 + (nS - 1)) c9] 56) ∧ Hid (Only (At Kb) wF wx) ∧ Hid (wF.heap.size ≤ g9))
    case first =>
      have OTF := Lib.hid (OT6.out.then HOn.out (fun k hk hlt => by have : k = Sb := hk; omega))
      by_cases hc1 : c2' = 1
      · subst hc1
        have e0 : nS - 1 = 0 := by omega
        have hct := (show CIn D w2 (.slice (some ⟨q2, off2, none⟩) (nS - 1) 0) (nS - 1) 2 ((Zs.drop 1).flatMap staCs) from cin_tail (f := staCs) (s := 2) (fun _ => rfl) HcS.out HZsl.out (by omega) ⟨q2, off2, none⟩ (Or.inr (by omega)))
        rw [e0] at hct
        have HCt := Lib.hid hct
        clear hct
        refine wp_region_held_drew (S := fun w' => w'.cell? ⟨Sb, 0, none⟩ = some (.string (bs y.name)) ∧ w'.cell? ⟨Sb, 1, none⟩ = some (.slice (some ⟨g', 0, none⟩) (nR + 1) c')) (by kernel_rfl) (CB.out _ (OO.out.nilTo _)) (fun hHeld => ?_)
        generalize wF.drew = v0 at *
        refine take_dst (some 167) (i := 0) (v := ?vqx1) rfl (by kernel_rfl) (by kernel_rfl) (by kernel_rfl) (by kernel_rfl) (fun _ _ _ h => h) (Or.inl ⟨by kernel_rfl, ?hqx1⟩) (by assumption) ?rqx1
        case hqx1 => (intro w hSw; (try dsimp only at hSw); first | (go_simp; done) | (go_simp; with_reducible rfl))
        try simp only [Act.put, List.setIfInBounds_toArray, List.set_cons_zero, List.set_cons_succ]
        refine take_dst (some 169) (i := 2) (v := ?vqx2) rfl (by kernel_rfl) (by kernel_rfl) (by kernel_rfl) (by kernel_rfl) (fun _ _ _ h => h) (Or.inl ⟨by kernel_rfl, ?hqx2⟩) (by assumption) ?rqx2
        case hqx2 => (intro w hSw; (try dsimp only at hSw); first | (go_simp; done) | (go_simp; with_reducible rfl))
        try simp only [Act.put, List.setIfInBounds_toArray, List.set_cons_zero, List.set_cons_succ]
        refine wpAnyH_ready (rs := [1, 3]) (by kernel_rfl) (by simp) ?_
        refine AllReadyH.cons rfl (fun Kx3 hKx3 => ?_) (AllReadyH.cons rfl (fun Kx4 hKx4 => ?_) AllReadyH.nil)
        · skip
          have hsz := OO.out.size
          have on := (Only.refl Nil v0).alloc (.cells #[.string (bs y.name), .slice (some ⟨g', 0, none⟩) (nR + 1) c'] 59)
          have BO := Lib.hid (bx_new v0 [.string (bs y.name), .slice (some ⟨g', 0, none⟩) (nR + 1) c'] 59)
          have X := Lib.hid (OO.out.trans on); clear OO; have OO := X; clear X; have X := Lib.hid (BKc.out.keep on); clear BKc; have BKc := X; clear X
          go_simp
          obtain ⟨v1, hv1⟩ : ∃ v, v = v0.alloc (.cells #[.string (bs y.name), .slice (some ⟨g', 0, none⟩) (nR + 1) c'] 59) := ⟨_, rfl⟩
          change Hid (Bx (v0.alloc (.cells #[.string (bs y.name), .slice (some ⟨g', 0, none⟩) (nR + 1) c'] 59)) v0.heap.size [.string (bs y.name), .slice (some ⟨g', 0, none⟩) (nR + 1) c'] 59) at BO
          rw [← hv1] at BO on OO BKc
          try rw [← hv1]
          refine hKx3.out _ _ ?sx6 (fun hHeld => ?_)
          case sx6 => exact CB.out _ (OO.out.nilTo _)
          clear hKx3 Kx3
          try simp only [Act.put, List.setIfInBounds_toArray, List.set_cons_zero, List.set_cons_succ]
          clear hv1 on
          generalize v0.heap.size = bO at *
          refine wpAnyH_ready (rs := [3]) (by kernel_rfl) (by simp) ?_
          refine AllReadyH.cons rfl (fun Kx5 hKx5 => ?_) AllReadyH.nil
          have ck := BKc.out.cell 4 (v := .slice (some ⟨q2, off2, none⟩) nS 1) rfl
          go_simp
          clear ck
          refine hKx5.out _ _ ?sx7 (fun hHeld => ?_)
          case sx7 => exact CB.out _ (OO.out.nilTo _)
          clear hKx5 Kx5
          try simp only [Act.put, List.setIfInBounds_toArray, List.set_cons_zero, List.set_cons_succ]
          refine take_dst (some 171) (i := 4) (v := ?vqx8) rfl (by kernel_rfl) (by kernel_rfl) (by kernel_rfl) (by kernel_rfl) (fun _ _ _ h => h) (Or.inl ⟨by kernel_rfl, ?hqx8⟩) (by assumption) ?rqx8
          case hqx8 => (intro w hSw; (try dsimp only at hSw); first | (go_simp; done) | (go_simp; with_reducible rfl))
          try simp only [Act.put, List.setIfInBounds_toArray, List.set_cons_zero, List.set_cons_succ]
          refine wpAnyH_ready (rs := [5]) (by kernel_rfl) (by simp) ?_
          refine AllReadyH.cons rfl (fun Kx9 hKx9 => ?_) AllReadyH.nil
          obtain ⟨g9, c9, v2, hr, own9, on, hg9⟩ := app_rest (P := Tryz.prog) (t := 54) (ty := 54) Tryz.underlying54 Tryz.infoSta rfl BO.out rfl (HCt.out.keep (OTF.out.trans OO.out) (nilS · D)) (by decide) (by decide) (by omega)
          skip
          have hsz9 := OO.out.size
          (refine step_append_run rfl (.tmp 168) (.tmp 171) 54 rfl _ _ rfl rfl _ _ hr ?_)
          have X := Lib.hid (OO.out.trans on); clear OO; have OO := X; clear X; have X := Lib.hid (BKc.out.keep on); clear BKc; have BKc := X; clear X
          have HG9 := Lib.hid (show wF.heap.size ≤ g9 by omega)
          clear hr on BO hg9
          refine hKx9.out _ _ ?sx11 (fun hHeld => ?_)
          case sx11 => exact CB.out _ (OO.out.nilTo _)
          clear hKx9 Kx9
          try simp only [Act.put, List.setIfInBounds_toArray, List.set_cons_zero, List.set_cons_succ]
          refine take_dst (some 173) (i := 6) (v := ?vqx12) rfl (by kernel_rfl) (by kernel_rfl) (by kernel_rfl) (by kernel_rfl) (fun _ _ _ h => h) (Or.inl ⟨by kernel_rfl, ?hqx12⟩) (by assumption) ?rqx12
          case hqx12 => (intro w hSw; (try dsimp only at hSw); first | (go_simp; done) | (go_simp; with_reducible rfl))
          try simp only [Act.put, List.setIfInBounds_toArray, List.set_cons_zero, List.set_cons_succ]
          refine wpAnyH_ready (rs := [7]) (by kernel_rfl) (by simp) ?_
          refine AllReadyH.cons rfl (fun Kx10 hKx10 => ?_) AllReadyH.nil
          have ck := BKc.out.cell 4 (v := .slice (some ⟨q2, off2, none⟩) nS 1) rfl
          have fk := BKc.out.free 4
          have oS := (OO.out.nilTo (At Kb)).setCell (p := ⟨Kb, 4, none⟩) rfl (.slice (some ⟨g9, 0, none⟩) (1 + 0) c9)
          have bS := bx_set BKc.out 4 (.slice (some ⟨g9, 0, none⟩) (1 + 0) c9)
          simp only [List.set_cons_succ, List.set_cons_zero] at bS
          have rS := own_keep own9 ((Only.refl (At Kb) v2).setCell (p := ⟨Kb, 4, none⟩) rfl (.slice (some ⟨g9, 0, none⟩) (1 + 0) c9)) (fun k hk h => by have e1 : k = Kb := h; have e2 : k = g9 := (by simpa [Value.ownBlock] using hk); have := HG9.out; omega)
          go_simp
          clear ck fk
          refine hKx10.out _ _ ?sx13 (fun hHeld => ?_)
          case sx13 => exact CB.out _ oS
          clear hKx10 Kx10
          try simp only [Act.put, List.setIfInBounds_toArray, List.set_cons_zero, List.set_cons_succ]
          refine wpAnyH_done (by kernel_rfl) ?_ _
          go_wp2
          go_meet
          try rw [e0]
          exact ⟨g9, c9, Lib.hid rS, Lib.hid bS, Lib.hid oS, HG9⟩
        · skip
          have ck := BKc.out.cell 4 (v := .slice (some ⟨q2, off2, none⟩) nS 1) rfl
          go_simp
          clear ck
          refine hKx4.out _ _ ?sx15 (fun hHeld => ?_)
          case sx15 => exact CB.out _ (OO.out.nilTo _)
          clear hKx4 Kx4
          try simp only [Act.put, List.setIfInBounds_toArray, List.set_cons_zero, List.set_cons_succ]
          refine take_dst (some 171) (i := 4) (v := ?vqx16) rfl (by kernel_rfl) (by kernel_rfl) (by kernel_rfl) (by kernel_rfl) (fun _ _ _ h => h) (Or.inl ⟨by kernel_rfl, ?hqx16⟩) (by assumption) ?rqx16
          case hqx16 => (intro w hSw; (try dsimp only at hSw); first | (go_simp; done) | (go_simp; with_reducible rfl))
          try simp only [Act.put, List.setIfInBounds_toArray, List.set_cons_zero, List.set_cons_succ]
          refine wpAnyH_ready (rs := [1]) (by kernel_rfl) (by simp) ?_
          refine AllReadyH.cons rfl (fun Kx14 hKx14 => ?_) AllReadyH.nil
          have hsz := OO.out.size
          have on := (Only.refl Nil v0).alloc (.cells #[.string (bs y.name), .slice (some ⟨g', 0, none⟩) (nR + 1) c'] 59)
          have BO := Lib.hid (bx_new v0 [.string (bs y.name), .slice (some ⟨g', 0, none⟩) (nR + 1) c'] 59)
          have X := Lib.hid (OO.out.trans on); clear OO; have OO := X; clear X; have X := Lib.hid (BKc.out.keep on); clear BKc; have BKc := X; clear X
          go_simp
          obtain ⟨v1, hv1⟩ : ∃ v, v = v0.alloc (.cells #[.string (bs y.name), .slice (some ⟨g', 0, none⟩) (nR + 1) c'] 59) := ⟨_, rfl⟩
          change Hid (Bx (v0.alloc (.cells #[.string (bs y.name), .slice (some ⟨g', 0, none⟩) (nR + 1) c'] 59)) v0.heap.size [.string (bs y.name), .slice (some ⟨g', 0, none⟩) (nR + 1) c'] 59) at BO
          rw [← hv1] at BO on OO BKc
          try rw [← hv1]
          refine hKx14.out _ _ ?sx17 (fun hHeld => ?_)
          case sx17 => exact CB.out _ (OO.out.nilTo _)
          clear hKx14 Kx14
          try simp only [Act.put, List.setIfInBounds_toArray, List.set_cons_zero, List.set_cons_succ]
          clear hv1 on
          generalize v0.heap.size = bO at *
          refine wpAnyH_ready (rs := [5]) (by kernel_rfl) (by simp) ?_
          refine AllReadyH.cons rfl (fun Kx18 hKx18 => ?_) AllReadyH.nil
          obtain ⟨g9, c9, v2, hr, own9, on, hg9⟩ := app_rest (P := Tryz.prog) (t := 54) (ty := 54) Tryz.underlying54 Tryz.infoSta rfl BO.out rfl (HCt.out.keep (OTF.out.trans OO.out) (nilS · D)) (by decide) (by decide) (by omega)
          skip
          have hsz9 := OO.out.size
          (refine step_append_run rfl (.tmp 168) (.tmp 171) 54 rfl _ _ rfl rfl _ _ hr ?_)
          have X := Lib.hid (OO.out.trans on); clear OO; have OO := X; clear X; have X := Lib.hid (BKc.out.keep on); clear BKc; have BKc := X; clear X
          have HG9 := Lib.hid (show wF.heap.size ≤ g9 by omega)
          clear hr on BO hg9
          refine hKx18.out _ _ ?sx20 (fun hHeld => ?_)
          case sx20 => exact CB.out _ (OO.out.nilTo _)
          clear hKx18 Kx18
          try simp only [Act.put, List.setIfInBounds_toArray, List.set_cons_zero, List.set_cons_succ]
          refine take_dst (some 173) (i := 6) (v := ?vqx21) rfl (by kernel_rfl) (by kernel_rfl) (by kernel_rfl) (by kernel_rfl) (fun _ _ _ h => h) (Or.inl ⟨by kernel_rfl, ?hqx21⟩) (by assumption) ?rqx21
          case hqx21 => (intro w hSw; (try dsimp only at hSw); first | (go_simp; done) | (go_simp; with_reducible rfl))
          try simp only [Act.put, List.setIfInBounds_toArray, List.set_cons_zero, List.set_cons_succ]
          refine wpAnyH_ready (rs := [7]) (by kernel_rfl) (by simp) ?_
          refine AllReadyH.cons rfl (fun Kx19 hKx19 => ?_) AllReadyH.nil
          have ck := BKc.out.cell 4 (v := .slice (some ⟨q2, off2, none⟩) nS 1) rfl
          have fk := BKc.out.free 4
          have oS := (OO.out.nilTo (At Kb)).setCell (p := ⟨Kb, 4, none⟩) rfl (.slice (some ⟨g9, 0, none⟩) (1 + 0) c9)
          have bS := bx_set BKc.out 4 (.slice (some ⟨g9, 0, none⟩) (1 + 0) c9)
          simp only [List.set_cons_succ, List.set_cons_zero] at bS
          have rS := own_keep own9 ((Only.refl (At Kb) v2).setCell (p := ⟨Kb, 4, none⟩) rfl (.slice (some ⟨g9, 0, none⟩) (1 + 0) c9)) (fun k hk h => by have e1 : k = Kb := h; have e2 : k = g9 := (by simpa [Value.ownBlock] using hk); have := HG9.out; omega)
          go_simp
          clear ck fk
          refine hKx19.out _ _ ?sx22 (fun hHeld => ?_)
          case sx22 => exact CB.out _ oS
          clear hKx19 Kx19
          try simp only [Act.put, List.setIfInBounds_toArray, List.set_cons_zero, List.set_cons_succ]
          refine wpAnyH_done (by kernel_rfl) ?_ _
          go_wp2
          go_meet
          try rw [e0]
          exact ⟨g9, c9, Lib.hid rS, Lib.hid bS, Lib.hid oS, HG9⟩
      · skip
        have e0 : 1 + (nS - 1) = nS := by omega
        have hct := (show CIn D w2 (.slice (some ⟨q2, off2 + 2, none⟩) (nS - 1) (c2' - 1)) (nS - 1) 2 ((Zs.drop 1).flatMap staCs) from cin_tail (f := staCs) (s := 2) (fun _ => rfl) HcS.out HZsl.out (by omega) ⟨q2, off2 + 2, none⟩ (Or.inl rfl))
        have HCt := Lib.hid hct
        clear hct
        refine wp_region_held_drew (S := fun w' => w'.cell? ⟨Sb, 0, none⟩ = some (.string (bs y.name)) ∧ w'.cell? ⟨Sb, 1, none⟩ = some (.slice (some ⟨g', 0, none⟩) (nR + 1) c')) (by kernel_rfl) (CB.out _ (OO.out.nilTo _)) (fun hHeld => ?_)
        generalize wF.drew = v0 at *
        refine take_dst (some 167) (i := 0) (v := ?vqy1) rfl (by kernel_rfl) (by kernel_rfl) (by kernel_rfl) (by kernel_rfl) (fun _ _ _ h => h) (Or.inl ⟨by kernel_rfl, ?hqy1⟩) (by assumption) ?rqy1
        case hqy1 => (intro w hSw; (try dsimp only at hSw); first | (go_simp; done) | (go_simp; with_reducible rfl))
        try simp only [Act.put, List.setIfInBounds_toArray, List.set_cons_zero, List.set_cons_succ]
        refine take_dst (some 169) (i := 2) (v := ?vqy2) rfl (by kernel_rfl) (by kernel_rfl) (by kernel_rfl) (by kernel_rfl) (fun _ _ _ h => h) (Or.inl ⟨by kernel_rfl, ?hqy2⟩) (by assumption) ?rqy2
        case hqy2 => (intro w hSw; (try dsimp only at hSw); first | (go_simp; done) | (go_simp; with_reducible rfl))
        try simp only [Act.put, List.setIfInBounds_toArray, List.set_cons_zero, List.set_cons_succ]
        refine wpAnyH_ready (rs := [1, 3]) (by kernel_rfl) (by simp) ?_
        refine AllReadyH.cons rfl (fun Ky3 hKy3 => ?_) (AllReadyH.cons rfl (fun Ky4 hKy4 => ?_) AllReadyH.nil)
        · skip
          have hsz := OO.out.size
          have on := (Only.refl Nil v0).alloc (.cells #[.string (bs y.name), .slice (some ⟨g', 0, none⟩) (nR + 1) c'] 59)
          have BO := Lib.hid (bx_new v0 [.string (bs y.name), .slice (some ⟨g', 0, none⟩) (nR + 1) c'] 59)
          have X := Lib.hid (OO.out.trans on); clear OO; have OO := X; clear X; have X := Lib.hid (BKc.out.keep on); clear BKc; have BKc := X; clear X
          go_simp
          obtain ⟨v1, hv1⟩ : ∃ v, v = v0.alloc (.cells #[.string (bs y.name), .slice (some ⟨g', 0, none⟩) (nR + 1) c'] 59) := ⟨_, rfl⟩
          change Hid (Bx (v0.alloc (.cells #[.string (bs y.name), .slice (some ⟨g', 0, none⟩) (nR + 1) c'] 59)) v0.heap.size [.string (bs y.name), .slice (some ⟨g', 0, none⟩) (nR + 1) c'] 59) at BO
          rw [← hv1] at BO on OO BKc
          try rw [← hv1]
          refine hKy3.out _ _ ?sy6 (fun hHeld => ?_)
          case sy6 => exact CB.out _ (OO.out.nilTo _)
          clear hKy3 Ky3
          try simp only [Act.put, List.setIfInBounds_toArray, List.set_cons_zero, List.set_cons_succ]
          clear hv1 on
          generalize v0.heap.size = bO at *
          refine wpAnyH_ready (rs := [3]) (by kernel_rfl) (by simp) ?_
          refine AllReadyH.cons rfl (fun Ky5 hKy5 => ?_) AllReadyH.nil
          have ck := BKc.out.cell 4 (v := .slice (some ⟨q2, off2, none⟩) nS c2') rfl
          go_simp
          clear ck
          refine hKy5.out _ _ ?sy7 (fun hHeld => ?_)
          case sy7 => exact CB.out _ (OO.out.nilTo _)
          clear hKy5 Ky5
          try simp only [Act.put, List.setIfInBounds_toArray, List.set_cons_zero, List.set_cons_succ]
          refine take_dst (some 171) (i := 4) (v := ?vqy8) rfl (by kernel_rfl) (by kernel_rfl) (by kernel_rfl) (by kernel_rfl) (fun _ _ _ h => h) (Or.inl ⟨by kernel_rfl, ?hqy8⟩) (by assumption) ?rqy8
          case hqy8 => (intro w hSw; (try dsimp only at hSw); first | (go_simp; done) | (go_simp; with_reducible rfl))
          try simp only [Act.put, List.setIfInBounds_toArray, List.set_cons_zero, List.set_cons_succ]
          refine wpAnyH_ready (rs := [5]) (by kernel_rfl) (by simp) ?_
          refine AllReadyH.cons rfl (fun Ky9 hKy9 => ?_) AllReadyH.nil
          obtain ⟨g9, c9, v2, hr, own9, on, hg9⟩ := app_rest (P := Tryz.prog) (t := 54) (ty := 54) Tryz.underlying54 Tryz.infoSta rfl BO.out rfl (HCt.out.keep (OTF.out.trans OO.out) (nilS · D)) (by decide) (by decide) (by omega)
          rw [e0] at hr own9
          have hsz9 := OO.out.size
          (refine step_append_run rfl (.tmp 168) (.tmp 171) 54 rfl _ _ rfl rfl _ _ hr ?_)
          have X := Lib.hid (OO.out.trans on); clear OO; have OO := X; clear X; have X := Lib.hid (BKc.out.keep on); clear BKc; have BKc := X; clear X
          have HG9 := Lib.hid (show wF.heap.size ≤ g9 by omega)
          clear hr on BO hg9
          refine hKy9.out _ _ ?sy11 (fun hHeld => ?_)
          case sy11 => exact CB.out _ (OO.out.nilTo _)
          clear hKy9 Ky9
          try simp only [Act.put, List.setIfInBounds_toArray, List.set_cons_zero, List.set_cons_succ]
          refine take_dst (some 173) (i := 6) (v := ?vqy12) rfl (by kernel_rfl) (by kernel_rfl) (by kernel_rfl) (by kernel_rfl) (fun _ _ _ h => h) (Or.inl ⟨by kernel_rfl, ?hqy12⟩) (by assumption) ?rqy12
          case hqy12 => (intro w hSw; (try dsimp only at hSw); first | (go_simp; done) | (go_simp; with_reducible rfl))
          try simp only [Act.put, List.setIfInBounds_toArray, List.set_cons_zero, List.set_cons_succ]
          refine wpAnyH_ready (rs := [7]) (by kernel_rfl) (by simp) ?_
          refine AllReadyH.cons rfl (fun Ky10 hKy10 => ?_) AllReadyH.nil
          have ck := BKc.out.cell 4 (v := .slice (some ⟨q2, off2, none⟩) nS c2') rfl
          have fk := BKc.out.free 4
          have oS := (OO.out.nilTo (At Kb)).setCell (p := ⟨Kb, 4, none⟩) rfl (.slice (some ⟨g9, 0, none⟩) nS c9)
          have bS := bx_set BKc.out 4 (.slice (some ⟨g9, 0, none⟩) nS c9)
          simp only [List.set_cons_succ, List.set_cons_zero] at bS
          have rS := own_keep own9 ((Only.refl (At Kb) v2).setCell (p := ⟨Kb, 4, none⟩) rfl (.slice (some ⟨g9, 0, none⟩) nS c9)) (fun k hk h => by have e1 : k = Kb := h; have e2 : k = g9 := (by simpa [Value.ownBlock] using hk); have := HG9.out; omega)
          go_simp
          clear ck fk
          refine hKy10.out _ _ ?sy13 (fun hHeld => ?_)
          case sy13 => exact CB.out _ oS
          clear hKy10 Ky10
          try simp only [Act.put, List.setIfInBounds_toArray, List.set_cons_zero, List.set_cons_succ]
          refine wpAnyH_done (by kernel_rfl) ?_ _
          go_wp2
          go_meet
          try rw [e0]
          exact ⟨g9, c9, Lib.hid rS, Lib.hid bS, Lib.hid oS, HG9⟩
        · skip
          have ck := BKc.out.cell 4 (v := .slice (some ⟨q2, off2, none⟩) nS c2') rfl
          go_simp
          clear ck
          refine hKy4.out _ _ ?sy15 (fun hHeld => ?_)
          case sy15 => exact CB.out _ (OO.out.nilTo _)
          clear hKy4 Ky4
          try simp only [Act.put, List.setIfInBounds_toArray, List.set_cons_zero, List.set_cons_succ]
          refine take_dst (some 171) (i := 4) (v := ?vqy16) rfl (by kernel_rfl) (by kernel_rfl) (by kernel_rfl) (by kernel_rfl) (fun _ _ _ h => h) (Or.inl ⟨by kernel_rfl, ?hqy16⟩) (by assumption) ?rqy16
          case hqy16 => (intro w hSw; (try dsimp only at hSw); first | (go_simp; done) | (go_simp; with_reducible rfl))
          try simp only [Act.put, List.setIfInBounds_toArray, List.set_cons_zero, List.set_cons_succ]
          refine wpAnyH_ready (rs := [1]) (by kernel_rfl) (by simp) ?_
          refine AllReadyH.cons rfl (fun Ky14 hKy14 => ?_) AllReadyH.nil
          have hsz := OO.out.size
          have on := (Only.refl Nil v0).alloc (.cells #[.string (bs y.name), .slice (some ⟨g', 0, none⟩) (nR + 1) c'] 59)
          have BO := Lib.hid (bx_new v0 [.string (bs y.name), .slice (some ⟨g', 0, none⟩) (nR + 1) c'] 59)
          have X := Lib.hid (OO.out.trans on); clear OO; have OO := X; clear X; have X := Lib.hid (BKc.out.keep on); clear BKc; have BKc := X; clear X
          go_simp
          obtain ⟨v1, hv1⟩ : ∃ v, v = v0.alloc (.cells #[.string (bs y.name), .slice (some ⟨g', 0, none⟩) (nR + 1) c'] 59) := ⟨_, rfl⟩
          change Hid (Bx (v0.alloc (.cells #[.string (bs y.name), .slice (some ⟨g', 0, none⟩) (nR + 1) c'] 59)) v0.heap.size [.string (bs y.name), .slice (some ⟨g', 0, none⟩) (nR + 1) c'] 59) at BO
          rw [← hv1] at BO on OO BKc
          try rw [← hv1]
          refine hKy14.out _ _ ?sy17 (fun hHeld => ?_)
          case sy17 => exact CB.out _ (OO.out.nilTo _)
          clear hKy14 Ky14
          try simp only [Act.put, List.setIfInBounds_toArray, List.set_cons_zero, List.set_cons_succ]
          clear hv1 on
          generalize v0.heap.size = bO at *
          refine wpAnyH_ready (rs := [5]) (by kernel_rfl) (by simp) ?_
          refine AllReadyH.cons rfl (fun Ky18 hKy18 => ?_) AllReadyH.nil
          obtain ⟨g9, c9, v2, hr, own9, on, hg9⟩ := app_rest (P := Tryz.prog) (t := 54) (ty := 54) Tryz.underlying54 Tryz.infoSta rfl BO.out rfl (HCt.out.keep (OTF.out.trans OO.out) (nilS · D)) (by decide) (by decide) (by omega)
          rw [e0] at hr own9
          have hsz9 := OO.out.size
          (refine step_append_run rfl (.tmp 168) (.tmp 171) 54 rfl _ _ rfl rfl _ _ hr ?_)
          have X := Lib.hid (OO.out.trans on); clear OO; have OO := X; clear X; have X := Lib.hid (BKc.out.keep on); clear BKc; have BKc := X; clear X
          have HG9 := Lib.hid (show wF.heap.size ≤ g9 by omega)
          clear hr on BO hg9
          refine hKy18.out _ _ ?sy20 (fun hHeld => ?_)
          case sy20 => exact CB.out _ (OO.out.nilTo _)
          clear hKy18 Ky18
          try simp only [Act.put, List.setIfInBounds_toArray, List.set_cons_zero, List.set_cons_succ]
          refine take_dst (some 173) (i := 6) (v := ?vqy21) rfl (by kernel_rfl) (by kernel_rfl) (by kernel_rfl) (by kernel_rfl) (fun _ _ _ h => h) (Or.inl ⟨by kernel_rfl, ?hqy21⟩) (by assumption) ?rqy21
          case hqy21 => (intro w hSw; (try dsimp only at hSw); first | (go_simp; done) | (go_simp; with_reducible rfl))
          try simp only [Act.put, List.setIfInBounds_toArray, List.set_cons_zero, List.set_cons_succ]
          refine wpAnyH_ready (rs := [7]) (by kernel_rfl) (by simp) ?_
          refine AllReadyH.cons rfl (fun Ky19 hKy19 => ?_) AllReadyH.nil
          have ck := BKc.out.cell 4 (v := .slice (some ⟨q2, off2, none⟩) nS c2') rfl
          have fk := BKc.out.free 4
          have oS := (OO.out.nilTo (At Kb)).setCell (p := ⟨Kb, 4, none⟩) rfl (.slice (some ⟨g9, 0, none⟩) nS c9)
          have bS := bx_set BKc.out 4 (.slice (some ⟨g9, 0, none⟩) nS c9)
          simp only [List.set_cons_succ, List.set_cons_zero] at bS
          have rS := own_keep own9 ((Only.refl (At Kb) v2).setCell (p := ⟨Kb, 4, none⟩) rfl (.slice (some ⟨g9, 0, none⟩) nS c9)) (fun k hk h => by have e1 : k = Kb := h; have e2 : k = g9 := (by simpa [Value.ownBlock] using hk); have := HG9.out; omega)
          go_simp
          clear ck fk
          refine hKy19.out _ _ ?sy22 (fun hHeld => ?_)
          case sy22 => exact CB.out _ oS
          clear hKy19 Ky19
          try simp only [Act.put, List.setIfInBounds_toArray, List.set_cons_zero, List.set_cons_succ]
          refine wpAnyH_done (by kernel_rfl) ?_ _
          go_wp2
          go_meet
          try rw [e0]
          exact ⟨g9, c9, Lib.hid rS, Lib.hid bS, Lib.hid oS, HG9⟩
    case rest =>
      obtain ⟨g9, c9, HO9, HBK9, HOn9, Hg9⟩ := hcut
      rw [show 1 + (nS - 1) = nS by omega] at HO9 HBK9
      have hSg : w6.heap.size ≤ g' := Hg.out
      have hFg : wF.heap.size ≤ g9 := Hg9.out
      have OW7 := own_keep (own_keep OW6.out HOn.out (fun k hk h => by
        have e1 : k = Sb := h
        have e2 : k = g1 := by simpa [Value.ownBlock] using hk
        omega)) HOn9.out (fun k hk h => by
        have e1 : k = Kb := h
        have e2 : k = g1 := by simpa [Value.ownBlock] using hk
        omega)
      have hF1 := Blk.of OW7
      have R1 := own_cin OW7
      have hg'l : g' < wF.heap.size := (HO.out.lt g' rfl).2
      have hg9l : g9 < wc.heap.size := (HO9.out.lt g9 rfl).2
      have R3 := own_cin (own_keep HO.out HOn9.out (fun k hk h => by
        have e1 : k = Kb := h
        have e2 : k = g' := by simpa [Value.ownBlock] using hk
        omega))
      have R2 := own_cin HO9.out
      have BQc := Lib.hid ((BQ6.out.at_ HOn.out (by omega)).at_ HOn9.out (by omega))
      have BSc := Lib.hid (HBS.out.at_ HOn9.out (by omega))
      have OTF := OT6.out.then HOn.out (fun k hk hlt => by have : k = Sb := hk; omega)
      have OTc := Lib.hid (OTF.then HOn9.out (fun k hk hlt => by have : k = Kb := hk; omega))
      have hsc := HOn9.out.size
      have hk := cells_at (f := kdCs) (s := 5) (fun _ => rfl) (by decide) R1 HZl.out i hiN HZi.out
      have e10 : wc.cell? ⟨g1, i * 5, none⟩ = some (.string (bs x.name)) := hk 0 (by decide)
      have f0 := hF1.free (i * 5)
      have e11 : wc.cell? ⟨g1, i * 5 + 1, none⟩ = some (.int .i64 x.limit) := hk 1 (by decide)
      have f1 := hF1.free (i * 5 + 1)
      have e12 : wc.cell? ⟨g1, i * 5 + 2, none⟩ = some (.int .i64 x.within) := hk 2 (by decide)
      have f2 := hF1.free (i * 5 + 2)
      have e13 : wc.cell? ⟨g1, i * 5 + 3, none⟩ = some (.slice a1 nC c1) := hk 3 (by decide)
      have f3 := hF1.free (i * 5 + 3)
      have e14 : wc.cell? ⟨g1, i * 5 + 4, none⟩ = some (.slice (some ⟨q2, off2, none⟩) nS c2') := hk 4 (by decide)
      have f4 := hF1.free (i * 5 + 4)
      have x10 := HBK9.out.cell 0 (v := .string (bs x.name)) rfl
      have x11 := HBK9.out.cell 1 (v := .int .i64 x.limit) rfl
      have x12 := HBK9.out.cell 2 (v := .int .i64 x.within) rfl
      have x13 := HBK9.out.cell 3 (v := .slice a1 nC c1) rfl
      have x14 := HBK9.out.cell 4 (v := .slice (some ⟨g9, 0, none⟩) nS c9) rfl
      have q0 := BQc.out.cell 0 (v := .slice (some ⟨g1, 0, none⟩) nP cq) rfl
      have HR1 := Lib.hid R1
      have HR2 := Lib.hid R2
      have HR3 := Lib.hid R3
      clear hk hF1 R1 R2 R3 OW7 OTF
      go_upto_region 26 with (fail)
      clear e10 e11 e12 e13 e14 f0 f1 f2 f3 f4 x10 x11 x12 x13 x14 q0
      obtain ⟨y', hy'⟩ : ∃ y' : Sta, y' = ⟨y.name, y.rows ++ [t1]⟩ := ⟨_, rfl⟩
      obtain ⟨x', hx'⟩ : ∃ x' : Kd, x' = { x with states := y' :: x.states.drop 1 } := ⟨_, rfl⟩
      obtain ⟨wD, hwD⟩ : ∃ wD, wD = wc.setCells g1 (i * 5) (kdCs (x', .slice a1 nC c1, .slice (some ⟨g9, 0, none⟩) nS c9)) := ⟨_, rfl⟩
      have ew : ((((wc.setCell ⟨g1, i * 5, none⟩ (.string (bs x.name))).setCell ⟨g1, i * 5 + 1, none⟩ (.int .i64 x.limit)).setCell ⟨g1, i * 5 + 2, none⟩ (.int .i64 x.within)).setCell ⟨g1, i * 5 + 3, none⟩ (.slice a1 nC c1)).setCell ⟨g1, i * 5 + 4, none⟩ (.slice (some ⟨g9, 0, none⟩) nS c9) = wD := by rw [hwD, hx']; rfl
      rw [ew]
      clear ew
      have oD : Only (At g1) wc wD := hwD ▸ only_setCells (S := At g1) g1 rfl _ _ _ (Only.refl _ _)
      have R1D := (show CIn wc.heap.size wD (.slice (some ⟨g1, 0, none⟩) nP cq) nP 5 ((Z.set i (x', Value.slice a1 nC c1, Value.slice (some ⟨g9, 0, none⟩) nS c9)).flatMap kdCs) from hwD ▸ cin_put (f := kdCs) (s := 5) (fun _ => rfl) (by decide) HR1.out HZl.out i hiN _)
      have R2D := cin_at HR2.out oD (by omega)
      have R3D := cin_at HR3.out oD (by omega)
      have BQD := Lib.hid (BQc.out.at_ oD (by omega))
      have BSD := Lib.hid (BSc.out.at_ oD (by omega))
      have OTD := OTc.out.then oD (fun k hk hlt => by have : k = g1 := hk; omega)
      have hs1 := oD.size
      clear hwD oD BQc HBK9 HR1 HR2 HR3 OTc HO HO9 BSc
      have hDw : D ≤ wD.heap.size := by have := OTD.size; omega
      have hxm : x ∈ P := by rw [HXX.out]; exact List.getElem_mem _
      have h0s : 0 < Zs.length := by have := HZsl.out; omega
      have hyS : y ∈ x.states := by
        rw [← HZs.out]
        exact List.mem_map.2 ⟨Zs[0]'h0s, List.getElem_mem h0s, by rw [← HZ0.out h0s]⟩
      have hsp : x.states = y :: x.states.drop 1 := by
        have h1 : x.states[0]'(by omega) = y := by
          have : (Zs[0]'h0s).1 = x.states[0]'(by omega) := by simp only [← HZs.out, List.getElem_map]
          rw [← this, ← HZ0.out h0s]
        have h2 := List.drop_eq_getElem_cons (l := x.states) (i := 0) (by omega)
        rw [List.drop_zero, h1] at h2
        exact h2
      have htR : t1 ∈ y.rows := by
        rw [← HZr.out]
        have h0 : 0 < Zr.length := by have := HZrl.out; omega
        exact List.mem_map.2 ⟨Zr[0]'h0, List.getElem_mem h0, by rw [← HZ0r.out h0]⟩
      have gE := HiR.out _ (show (t1, Value.slice e1 m1 d1) ∈ Zr from by
        have h0 : 0 < Zr.length := by have := HZrl.out; omega
        rw [HZ0r.out h0]; exact List.getElem_mem h0)
      have he : x'.states = y' :: x.states.drop 1 := by rw [hx']
      have hey : y'.rows = y.rows ++ [t1] := by rw [hy']
      have hX3 : XR wD.heap.size wD (.slice (some ⟨g', 0, none⟩) (nR + 1) c') y'.rows := by
        refine ⟨Zr ++ [(t1, .slice e1 m1 d1)], by rw [List.map_append, HZr.out, hey]; rfl, ?_, fun z hz => ?_⟩
        · have hl : y'.rows.length = nR + 1 := by rw [hey, List.length_append, hnR]; rfl
          rw [hl, List.flatMap_append]
          exact R3D.mono hs1
        · rcases List.mem_append.1 hz with hz | hz
          · exact ((HiR.out z hz).keep OTD (nilS · D)).mono hDw
          · rw [List.mem_singleton.1 hz]
            exact (gE.keep OTD (nilS · D)).mono hDw
      have hX2 : XS wD.heap.size wD (.slice (some ⟨g9, 0, none⟩) nS c9) x'.states := by
        refine ⟨(y', .slice (some ⟨g', 0, none⟩) (nR + 1) c') :: Zs.drop 1, by rw [List.map_cons, List.map_drop, HZs.out, he], ?_, fun z hz => ?_⟩
        · have hl : x'.states.length = nS := by rw [he, List.length_cons, List.length_drop, hnS]; omega
          rw [hl, List.flatMap_cons]
          rw [hy']
          exact R2D.mono hs1
        · rcases List.mem_cons.1 hz with rfl | hz
          · exact hX3
          · exact ((HiS.out z (List.mem_of_mem_drop hz)).keep OTD (nilS · D)).mono hDw
      have hX1 : XK wD.heap.size wD (.slice (some ⟨g1, 0, none⟩) nP cq) (P.set i x') := by
        refine ⟨Z.set i (x', .slice a1 nC c1, .slice (some ⟨g9, 0, none⟩) nS c9), by rw [List.map_set, HZe.out], by rw [List.length_set, HV.out.n]; exact R1D.mono hs1, fun z hz => ?_⟩
        rcases List.mem_or_eq_of_mem_set hz with hz | rfl
        · exact ⟨((HiK.out z hz).1.keep OTD (nilS · D)).mono hDw, ((HiK.out z hz).2.keep OTD (nilS · D)).mono hDw⟩
        · refine ⟨?_, hX2⟩
          have hc : x'.cases = x.cases := by rw [hx']
          dsimp only
          rw [hc]
          exact (HCC.out.keep OTD (nilS · D)).mono hDw
      have hbR' : nR * 56 ≤ 140737488355328 := hbR
      have VQ : VK wD.heap.size wD (P.set i x') (some ⟨g1, 0, none⟩) nP cq := by
        refine ⟨hX1, by rw [List.length_set]; exact HV.out.n, hbP, ⟨by rw [List.length_set, HV.out.n]; exact hbP, fun k hk => ?_⟩, fun k hk => ?_⟩
        · rcases List.mem_or_eq_of_mem_set hk with hk | rfl
          · exact HV.out.sz.2 k hk
          · have hz := HZk.out.sz
            refine ⟨by rw [hx']; exact hz.1, by rw [he, List.length_cons, List.length_drop, hnS]; omega, fun s hs => ?_⟩
            rw [he] at hs
            rcases List.mem_cons.1 hs with rfl | hs
            · refine ⟨by rw [hey, List.length_append, hnR]; simp; omega, fun t ht => ?_⟩
              rw [hey] at ht
              rcases List.mem_append.1 ht with ht | ht
              · exact (hz.2.2 y hyS).2 t ht
              · rw [List.mem_singleton.1 ht]; exact (hz.2.2 y hyS).2 t1 htR
            · exact hz.2.2 s (List.mem_of_mem_drop hs)
        · rcases List.mem_or_eq_of_mem_set hk with hk | rfl
          · exact HV.out.wf k hk
          · have hz := HWk.out
            refine ⟨by rw [hx']; exact hz.limit, by rw [hx']; exact hz.within, by rw [hx']; exact hz.name, by rw [hx']; exact hz.cases, fun s hs => ?_⟩
            rw [he] at hs
            rcases List.mem_cons.1 hs with rfl | hs
            · refine ⟨by rw [hy']; exact (hz.states y hyS).name, fun t ht => ?_⟩
              rw [hey] at ht
              rcases List.mem_append.1 ht with ht | ht
              · exact (hz.states y hyS).rows t ht
              · rw [List.mem_singleton.1 ht]; exact (hz.states y hyS).rows t1 htR
            · exact hz.states s (List.mem_of_mem_drop hs)
      have hwq : whole (P.set i x') = if nR = 16 then some (40, [i + 1, 1]) else some (41, [i + 1, 1, nR + 1]) := by
        have h := once_row HWn.out hil (s := y) (T := x.states.drop 1) (by rw [← HXX.out]; exact hsp) htR
        rw [← HXX.out, hnR] at h
        rw [hx', hy']
        exact h
      have HPq := Lib.hid (prog_err VQ (Lib.hid (Nat.le_refl _)))
      have HE7 := Lib.hid (HE1.out.keep (O2.out.trans OTD))
      have OD' := Lib.hid (O1.out.trans (O2.out.trans OTD))
      have q7 := BQD.out.cell 0 (v := .slice (some ⟨g1, 0, none⟩) nP cq) rfl
      clear OTD VQ hX1 hX2 hX3 R1D R2D R3D hxm hyS gE he hey hx' hy' htR hDw hs1 hsp
      by_cases h8 : nR = 16
      · rw [if_pos h8] at hwq
        rw [hwq] at HPq
        clear hwq
        have hwi : IntKind.i64.wrap ((i : Int) + 1) = ((i + 1 : Nat) : Int) := by rw [IntWalk.i64_in _ (by omega)]; rfl
        have HQK := BSD.out.cell 1 (v := .slice (some ⟨g', 0, none⟩) (nR + 1) c') rfl
        have HK4 := Lib.hid (fun w' (o : Only Nil wD w') => only_cell0 o HQK)
        have hb9 : (((nR + 1 : Nat) : Int) == 17) = true := by simp; omega
        clear HQK BSD hR0'
        generalize hn1 : nR + 1 = n1 at *
        generalize hi1 : i + 1 = i1 at *
        have HN1 := Lib.hid hn1
        have HI1 := Lib.hid hi1
        clear hn1 hi1 h8
        go_wp2_with fail
        refine HPq.out.mono ?_
        rintro e w8 ⟨v, rfl, hv, o8⟩
        have HEr := Lib.hid hv
        obtain ⟨be, rfl, _⟩ := hv
        have O8 := Lib.hid o8
        have HWh := Lib.hid (show Calls Tryz.prog 18 #[.iface 46 (.pointer (some ⟨be, 0, none⟩))] w8 (fun e w' => ∃ a c, e = .returned (.slice a 2 c) ∧ w'.ownsRow w8.heap.size 3 1 (.slice a 2 c) 2 (intsC [i1, 1]) ∧ Only Nil w8 w') from where_any HEr.out (HE7.out.keep o8) (by simp [whereF]))
        clear o8 q7 HPq
        go_wp2_with fail
        refine HWh.out.mono ?_
        rintro e w9 ⟨ra, rc, rfl, hown, o9⟩
        have O9 := Lib.hid (O8.out.trans o9)
        have HCd := Lib.hid (fun w' (o : Only Nil w9 w') => show Calls Tryz.prog 16 #[.iface 46 (.pointer (some ⟨be, 0, none⟩))] w' (fun e w'' => e = .returned (.int .i64 40) ∧ Only Nil w' w'') from code_any (HEr.out.keep (o9.trans o)) (HE7.out.keep (O8.out.trans (o9.trans o))))
        have p9 := HK4.out _ O9.out
        have OO := Lib.hid (show Only Nil w9 w9.drew from (Only.refl Nil w9).drew)
        have CD := Lib.hid (show ∀ w', Only Nil w9 w' → (fun w' : World => w'.cell? ⟨Sb, 1, none⟩ = some (.slice (some ⟨g', 0, none⟩) n1 c')) w' from fun w' o => only_cell0 o p9)
        have OD := Lib.hid (OD'.out.trans O9.out)
        clear hown o9 p9 HWh
        go_upto_region 28 with (fail)
        refine wp_region_held_drew (S := fun w' => w'.cell? ⟨Sb, 1, none⟩ = some (.slice (some ⟨g', 0, none⟩) n1 c')) (by kernel_rfl) (CD.out _ OO.out) (fun hHeld => ?_)
        refine take_dst (some 183) (i := 0) (v := ?vka1) rfl (by kernel_rfl) (by kernel_rfl) (by kernel_rfl) (by kernel_rfl) (fun _ _ _ h => h) (Or.inl ⟨by kernel_rfl, ?hka1⟩) (by assumption) ?rka1
        case hka1 => (intro w hSw; (try dsimp only at hSw); first | (go_simp; done) | (go_simp; with_reducible rfl))
        try simp only [Act.put, List.setIfInBounds_toArray, List.set_cons_zero, List.set_cons_succ]
        refine take_dst (some 184) (i := 1) (v := ?vka2) rfl (by kernel_rfl) (by kernel_rfl) (by kernel_rfl) (by kernel_rfl) (fun _ _ _ h => h) (Or.inl ⟨by kernel_rfl, ?hka2⟩) (by assumption) ?rka2
        case hka2 => (intro w hSw; (try dsimp only at hSw); first | (go_simp; done) | (go_simp; with_reducible rfl))
        try simp only [Act.put, List.setIfInBounds_toArray, List.set_cons_zero, List.set_cons_succ]
        refine take_dst (some 185) (i := 2) (v := ?vka3) rfl (by kernel_rfl) (by kernel_rfl) (by kernel_rfl) (by kernel_rfl) (fun _ _ _ h => h) (Or.inl ⟨by kernel_rfl, ?hka3⟩) (by assumption) ?rka3
        case hka3 => (intro w hSw; (try dsimp only at hSw); first | (go_simp; done) | (go_simp; with_reducible rfl))
        try simp only [Act.put, List.setIfInBounds_toArray, List.set_cons_zero, List.set_cons_succ]
        refine take_dst (some 186) (i := 3) (v := ?vka4) rfl (by kernel_rfl) (by kernel_rfl) (by kernel_rfl) (by kernel_rfl) (fun _ _ _ h => h) (Or.inl ⟨by kernel_rfl, ?hka4⟩) (by assumption) ?rka4
        case hka4 => (intro w hSw; (try dsimp only at hSw); first | (go_simp; done) | (go_simp; with_reducible rfl))
        try simp only [Act.put, List.setIfInBounds_toArray, List.set_cons_zero, List.set_cons_succ]
        refine take_dst (some 187) (i := 4) (v := ?vka5) rfl (by kernel_rfl) (by kernel_rfl) (by kernel_rfl) (by kernel_rfl) (fun _ _ _ h => h) (Or.inl ⟨by kernel_rfl, ?hka5⟩) (by assumption) ?rka5
        case hka5 => (intro w hSw; (try dsimp only at hSw); first | (go_simp; done) | (go_simp; with_reducible rfl))
        try simp only [Act.put, List.setIfInBounds_toArray, List.set_cons_zero, List.set_cons_succ]
        refine take_dst (some 188) (i := 5) (v := ?vka6) rfl (by kernel_rfl) (by kernel_rfl) (by kernel_rfl) (by kernel_rfl) (fun _ _ _ h => h) (Or.inl ⟨by kernel_rfl, ?hka6⟩) (by assumption) ?rka6
        case hka6 => (intro w hSw; (try dsimp only at hSw); first | (go_simp; done) | (go_simp; with_reducible rfl))
        try simp only [Act.put, List.setIfInBounds_toArray, List.set_cons_zero, List.set_cons_succ]
        refine wpAnyH_ready (rs := [6]) (by kernel_rfl) (by simp) ?_
        refine AllReadyH.cons rfl (fun Kka7 hKka7 => ?_) AllReadyH.nil
        (go_simp; go_at_call 16; refine (HCd.out _ OO.out).mono ?_; rintro e wn ⟨rfl, on⟩; have O9 := Lib.hid (OO.out.trans on); clear OO on; have OO := O9; clear O9; go_wp2_with fail)
        refine hKka7.out _ _ ?ska7 (fun hHeldka7 => ?_)
        case ska7 => exact CD.out _ OO.out
        clear hKka7 Kka7
        try simp only [Act.put, List.setIfInBounds_toArray, List.set_cons_zero, List.set_cons_succ]
        refine take_dst (some 190) (i := 7) (v := ?vka8) rfl (by kernel_rfl) (by kernel_rfl) (by kernel_rfl) (by kernel_rfl) (fun _ _ _ h => h) (Or.inl ⟨by kernel_rfl, ?hka8⟩) (by assumption) ?rka8
        case hka8 => (intro w hSw; (try dsimp only at hSw); first | (go_simp; done) | (go_simp; with_reducible rfl))
        try simp only [Act.put, List.setIfInBounds_toArray, List.set_cons_zero, List.set_cons_succ]
        refine take_dst (some 191) (i := 8) (v := ?vka9) rfl (by kernel_rfl) (by kernel_rfl) (by kernel_rfl) (by kernel_rfl) (fun _ _ _ h => h) (Or.inl ⟨by kernel_rfl, ?hka9⟩) (by assumption) ?rka9
        case hka9 => (intro w hSw; (try dsimp only at hSw); first | (go_simp; done) | (go_simp; with_reducible rfl))
        try simp only [Act.put, List.setIfInBounds_toArray, List.set_cons_zero, List.set_cons_succ]
        refine take_dst (some 192) (i := 9) (v := ?vka10) rfl (by kernel_rfl) (by kernel_rfl) (by kernel_rfl) (by kernel_rfl) (fun _ _ _ h => h) (Or.inl ⟨by kernel_rfl, ?hka10⟩) (by assumption) ?rka10
        case hka10 => (intro w hSw; (try dsimp only at hSw); first | (go_simp; done) | (go_simp; with_reducible rfl))
        try simp only [Act.put, List.setIfInBounds_toArray, List.set_cons_zero, List.set_cons_succ]
        refine take_dst (some 193) (i := 10) (v := ?vka11) rfl (by kernel_rfl) (by kernel_rfl) (by kernel_rfl) (by kernel_rfl) (fun _ _ _ h => h) (Or.inl ⟨by kernel_rfl, ?hka11⟩) (by assumption) ?rka11
        case hka11 => (intro w hSw; (try dsimp only at hSw); first | (go_simp; done) | (go_simp; with_reducible rfl))
        try simp only [Act.put, List.setIfInBounds_toArray, List.set_cons_zero, List.set_cons_succ]
        refine take_dst (some 194) (i := 11) (v := ?vka12) rfl (by kernel_rfl) (by kernel_rfl) (by kernel_rfl) (by kernel_rfl) (fun _ _ _ h => h) (Or.inl ⟨by kernel_rfl, ?hka12⟩) (by assumption) ?rka12
        case hka12 => (intro w hSw; (try dsimp only at hSw); first | (go_simp; done) | (go_simp; with_reducible rfl))
        try simp only [Act.put, List.setIfInBounds_toArray, List.set_cons_zero, List.set_cons_succ]
        refine take_dst (some 195) (i := 12) (v := ?vka13) rfl (by kernel_rfl) (by kernel_rfl) (by kernel_rfl) (by kernel_rfl) (fun _ _ _ h => h) (Or.inl ⟨by kernel_rfl, ?hka13⟩) (by assumption) ?rka13
        case hka13 => (intro w hSw; (try dsimp only at hSw); first | (go_simp; done) | (go_simp; with_reducible rfl))
        try simp only [Act.put, List.setIfInBounds_toArray, List.set_cons_zero, List.set_cons_succ]
        refine take_dst (some 196) (i := 13) (v := ?vka14) rfl (by kernel_rfl) (by kernel_rfl) (by kernel_rfl) (by kernel_rfl) (fun _ _ _ h => h) (Or.inl ⟨by kernel_rfl, ?hka14⟩) (by assumption) ?rka14
        case hka14 => (intro w hSw; (try dsimp only at hSw); first | (go_simp; done) | (go_simp; with_reducible rfl))
        try simp only [Act.put, List.setIfInBounds_toArray, List.set_cons_zero, List.set_cons_succ]
        refine take_dst (some 197) (i := 14) (v := ?vka15) rfl (by kernel_rfl) (by kernel_rfl) (by kernel_rfl) (by kernel_rfl) (fun _ _ _ h => h) (Or.inl ⟨by kernel_rfl, ?hka15⟩) (by assumption) ?rka15
        case hka15 => (intro w hSw; (try dsimp only at hSw); first | (go_simp; done) | (go_simp; with_reducible rfl))
        try simp only [Act.put, List.setIfInBounds_toArray, List.set_cons_zero, List.set_cons_succ]
        refine take_dst (some 198) (i := 15) (v := undef) rfl (by kernel_rfl) (by kernel_rfl) (by kernel_rfl) (by kernel_rfl) (fun _ _ _ h => h) (Or.inr ⟨by kernel_rfl, rfl⟩) (by assumption) ?rka16
        try simp only [Act.put, List.setIfInBounds_toArray, List.set_cons_zero, List.set_cons_succ]
        refine take_dst (some 199) (i := 16) (v := undef) rfl (by kernel_rfl) (by kernel_rfl) (by kernel_rfl) (by kernel_rfl) (fun _ _ _ h => h) (Or.inr ⟨by kernel_rfl, rfl⟩) (by assumption) ?rka17
        try simp only [Act.put, List.setIfInBounds_toArray, List.set_cons_zero, List.set_cons_succ]
        refine take_dst (some 200) (i := 17) (v := undef) rfl (by kernel_rfl) (by kernel_rfl) (by kernel_rfl) (by kernel_rfl) (fun _ _ _ h => h) (Or.inr ⟨by kernel_rfl, rfl⟩) (by assumption) ?rka18
        try simp only [Act.put, List.setIfInBounds_toArray, List.set_cons_zero, List.set_cons_succ]
        refine take_dst (some 201) (i := 18) (v := undef) rfl (by kernel_rfl) (by kernel_rfl) (by kernel_rfl) (by kernel_rfl) (fun _ _ _ h => h) (Or.inr ⟨by kernel_rfl, rfl⟩) (by assumption) ?rka19
        try simp only [Act.put, List.setIfInBounds_toArray, List.set_cons_zero, List.set_cons_succ]
        refine take_dst (some 202) (i := 19) (v := undef) rfl (by kernel_rfl) (by kernel_rfl) (by kernel_rfl) (by kernel_rfl) (fun _ _ _ h => h) (Or.inr ⟨by kernel_rfl, rfl⟩) (by assumption) ?rka20
        try simp only [Act.put, List.setIfInBounds_toArray, List.set_cons_zero, List.set_cons_succ]
        refine take_dst (some 203) (i := 20) (v := undef) rfl (by kernel_rfl) (by kernel_rfl) (by kernel_rfl) (by kernel_rfl) (fun _ _ _ h => h) (Or.inr ⟨by kernel_rfl, rfl⟩) (by assumption) ?rka21
        try simp only [Act.put, List.setIfInBounds_toArray, List.set_cons_zero, List.set_cons_succ]
        refine take_dst (some 204) (i := 21) (v := undef) rfl (by kernel_rfl) (by kernel_rfl) (by kernel_rfl) (by kernel_rfl) (fun _ _ _ h => h) (Or.inr ⟨by kernel_rfl, rfl⟩) (by assumption) ?rka22
        try simp only [Act.put, List.setIfInBounds_toArray, List.set_cons_zero, List.set_cons_succ]
        refine take_dst (some 205) (i := 22) (v := undef) rfl (by kernel_rfl) (by kernel_rfl) (by kernel_rfl) (by kernel_rfl) (fun _ _ _ h => h) (Or.inr ⟨by kernel_rfl, rfl⟩) (by assumption) ?rka23
        try simp only [Act.put, List.setIfInBounds_toArray, List.set_cons_zero, List.set_cons_succ]
        refine take_dst (some 206) (i := 23) (v := undef) rfl (by kernel_rfl) (by kernel_rfl) (by kernel_rfl) (by kernel_rfl) (fun _ _ _ h => h) (Or.inr ⟨by kernel_rfl, rfl⟩) (by assumption) ?rka24
        try simp only [Act.put, List.setIfInBounds_toArray, List.set_cons_zero, List.set_cons_succ]
        refine take_dst (some 207) (i := 24) (v := undef) rfl (by kernel_rfl) (by kernel_rfl) (by kernel_rfl) (by kernel_rfl) (fun _ _ _ h => h) (Or.inr ⟨by kernel_rfl, rfl⟩) (by assumption) ?rka25
        try simp only [Act.put, List.setIfInBounds_toArray, List.set_cons_zero, List.set_cons_succ]
        refine take_dst (some 208) (i := 25) (v := undef) rfl (by kernel_rfl) (by kernel_rfl) (by kernel_rfl) (by kernel_rfl) (fun _ _ _ h => h) (Or.inr ⟨by kernel_rfl, rfl⟩) (by assumption) ?rka26
        try simp only [Act.put, List.setIfInBounds_toArray, List.set_cons_zero, List.set_cons_succ]
        refine take_dst (some 209) (i := 26) (v := undef) rfl (by kernel_rfl) (by kernel_rfl) (by kernel_rfl) (by kernel_rfl) (fun _ _ _ h => h) (Or.inr ⟨by kernel_rfl, rfl⟩) (by assumption) ?rka27
        try simp only [Act.put, List.setIfInBounds_toArray, List.set_cons_zero, List.set_cons_succ]
        refine take_dst (some 210) (i := 27) (v := undef) rfl (by kernel_rfl) (by kernel_rfl) (by kernel_rfl) (by kernel_rfl) (fun _ _ _ h => h) (Or.inr ⟨by kernel_rfl, rfl⟩) (by assumption) ?rka28
        try simp only [Act.put, List.setIfInBounds_toArray, List.set_cons_zero, List.set_cons_succ]
        refine take_dst (some 211) (i := 28) (v := undef) rfl (by kernel_rfl) (by kernel_rfl) (by kernel_rfl) (by kernel_rfl) (fun _ _ _ h => h) (Or.inr ⟨by kernel_rfl, rfl⟩) (by assumption) ?rka29
        try simp only [Act.put, List.setIfInBounds_toArray, List.set_cons_zero, List.set_cons_succ]
        refine take_dst (some 212) (i := 29) (v := undef) rfl (by kernel_rfl) (by kernel_rfl) (by kernel_rfl) (by kernel_rfl) (fun _ _ _ h => h) (Or.inr ⟨by kernel_rfl, rfl⟩) (by assumption) ?rka30
        try simp only [Act.put, List.setIfInBounds_toArray, List.set_cons_zero, List.set_cons_succ]
        refine take_dst (some 213) (i := 30) (v := undef) rfl (by kernel_rfl) (by kernel_rfl) (by kernel_rfl) (by kernel_rfl) (fun _ _ _ h => h) (Or.inr ⟨by kernel_rfl, rfl⟩) (by assumption) ?rka31
        try simp only [Act.put, List.setIfInBounds_toArray, List.set_cons_zero, List.set_cons_succ]
        refine take_dst (some 214) (i := 31) (v := undef) rfl (by kernel_rfl) (by kernel_rfl) (by kernel_rfl) (by kernel_rfl) (fun _ _ _ h => h) (Or.inr ⟨by kernel_rfl, rfl⟩) (by assumption) ?rka32
        try simp only [Act.put, List.setIfInBounds_toArray, List.set_cons_zero, List.set_cons_succ]
        refine take_dst (some 215) (i := 32) (v := undef) rfl (by kernel_rfl) (by kernel_rfl) (by kernel_rfl) (by kernel_rfl) (fun _ _ _ h => h) (Or.inr ⟨by kernel_rfl, rfl⟩) (by assumption) ?rka33
        try simp only [Act.put, List.setIfInBounds_toArray, List.set_cons_zero, List.set_cons_succ]
        refine take_dst (some 216) (i := 33) (v := undef) rfl (by kernel_rfl) (by kernel_rfl) (by kernel_rfl) (by kernel_rfl) (fun _ _ _ h => h) (Or.inr ⟨by kernel_rfl, rfl⟩) (by assumption) ?rka34
        try simp only [Act.put, List.setIfInBounds_toArray, List.set_cons_zero, List.set_cons_succ]
        refine take_dst (some 217) (i := 34) (v := undef) rfl (by kernel_rfl) (by kernel_rfl) (by kernel_rfl) (by kernel_rfl) (fun _ _ _ h => h) (Or.inr ⟨by kernel_rfl, rfl⟩) (by assumption) ?rka35
        try simp only [Act.put, List.setIfInBounds_toArray, List.set_cons_zero, List.set_cons_succ]
        refine take_dst (some 218) (i := 35) (v := undef) rfl (by kernel_rfl) (by kernel_rfl) (by kernel_rfl) (by kernel_rfl) (fun _ _ _ h => h) (Or.inr ⟨by kernel_rfl, rfl⟩) (by assumption) ?rka36
        try simp only [Act.put, List.setIfInBounds_toArray, List.set_cons_zero, List.set_cons_succ]
        refine take_dst (some 219) (i := 36) (v := undef) rfl (by kernel_rfl) (by kernel_rfl) (by kernel_rfl) (by kernel_rfl) (fun _ _ _ h => h) (Or.inr ⟨by kernel_rfl, rfl⟩) (by assumption) ?rka37
        try simp only [Act.put, List.setIfInBounds_toArray, List.set_cons_zero, List.set_cons_succ]
        refine take_dst (some 220) (i := 37) (v := undef) rfl (by kernel_rfl) (by kernel_rfl) (by kernel_rfl) (by kernel_rfl) (fun _ _ _ h => h) (Or.inr ⟨by kernel_rfl, rfl⟩) (by assumption) ?rka38
        try simp only [Act.put, List.setIfInBounds_toArray, List.set_cons_zero, List.set_cons_succ]
        refine take_dst (some 221) (i := 38) (v := undef) rfl (by kernel_rfl) (by kernel_rfl) (by kernel_rfl) (by kernel_rfl) (fun _ _ _ h => h) (Or.inr ⟨by kernel_rfl, rfl⟩) (by assumption) ?rka39
        try simp only [Act.put, List.setIfInBounds_toArray, List.set_cons_zero, List.set_cons_succ]
        refine take_dst (some 222) (i := 39) (v := undef) rfl (by kernel_rfl) (by kernel_rfl) (by kernel_rfl) (by kernel_rfl) (fun _ _ _ h => h) (Or.inr ⟨by kernel_rfl, rfl⟩) (by assumption) ?rka40
        try simp only [Act.put, List.setIfInBounds_toArray, List.set_cons_zero, List.set_cons_succ]
        refine take_dst (some 223) (i := 40) (v := undef) rfl (by kernel_rfl) (by kernel_rfl) (by kernel_rfl) (by kernel_rfl) (fun _ _ _ h => h) (Or.inr ⟨by kernel_rfl, rfl⟩) (by assumption) ?rka41
        try simp only [Act.put, List.setIfInBounds_toArray, List.set_cons_zero, List.set_cons_succ]
        refine take_dst (some 224) (i := 41) (v := undef) rfl (by kernel_rfl) (by kernel_rfl) (by kernel_rfl) (by kernel_rfl) (fun _ _ _ h => h) (Or.inr ⟨by kernel_rfl, rfl⟩) (by assumption) ?rka42
        try simp only [Act.put, List.setIfInBounds_toArray, List.set_cons_zero, List.set_cons_succ]
        refine take_dst (some 225) (i := 42) (v := undef) rfl (by kernel_rfl) (by kernel_rfl) (by kernel_rfl) (by kernel_rfl) (fun _ _ _ h => h) (Or.inr ⟨by kernel_rfl, rfl⟩) (by assumption) ?rka43
        try simp only [Act.put, List.setIfInBounds_toArray, List.set_cons_zero, List.set_cons_succ]
        refine take_dst (some 226) (i := 43) (v := undef) rfl (by kernel_rfl) (by kernel_rfl) (by kernel_rfl) (by kernel_rfl) (fun _ _ _ h => h) (Or.inr ⟨by kernel_rfl, rfl⟩) (by assumption) ?rka44
        try simp only [Act.put, List.setIfInBounds_toArray, List.set_cons_zero, List.set_cons_succ]
        refine take_dst (some 227) (i := 44) (v := undef) rfl (by kernel_rfl) (by kernel_rfl) (by kernel_rfl) (by kernel_rfl) (fun _ _ _ h => h) (Or.inr ⟨by kernel_rfl, rfl⟩) (by assumption) ?rka45
        try simp only [Act.put, List.setIfInBounds_toArray, List.set_cons_zero, List.set_cons_succ]
        refine take_dst (some 228) (i := 45) (v := undef) rfl (by kernel_rfl) (by kernel_rfl) (by kernel_rfl) (by kernel_rfl) (fun _ _ _ h => h) (Or.inr ⟨by kernel_rfl, rfl⟩) (by assumption) ?rka46
        try simp only [Act.put, List.setIfInBounds_toArray, List.set_cons_zero, List.set_cons_succ]
        refine take_dst (some 229) (i := 46) (v := ?vka47) rfl (by kernel_rfl) (by kernel_rfl) (by kernel_rfl) (by kernel_rfl) (fun _ _ _ h => h) (Or.inl ⟨by kernel_rfl, ?hka47⟩) (by assumption) ?rka47
        case hka47 => (intro w hSw; (try dsimp only at hSw); first | (go_simp; done) | (go_simp; with_reducible rfl))
        try simp only [Act.put, List.setIfInBounds_toArray, List.set_cons_zero, List.set_cons_succ]
        refine take_dst (some 6) (i := 47) (v := ?vka48) rfl (by kernel_rfl) (by kernel_rfl) (by kernel_rfl) (by kernel_rfl) (fun _ _ _ h => h) (Or.inl ⟨by kernel_rfl, ?hka48⟩) (by assumption) ?rka48
        case hka48 => (intro w hSw; (try dsimp only at hSw); first | (go_simp; done) | (go_simp; with_reducible rfl))
        try simp only [Act.put, List.setIfInBounds_toArray, List.set_cons_zero, List.set_cons_succ]
        refine wpAnyH_done (by kernel_rfl) ?_ _
        go_wp2
        go_ret
        exact ⟨rfl, below_nil (OD.out.trans OO.out)⟩
      · rw [if_neg h8] at hwq
        rw [hwq] at HPq
        clear hwq
        have hwi : IntKind.i64.wrap ((i : Int) + 1) = ((i + 1 : Nat) : Int) := by rw [IntWalk.i64_in _ (by omega)]; rfl
        have HQK := BSD.out.cell 1 (v := .slice (some ⟨g', 0, none⟩) (nR + 1) c') rfl
        have HK4 := Lib.hid (fun w' (o : Only Nil wD w') => only_cell0 o HQK)
        have hb9 : (((nR + 1 : Nat) : Int) == 17) = false := by simp; omega
        clear HQK BSD hR0'
        generalize hn1 : nR + 1 = n1 at *
        generalize hi1 : i + 1 = i1 at *
        have HN1 := Lib.hid hn1
        have HI1 := Lib.hid hi1
        clear hn1 hi1 h8
        go_wp2_with fail
        refine HPq.out.mono ?_
        rintro e w8 ⟨v, rfl, hv, o8⟩
        have HEr := Lib.hid hv
        obtain ⟨be, rfl, _⟩ := hv
        have O8 := Lib.hid o8
        have HWh := Lib.hid (show Calls Tryz.prog 18 #[.iface 46 (.pointer (some ⟨be, 0, none⟩))] w8 (fun e w' => ∃ a c, e = .returned (.slice a 3 c) ∧ w'.ownsRow w8.heap.size 3 1 (.slice a 3 c) 3 (intsC [i1, 1, n1]) ∧ Only Nil w8 w') from where_any HEr.out (HE7.out.keep o8) (by simp [whereF]))
        clear o8 q7 HPq
        go_wp2_with fail
        refine HWh.out.mono ?_
        rintro e w9 ⟨ra, rc, rfl, hown, o9⟩
        have O9 := Lib.hid (O8.out.trans o9)
        have HCd := Lib.hid (fun w' (o : Only Nil w9 w') => show Calls Tryz.prog 16 #[.iface 46 (.pointer (some ⟨be, 0, none⟩))] w' (fun e w'' => e = .returned (.int .i64 41) ∧ Only Nil w' w'') from code_any (HEr.out.keep (o9.trans o)) (HE7.out.keep (O8.out.trans (o9.trans o))))
        have p9 := HK4.out _ O9.out
        obtain ⟨rb, rfl, r9⟩ := own_ints hown 0 (by simp)
        obtain ⟨rb', hrb, r10⟩ := own_ints hown 1 (by simp)
        obtain rfl : rb = rb' := by simpa using hrb
        obtain ⟨rb', hrb, r11⟩ := own_ints hown 2 (by simp)
        obtain rfl : rb = rb' := by simpa using hrb
        have r9 : w9.cell? ⟨rb, 0, none⟩ = some (.int .i64 (i1 : Int)) := r9
        have r10 : w9.cell? ⟨rb, 1, none⟩ = some (.int .i64 1) := r10
        have r11 : w9.cell? ⟨rb, 2, none⟩ = some (.int .i64 (n1 : Int)) := r11
        clear hrb
        have OO := Lib.hid (show Only Nil w9 w9.drew from (Only.refl Nil w9).drew)
        have CD := Lib.hid (show ∀ w', Only Nil w9 w' → (fun w' : World => w'.cell? ⟨Sb, 1, none⟩ = some (.slice (some ⟨g', 0, none⟩) n1 c') ∧ w'.cell? ⟨rb, 0, none⟩ = some (.int .i64 (i1 : Int)) ∧ w'.cell? ⟨rb, 1, none⟩ = some (.int .i64 1) ∧ w'.cell? ⟨rb, 2, none⟩ = some (.int .i64 (n1 : Int))) w' from fun w' o => ⟨only_cell0 o p9, only_cell0 o r9, only_cell0 o r10, only_cell0 o r11⟩)
        have OD := Lib.hid (OD'.out.trans O9.out)
        clear hown o9 p9 r9 r10 r11 HWh
        go_upto_region 28 with (fail)
        refine wp_region_held_drew (S := fun w' => w'.cell? ⟨Sb, 1, none⟩ = some (.slice (some ⟨g', 0, none⟩) n1 c') ∧ w'.cell? ⟨rb, 0, none⟩ = some (.int .i64 (i1 : Int)) ∧ w'.cell? ⟨rb, 1, none⟩ = some (.int .i64 1) ∧ w'.cell? ⟨rb, 2, none⟩ = some (.int .i64 (n1 : Int))) (by kernel_rfl) (CD.out _ OO.out) (fun hHeld => ?_)
        refine take_dst (some 183) (i := 0) (v := ?vkb1) rfl (by kernel_rfl) (by kernel_rfl) (by kernel_rfl) (by kernel_rfl) (fun _ _ _ h => h) (Or.inl ⟨by kernel_rfl, ?hkb1⟩) (by assumption) ?rkb1
        case hkb1 => (intro w hSw; (try dsimp only at hSw); first | (go_simp; done) | (go_simp; with_reducible rfl))
        try simp only [Act.put, List.setIfInBounds_toArray, List.set_cons_zero, List.set_cons_succ]
        refine take_dst (some 184) (i := 1) (v := ?vkb2) rfl (by kernel_rfl) (by kernel_rfl) (by kernel_rfl) (by kernel_rfl) (fun _ _ _ h => h) (Or.inl ⟨by kernel_rfl, ?hkb2⟩) (by assumption) ?rkb2
        case hkb2 => (intro w hSw; (try dsimp only at hSw); first | (go_simp; done) | (go_simp; with_reducible rfl))
        try simp only [Act.put, List.setIfInBounds_toArray, List.set_cons_zero, List.set_cons_succ]
        refine take_dst (some 185) (i := 2) (v := ?vkb3) rfl (by kernel_rfl) (by kernel_rfl) (by kernel_rfl) (by kernel_rfl) (fun _ _ _ h => h) (Or.inl ⟨by kernel_rfl, ?hkb3⟩) (by assumption) ?rkb3
        case hkb3 => (intro w hSw; (try dsimp only at hSw); first | (go_simp; done) | (go_simp; with_reducible rfl))
        try simp only [Act.put, List.setIfInBounds_toArray, List.set_cons_zero, List.set_cons_succ]
        refine take_dst (some 186) (i := 3) (v := ?vkb4) rfl (by kernel_rfl) (by kernel_rfl) (by kernel_rfl) (by kernel_rfl) (fun _ _ _ h => h) (Or.inl ⟨by kernel_rfl, ?hkb4⟩) (by assumption) ?rkb4
        case hkb4 => (intro w hSw; (try dsimp only at hSw); first | (go_simp; done) | (go_simp; with_reducible rfl))
        try simp only [Act.put, List.setIfInBounds_toArray, List.set_cons_zero, List.set_cons_succ]
        refine take_dst (some 187) (i := 4) (v := ?vkb5) rfl (by kernel_rfl) (by kernel_rfl) (by kernel_rfl) (by kernel_rfl) (fun _ _ _ h => h) (Or.inl ⟨by kernel_rfl, ?hkb5⟩) (by assumption) ?rkb5
        case hkb5 => (intro w hSw; (try dsimp only at hSw); first | (go_simp; done) | (go_simp; with_reducible rfl))
        try simp only [Act.put, List.setIfInBounds_toArray, List.set_cons_zero, List.set_cons_succ]
        refine take_dst (some 188) (i := 5) (v := undef) rfl (by kernel_rfl) (by kernel_rfl) (by kernel_rfl) (by kernel_rfl) (fun _ _ _ h => h) (Or.inr ⟨by kernel_rfl, rfl⟩) (by assumption) ?rkb6
        try simp only [Act.put, List.setIfInBounds_toArray, List.set_cons_zero, List.set_cons_succ]
        refine take_dst (some 189) (i := 6) (v := undef) rfl (by kernel_rfl) (by kernel_rfl) (by kernel_rfl) (by kernel_rfl) (fun _ _ _ h => h) (Or.inr ⟨by kernel_rfl, rfl⟩) (by assumption) ?rkb7
        try simp only [Act.put, List.setIfInBounds_toArray, List.set_cons_zero, List.set_cons_succ]
        refine take_dst (some 190) (i := 7) (v := undef) rfl (by kernel_rfl) (by kernel_rfl) (by kernel_rfl) (by kernel_rfl) (fun _ _ _ h => h) (Or.inr ⟨by kernel_rfl, rfl⟩) (by assumption) ?rkb8
        try simp only [Act.put, List.setIfInBounds_toArray, List.set_cons_zero, List.set_cons_succ]
        refine take_dst (some 191) (i := 8) (v := ?vkb9) rfl (by kernel_rfl) (by kernel_rfl) (by kernel_rfl) (by kernel_rfl) (fun _ _ _ h => h) (Or.inl ⟨by kernel_rfl, ?hkb9⟩) (by assumption) ?rkb9
        case hkb9 => (intro w hSw; (try dsimp only at hSw); first | (go_simp; done) | (go_simp; with_reducible rfl))
        try simp only [Act.put, List.setIfInBounds_toArray, List.set_cons_zero, List.set_cons_succ]
        refine take_dst (some 192) (i := 9) (v := ?vkb10) rfl (by kernel_rfl) (by kernel_rfl) (by kernel_rfl) (by kernel_rfl) (fun _ _ _ h => h) (Or.inl ⟨by kernel_rfl, ?hkb10⟩) (by assumption) ?rkb10
        case hkb10 => (intro w hSw; (try dsimp only at hSw); first | (go_simp; done) | (go_simp; with_reducible rfl))
        try simp only [Act.put, List.setIfInBounds_toArray, List.set_cons_zero, List.set_cons_succ]
        refine take_dst (some 193) (i := 10) (v := undef) rfl (by kernel_rfl) (by kernel_rfl) (by kernel_rfl) (by kernel_rfl) (fun _ _ _ h => h) (Or.inr ⟨by kernel_rfl, rfl⟩) (by assumption) ?rkb11
        try simp only [Act.put, List.setIfInBounds_toArray, List.set_cons_zero, List.set_cons_succ]
        refine take_dst (some 194) (i := 11) (v := undef) rfl (by kernel_rfl) (by kernel_rfl) (by kernel_rfl) (by kernel_rfl) (fun _ _ _ h => h) (Or.inr ⟨by kernel_rfl, rfl⟩) (by assumption) ?rkb12
        try simp only [Act.put, List.setIfInBounds_toArray, List.set_cons_zero, List.set_cons_succ]
        refine take_dst (some 195) (i := 12) (v := undef) rfl (by kernel_rfl) (by kernel_rfl) (by kernel_rfl) (by kernel_rfl) (fun _ _ _ h => h) (Or.inr ⟨by kernel_rfl, rfl⟩) (by assumption) ?rkb13
        try simp only [Act.put, List.setIfInBounds_toArray, List.set_cons_zero, List.set_cons_succ]
        refine take_dst (some 196) (i := 13) (v := ?vkb14) rfl (by kernel_rfl) (by kernel_rfl) (by kernel_rfl) (by kernel_rfl) (fun _ _ _ h => h) (Or.inl ⟨by kernel_rfl, ?hkb14⟩) (by assumption) ?rkb14
        case hkb14 => (intro w hSw; (try dsimp only at hSw); first | (go_simp; done) | (go_simp; with_reducible rfl))
        try simp only [Act.put, List.setIfInBounds_toArray, List.set_cons_zero, List.set_cons_succ]
        refine take_dst (some 197) (i := 14) (v := ?vkb15) rfl (by kernel_rfl) (by kernel_rfl) (by kernel_rfl) (by kernel_rfl) (fun _ _ _ h => h) (Or.inl ⟨by kernel_rfl, ?hkb15⟩) (by assumption) ?rkb15
        case hkb15 => (intro w hSw; (try dsimp only at hSw); first | (go_simp; done) | (go_simp; with_reducible rfl))
        try simp only [Act.put, List.setIfInBounds_toArray, List.set_cons_zero, List.set_cons_succ]
        refine take_dst (some 198) (i := 15) (v := ?vkb16) rfl (by kernel_rfl) (by kernel_rfl) (by kernel_rfl) (by kernel_rfl) (fun _ _ _ h => h) (Or.inl ⟨by kernel_rfl, ?hkb16⟩) (by assumption) ?rkb16
        case hkb16 => (intro w hSw; (try dsimp only at hSw); first | (go_simp; done) | (go_simp; with_reducible rfl))
        try simp only [Act.put, List.setIfInBounds_toArray, List.set_cons_zero, List.set_cons_succ]
        refine wpAnyH_ready (rs := [16]) (by kernel_rfl) (by simp) ?_
        refine AllReadyH.cons rfl (fun Kkb17 hKkb17 => ?_) AllReadyH.nil
        (go_simp; go_at_call 16; refine (HCd.out _ OO.out).mono ?_; rintro e wn ⟨rfl, on⟩; have O9 := Lib.hid (OO.out.trans on); clear OO on; have OO := O9; clear O9; go_wp2_with fail)
        refine hKkb17.out _ _ ?skb17 (fun hHeldkb17 => ?_)
        case skb17 => exact CD.out _ OO.out
        clear hKkb17 Kkb17
        try simp only [Act.put, List.setIfInBounds_toArray, List.set_cons_zero, List.set_cons_succ]
        refine take_dst (some 200) (i := 17) (v := ?vkb18) rfl (by kernel_rfl) (by kernel_rfl) (by kernel_rfl) (by kernel_rfl) (fun _ _ _ h => h) (Or.inl ⟨by kernel_rfl, ?hkb18⟩) (by assumption) ?rkb18
        case hkb18 => (intro w hSw; (try dsimp only at hSw); first | (go_simp; done) | (go_simp; with_reducible rfl))
        try simp only [Act.put, List.setIfInBounds_toArray, List.set_cons_zero, List.set_cons_succ]
        refine take_dst (some 201) (i := 18) (v := ?vkb19) rfl (by kernel_rfl) (by kernel_rfl) (by kernel_rfl) (by kernel_rfl) (fun _ _ _ h => h) (Or.inl ⟨by kernel_rfl, ?hkb19⟩) (by assumption) ?rkb19
        case hkb19 => (intro w hSw; (try dsimp only at hSw); first | (go_simp; done) | (go_simp; with_reducible rfl))
        try simp only [Act.put, List.setIfInBounds_toArray, List.set_cons_zero, List.set_cons_succ]
        refine take_dst (some 202) (i := 19) (v := ?vkb20) rfl (by kernel_rfl) (by kernel_rfl) (by kernel_rfl) (by kernel_rfl) (fun _ _ _ h => h) (Or.inl ⟨by kernel_rfl, ?hkb20⟩) (by assumption) ?rkb20
        case hkb20 => (intro w hSw; (try dsimp only at hSw); first | (go_simp; done) | (go_simp; with_reducible rfl))
        try simp only [Act.put, List.setIfInBounds_toArray, List.set_cons_zero, List.set_cons_succ]
        refine take_dst (some 203) (i := 20) (v := ?vkb21) rfl (by kernel_rfl) (by kernel_rfl) (by kernel_rfl) (by kernel_rfl) (fun _ _ _ h => h) (Or.inl ⟨by kernel_rfl, ?hkb21⟩) (by assumption) ?rkb21
        case hkb21 => (intro w hSw; (try dsimp only at hSw); first | (go_simp; done) | (go_simp; with_reducible rfl))
        try simp only [Act.put, List.setIfInBounds_toArray, List.set_cons_zero, List.set_cons_succ]
        refine take_dst (some 204) (i := 21) (v := ?vkb22) rfl (by kernel_rfl) (by kernel_rfl) (by kernel_rfl) (by kernel_rfl) (fun _ _ _ h => h) (Or.inl ⟨by kernel_rfl, ?hkb22⟩) (by assumption) ?rkb22
        case hkb22 => (intro w hSw; (try dsimp only at hSw); first | (go_simp; done) | (go_simp; with_reducible rfl))
        try simp only [Act.put, List.setIfInBounds_toArray, List.set_cons_zero, List.set_cons_succ]
        refine take_dst (some 205) (i := 22) (v := ?vkb23) rfl (by kernel_rfl) (by kernel_rfl) (by kernel_rfl) (by kernel_rfl) (fun _ _ _ h => h) (Or.inl ⟨by kernel_rfl, ?hkb23⟩) (by assumption) ?rkb23
        case hkb23 => (intro w hSw; (try dsimp only at hSw); first | (go_simp; done) | (go_simp; with_reducible rfl))
        try simp only [Act.put, List.setIfInBounds_toArray, List.set_cons_zero, List.set_cons_succ]
        refine take_dst (some 206) (i := 23) (v := ?vkb24) rfl (by kernel_rfl) (by kernel_rfl) (by kernel_rfl) (by kernel_rfl) (fun _ _ _ h => h) (Or.inl ⟨by kernel_rfl, ?hkb24⟩) (by assumption) ?rkb24
        case hkb24 => (intro w hSw; (try dsimp only at hSw); first | (go_simp; done) | (go_simp; with_reducible rfl))
        try simp only [Act.put, List.setIfInBounds_toArray, List.set_cons_zero, List.set_cons_succ]
        refine take_dst (some 207) (i := 24) (v := ?vkb25) rfl (by kernel_rfl) (by kernel_rfl) (by kernel_rfl) (by kernel_rfl) (fun _ _ _ h => h) (Or.inl ⟨by kernel_rfl, ?hkb25⟩) (by assumption) ?rkb25
        case hkb25 => (intro w hSw; (try dsimp only at hSw); first | (go_simp; done) | (go_simp; with_reducible rfl))
        try simp only [Act.put, List.setIfInBounds_toArray, List.set_cons_zero, List.set_cons_succ]
        refine take_dst (some 208) (i := 25) (v := ?vkb26) rfl (by kernel_rfl) (by kernel_rfl) (by kernel_rfl) (by kernel_rfl) (fun _ _ _ h => h) (Or.inl ⟨by kernel_rfl, ?hkb26⟩) (by assumption) ?rkb26
        case hkb26 => (intro w hSw; (try dsimp only at hSw); first | (go_simp; done) | (go_simp; with_reducible rfl))
        try simp only [Act.put, List.setIfInBounds_toArray, List.set_cons_zero, List.set_cons_succ]
        refine take_dst (some 209) (i := 26) (v := ?vkb27) rfl (by kernel_rfl) (by kernel_rfl) (by kernel_rfl) (by kernel_rfl) (fun _ _ _ h => h) (Or.inl ⟨by kernel_rfl, ?hkb27⟩) (by assumption) ?rkb27
        case hkb27 => (intro w hSw; (try dsimp only at hSw); first | (go_simp; done) | (go_simp; with_reducible rfl))
        try simp only [Act.put, List.setIfInBounds_toArray, List.set_cons_zero, List.set_cons_succ]
        refine take_dst (some 210) (i := 27) (v := ?vkb28) rfl (by kernel_rfl) (by kernel_rfl) (by kernel_rfl) (by kernel_rfl) (fun _ _ _ h => h) (Or.inl ⟨by kernel_rfl, ?hkb28⟩) (by assumption) ?rkb28
        case hkb28 => (intro w hSw; (try dsimp only at hSw); first | (go_simp; done) | (go_simp; with_reducible rfl))
        try simp only [Act.put, List.setIfInBounds_toArray, List.set_cons_zero, List.set_cons_succ]
        refine take_dst (some 211) (i := 28) (v := ?vkb29) rfl (by kernel_rfl) (by kernel_rfl) (by kernel_rfl) (by kernel_rfl) (fun _ _ _ h => h) (Or.inl ⟨by kernel_rfl, ?hkb29⟩) (by assumption) ?rkb29
        case hkb29 => (intro w hSw; (try dsimp only at hSw); first | (go_simp; done) | (go_simp; with_reducible rfl))
        try simp only [Act.put, List.setIfInBounds_toArray, List.set_cons_zero, List.set_cons_succ]
        refine take_dst (some 212) (i := 29) (v := ?vkb30) rfl (by kernel_rfl) (by kernel_rfl) (by kernel_rfl) (by kernel_rfl) (fun _ _ _ h => h) (Or.inl ⟨by kernel_rfl, ?hkb30⟩) (by assumption) ?rkb30
        case hkb30 => (intro w hSw; (try dsimp only at hSw); first | (go_simp; done) | (go_simp; with_reducible rfl))
        try simp only [Act.put, List.setIfInBounds_toArray, List.set_cons_zero, List.set_cons_succ]
        refine take_dst (some 213) (i := 30) (v := ?vkb31) rfl (by kernel_rfl) (by kernel_rfl) (by kernel_rfl) (by kernel_rfl) (fun _ _ _ h => h) (Or.inl ⟨by kernel_rfl, ?hkb31⟩) (by assumption) ?rkb31
        case hkb31 => (intro w hSw; (try dsimp only at hSw); first | (go_simp; done) | (go_simp; with_reducible rfl))
        try simp only [Act.put, List.setIfInBounds_toArray, List.set_cons_zero, List.set_cons_succ]
        refine take_dst (some 214) (i := 31) (v := ?vkb32) rfl (by kernel_rfl) (by kernel_rfl) (by kernel_rfl) (by kernel_rfl) (fun _ _ _ h => h) (Or.inl ⟨by kernel_rfl, ?hkb32⟩) (by assumption) ?rkb32
        case hkb32 => (intro w hSw; (try dsimp only at hSw); first | (go_simp; done) | (go_simp; with_reducible rfl))
        try simp only [Act.put, List.setIfInBounds_toArray, List.set_cons_zero, List.set_cons_succ]
        refine take_dst (some 215) (i := 32) (v := ?vkb33) rfl (by kernel_rfl) (by kernel_rfl) (by kernel_rfl) (by kernel_rfl) (fun _ _ _ h => h) (Or.inl ⟨by kernel_rfl, ?hkb33⟩) (by assumption) ?rkb33
        case hkb33 => (intro w hSw; (try dsimp only at hSw); first | (go_simp; done) | (go_simp; with_reducible rfl))
        try simp only [Act.put, List.setIfInBounds_toArray, List.set_cons_zero, List.set_cons_succ]
        refine take_dst (some 216) (i := 33) (v := ?vkb34) rfl (by kernel_rfl) (by kernel_rfl) (by kernel_rfl) (by kernel_rfl) (fun _ _ _ h => h) (Or.inl ⟨by kernel_rfl, ?hkb34⟩) (by assumption) ?rkb34
        case hkb34 => (intro w hSw; (try dsimp only at hSw); first | (go_simp; done) | (go_simp; with_reducible rfl))
        try simp only [Act.put, List.setIfInBounds_toArray, List.set_cons_zero, List.set_cons_succ]
        refine take_dst (some 217) (i := 34) (v := ?vkb35) rfl (by kernel_rfl) (by kernel_rfl) (by kernel_rfl) (by kernel_rfl) (fun _ _ _ h => h) (Or.inl ⟨by kernel_rfl, ?hkb35⟩) (by assumption) ?rkb35
        case hkb35 => (intro w hSw; (try dsimp only at hSw); first | (go_simp; done) | (go_simp; with_reducible rfl))
        try simp only [Act.put, List.setIfInBounds_toArray, List.set_cons_zero, List.set_cons_succ]
        refine take_dst (some 218) (i := 35) (v := ?vkb36) rfl (by kernel_rfl) (by kernel_rfl) (by kernel_rfl) (by kernel_rfl) (fun _ _ _ h => h) (Or.inl ⟨by kernel_rfl, ?hkb36⟩) (by assumption) ?rkb36
        case hkb36 => (intro w hSw; (try dsimp only at hSw); first | (go_simp; done) | (go_simp; with_reducible rfl))
        try simp only [Act.put, List.setIfInBounds_toArray, List.set_cons_zero, List.set_cons_succ]
        refine take_dst (some 219) (i := 36) (v := ?vkb37) rfl (by kernel_rfl) (by kernel_rfl) (by kernel_rfl) (by kernel_rfl) (fun _ _ _ h => h) (Or.inl ⟨by kernel_rfl, ?hkb37⟩) (by assumption) ?rkb37
        case hkb37 => (intro w hSw; (try dsimp only at hSw); first | (go_simp; done) | (go_simp; with_reducible rfl))
        try simp only [Act.put, List.setIfInBounds_toArray, List.set_cons_zero, List.set_cons_succ]
        refine take_dst (some 220) (i := 37) (v := ?vkb38) rfl (by kernel_rfl) (by kernel_rfl) (by kernel_rfl) (by kernel_rfl) (fun _ _ _ h => h) (Or.inl ⟨by kernel_rfl, ?hkb38⟩) (by assumption) ?rkb38
        case hkb38 => (intro w hSw; (try dsimp only at hSw); first | (go_simp; done) | (go_simp; with_reducible rfl))
        try simp only [Act.put, List.setIfInBounds_toArray, List.set_cons_zero, List.set_cons_succ]
        refine take_dst (some 221) (i := 38) (v := ?vkb39) rfl (by kernel_rfl) (by kernel_rfl) (by kernel_rfl) (by kernel_rfl) (fun _ _ _ h => h) (Or.inl ⟨by kernel_rfl, ?hkb39⟩) (by assumption) ?rkb39
        case hkb39 => (intro w hSw; (try dsimp only at hSw); first | (go_simp; done) | (go_simp; with_reducible rfl))
        try simp only [Act.put, List.setIfInBounds_toArray, List.set_cons_zero, List.set_cons_succ]
        refine take_dst (some 222) (i := 39) (v := ?vkb40) rfl (by kernel_rfl) (by kernel_rfl) (by kernel_rfl) (by kernel_rfl) (fun _ _ _ h => h) (Or.inl ⟨by kernel_rfl, ?hkb40⟩) (by assumption) ?rkb40
        case hkb40 => (intro w hSw; (try dsimp only at hSw); first | (go_simp; done) | (go_simp; with_reducible rfl))
        try simp only [Act.put, List.setIfInBounds_toArray, List.set_cons_zero, List.set_cons_succ]
        refine take_dst (some 223) (i := 40) (v := ?vkb41) rfl (by kernel_rfl) (by kernel_rfl) (by kernel_rfl) (by kernel_rfl) (fun _ _ _ h => h) (Or.inl ⟨by kernel_rfl, ?hkb41⟩) (by assumption) ?rkb41
        case hkb41 => (intro w hSw; (try dsimp only at hSw); first | (go_simp; done) | (go_simp; with_reducible rfl))
        try simp only [Act.put, List.setIfInBounds_toArray, List.set_cons_zero, List.set_cons_succ]
        refine take_dst (some 224) (i := 41) (v := ?vkb42) rfl (by kernel_rfl) (by kernel_rfl) (by kernel_rfl) (by kernel_rfl) (fun _ _ _ h => h) (Or.inl ⟨by kernel_rfl, ?hkb42⟩) (by assumption) ?rkb42
        case hkb42 => (intro w hSw; (try dsimp only at hSw); first | (go_simp; done) | (go_simp; with_reducible rfl))
        try simp only [Act.put, List.setIfInBounds_toArray, List.set_cons_zero, List.set_cons_succ]
        refine take_dst (some 225) (i := 42) (v := ?vkb43) rfl (by kernel_rfl) (by kernel_rfl) (by kernel_rfl) (by kernel_rfl) (fun _ _ _ h => h) (Or.inl ⟨by kernel_rfl, ?hkb43⟩) (by assumption) ?rkb43
        case hkb43 => (intro w hSw; (try dsimp only at hSw); first | (go_simp; done) | (go_simp; with_reducible rfl))
        try simp only [Act.put, List.setIfInBounds_toArray, List.set_cons_zero, List.set_cons_succ]
        refine take_dst (some 226) (i := 43) (v := ?vkb44) rfl (by kernel_rfl) (by kernel_rfl) (by kernel_rfl) (by kernel_rfl) (fun _ _ _ h => h) (Or.inl ⟨by kernel_rfl, ?hkb44⟩) (by assumption) ?rkb44
        case hkb44 => (intro w hSw; (try dsimp only at hSw); first | (go_simp; done) | (go_simp; with_reducible rfl))
        try simp only [Act.put, List.setIfInBounds_toArray, List.set_cons_zero, List.set_cons_succ]
        refine take_dst (some 227) (i := 44) (v := ?vkb45) rfl (by kernel_rfl) (by kernel_rfl) (by kernel_rfl) (by kernel_rfl) (fun _ _ _ h => h) (Or.inl ⟨by kernel_rfl, ?hkb45⟩) (by assumption) ?rkb45
        case hkb45 => (intro w hSw; (try dsimp only at hSw); first | (go_simp; done) | (go_simp; with_reducible rfl))
        try simp only [Act.put, List.setIfInBounds_toArray, List.set_cons_zero, List.set_cons_succ]
        refine take_dst (some 228) (i := 45) (v := ?vkb46) rfl (by kernel_rfl) (by kernel_rfl) (by kernel_rfl) (by kernel_rfl) (fun _ _ _ h => h) (Or.inl ⟨by kernel_rfl, ?hkb46⟩) (by assumption) ?rkb46
        case hkb46 => (intro w hSw; (try dsimp only at hSw); first | (go_simp; done) | (go_simp; with_reducible rfl))
        try simp only [Act.put, List.setIfInBounds_toArray, List.set_cons_zero, List.set_cons_succ]
        refine take_dst (some 229) (i := 46) (v := ?vkb47) rfl (by kernel_rfl) (by kernel_rfl) (by kernel_rfl) (by kernel_rfl) (fun _ _ _ h => h) (Or.inl ⟨by kernel_rfl, ?hkb47⟩) (by assumption) ?rkb47
        case hkb47 => (intro w hSw; (try dsimp only at hSw); first | (go_simp; done) | (go_simp; with_reducible rfl))
        try simp only [Act.put, List.setIfInBounds_toArray, List.set_cons_zero, List.set_cons_succ]
        refine take_dst (some 6) (i := 47) (v := ?vkb48) rfl (by kernel_rfl) (by kernel_rfl) (by kernel_rfl) (by kernel_rfl) (fun _ _ _ h => h) (Or.inl ⟨by kernel_rfl, ?hkb48⟩) (by assumption) ?rkb48
        case hkb48 => (intro w hSw; (try dsimp only at hSw); first | (go_simp; done) | (go_simp; with_reducible rfl))
        try simp only [Act.put, List.setIfInBounds_toArray, List.set_cons_zero, List.set_cons_succ]
        refine wpAnyH_done (by kernel_rfl) ?_ _
        go_wp2
        go_ret
        exact ⟨rfl, below_nil (OD.out.trans OO.out)⟩⟩
set_option maxRecDepth 100000 in
set_option maxHeartbeats 100000000 in
theorem part_twice_2_1 : split_twice_2.P1 := by
  intro x0_
  revert x0_
  set_option tactic.hygienic false in intros
  have OO := Lib.hid (show Only Nil w6 w6.drew from (Only.refl Nil w6).drew)
  have BKc := Lib.hid (BS.out.keep OO.out)
  refine wp_region_held_drew (S := fun w' => w'.cell? ⟨q3, off3, none⟩ = some (.string (bs t1.tag)) ∧ w'.cell? ⟨q3, off3 + 1, none⟩ = some (.bool t1.only) ∧ w'.cell? ⟨q3, off3 + 2, none⟩ = some (.int .i64 t1.n) ∧ w'.cell? ⟨q3, off3 + 3, none⟩ = some (.slice e1 m1 d1)) (by kernel_rfl) (CR.out _ (OO.out.nilTo _)) (fun hHeld => ?_)
  generalize w6.drew = v0 at *
  refine take_dst (some 157) (i := 1) (v := ?vp1) rfl (by as_aux_lemma => kernel_rfl) (by as_aux_lemma => kernel_rfl) (by as_aux_lemma => kernel_rfl) (by as_aux_lemma => kernel_rfl) (fun _ _ _ h => h) (Or.inl ⟨by kernel_rfl, ?hp1⟩) (by assumption) ?rp1
  case hp1 => (intro w hSw; (try dsimp only at hSw); first | (go_simp; done) | (go_simp; with_reducible rfl))
  try simp only [Act.put, List.setIfInBounds_toArray, List.set_cons_zero, List.set_cons_succ]
  refine take_dst (some 160) (i := 4) (v := ?vp2) rfl (by as_aux_lemma => kernel_rfl) (by as_aux_lemma => kernel_rfl) (by as_aux_lemma => kernel_rfl) (by as_aux_lemma => kernel_rfl) (fun _ _ _ h => h) (Or.inl ⟨by kernel_rfl, ?hp2⟩) (by assumption) ?rp2
  case hp2 => (intro w hSw; (try dsimp only at hSw); first | (go_simp; done) | (go_simp; with_reducible rfl))
  try simp only [Act.put, List.setIfInBounds_toArray, List.set_cons_zero, List.set_cons_succ]
  refine wpAnyH_ready (rs := [0, 2, 5]) (by as_aux_lemma => kernel_rfl) (by simp) ?_
  refine (AllReadyH.cons rfl (fun K3 hK3 => ?_) (AllReadyH.cons rfl (fun K4 hK4 => ?_) (AllReadyH.cons rfl (fun K5 hK5 => ?_) AllReadyH.nil)))
  · skip
    have on := (Only.refl Nil v0).alloc (.cells #[] 62)
    have OE := Lib.hid (own_empty v0 62 4)
    have hsz := (OO.out).size
    have X := Lib.hid (OO.out.trans on); clear OO; have OO := X; clear X; have X := Lib.hid (BKc.out.keep on); clear BKc; have BKc := X; clear X
    go_simp
    obtain ⟨v1, hv1⟩ : ∃ v, v = v0.alloc (.cells #[] 62) := ⟨_, rfl⟩
    rw [← hv1] at OE on OO BKc
    try rw [← hv1]
    refine hK3.out _ _ ?m6 (fun hHeld => ?_)
    case m6 => exact CR.out _ (OO.out.nilTo _)
    clear hK3 K3 hv1 on hsz
    generalize v0.heap.size = bE1 at *
    try simp only [Act.put, List.setIfInBounds_toArray, List.set_cons_zero, List.set_cons_succ]
    refine wpAnyH_ready (rs := [2, 5]) (by as_aux_lemma => kernel_rfl) (by simp) ?_
    refine (AllReadyH.cons rfl (fun K7 hK7 => ?_) (AllReadyH.cons rfl (fun K8 hK8 => ?_) AllReadyH.nil))
    · skip
      have ck := BKc.out.cell 1 (v := .slice (some ⟨q3, off3, none⟩) nR c3) rfl
      go_simp
      clear ck
      refine hK7.out _ _ ?m9 (fun hHeld => ?_)
      case m9 => exact CR.out _ (OO.out.nilTo _)
      clear hK7 K7
      try simp only [Act.put, List.setIfInBounds_toArray, List.set_cons_zero, List.set_cons_succ]
      refine wpAnyH_ready (rs := [3, 5]) (by as_aux_lemma => kernel_rfl) (by simp) ?_
      refine (AllReadyH.cons rfl (fun K10 hK10 => ?_) (AllReadyH.cons rfl (fun K11 hK11 => ?_) AllReadyH.nil))
      · skip
        obtain ⟨c6, v2, hr, own6, on⟩ := copy_cin (P := Tryz.prog) (t := 57) (ty := 57) Tryz.underlying57 Tryz.infoRow rfl (HcR.out.keep (OT6.out.trans OO.out) (nilS · D)) OE.out (by omega) (by decide) (by decide) hbR
        have hgg := OO.out.size
        (refine step_append_run rfl (.tmp 156) (.tmp 158) 57 rfl _ _ rfl rfl _ _ hr ?_)
        have X := Lib.hid (OO.out.trans on); clear OO; have OO := X; clear X; have X := Lib.hid (BKc.out.keep on); clear BKc; have BKc := X; clear X
        have OWN := Lib.hid own6
        clear hr own6 OE on
        generalize v1.heap.size = gg at *
        refine hK10.out _ _ ?m12 (fun hHeld => ?_)
        case m12 => exact CR.out _ (OO.out.nilTo _)
        clear hK10 K10
        try simp only [Act.put, List.setIfInBounds_toArray, List.set_cons_zero, List.set_cons_succ]
        refine wpAnyH_ready (rs := [5]) (by as_aux_lemma => kernel_rfl) (by simp) ?_
        refine AllReadyH.cons rfl (fun K13 hK13 => ?_) AllReadyH.nil
        have ck := BKc.out.cell 1 (v := .slice (some ⟨q3, off3, none⟩) nR c3) rfl
        go_simp
        clear ck
        refine hK13.out _ _ ?m14 (fun hHeld => ?_)
        case m14 => exact CR.out _ (OO.out.nilTo _)
        clear hK13 K13
        try simp only [Act.put, List.setIfInBounds_toArray, List.set_cons_zero, List.set_cons_succ]
        refine take_dst (some 162) (i := 6) (v := ?vp15) rfl (by as_aux_lemma => kernel_rfl) (by as_aux_lemma => kernel_rfl) (by as_aux_lemma => kernel_rfl) (by as_aux_lemma => kernel_rfl) (fun _ _ _ h => h) (Or.inl ⟨by kernel_rfl, ?hp15⟩) (by assumption) ?rp15
        case hp15 => (intro w hSw; (try dsimp only at hSw); first | (go_simp; done) | (go_simp; with_reducible rfl))
        try simp only [Act.put, List.setIfInBounds_toArray, List.set_cons_zero, List.set_cons_succ]
        refine take_dst (some 163) (i := 7) (v := ?vp16) rfl (by as_aux_lemma => kernel_rfl) (by as_aux_lemma => kernel_rfl) (by as_aux_lemma => kernel_rfl) (by as_aux_lemma => kernel_rfl) (fun _ _ _ h => h) (Or.inl ⟨by kernel_rfl, ?hp16⟩) (by assumption) ?rp16
        case hp16 => (intro w hSw; (try dsimp only at hSw); first | (go_simp; done) | (go_simp; with_reducible rfl))
        try simp only [Act.put, List.setIfInBounds_toArray, List.set_cons_zero, List.set_cons_succ]
        refine wpAnyH_ready (rs := [8]) (by as_aux_lemma => kernel_rfl) (by simp) ?_
        refine AllReadyH.cons rfl (fun K17 hK17 => ?_) AllReadyH.nil
        have on := (Only.refl Nil v2).alloc (.cells #[.string (bs t1.tag), .bool t1.only, .int .i64 t1.n, .slice e1 m1 d1] 62)
        have BO := Lib.hid (bx_new v2 [.string (bs t1.tag), .bool t1.only, .int .i64 t1.n, .slice e1 m1 d1] 62)
        have X := Lib.hid (OO.out.trans on); clear OO; have OO := X; clear X; have X := Lib.hid (BKc.out.keep on); clear BKc; have BKc := X; clear X; have X := Lib.hid (own_keep OWN.out on (fun _ _ h => h)); clear OWN; have OWN := X; clear X
        go_simp
        obtain ⟨v3, hv3⟩ : ∃ v, v = v2.alloc (.cells #[.string (bs t1.tag), .bool t1.only, .int .i64 t1.n, .slice e1 m1 d1] 62) := ⟨_, rfl⟩
        change Hid (Bx (v2.alloc (.cells #[.string (bs t1.tag), .bool t1.only, .int .i64 t1.n, .slice e1 m1 d1] 62)) v2.heap.size [.string (bs t1.tag), .bool t1.only, .int .i64 t1.n, .slice e1 m1 d1] 62) at BO
        rw [← hv3] at BO on OO BKc OWN
        try rw [← hv3]
        refine hK17.out _ _ ?m18 (fun hHeld => ?_)
        case m18 => exact CR.out _ (OO.out.nilTo _)
        clear hK17 K17 hv3 on
        generalize v2.heap.size = bO3 at *
        try simp only [Act.put, List.setIfInBounds_toArray, List.set_cons_zero, List.set_cons_succ]
        refine wpAnyH_ready (rs := [9]) (by as_aux_lemma => kernel_rfl) (by simp) ?_
        refine AllReadyH.cons rfl (fun K19 hK19 => ?_) AllReadyH.nil
        obtain ⟨g7, c7, v4, hr, own7, oG, hg7, hl7⟩ := push_one (P := Tryz.prog) (t := 57) (ty := 57) Tryz.underlying57 Tryz.infoRow rfl OWN.out BO.out rfl (by intro u hu; simp at hu; rcases hu with rfl | rfl | rfl | rfl <;> rfl) (by omega) (by decide)
        (refine step_append_run rfl (.tmp 159) (.tmp 164) 57 rfl _ _ rfl rfl _ _ hr ?_)
        have hbv := OO.out.size
        have X := Lib.hid (OO.out.then oG (fun k hk hlt => by have : k = gg := hk; omega)); clear OO; have OO := X; clear X; have X := Lib.hid (BKc.out.at_ oG (by omega)); clear BKc; have BKc := X; clear X
        have HG7 := Lib.hid (show w6.heap.size ≤ g7 by omega)
        clear hr oG OWN BO hg7 hl7
        refine hK19.out _ _ ?m20 (fun hHeld => ?_)
        case m20 => exact CR.out _ (OO.out.nilTo _)
        clear hK19 K19
        try simp only [Act.put, List.setIfInBounds_toArray, List.set_cons_zero, List.set_cons_succ]
        refine take_dst (some 166) (i := 10) (v := ?vp21) rfl (by as_aux_lemma => kernel_rfl) (by as_aux_lemma => kernel_rfl) (by as_aux_lemma => kernel_rfl) (by as_aux_lemma => kernel_rfl) (fun _ _ _ h => h) (Or.inl ⟨by kernel_rfl, ?hp21⟩) (by assumption) ?rp21
        case hp21 => (intro w hSw; (try dsimp only at hSw); first | (go_simp; done) | (go_simp; with_reducible rfl))
        try simp only [Act.put, List.setIfInBounds_toArray, List.set_cons_zero, List.set_cons_succ]
        refine wpAnyH_ready (rs := [11]) (by as_aux_lemma => kernel_rfl) (by simp) ?_
        refine AllReadyH.cons rfl (fun K22 hK22 => ?_) AllReadyH.nil
        have ck := BKc.out.cell 1 (v := .slice (some ⟨q3, off3, none⟩) nR c3) rfl
        have fk := BKc.out.free 1
        have oS := (OO.out.nilTo (At Sb)).setCell (p := ⟨Sb, 1, none⟩) rfl (.slice (some ⟨g7, 0, none⟩) (nR + 1) c7)
        have bS := bx_set BKc.out 1 (.slice (some ⟨g7, 0, none⟩) (nR + 1) c7)
        simp only [List.set_cons_succ, List.set_cons_zero] at bS
        have rS := own_keep own7 ((Only.refl (At Sb) v4).setCell (p := ⟨Sb, 1, none⟩) rfl (.slice (some ⟨g7, 0, none⟩) (nR + 1) c7)) (fun k hk h => by have e1 : k = Sb := h; have e2 : k = g7 := (by simpa [Value.ownBlock] using hk); have := HG7.out; omega)
        go_simp
        clear ck fk
        refine hK22.out _ _ ?m23 (fun hHeld => ?_)
        case m23 => exact CR.out _ oS
        clear hK22 K22
        try simp only [Act.put, List.setIfInBounds_toArray, List.set_cons_zero, List.set_cons_succ]
        refine wpAnyH_done (by as_aux_lemma => kernel_rfl) ?_ _
        go_wp2
        go_meet
        exact ⟨g7, c7, Lib.hid rS, Lib.hid bS, Lib.hid oS, HG7⟩
      · skip
        have ck := BKc.out.cell 1 (v := .slice (some ⟨q3, off3, none⟩) nR c3) rfl
        go_simp
        clear ck
        refine hK11.out _ _ ?m24 (fun hHeld => ?_)
        case m24 => exact CR.out _ (OO.out.nilTo _)
        clear hK11 K11
        try simp only [Act.put, List.setIfInBounds_toArray, List.set_cons_zero, List.set_cons_succ]
        refine take_dst (some 162) (i := 6) (v := ?vp25) rfl (by as_aux_lemma => kernel_rfl) (by as_aux_lemma => kernel_rfl) (by as_aux_lemma => kernel_rfl) (by as_aux_lemma => kernel_rfl) (fun _ _ _ h => h) (Or.inl ⟨by kernel_rfl, ?hp25⟩) (by assumption) ?rp25
        case hp25 => (intro w hSw; (try dsimp only at hSw); first | (go_simp; done) | (go_simp; with_reducible rfl))
        try simp only [Act.put, List.setIfInBounds_toArray, List.set_cons_zero, List.set_cons_succ]
        refine take_dst (some 163) (i := 7) (v := ?vp26) rfl (by as_aux_lemma => kernel_rfl) (by as_aux_lemma => kernel_rfl) (by as_aux_lemma => kernel_rfl) (by as_aux_lemma => kernel_rfl) (fun _ _ _ h => h) (Or.inl ⟨by kernel_rfl, ?hp26⟩) (by assumption) ?rp26
        case hp26 => (intro w hSw; (try dsimp only at hSw); first | (go_simp; done) | (go_simp; with_reducible rfl))
        try simp only [Act.put, List.setIfInBounds_toArray, List.set_cons_zero, List.set_cons_succ]
        refine wpAnyH_ready (rs := [3, 8]) (by as_aux_lemma => kernel_rfl) (by simp) ?_
        refine (AllReadyH.cons rfl (fun K27 hK27 => ?_) (AllReadyH.cons rfl (fun K28 hK28 => ?_) AllReadyH.nil))
        · skip
          obtain ⟨c6, v6, hr, own6, on⟩ := copy_cin (P := Tryz.prog) (t := 57) (ty := 57) Tryz.underlying57 Tryz.infoRow rfl (HcR.out.keep (OT6.out.trans OO.out) (nilS · D)) OE.out (by omega) (by decide) (by decide) hbR
          have hgg := OO.out.size
          (refine step_append_run rfl (.tmp 156) (.tmp 158) 57 rfl _ _ rfl rfl _ _ hr ?_)
          have X := Lib.hid (OO.out.trans on); clear OO; have OO := X; clear X; have X := Lib.hid (BKc.out.keep on); clear BKc; have BKc := X; clear X
          have OWN := Lib.hid own6
          clear hr own6 OE on
          generalize v1.heap.size = gg at *
          refine hK27.out _ _ ?m29 (fun hHeld => ?_)
          case m29 => exact CR.out _ (OO.out.nilTo _)
          clear hK27 K27
          try simp only [Act.put, List.setIfInBounds_toArray, List.set_cons_zero, List.set_cons_succ]
          refine wpAnyH_ready (rs := [8]) (by as_aux_lemma => kernel_rfl) (by simp) ?_
          refine AllReadyH.cons rfl (fun K30 hK30 => ?_) AllReadyH.nil
          have on := (Only.refl Nil v6).alloc (.cells #[.string (bs t1.tag), .bool t1.only, .int .i64 t1.n, .slice e1 m1 d1] 62)
          have BO := Lib.hid (bx_new v6 [.string (bs t1.tag), .bool t1.only, .int .i64 t1.n, .slice e1 m1 d1] 62)
          have X := Lib.hid (OO.out.trans on); clear OO; have OO := X; clear X; have X := Lib.hid (BKc.out.keep on); clear BKc; have BKc := X; clear X; have X := Lib.hid (own_keep OWN.out on (fun _ _ h => h)); clear OWN; have OWN := X; clear X
          go_simp
          obtain ⟨v7, hv7⟩ : ∃ v, v = v6.alloc (.cells #[.string (bs t1.tag), .bool t1.only, .int .i64 t1.n, .slice e1 m1 d1] 62) := ⟨_, rfl⟩
          change Hid (Bx (v6.alloc (.cells #[.string (bs t1.tag), .bool t1.only, .int .i64 t1.n, .slice e1 m1 d1] 62)) v6.heap.size [.string (bs t1.tag), .bool t1.only, .int .i64 t1.n, .slice e1 m1 d1] 62) at BO
          rw [← hv7] at BO on OO BKc OWN
          try rw [← hv7]
          refine hK30.out _ _ ?m31 (fun hHeld => ?_)
          case m31 => exact CR.out _ (OO.out.nilTo _)
          clear hK30 K30 hv7 on
          generalize v6.heap.size = bO7 at *
          try simp only [Act.put, List.setIfInBounds_toArray, List.set_cons_zero, List.set_cons_succ]
          refine wpAnyH_ready (rs := [9]) (by as_aux_lemma => kernel_rfl) (by simp) ?_
          refine AllReadyH.cons rfl (fun K32 hK32 => ?_) AllReadyH.nil
          obtain ⟨g7, c7, v8, hr, own7, oG, hg7, hl7⟩ := push_one (P := Tryz.prog) (t := 57) (ty := 57) Tryz.underlying57 Tryz.infoRow rfl OWN.out BO.out rfl (by intro u hu; simp at hu; rcases hu with rfl | rfl | rfl | rfl <;> rfl) (by omega) (by decide)
          (refine step_append_run rfl (.tmp 159) (.tmp 164) 57 rfl _ _ rfl rfl _ _ hr ?_)
          have hbv := OO.out.size
          have X := Lib.hid (OO.out.then oG (fun k hk hlt => by have : k = gg := hk; omega)); clear OO; have OO := X; clear X; have X := Lib.hid (BKc.out.at_ oG (by omega)); clear BKc; have BKc := X; clear X
          have HG7 := Lib.hid (show w6.heap.size ≤ g7 by omega)
          clear hr oG OWN BO hg7 hl7
          refine hK32.out _ _ ?m33 (fun hHeld => ?_)
          case m33 => exact CR.out _ (OO.out.nilTo _)
          clear hK32 K32
          try simp only [Act.put, List.setIfInBounds_toArray, List.set_cons_zero, List.set_cons_succ]
          refine take_dst (some 166) (i := 10) (v := ?vp34) rfl (by as_aux_lemma => kernel_rfl) (by as_aux_lemma => kernel_rfl) (by as_aux_lemma => kernel_rfl) (by as_aux_lemma => kernel_rfl) (fun _ _ _ h => h) (Or.inl ⟨by kernel_rfl, ?hp34⟩) (by assumption) ?rp34
          case hp34 => (intro w hSw; (try dsimp only at hSw); first | (go_simp; done) | (go_simp; with_reducible rfl))
          try simp only [Act.put, List.setIfInBounds_toArray, List.set_cons_zero, List.set_cons_succ]
          refine wpAnyH_ready (rs := [11]) (by as_aux_lemma => kernel_rfl) (by simp) ?_
          refine AllReadyH.cons rfl (fun K35 hK35 => ?_) AllReadyH.nil
          have ck := BKc.out.cell 1 (v := .slice (some ⟨q3, off3, none⟩) nR c3) rfl
          have fk := BKc.out.free 1
          have oS := (OO.out.nilTo (At Sb)).setCell (p := ⟨Sb, 1, none⟩) rfl (.slice (some ⟨g7, 0, none⟩) (nR + 1) c7)
          have bS := bx_set BKc.out 1 (.slice (some ⟨g7, 0, none⟩) (nR + 1) c7)
          simp only [List.set_cons_succ, List.set_cons_zero] at bS
          have rS := own_keep own7 ((Only.refl (At Sb) v8).setCell (p := ⟨Sb, 1, none⟩) rfl (.slice (some ⟨g7, 0, none⟩) (nR + 1) c7)) (fun k hk h => by have e1 : k = Sb := h; have e2 : k = g7 := (by simpa [Value.ownBlock] using hk); have := HG7.out; omega)
          go_simp
          clear ck fk
          refine hK35.out _ _ ?m36 (fun hHeld => ?_)
          case m36 => exact CR.out _ oS
          clear hK35 K35
          try simp only [Act.put, List.setIfInBounds_toArray, List.set_cons_zero, List.set_cons_succ]
          refine wpAnyH_done (by as_aux_lemma => kernel_rfl) ?_ _
          go_wp2
          go_meet
          exact ⟨g7, c7, Lib.hid rS, Lib.hid bS, Lib.hid oS, HG7⟩
        · skip
          have on := (Only.refl Nil v1).alloc (.cells #[.string (bs t1.tag), .bool t1.only, .int .i64 t1.n, .slice e1 m1 d1] 62)
          have BO := Lib.hid (bx_new v1 [.string (bs t1.tag), .bool t1.only, .int .i64 t1.n, .slice e1 m1 d1] 62)
          have X := Lib.hid (OO.out.trans on); clear OO; have OO := X; clear X; have X := Lib.hid (BKc.out.keep on); clear BKc; have BKc := X; clear X; have X := Lib.hid (own_keep OE.out on (fun _ _ h => h)); clear OE; have OE := X; clear X
          go_simp
          obtain ⟨v10, hv10⟩ : ∃ v, v = v1.alloc (.cells #[.string (bs t1.tag), .bool t1.only, .int .i64 t1.n, .slice e1 m1 d1] 62) := ⟨_, rfl⟩
          change Hid (Bx (v1.alloc (.cells #[.string (bs t1.tag), .bool t1.only, .int .i64 t1.n, .slice e1 m1 d1] 62)) v1.heap.size [.string (bs t1.tag), .bool t1.only, .int .i64 t1.n, .slice e1 m1 d1] 62) at BO
          rw [← hv10] at BO on OO BKc OE
          try rw [← hv10]
          refine hK28.out _ _ ?m37 (fun hHeld => ?_)
          case m37 => exact CR.out _ (OO.out.nilTo _)
          clear hK28 K28 hv10 on
          generalize v1.heap.size = bO10 at *
          try simp only [Act.put, List.setIfInBounds_toArray, List.set_cons_zero, List.set_cons_succ]
          refine wpAnyH_ready (rs := [3]) (by as_aux_lemma => kernel_rfl) (by simp) ?_
          refine AllReadyH.cons rfl (fun K38 hK38 => ?_) AllReadyH.nil
          obtain ⟨c6, v11, hr, own6, on⟩ := copy_cin (P := Tryz.prog) (t := 57) (ty := 57) Tryz.underlying57 Tryz.infoRow rfl (HcR.out.keep (OT6.out.trans OO.out) (nilS · D)) OE.out (by omega) (by decide) (by decide) hbR
          have hgg := OO.out.size
          (refine step_append_run rfl (.tmp 156) (.tmp 158) 57 rfl _ _ rfl rfl _ _ hr ?_)
          have X := Lib.hid (OO.out.trans on); clear OO; have OO := X; clear X; have X := Lib.hid (BKc.out.keep on); clear BKc; have BKc := X; clear X; have X := Lib.hid (BO.out.keep on); clear BO; have BO := X; clear X
          have OWN := Lib.hid own6
          clear hr own6 OE on
          generalize v10.heap.size = gg at *
          refine hK38.out _ _ ?m39 (fun hHeld => ?_)
          case m39 => exact CR.out _ (OO.out.nilTo _)
          clear hK38 K38
          try simp only [Act.put, List.setIfInBounds_toArray, List.set_cons_zero, List.set_cons_succ]
          refine wpAnyH_ready (rs := [9]) (by as_aux_lemma => kernel_rfl) (by simp) ?_
          refine AllReadyH.cons rfl (fun K40 hK40 => ?_) AllReadyH.nil
          obtain ⟨g7, c7, v12, hr, own7, oG, hg7, hl7⟩ := push_one (P := Tryz.prog) (t := 57) (ty := 57) Tryz.underlying57 Tryz.infoRow rfl OWN.out BO.out rfl (by intro u hu; simp at hu; rcases hu with rfl | rfl | rfl | rfl <;> rfl) (by omega) (by decide)
          (refine step_append_run rfl (.tmp 159) (.tmp 164) 57 rfl _ _ rfl rfl _ _ hr ?_)
          have hbv := OO.out.size
          have X := Lib.hid (OO.out.then oG (fun k hk hlt => by have : k = gg := hk; omega)); clear OO; have OO := X; clear X; have X := Lib.hid (BKc.out.at_ oG (by omega)); clear BKc; have BKc := X; clear X
          have HG7 := Lib.hid (show w6.heap.size ≤ g7 by omega)
          clear hr oG OWN BO hg7 hl7
          refine hK40.out _ _ ?m41 (fun hHeld => ?_)
          case m41 => exact CR.out _ (OO.out.nilTo _)
          clear hK40 K40
          try simp only [Act.put, List.setIfInBounds_toArray, List.set_cons_zero, List.set_cons_succ]
          refine take_dst (some 166) (i := 10) (v := ?vp42) rfl (by as_aux_lemma => kernel_rfl) (by as_aux_lemma => kernel_rfl) (by as_aux_lemma => kernel_rfl) (by as_aux_lemma => kernel_rfl) (fun _ _ _ h => h) (Or.inl ⟨by kernel_rfl, ?hp42⟩) (by assumption) ?rp42
          case hp42 => (intro w hSw; (try dsimp only at hSw); first | (go_simp; done) | (go_simp; with_reducible rfl))
          try simp only [Act.put, List.setIfInBounds_toArray, List.set_cons_zero, List.set_cons_succ]
          refine wpAnyH_ready (rs := [11]) (by as_aux_lemma => kernel_rfl) (by simp) ?_
          refine AllReadyH.cons rfl (fun K43 hK43 => ?_) AllReadyH.nil
          have ck := BKc.out.cell 1 (v := .slice (some ⟨q3, off3, none⟩) nR c3) rfl
          have fk := BKc.out.free 1
          have oS := (OO.out.nilTo (At Sb)).setCell (p := ⟨Sb, 1, none⟩) rfl (.slice (some ⟨g7, 0, none⟩) (nR + 1) c7)
          have bS := bx_set BKc.out 1 (.slice (some ⟨g7, 0, none⟩) (nR + 1) c7)
          simp only [List.set_cons_succ, List.set_cons_zero] at bS
          have rS := own_keep own7 ((Only.refl (At Sb) v12).setCell (p := ⟨Sb, 1, none⟩) rfl (.slice (some ⟨g7, 0, none⟩) (nR + 1) c7)) (fun k hk h => by have e1 : k = Sb := h; have e2 : k = g7 := (by simpa [Value.ownBlock] using hk); have := HG7.out; omega)
          go_simp
          clear ck fk
          refine hK43.out _ _ ?m44 (fun hHeld => ?_)
          case m44 => exact CR.out _ oS
          clear hK43 K43
          try simp only [Act.put, List.setIfInBounds_toArray, List.set_cons_zero, List.set_cons_succ]
          refine wpAnyH_done (by as_aux_lemma => kernel_rfl) ?_ _
          go_wp2
          go_meet
          exact ⟨g7, c7, Lib.hid rS, Lib.hid bS, Lib.hid oS, HG7⟩
    · skip
      have ck := BKc.out.cell 1 (v := .slice (some ⟨q3, off3, none⟩) nR c3) rfl
      go_simp
      clear ck
      refine hK8.out _ _ ?m45 (fun hHeld => ?_)
      case m45 => exact CR.out _ (OO.out.nilTo _)
      clear hK8 K8
      try simp only [Act.put, List.setIfInBounds_toArray, List.set_cons_zero, List.set_cons_succ]
      refine take_dst (some 162) (i := 6) (v := ?vp46) rfl (by as_aux_lemma => kernel_rfl) (by as_aux_lemma => kernel_rfl) (by as_aux_lemma => kernel_rfl) (by as_aux_lemma => kernel_rfl) (fun _ _ _ h => h) (Or.inl ⟨by kernel_rfl, ?hp46⟩) (by assumption) ?rp46
      case hp46 => (intro w hSw; (try dsimp only at hSw); first | (go_simp; done) | (go_simp; with_reducible rfl))
      try simp only [Act.put, List.setIfInBounds_toArray, List.set_cons_zero, List.set_cons_succ]
      refine take_dst (some 163) (i := 7) (v := ?vp47) rfl (by as_aux_lemma => kernel_rfl) (by as_aux_lemma => kernel_rfl) (by as_aux_lemma => kernel_rfl) (by as_aux_lemma => kernel_rfl) (fun _ _ _ h => h) (Or.inl ⟨by kernel_rfl, ?hp47⟩) (by assumption) ?rp47
      case hp47 => (intro w hSw; (try dsimp only at hSw); first | (go_simp; done) | (go_simp; with_reducible rfl))
      try simp only [Act.put, List.setIfInBounds_toArray, List.set_cons_zero, List.set_cons_succ]
      refine wpAnyH_ready (rs := [2, 8]) (by as_aux_lemma => kernel_rfl) (by simp) ?_
      refine (AllReadyH.cons rfl (fun K48 hK48 => ?_) (AllReadyH.cons rfl (fun K49 hK49 => ?_) AllReadyH.nil))
      · skip
        have ck := BKc.out.cell 1 (v := .slice (some ⟨q3, off3, none⟩) nR c3) rfl
        go_simp
        clear ck
        refine hK48.out _ _ ?m50 (fun hHeld => ?_)
        case m50 => exact CR.out _ (OO.out.nilTo _)
        clear hK48 K48
        try simp only [Act.put, List.setIfInBounds_toArray, List.set_cons_zero, List.set_cons_succ]
        refine wpAnyH_ready (rs := [3, 8]) (by as_aux_lemma => kernel_rfl) (by simp) ?_
        refine (AllReadyH.cons rfl (fun K51 hK51 => ?_) (AllReadyH.cons rfl (fun K52 hK52 => ?_) AllReadyH.nil))
        · skip
          obtain ⟨c6, v14, hr, own6, on⟩ := copy_cin (P := Tryz.prog) (t := 57) (ty := 57) Tryz.underlying57 Tryz.infoRow rfl (HcR.out.keep (OT6.out.trans OO.out) (nilS · D)) OE.out (by omega) (by decide) (by decide) hbR
          have hgg := OO.out.size
          (refine step_append_run rfl (.tmp 156) (.tmp 158) 57 rfl _ _ rfl rfl _ _ hr ?_)
          have X := Lib.hid (OO.out.trans on); clear OO; have OO := X; clear X; have X := Lib.hid (BKc.out.keep on); clear BKc; have BKc := X; clear X
          have OWN := Lib.hid own6
          clear hr own6 OE on
          generalize v1.heap.size = gg at *
          refine hK51.out _ _ ?m53 (fun hHeld => ?_)
          case m53 => exact CR.out _ (OO.out.nilTo _)
          clear hK51 K51
          try simp only [Act.put, List.setIfInBounds_toArray, List.set_cons_zero, List.set_cons_succ]
          refine wpAnyH_ready (rs := [8]) (by as_aux_lemma => kernel_rfl) (by simp) ?_
          refine AllReadyH.cons rfl (fun K54 hK54 => ?_) AllReadyH.nil
          have on := (Only.refl Nil v14).alloc (.cells #[.string (bs t1.tag), .bool t1.only, .int .i64 t1.n, .slice e1 m1 d1] 62)
          have BO := Lib.hid (bx_new v14 [.string (bs t1.tag), .bool t1.only, .int .i64 t1.n, .slice e1 m1 d1] 62)
          have X := Lib.hid (OO.out.trans on); clear OO; have OO := X; clear X; have X := Lib.hid (BKc.out.keep on); clear BKc; have BKc := X; clear X; have X := Lib.hid (own_keep OWN.out on (fun _ _ h => h)); clear OWN; have OWN := X; clear X
          go_simp
          obtain ⟨v15, hv15⟩ : ∃ v, v = v14.alloc (.cells #[.string (bs t1.tag), .bool t1.only, .int .i64 t1.n, .slice e1 m1 d1] 62) := ⟨_, rfl⟩
          change Hid (Bx (v14.alloc (.cells #[.string (bs t1.tag), .bool t1.only, .int .i64 t1.n, .slice e1 m1 d1] 62)) v14.heap.size [.string (bs t1.tag), .bool t1.only, .int .i64 t1.n, .slice e1 m1 d1] 62) at BO
          rw [← hv15] at BO on OO BKc OWN
          try rw [← hv15]
          refine hK54.out _ _ ?m55 (fun hHeld => ?_)
          case m55 => exact CR.out _ (OO.out.nilTo _)
          clear hK54 K54 hv15 on
          generalize v14.heap.size = bO15 at *
          try simp only [Act.put, List.setIfInBounds_toArray, List.set_cons_zero, List.set_cons_succ]
          refine wpAnyH_ready (rs := [9]) (by as_aux_lemma => kernel_rfl) (by simp) ?_
          refine AllReadyH.cons rfl (fun K56 hK56 => ?_) AllReadyH.nil
          obtain ⟨g7, c7, v16, hr, own7, oG, hg7, hl7⟩ := push_one (P := Tryz.prog) (t := 57) (ty := 57) Tryz.underlying57 Tryz.infoRow rfl OWN.out BO.out rfl (by intro u hu; simp at hu; rcases hu with rfl | rfl | rfl | rfl <;> rfl) (by omega) (by decide)
          (refine step_append_run rfl (.tmp 159) (.tmp 164) 57 rfl _ _ rfl rfl _ _ hr ?_)
          have hbv := OO.out.size
          have X := Lib.hid (OO.out.then oG (fun k hk hlt => by have : k = gg := hk; omega)); clear OO; have OO := X; clear X; have X := Lib.hid (BKc.out.at_ oG (by omega)); clear BKc; have BKc := X; clear X
          have HG7 := Lib.hid (show w6.heap.size ≤ g7 by omega)
          clear hr oG OWN BO hg7 hl7
          refine hK56.out _ _ ?m57 (fun hHeld => ?_)
          case m57 => exact CR.out _ (OO.out.nilTo _)
          clear hK56 K56
          try simp only [Act.put, List.setIfInBounds_toArray, List.set_cons_zero, List.set_cons_succ]
          refine take_dst (some 166) (i := 10) (v := ?vp58) rfl (by as_aux_lemma => kernel_rfl) (by as_aux_lemma => kernel_rfl) (by as_aux_lemma => kernel_rfl) (by as_aux_lemma => kernel_rfl) (fun _ _ _ h => h) (Or.inl ⟨by kernel_rfl, ?hp58⟩) (by assumption) ?rp58
          case hp58 => (intro w hSw; (try dsimp only at hSw); first | (go_simp; done) | (go_simp; with_reducible rfl))
          try simp only [Act.put, List.setIfInBounds_toArray, List.set_cons_zero, List.set_cons_succ]
          refine wpAnyH_ready (rs := [11]) (by as_aux_lemma => kernel_rfl) (by simp) ?_
          refine AllReadyH.cons rfl (fun K59 hK59 => ?_) AllReadyH.nil
          have ck := BKc.out.cell 1 (v := .slice (some ⟨q3, off3, none⟩) nR c3) rfl
          have fk := BKc.out.free 1
          have oS := (OO.out.nilTo (At Sb)).setCell (p := ⟨Sb, 1, none⟩) rfl (.slice (some ⟨g7, 0, none⟩) (nR + 1) c7)
          have bS := bx_set BKc.out 1 (.slice (some ⟨g7, 0, none⟩) (nR + 1) c7)
          simp only [List.set_cons_succ, List.set_cons_zero] at bS
          have rS := own_keep own7 ((Only.refl (At Sb) v16).setCell (p := ⟨Sb, 1, none⟩) rfl (.slice (some ⟨g7, 0, none⟩) (nR + 1) c7)) (fun k hk h => by have e1 : k = Sb := h; have e2 : k = g7 := (by simpa [Value.ownBlock] using hk); have := HG7.out; omega)
          go_simp
          clear ck fk
          refine hK59.out _ _ ?m60 (fun hHeld => ?_)
          case m60 => exact CR.out _ oS
          clear hK59 K59
          try simp only [Act.put, List.setIfInBounds_toArray, List.set_cons_zero, List.set_cons_succ]
          refine wpAnyH_done (by as_aux_lemma => kernel_rfl) ?_ _
          go_wp2
          go_meet
          exact ⟨g7, c7, Lib.hid rS, Lib.hid bS, Lib.hid oS, HG7⟩
        · skip
          have on := (Only.refl Nil v1).alloc (.cells #[.string (bs t1.tag), .bool t1.only, .int .i64 t1.n, .slice e1 m1 d1] 62)
          have BO := Lib.hid (bx_new v1 [.string (bs t1.tag), .bool t1.only, .int .i64 t1.n, .slice e1 m1 d1] 62)
          have X := Lib.hid (OO.out.trans on); clear OO; have OO := X; clear X; have X := Lib.hid (BKc.out.keep on); clear BKc; have BKc := X; clear X; have X := Lib.hid (own_keep OE.out on (fun _ _ h => h)); clear OE; have OE := X; clear X
          go_simp
          obtain ⟨v18, hv18⟩ : ∃ v, v = v1.alloc (.cells #[.string (bs t1.tag), .bool t1.only, .int .i64 t1.n, .slice e1 m1 d1] 62) := ⟨_, rfl⟩
          change Hid (Bx (v1.alloc (.cells #[.string (bs t1.tag), .bool t1.only, .int .i64 t1.n, .slice e1 m1 d1] 62)) v1.heap.size [.string (bs t1.tag), .bool t1.only, .int .i64 t1.n, .slice e1 m1 d1] 62) at BO
          rw [← hv18] at BO on OO BKc OE
          try rw [← hv18]
          refine hK52.out _ _ ?m61 (fun hHeld => ?_)
          case m61 => exact CR.out _ (OO.out.nilTo _)
          clear hK52 K52 hv18 on
          generalize v1.heap.size = bO18 at *
          try simp only [Act.put, List.setIfInBounds_toArray, List.set_cons_zero, List.set_cons_succ]
          refine wpAnyH_ready (rs := [3]) (by as_aux_lemma => kernel_rfl) (by simp) ?_
          refine AllReadyH.cons rfl (fun K62 hK62 => ?_) AllReadyH.nil
          obtain ⟨c6, v19, hr, own6, on⟩ := copy_cin (P := Tryz.prog) (t := 57) (ty := 57) Tryz.underlying57 Tryz.infoRow rfl (HcR.out.keep (OT6.out.trans OO.out) (nilS · D)) OE.out (by omega) (by decide) (by decide) hbR
          have hgg := OO.out.size
          (refine step_append_run rfl (.tmp 156) (.tmp 158) 57 rfl _ _ rfl rfl _ _ hr ?_)
          have X := Lib.hid (OO.out.trans on); clear OO; have OO := X; clear X; have X := Lib.hid (BKc.out.keep on); clear BKc; have BKc := X; clear X; have X := Lib.hid (BO.out.keep on); clear BO; have BO := X; clear X
          have OWN := Lib.hid own6
          clear hr own6 OE on
          generalize v18.heap.size = gg at *
          refine hK62.out _ _ ?m63 (fun hHeld => ?_)
          case m63 => exact CR.out _ (OO.out.nilTo _)
          clear hK62 K62
          try simp only [Act.put, List.setIfInBounds_toArray, List.set_cons_zero, List.set_cons_succ]
          refine wpAnyH_ready (rs := [9]) (by as_aux_lemma => kernel_rfl) (by simp) ?_
          refine AllReadyH.cons rfl (fun K64 hK64 => ?_) AllReadyH.nil
          obtain ⟨g7, c7, v20, hr, own7, oG, hg7, hl7⟩ := push_one (P := Tryz.prog) (t := 57) (ty := 57) Tryz.underlying57 Tryz.infoRow rfl OWN.out BO.out rfl (by intro u hu; simp at hu; rcases hu with rfl | rfl | rfl | rfl <;> rfl) (by omega) (by decide)
          (refine step_append_run rfl (.tmp 159) (.tmp 164) 57 rfl _ _ rfl rfl _ _ hr ?_)
          have hbv := OO.out.size
          have X := Lib.hid (OO.out.then oG (fun k hk hlt => by have : k = gg := hk; omega)); clear OO; have OO := X; clear X; have X := Lib.hid (BKc.out.at_ oG (by omega)); clear BKc; have BKc := X; clear X
          have HG7 := Lib.hid (show w6.heap.size ≤ g7 by omega)
          clear hr oG OWN BO hg7 hl7
          refine hK64.out _ _ ?m65 (fun hHeld => ?_)
          case m65 => exact CR.out _ (OO.out.nilTo _)
          clear hK64 K64
          try simp only [Act.put, List.setIfInBounds_toArray, List.set_cons_zero, List.set_cons_succ]
          refine take_dst (some 166) (i := 10) (v := ?vp66) rfl (by as_aux_lemma => kernel_rfl) (by as_aux_lemma => kernel_rfl) (by as_aux_lemma => kernel_rfl) (by as_aux_lemma => kernel_rfl) (fun _ _ _ h => h) (Or.inl ⟨by kernel_rfl, ?hp66⟩) (by assumption) ?rp66
          case hp66 => (intro w hSw; (try dsimp only at hSw); first | (go_simp; done) | (go_simp; with_reducible rfl))
          try simp only [Act.put, List.setIfInBounds_toArray, List.set_cons_zero, List.set_cons_succ]
          refine wpAnyH_ready (rs := [11]) (by as_aux_lemma => kernel_rfl) (by simp) ?_
          refine AllReadyH.cons rfl (fun K67 hK67 => ?_) AllReadyH.nil
          have ck := BKc.out.cell 1 (v := .slice (some ⟨q3, off3, none⟩) nR c3) rfl
          have fk := BKc.out.free 1
          have oS := (OO.out.nilTo (At Sb)).setCell (p := ⟨Sb, 1, none⟩) rfl (.slice (some ⟨g7, 0, none⟩) (nR + 1) c7)
          have bS := bx_set BKc.out 1 (.slice (some ⟨g7, 0, none⟩) (nR + 1) c7)
          simp only [List.set_cons_succ, List.set_cons_zero] at bS
          have rS := own_keep own7 ((Only.refl (At Sb) v20).setCell (p := ⟨Sb, 1, none⟩) rfl (.slice (some ⟨g7, 0, none⟩) (nR + 1) c7)) (fun k hk h => by have e1 : k = Sb := h; have e2 : k = g7 := (by simpa [Value.ownBlock] using hk); have := HG7.out; omega)
          go_simp
          clear ck fk
          refine hK67.out _ _ ?m68 (fun hHeld => ?_)
          case m68 => exact CR.out _ oS
          clear hK67 K67
          try simp only [Act.put, List.setIfInBounds_toArray, List.set_cons_zero, List.set_cons_succ]
          refine wpAnyH_done (by as_aux_lemma => kernel_rfl) ?_ _
          go_wp2
          go_meet
          exact ⟨g7, c7, Lib.hid rS, Lib.hid bS, Lib.hid oS, HG7⟩
      · skip
        have on := (Only.refl Nil v1).alloc (.cells #[.string (bs t1.tag), .bool t1.only, .int .i64 t1.n, .slice e1 m1 d1] 62)
        have BO := Lib.hid (bx_new v1 [.string (bs t1.tag), .bool t1.only, .int .i64 t1.n, .slice e1 m1 d1] 62)
        have X := Lib.hid (OO.out.trans on); clear OO; have OO := X; clear X; have X := Lib.hid (BKc.out.keep on); clear BKc; have BKc := X; clear X; have X := Lib.hid (own_keep OE.out on (fun _ _ h => h)); clear OE; have OE := X; clear X
        go_simp
        obtain ⟨v22, hv22⟩ : ∃ v, v = v1.alloc (.cells #[.string (bs t1.tag), .bool t1.only, .int .i64 t1.n, .slice e1 m1 d1] 62) := ⟨_, rfl⟩
        change Hid (Bx (v1.alloc (.cells #[.string (bs t1.tag), .bool t1.only, .int .i64 t1.n, .slice e1 m1 d1] 62)) v1.heap.size [.string (bs t1.tag), .bool t1.only, .int .i64 t1.n, .slice e1 m1 d1] 62) at BO
        rw [← hv22] at BO on OO BKc OE
        try rw [← hv22]
        refine hK49.out _ _ ?m69 (fun hHeld => ?_)
        case m69 => exact CR.out _ (OO.out.nilTo _)
        clear hK49 K49 hv22 on
        generalize v1.heap.size = bO22 at *
        try simp only [Act.put, List.setIfInBounds_toArray, List.set_cons_zero, List.set_cons_succ]
        refine wpAnyH_ready (rs := [2]) (by as_aux_lemma => kernel_rfl) (by simp) ?_
        refine AllReadyH.cons rfl (fun K70 hK70 => ?_) AllReadyH.nil
        have ck := BKc.out.cell 1 (v := .slice (some ⟨q3, off3, none⟩) nR c3) rfl
        go_simp
        clear ck
        refine hK70.out _ _ ?m71 (fun hHeld => ?_)
        case m71 => exact CR.out _ (OO.out.nilTo _)
        clear hK70 K70
        try simp only [Act.put, List.setIfInBounds_toArray, List.set_cons_zero, List.set_cons_succ]
        refine wpAnyH_ready (rs := [3]) (by as_aux_lemma => kernel_rfl) (by simp) ?_
        refine AllReadyH.cons rfl (fun K72 hK72 => ?_) AllReadyH.nil
        obtain ⟨c6, v23, hr, own6, on⟩ := copy_cin (P := Tryz.prog) (t := 57) (ty := 57) Tryz.underlying57 Tryz.infoRow rfl (HcR.out.keep (OT6.out.trans OO.out) (nilS · D)) OE.out (by omega) (by decide) (by decide) hbR
        have hgg := OO.out.size
        (refine step_append_run rfl (.tmp 156) (.tmp 158) 57 rfl _ _ rfl rfl _ _ hr ?_)
        have X := Lib.hid (OO.out.trans on); clear OO; have OO := X; clear X; have X := Lib.hid (BKc.out.keep on); clear BKc; have BKc := X; clear X; have X := Lib.hid (BO.out.keep on); clear BO; have BO := X; clear X
        have OWN := Lib.hid own6
        clear hr own6 OE on
        generalize v22.heap.size = gg at *
        refine hK72.out _ _ ?m73 (fun hHeld => ?_)
        case m73 => exact CR.out _ (OO.out.nilTo _)
        clear hK72 K72
        try simp only [Act.put, List.setIfInBounds_toArray, List.set_cons_zero, List.set_cons_succ]
        refine wpAnyH_ready (rs := [9]) (by as_aux_lemma => kernel_rfl) (by simp) ?_
        refine AllReadyH.cons rfl (fun K74 hK74 => ?_) AllReadyH.nil
        obtain ⟨g7, c7, v24, hr, own7, oG, hg7, hl7⟩ := push_one (P := Tryz.prog) (t := 57) (ty := 57) Tryz.underlying57 Tryz.infoRow rfl OWN.out BO.out rfl (by intro u hu; simp at hu; rcases hu with rfl | rfl | rfl | rfl <;> rfl) (by omega) (by decide)
        (refine step_append_run rfl (.tmp 159) (.tmp 164) 57 rfl _ _ rfl rfl _ _ hr ?_)
        have hbv := OO.out.size
        have X := Lib.hid (OO.out.then oG (fun k hk hlt => by have : k = gg := hk; omega)); clear OO; have OO := X; clear X; have X := Lib.hid (BKc.out.at_ oG (by omega)); clear BKc; have BKc := X; clear X
        have HG7 := Lib.hid (show w6.heap.size ≤ g7 by omega)
        clear hr oG OWN BO hg7 hl7
        refine hK74.out _ _ ?m75 (fun hHeld => ?_)
        case m75 => exact CR.out _ (OO.out.nilTo _)
        clear hK74 K74
        try simp only [Act.put, List.setIfInBounds_toArray, List.set_cons_zero, List.set_cons_succ]
        refine take_dst (some 166) (i := 10) (v := ?vp76) rfl (by as_aux_lemma => kernel_rfl) (by as_aux_lemma => kernel_rfl) (by as_aux_lemma => kernel_rfl) (by as_aux_lemma => kernel_rfl) (fun _ _ _ h => h) (Or.inl ⟨by kernel_rfl, ?hp76⟩) (by assumption) ?rp76
        case hp76 => (intro w hSw; (try dsimp only at hSw); first | (go_simp; done) | (go_simp; with_reducible rfl))
        try simp only [Act.put, List.setIfInBounds_toArray, List.set_cons_zero, List.set_cons_succ]
        refine wpAnyH_ready (rs := [11]) (by as_aux_lemma => kernel_rfl) (by simp) ?_
        refine AllReadyH.cons rfl (fun K77 hK77 => ?_) AllReadyH.nil
        have ck := BKc.out.cell 1 (v := .slice (some ⟨q3, off3, none⟩) nR c3) rfl
        have fk := BKc.out.free 1
        have oS := (OO.out.nilTo (At Sb)).setCell (p := ⟨Sb, 1, none⟩) rfl (.slice (some ⟨g7, 0, none⟩) (nR + 1) c7)
        have bS := bx_set BKc.out 1 (.slice (some ⟨g7, 0, none⟩) (nR + 1) c7)
        simp only [List.set_cons_succ, List.set_cons_zero] at bS
        have rS := own_keep own7 ((Only.refl (At Sb) v24).setCell (p := ⟨Sb, 1, none⟩) rfl (.slice (some ⟨g7, 0, none⟩) (nR + 1) c7)) (fun k hk h => by have e1 : k = Sb := h; have e2 : k = g7 := (by simpa [Value.ownBlock] using hk); have := HG7.out; omega)
        go_simp
        clear ck fk
        refine hK77.out _ _ ?m78 (fun hHeld => ?_)
        case m78 => exact CR.out _ oS
        clear hK77 K77
        try simp only [Act.put, List.setIfInBounds_toArray, List.set_cons_zero, List.set_cons_succ]
        refine wpAnyH_done (by as_aux_lemma => kernel_rfl) ?_ _
        go_wp2
        go_meet
        exact ⟨g7, c7, Lib.hid rS, Lib.hid bS, Lib.hid oS, HG7⟩
  · skip
    have ck := BKc.out.cell 1 (v := .slice (some ⟨q3, off3, none⟩) nR c3) rfl
    go_simp
    clear ck
    refine hK4.out _ _ ?m79 (fun hHeld => ?_)
    case m79 => exact CR.out _ (OO.out.nilTo _)
    clear hK4 K4
    try simp only [Act.put, List.setIfInBounds_toArray, List.set_cons_zero, List.set_cons_succ]
    refine wpAnyH_ready (rs := [0, 5]) (by as_aux_lemma => kernel_rfl) (by simp) ?_
    refine (AllReadyH.cons rfl (fun K80 hK80 => ?_) (AllReadyH.cons rfl (fun K81 hK81 => ?_) AllReadyH.nil))
    · skip
      have on := (Only.refl Nil v0).alloc (.cells #[] 62)
      have OE := Lib.hid (own_empty v0 62 4)
      have hsz := (OO.out).size
      have X := Lib.hid (OO.out.trans on); clear OO; have OO := X; clear X; have X := Lib.hid (BKc.out.keep on); clear BKc; have BKc := X; clear X
      go_simp
      obtain ⟨v26, hv26⟩ : ∃ v, v = v0.alloc (.cells #[] 62) := ⟨_, rfl⟩
      rw [← hv26] at OE on OO BKc
      try rw [← hv26]
      refine hK80.out _ _ ?m82 (fun hHeld => ?_)
      case m82 => exact CR.out _ (OO.out.nilTo _)
      clear hK80 K80 hv26 on hsz
      generalize v0.heap.size = bE26 at *
      try simp only [Act.put, List.setIfInBounds_toArray, List.set_cons_zero, List.set_cons_succ]
      refine wpAnyH_ready (rs := [3, 5]) (by as_aux_lemma => kernel_rfl) (by simp) ?_
      refine (AllReadyH.cons rfl (fun K83 hK83 => ?_) (AllReadyH.cons rfl (fun K84 hK84 => ?_) AllReadyH.nil))
      · skip
        obtain ⟨c6, v27, hr, own6, on⟩ := copy_cin (P := Tryz.prog) (t := 57) (ty := 57) Tryz.underlying57 Tryz.infoRow rfl (HcR.out.keep (OT6.out.trans OO.out) (nilS · D)) OE.out (by omega) (by decide) (by decide) hbR
        have hgg := OO.out.size
        (refine step_append_run rfl (.tmp 156) (.tmp 158) 57 rfl _ _ rfl rfl _ _ hr ?_)
        have X := Lib.hid (OO.out.trans on); clear OO; have OO := X; clear X; have X := Lib.hid (BKc.out.keep on); clear BKc; have BKc := X; clear X
        have OWN := Lib.hid own6
        clear hr own6 OE on
        generalize v26.heap.size = gg at *
        refine hK83.out _ _ ?m85 (fun hHeld => ?_)
        case m85 => exact CR.out _ (OO.out.nilTo _)
        clear hK83 K83
        try simp only [Act.put, List.setIfInBounds_toArray, List.set_cons_zero, List.set_cons_succ]
        refine wpAnyH_ready (rs := [5]) (by as_aux_lemma => kernel_rfl) (by simp) ?_
        refine AllReadyH.cons rfl (fun K86 hK86 => ?_) AllReadyH.nil
        have ck := BKc.out.cell 1 (v := .slice (some ⟨q3, off3, none⟩) nR c3) rfl
        go_simp
        clear ck
        refine hK86.out _ _ ?m87 (fun hHeld => ?_)
        case m87 => exact CR.out _ (OO.out.nilTo _)
        clear hK86 K86
        try simp only [Act.put, List.setIfInBounds_toArray, List.set_cons_zero, List.set_cons_succ]
        refine take_dst (some 162) (i := 6) (v := ?vp88) rfl (by as_aux_lemma => kernel_rfl) (by as_aux_lemma => kernel_rfl) (by as_aux_lemma => kernel_rfl) (by as_aux_lemma => kernel_rfl) (fun _ _ _ h => h) (Or.inl ⟨by kernel_rfl, ?hp88⟩) (by assumption) ?rp88
        case hp88 => (intro w hSw; (try dsimp only at hSw); first | (go_simp; done) | (go_simp; with_reducible rfl))
        try simp only [Act.put, List.setIfInBounds_toArray, List.set_cons_zero, List.set_cons_succ]
        refine take_dst (some 163) (i := 7) (v := ?vp89) rfl (by as_aux_lemma => kernel_rfl) (by as_aux_lemma => kernel_rfl) (by as_aux_lemma => kernel_rfl) (by as_aux_lemma => kernel_rfl) (fun _ _ _ h => h) (Or.inl ⟨by kernel_rfl, ?hp89⟩) (by assumption) ?rp89
        case hp89 => (intro w hSw; (try dsimp only at hSw); first | (go_simp; done) | (go_simp; with_reducible rfl))
        try simp only [Act.put, List.setIfInBounds_toArray, List.set_cons_zero, List.set_cons_succ]
        refine wpAnyH_ready (rs := [8]) (by as_aux_lemma => kernel_rfl) (by simp) ?_
        refine AllReadyH.cons rfl (fun K90 hK90 => ?_) AllReadyH.nil
        have on := (Only.refl Nil v27).alloc (.cells #[.string (bs t1.tag), .bool t1.only, .int .i64 t1.n, .slice e1 m1 d1] 62)
        have BO := Lib.hid (bx_new v27 [.string (bs t1.tag), .bool t1.only, .int .i64 t1.n, .slice e1 m1 d1] 62)
        have X := Lib.hid (OO.out.trans on); clear OO; have OO := X; clear X; have X := Lib.hid (BKc.out.keep on); clear BKc; have BKc := X; clear X; have X := Lib.hid (own_keep OWN.out on (fun _ _ h => h)); clear OWN; have OWN := X; clear X
        go_simp
        obtain ⟨v28, hv28⟩ : ∃ v, v = v27.alloc (.cells #[.string (bs t1.tag), .bool t1.only, .int .i64 t1.n, .slice e1 m1 d1] 62) := ⟨_, rfl⟩
        change Hid (Bx (v27.alloc (.cells #[.string (bs t1.tag), .bool t1.only, .int .i64 t1.n, .slice e1 m1 d1] 62)) v27.heap.size [.string (bs t1.tag), .bool t1.only, .int .i64 t1.n, .slice e1 m1 d1] 62) at BO
        rw [← hv28] at BO on OO BKc OWN
        try rw [← hv28]
        refine hK90.out _ _ ?m91 (fun hHeld => ?_)
        case m91 => exact CR.out _ (OO.out.nilTo _)
        clear hK90 K90 hv28 on
        generalize v27.heap.size = bO28 at *
        try simp only [Act.put, List.setIfInBounds_toArray, List.set_cons_zero, List.set_cons_succ]
        refine wpAnyH_ready (rs := [9]) (by as_aux_lemma => kernel_rfl) (by simp) ?_
        refine AllReadyH.cons rfl (fun K92 hK92 => ?_) AllReadyH.nil
        obtain ⟨g7, c7, v29, hr, own7, oG, hg7, hl7⟩ := push_one (P := Tryz.prog) (t := 57) (ty := 57) Tryz.underlying57 Tryz.infoRow rfl OWN.out BO.out rfl (by intro u hu; simp at hu; rcases hu with rfl | rfl | rfl | rfl <;> rfl) (by omega) (by decide)
        (refine step_append_run rfl (.tmp 159) (.tmp 164) 57 rfl _ _ rfl rfl _ _ hr ?_)
        have hbv := OO.out.size
        have X := Lib.hid (OO.out.then oG (fun k hk hlt => by have : k = gg := hk; omega)); clear OO; have OO := X; clear X; have X := Lib.hid (BKc.out.at_ oG (by omega)); clear BKc; have BKc := X; clear X
        have HG7 := Lib.hid (show w6.heap.size ≤ g7 by omega)
        clear hr oG OWN BO hg7 hl7
        refine hK92.out _ _ ?m93 (fun hHeld => ?_)
        case m93 => exact CR.out _ (OO.out.nilTo _)
        clear hK92 K92
        try simp only [Act.put, List.setIfInBounds_toArray, List.set_cons_zero, List.set_cons_succ]
        refine take_dst (some 166) (i := 10) (v := ?vp94) rfl (by as_aux_lemma => kernel_rfl) (by as_aux_lemma => kernel_rfl) (by as_aux_lemma => kernel_rfl) (by as_aux_lemma => kernel_rfl) (fun _ _ _ h => h) (Or.inl ⟨by kernel_rfl, ?hp94⟩) (by assumption) ?rp94
        case hp94 => (intro w hSw; (try dsimp only at hSw); first | (go_simp; done) | (go_simp; with_reducible rfl))
        try simp only [Act.put, List.setIfInBounds_toArray, List.set_cons_zero, List.set_cons_succ]
        refine wpAnyH_ready (rs := [11]) (by as_aux_lemma => kernel_rfl) (by simp) ?_
        refine AllReadyH.cons rfl (fun K95 hK95 => ?_) AllReadyH.nil
        have ck := BKc.out.cell 1 (v := .slice (some ⟨q3, off3, none⟩) nR c3) rfl
        have fk := BKc.out.free 1
        have oS := (OO.out.nilTo (At Sb)).setCell (p := ⟨Sb, 1, none⟩) rfl (.slice (some ⟨g7, 0, none⟩) (nR + 1) c7)
        have bS := bx_set BKc.out 1 (.slice (some ⟨g7, 0, none⟩) (nR + 1) c7)
        simp only [List.set_cons_succ, List.set_cons_zero] at bS
        have rS := own_keep own7 ((Only.refl (At Sb) v29).setCell (p := ⟨Sb, 1, none⟩) rfl (.slice (some ⟨g7, 0, none⟩) (nR + 1) c7)) (fun k hk h => by have e1 : k = Sb := h; have e2 : k = g7 := (by simpa [Value.ownBlock] using hk); have := HG7.out; omega)
        go_simp
        clear ck fk
        refine hK95.out _ _ ?m96 (fun hHeld => ?_)
        case m96 => exact CR.out _ oS
        clear hK95 K95
        try simp only [Act.put, List.setIfInBounds_toArray, List.set_cons_zero, List.set_cons_succ]
        refine wpAnyH_done (by as_aux_lemma => kernel_rfl) ?_ _
        go_wp2
        go_meet
        exact ⟨g7, c7, Lib.hid rS, Lib.hid bS, Lib.hid oS, HG7⟩
      · skip
        have ck := BKc.out.cell 1 (v := .slice (some ⟨q3, off3, none⟩) nR c3) rfl
        go_simp
        clear ck
        refine hK84.out _ _ ?m97 (fun hHeld => ?_)
        case m97 => exact CR.out _ (OO.out.nilTo _)
        clear hK84 K84
        try simp only [Act.put, List.setIfInBounds_toArray, List.set_cons_zero, List.set_cons_succ]
        refine take_dst (some 162) (i := 6) (v := ?vp98) rfl (by as_aux_lemma => kernel_rfl) (by as_aux_lemma => kernel_rfl) (by as_aux_lemma => kernel_rfl) (by as_aux_lemma => kernel_rfl) (fun _ _ _ h => h) (Or.inl ⟨by kernel_rfl, ?hp98⟩) (by assumption) ?rp98
        case hp98 => (intro w hSw; (try dsimp only at hSw); first | (go_simp; done) | (go_simp; with_reducible rfl))
        try simp only [Act.put, List.setIfInBounds_toArray, List.set_cons_zero, List.set_cons_succ]
        refine take_dst (some 163) (i := 7) (v := ?vp99) rfl (by as_aux_lemma => kernel_rfl) (by as_aux_lemma => kernel_rfl) (by as_aux_lemma => kernel_rfl) (by as_aux_lemma => kernel_rfl) (fun _ _ _ h => h) (Or.inl ⟨by kernel_rfl, ?hp99⟩) (by assumption) ?rp99
        case hp99 => (intro w hSw; (try dsimp only at hSw); first | (go_simp; done) | (go_simp; with_reducible rfl))
        try simp only [Act.put, List.setIfInBounds_toArray, List.set_cons_zero, List.set_cons_succ]
        refine wpAnyH_ready (rs := [3, 8]) (by as_aux_lemma => kernel_rfl) (by simp) ?_
        refine (AllReadyH.cons rfl (fun K100 hK100 => ?_) (AllReadyH.cons rfl (fun K101 hK101 => ?_) AllReadyH.nil))
        · skip
          obtain ⟨c6, v31, hr, own6, on⟩ := copy_cin (P := Tryz.prog) (t := 57) (ty := 57) Tryz.underlying57 Tryz.infoRow rfl (HcR.out.keep (OT6.out.trans OO.out) (nilS · D)) OE.out (by omega) (by decide) (by decide) hbR
          have hgg := OO.out.size
          (refine step_append_run rfl (.tmp 156) (.tmp 158) 57 rfl _ _ rfl rfl _ _ hr ?_)
          have X := Lib.hid (OO.out.trans on); clear OO; have OO := X; clear X; have X := Lib.hid (BKc.out.keep on); clear BKc; have BKc := X; clear X
          have OWN := Lib.hid own6
          clear hr own6 OE on
          generalize v26.heap.size = gg at *
          refine hK100.out _ _ ?m102 (fun hHeld => ?_)
          case m102 => exact CR.out _ (OO.out.nilTo _)
          clear hK100 K100
          try simp only [Act.put, List.setIfInBounds_toArray, List.set_cons_zero, List.set_cons_succ]
          refine wpAnyH_ready (rs := [8]) (by as_aux_lemma => kernel_rfl) (by simp) ?_
          refine AllReadyH.cons rfl (fun K103 hK103 => ?_) AllReadyH.nil
          have on := (Only.refl Nil v31).alloc (.cells #[.string (bs t1.tag), .bool t1.only, .int .i64 t1.n, .slice e1 m1 d1] 62)
          have BO := Lib.hid (bx_new v31 [.string (bs t1.tag), .bool t1.only, .int .i64 t1.n, .slice e1 m1 d1] 62)
          have X := Lib.hid (OO.out.trans on); clear OO; have OO := X; clear X; have X := Lib.hid (BKc.out.keep on); clear BKc; have BKc := X; clear X; have X := Lib.hid (own_keep OWN.out on (fun _ _ h => h)); clear OWN; have OWN := X; clear X
          go_simp
          obtain ⟨v32, hv32⟩ : ∃ v, v = v31.alloc (.cells #[.string (bs t1.tag), .bool t1.only, .int .i64 t1.n, .slice e1 m1 d1] 62) := ⟨_, rfl⟩
          change Hid (Bx (v31.alloc (.cells #[.string (bs t1.tag), .bool t1.only, .int .i64 t1.n, .slice e1 m1 d1] 62)) v31.heap.size [.string (bs t1.tag), .bool t1.only, .int .i64 t1.n, .slice e1 m1 d1] 62) at BO
          rw [← hv32] at BO on OO BKc OWN
          try rw [← hv32]
          refine hK103.out _ _ ?m104 (fun hHeld => ?_)
          case m104 => exact CR.out _ (OO.out.nilTo _)
          clear hK103 K103 hv32 on
          generalize v31.heap.size = bO32 at *
          try simp only [Act.put, List.setIfInBounds_toArray, List.set_cons_zero, List.set_cons_succ]
          refine wpAnyH_ready (rs := [9]) (by as_aux_lemma => kernel_rfl) (by simp) ?_
          refine AllReadyH.cons rfl (fun K105 hK105 => ?_) AllReadyH.nil
          obtain ⟨g7, c7, v33, hr, own7, oG, hg7, hl7⟩ := push_one (P := Tryz.prog) (t := 57) (ty := 57) Tryz.underlying57 Tryz.infoRow rfl OWN.out BO.out rfl (by intro u hu; simp at hu; rcases hu with rfl | rfl | rfl | rfl <;> rfl) (by omega) (by decide)
          (refine step_append_run rfl (.tmp 159) (.tmp 164) 57 rfl _ _ rfl rfl _ _ hr ?_)
          have hbv := OO.out.size
          have X := Lib.hid (OO.out.then oG (fun k hk hlt => by have : k = gg := hk; omega)); clear OO; have OO := X; clear X; have X := Lib.hid (BKc.out.at_ oG (by omega)); clear BKc; have BKc := X; clear X
          have HG7 := Lib.hid (show w6.heap.size ≤ g7 by omega)
          clear hr oG OWN BO hg7 hl7
          refine hK105.out _ _ ?m106 (fun hHeld => ?_)
          case m106 => exact CR.out _ (OO.out.nilTo _)
          clear hK105 K105
          try simp only [Act.put, List.setIfInBounds_toArray, List.set_cons_zero, List.set_cons_succ]
          refine take_dst (some 166) (i := 10) (v := ?vp107) rfl (by as_aux_lemma => kernel_rfl) (by as_aux_lemma => kernel_rfl) (by as_aux_lemma => kernel_rfl) (by as_aux_lemma => kernel_rfl) (fun _ _ _ h => h) (Or.inl ⟨by kernel_rfl, ?hp107⟩) (by assumption) ?rp107
          case hp107 => (intro w hSw; (try dsimp only at hSw); first | (go_simp; done) | (go_simp; with_reducible rfl))
          try simp only [Act.put, List.setIfInBounds_toArray, List.set_cons_zero, List.set_cons_succ]
          refine wpAnyH_ready (rs := [11]) (by as_aux_lemma => kernel_rfl) (by simp) ?_
          refine AllReadyH.cons rfl (fun K108 hK108 => ?_) AllReadyH.nil
          have ck := BKc.out.cell 1 (v := .slice (some ⟨q3, off3, none⟩) nR c3) rfl
          have fk := BKc.out.free 1
          have oS := (OO.out.nilTo (At Sb)).setCell (p := ⟨Sb, 1, none⟩) rfl (.slice (some ⟨g7, 0, none⟩) (nR + 1) c7)
          have bS := bx_set BKc.out 1 (.slice (some ⟨g7, 0, none⟩) (nR + 1) c7)
          simp only [List.set_cons_succ, List.set_cons_zero] at bS
          have rS := own_keep own7 ((Only.refl (At Sb) v33).setCell (p := ⟨Sb, 1, none⟩) rfl (.slice (some ⟨g7, 0, none⟩) (nR + 1) c7)) (fun k hk h => by have e1 : k = Sb := h; have e2 : k = g7 := (by simpa [Value.ownBlock] using hk); have := HG7.out; omega)
          go_simp
          clear ck fk
          refine hK108.out _ _ ?m109 (fun hHeld => ?_)
          case m109 => exact CR.out _ oS
          clear hK108 K108
          try simp only [Act.put, List.setIfInBounds_toArray, List.set_cons_zero, List.set_cons_succ]
          refine wpAnyH_done (by as_aux_lemma => kernel_rfl) ?_ _
          go_wp2
          go_meet
          exact ⟨g7, c7, Lib.hid rS, Lib.hid bS, Lib.hid oS, HG7⟩
        · skip
          have on := (Only.refl Nil v26).alloc (.cells #[.string (bs t1.tag), .bool t1.only, .int .i64 t1.n, .slice e1 m1 d1] 62)
          have BO := Lib.hid (bx_new v26 [.string (bs t1.tag), .bool t1.only, .int .i64 t1.n, .slice e1 m1 d1] 62)
          have X := Lib.hid (OO.out.trans on); clear OO; have OO := X; clear X; have X := Lib.hid (BKc.out.keep on); clear BKc; have BKc := X; clear X; have X := Lib.hid (own_keep OE.out on (fun _ _ h => h)); clear OE; have OE := X; clear X
          go_simp
          obtain ⟨v35, hv35⟩ : ∃ v, v = v26.alloc (.cells #[.string (bs t1.tag), .bool t1.only, .int .i64 t1.n, .slice e1 m1 d1] 62) := ⟨_, rfl⟩
          change Hid (Bx (v26.alloc (.cells #[.string (bs t1.tag), .bool t1.only, .int .i64 t1.n, .slice e1 m1 d1] 62)) v26.heap.size [.string (bs t1.tag), .bool t1.only, .int .i64 t1.n, .slice e1 m1 d1] 62) at BO
          rw [← hv35] at BO on OO BKc OE
          try rw [← hv35]
          refine hK101.out _ _ ?m110 (fun hHeld => ?_)
          case m110 => exact CR.out _ (OO.out.nilTo _)
          clear hK101 K101 hv35 on
          generalize v26.heap.size = bO35 at *
          try simp only [Act.put, List.setIfInBounds_toArray, List.set_cons_zero, List.set_cons_succ]
          refine wpAnyH_ready (rs := [3]) (by as_aux_lemma => kernel_rfl) (by simp) ?_
          refine AllReadyH.cons rfl (fun K111 hK111 => ?_) AllReadyH.nil
          obtain ⟨c6, v36, hr, own6, on⟩ := copy_cin (P := Tryz.prog) (t := 57) (ty := 57) Tryz.underlying57 Tryz.infoRow rfl (HcR.out.keep (OT6.out.trans OO.out) (nilS · D)) OE.out (by omega) (by decide) (by decide) hbR
          have hgg := OO.out.size
          (refine step_append_run rfl (.tmp 156) (.tmp 158) 57 rfl _ _ rfl rfl _ _ hr ?_)
          have X := Lib.hid (OO.out.trans on); clear OO; have OO := X; clear X; have X := Lib.hid (BKc.out.keep on); clear BKc; have BKc := X; clear X; have X := Lib.hid (BO.out.keep on); clear BO; have BO := X; clear X
          have OWN := Lib.hid own6
          clear hr own6 OE on
          generalize v35.heap.size = gg at *
          refine hK111.out _ _ ?m112 (fun hHeld => ?_)
          case m112 => exact CR.out _ (OO.out.nilTo _)
          clear hK111 K111
          try simp only [Act.put, List.setIfInBounds_toArray, List.set_cons_zero, List.set_cons_succ]
          refine wpAnyH_ready (rs := [9]) (by as_aux_lemma => kernel_rfl) (by simp) ?_
          refine AllReadyH.cons rfl (fun K113 hK113 => ?_) AllReadyH.nil
          obtain ⟨g7, c7, v37, hr, own7, oG, hg7, hl7⟩ := push_one (P := Tryz.prog) (t := 57) (ty := 57) Tryz.underlying57 Tryz.infoRow rfl OWN.out BO.out rfl (by intro u hu; simp at hu; rcases hu with rfl | rfl | rfl | rfl <;> rfl) (by omega) (by decide)
          (refine step_append_run rfl (.tmp 159) (.tmp 164) 57 rfl _ _ rfl rfl _ _ hr ?_)
          have hbv := OO.out.size
          have X := Lib.hid (OO.out.then oG (fun k hk hlt => by have : k = gg := hk; omega)); clear OO; have OO := X; clear X; have X := Lib.hid (BKc.out.at_ oG (by omega)); clear BKc; have BKc := X; clear X
          have HG7 := Lib.hid (show w6.heap.size ≤ g7 by omega)
          clear hr oG OWN BO hg7 hl7
          refine hK113.out _ _ ?m114 (fun hHeld => ?_)
          case m114 => exact CR.out _ (OO.out.nilTo _)
          clear hK113 K113
          try simp only [Act.put, List.setIfInBounds_toArray, List.set_cons_zero, List.set_cons_succ]
          refine take_dst (some 166) (i := 10) (v := ?vp115) rfl (by as_aux_lemma => kernel_rfl) (by as_aux_lemma => kernel_rfl) (by as_aux_lemma => kernel_rfl) (by as_aux_lemma => kernel_rfl) (fun _ _ _ h => h) (Or.inl ⟨by kernel_rfl, ?hp115⟩) (by assumption) ?rp115
          case hp115 => (intro w hSw; (try dsimp only at hSw); first | (go_simp; done) | (go_simp; with_reducible rfl))
          try simp only [Act.put, List.setIfInBounds_toArray, List.set_cons_zero, List.set_cons_succ]
          refine wpAnyH_ready (rs := [11]) (by as_aux_lemma => kernel_rfl) (by simp) ?_
          refine AllReadyH.cons rfl (fun K116 hK116 => ?_) AllReadyH.nil
          have ck := BKc.out.cell 1 (v := .slice (some ⟨q3, off3, none⟩) nR c3) rfl
          have fk := BKc.out.free 1
          have oS := (OO.out.nilTo (At Sb)).setCell (p := ⟨Sb, 1, none⟩) rfl (.slice (some ⟨g7, 0, none⟩) (nR + 1) c7)
          have bS := bx_set BKc.out 1 (.slice (some ⟨g7, 0, none⟩) (nR + 1) c7)
          simp only [List.set_cons_succ, List.set_cons_zero] at bS
          have rS := own_keep own7 ((Only.refl (At Sb) v37).setCell (p := ⟨Sb, 1, none⟩) rfl (.slice (some ⟨g7, 0, none⟩) (nR + 1) c7)) (fun k hk h => by have e1 : k = Sb := h; have e2 : k = g7 := (by simpa [Value.ownBlock] using hk); have := HG7.out; omega)
          go_simp
          clear ck fk
          refine hK116.out _ _ ?m117 (fun hHeld => ?_)
          case m117 => exact CR.out _ oS
          clear hK116 K116
          try simp only [Act.put, List.setIfInBounds_toArray, List.set_cons_zero, List.set_cons_succ]
          refine wpAnyH_done (by as_aux_lemma => kernel_rfl) ?_ _
          go_wp2
          go_meet
          exact ⟨g7, c7, Lib.hid rS, Lib.hid bS, Lib.hid oS, HG7⟩
    · skip
      have ck := BKc.out.cell 1 (v := .slice (some ⟨q3, off3, none⟩) nR c3) rfl
      go_simp
      clear ck
      refine hK81.out _ _ ?m118 (fun hHeld => ?_)
      case m118 => exact CR.out _ (OO.out.nilTo _)
      clear hK81 K81
      try simp only [Act.put, List.setIfInBounds_toArray, List.set_cons_zero, List.set_cons_succ]
      refine take_dst (some 162) (i := 6) (v := ?vp119) rfl (by as_aux_lemma => kernel_rfl) (by as_aux_lemma => kernel_rfl) (by as_aux_lemma => kernel_rfl) (by as_aux_lemma => kernel_rfl) (fun _ _ _ h => h) (Or.inl ⟨by kernel_rfl, ?hp119⟩) (by assumption) ?rp119
      case hp119 => (intro w hSw; (try dsimp only at hSw); first | (go_simp; done) | (go_simp; with_reducible rfl))
      try simp only [Act.put, List.setIfInBounds_toArray, List.set_cons_zero, List.set_cons_succ]
      refine take_dst (some 163) (i := 7) (v := ?vp120) rfl (by as_aux_lemma => kernel_rfl) (by as_aux_lemma => kernel_rfl) (by as_aux_lemma => kernel_rfl) (by as_aux_lemma => kernel_rfl) (fun _ _ _ h => h) (Or.inl ⟨by kernel_rfl, ?hp120⟩) (by assumption) ?rp120
      case hp120 => (intro w hSw; (try dsimp only at hSw); first | (go_simp; done) | (go_simp; with_reducible rfl))
      try simp only [Act.put, List.setIfInBounds_toArray, List.set_cons_zero, List.set_cons_succ]
      refine wpAnyH_ready (rs := [0, 8]) (by as_aux_lemma => kernel_rfl) (by simp) ?_
      refine (AllReadyH.cons rfl (fun K121 hK121 => ?_) (AllReadyH.cons rfl (fun K122 hK122 => ?_) AllReadyH.nil))
      · skip
        have on := (Only.refl Nil v0).alloc (.cells #[] 62)
        have OE := Lib.hid (own_empty v0 62 4)
        have hsz := (OO.out).size
        have X := Lib.hid (OO.out.trans on); clear OO; have OO := X; clear X; have X := Lib.hid (BKc.out.keep on); clear BKc; have BKc := X; clear X
        go_simp
        obtain ⟨v39, hv39⟩ : ∃ v, v = v0.alloc (.cells #[] 62) := ⟨_, rfl⟩
        rw [← hv39] at OE on OO BKc
        try rw [← hv39]
        refine hK121.out _ _ ?m123 (fun hHeld => ?_)
        case m123 => exact CR.out _ (OO.out.nilTo _)
        clear hK121 K121 hv39 on hsz
        generalize v0.heap.size = bE39 at *
        try simp only [Act.put, List.setIfInBounds_toArray, List.set_cons_zero, List.set_cons_succ]
        refine wpAnyH_ready (rs := [3, 8]) (by as_aux_lemma => kernel_rfl) (by simp) ?_
        refine (AllReadyH.cons rfl (fun K124 hK124 => ?_) (AllReadyH.cons rfl (fun K125 hK125 => ?_) AllReadyH.nil))
        · skip
          obtain ⟨c6, v40, hr, own6, on⟩ := copy_cin (P := Tryz.prog) (t := 57) (ty := 57) Tryz.underlying57 Tryz.infoRow rfl (HcR.out.keep (OT6.out.trans OO.out) (nilS · D)) OE.out (by omega) (by decide) (by decide) hbR
          have hgg := OO.out.size
          (refine step_append_run rfl (.tmp 156) (.tmp 158) 57 rfl _ _ rfl rfl _ _ hr ?_)
          have X := Lib.hid (OO.out.trans on); clear OO; have OO := X; clear X; have X := Lib.hid (BKc.out.keep on); clear BKc; have BKc := X; clear X
          have OWN := Lib.hid own6
          clear hr own6 OE on
          generalize v39.heap.size = gg at *
          refine hK124.out _ _ ?m126 (fun hHeld => ?_)
          case m126 => exact CR.out _ (OO.out.nilTo _)
          clear hK124 K124
          try simp only [Act.put, List.setIfInBounds_toArray, List.set_cons_zero, List.set_cons_succ]
          refine wpAnyH_ready (rs := [8]) (by as_aux_lemma => kernel_rfl) (by simp) ?_
          refine AllReadyH.cons rfl (fun K127 hK127 => ?_) AllReadyH.nil
          have on := (Only.refl Nil v40).alloc (.cells #[.string (bs t1.tag), .bool t1.only, .int .i64 t1.n, .slice e1 m1 d1] 62)
          have BO := Lib.hid (bx_new v40 [.string (bs t1.tag), .bool t1.only, .int .i64 t1.n, .slice e1 m1 d1] 62)
          have X := Lib.hid (OO.out.trans on); clear OO; have OO := X; clear X; have X := Lib.hid (BKc.out.keep on); clear BKc; have BKc := X; clear X; have X := Lib.hid (own_keep OWN.out on (fun _ _ h => h)); clear OWN; have OWN := X; clear X
          go_simp
          obtain ⟨v41, hv41⟩ : ∃ v, v = v40.alloc (.cells #[.string (bs t1.tag), .bool t1.only, .int .i64 t1.n, .slice e1 m1 d1] 62) := ⟨_, rfl⟩
          change Hid (Bx (v40.alloc (.cells #[.string (bs t1.tag), .bool t1.only, .int .i64 t1.n, .slice e1 m1 d1] 62)) v40.heap.size [.string (bs t1.tag), .bool t1.only, .int .i64 t1.n, .slice e1 m1 d1] 62) at BO
          rw [← hv41] at BO on OO BKc OWN
          try rw [← hv41]
          refine hK127.out _ _ ?m128 (fun hHeld => ?_)
          case m128 => exact CR.out _ (OO.out.nilTo _)
          clear hK127 K127 hv41 on
          generalize v40.heap.size = bO41 at *
          try simp only [Act.put, List.setIfInBounds_toArray, List.set_cons_zero, List.set_cons_succ]
          refine wpAnyH_ready (rs := [9]) (by as_aux_lemma => kernel_rfl) (by simp) ?_
          refine AllReadyH.cons rfl (fun K129 hK129 => ?_) AllReadyH.nil
          obtain ⟨g7, c7, v42, hr, own7, oG, hg7, hl7⟩ := push_one (P := Tryz.prog) (t := 57) (ty := 57) Tryz.underlying57 Tryz.infoRow rfl OWN.out BO.out rfl (by intro u hu; simp at hu; rcases hu with rfl | rfl | rfl | rfl <;> rfl) (by omega) (by decide)
          (refine step_append_run rfl (.tmp 159) (.tmp 164) 57 rfl _ _ rfl rfl _ _ hr ?_)
          have hbv := OO.out.size
          have X := Lib.hid (OO.out.then oG (fun k hk hlt => by have : k = gg := hk; omega)); clear OO; have OO := X; clear X; have X := Lib.hid (BKc.out.at_ oG (by omega)); clear BKc; have BKc := X; clear X
          have HG7 := Lib.hid (show w6.heap.size ≤ g7 by omega)
          clear hr oG OWN BO hg7 hl7
          refine hK129.out _ _ ?m130 (fun hHeld => ?_)
          case m130 => exact CR.out _ (OO.out.nilTo _)
          clear hK129 K129
          try simp only [Act.put, List.setIfInBounds_toArray, List.set_cons_zero, List.set_cons_succ]
          refine take_dst (some 166) (i := 10) (v := ?vp131) rfl (by as_aux_lemma => kernel_rfl) (by as_aux_lemma => kernel_rfl) (by as_aux_lemma => kernel_rfl) (by as_aux_lemma => kernel_rfl) (fun _ _ _ h => h) (Or.inl ⟨by kernel_rfl, ?hp131⟩) (by assumption) ?rp131
          case hp131 => (intro w hSw; (try dsimp only at hSw); first | (go_simp; done) | (go_simp; with_reducible rfl))
          try simp only [Act.put, List.setIfInBounds_toArray, List.set_cons_zero, List.set_cons_succ]
          refine wpAnyH_ready (rs := [11]) (by as_aux_lemma => kernel_rfl) (by simp) ?_
          refine AllReadyH.cons rfl (fun K132 hK132 => ?_) AllReadyH.nil
          have ck := BKc.out.cell 1 (v := .slice (some ⟨q3, off3, none⟩) nR c3) rfl
          have fk := BKc.out.free 1
          have oS := (OO.out.nilTo (At Sb)).setCell (p := ⟨Sb, 1, none⟩) rfl (.slice (some ⟨g7, 0, none⟩) (nR + 1) c7)
          have bS := bx_set BKc.out 1 (.slice (some ⟨g7, 0, none⟩) (nR + 1) c7)
          simp only [List.set_cons_succ, List.set_cons_zero] at bS
          have rS := own_keep own7 ((Only.refl (At Sb) v42).setCell (p := ⟨Sb, 1, none⟩) rfl (.slice (some ⟨g7, 0, none⟩) (nR + 1) c7)) (fun k hk h => by have e1 : k = Sb := h; have e2 : k = g7 := (by simpa [Value.ownBlock] using hk); have := HG7.out; omega)
          go_simp
          clear ck fk
          refine hK132.out _ _ ?m133 (fun hHeld => ?_)
          case m133 => exact CR.out _ oS
          clear hK132 K132
          try simp only [Act.put, List.setIfInBounds_toArray, List.set_cons_zero, List.set_cons_succ]
          refine wpAnyH_done (by as_aux_lemma => kernel_rfl) ?_ _
          go_wp2
          go_meet
          exact ⟨g7, c7, Lib.hid rS, Lib.hid bS, Lib.hid oS, HG7⟩
        · skip
          have on := (Only.refl Nil v39).alloc (.cells #[.string (bs t1.tag), .bool t1.only, .int .i64 t1.n, .slice e1 m1 d1] 62)
          have BO := Lib.hid (bx_new v39 [.string (bs t1.tag), .bool t1.only, .int .i64 t1.n, .slice e1 m1 d1] 62)
          have X := Lib.hid (OO.out.trans on); clear OO; have OO := X; clear X; have X := Lib.hid (BKc.out.keep on); clear BKc; have BKc := X; clear X; have X := Lib.hid (own_keep OE.out on (fun _ _ h => h)); clear OE; have OE := X; clear X
          go_simp
          obtain ⟨v44, hv44⟩ : ∃ v, v = v39.alloc (.cells #[.string (bs t1.tag), .bool t1.only, .int .i64 t1.n, .slice e1 m1 d1] 62) := ⟨_, rfl⟩
          change Hid (Bx (v39.alloc (.cells #[.string (bs t1.tag), .bool t1.only, .int .i64 t1.n, .slice e1 m1 d1] 62)) v39.heap.size [.string (bs t1.tag), .bool t1.only, .int .i64 t1.n, .slice e1 m1 d1] 62) at BO
          rw [← hv44] at BO on OO BKc OE
          try rw [← hv44]
          refine hK125.out _ _ ?m134 (fun hHeld => ?_)
          case m134 => exact CR.out _ (OO.out.nilTo _)
          clear hK125 K125 hv44 on
          generalize v39.heap.size = bO44 at *
          try simp only [Act.put, List.setIfInBounds_toArray, List.set_cons_zero, List.set_cons_succ]
          refine wpAnyH_ready (rs := [3]) (by as_aux_lemma => kernel_rfl) (by simp) ?_
          refine AllReadyH.cons rfl (fun K135 hK135 => ?_) AllReadyH.nil
          obtain ⟨c6, v45, hr, own6, on⟩ := copy_cin (P := Tryz.prog) (t := 57) (ty := 57) Tryz.underlying57 Tryz.infoRow rfl (HcR.out.keep (OT6.out.trans OO.out) (nilS · D)) OE.out (by omega) (by decide) (by decide) hbR
          have hgg := OO.out.size
          (refine step_append_run rfl (.tmp 156) (.tmp 158) 57 rfl _ _ rfl rfl _ _ hr ?_)
          have X := Lib.hid (OO.out.trans on); clear OO; have OO := X; clear X; have X := Lib.hid (BKc.out.keep on); clear BKc; have BKc := X; clear X; have X := Lib.hid (BO.out.keep on); clear BO; have BO := X; clear X
          have OWN := Lib.hid own6
          clear hr own6 OE on
          generalize v44.heap.size = gg at *
          refine hK135.out _ _ ?m136 (fun hHeld => ?_)
          case m136 => exact CR.out _ (OO.out.nilTo _)
          clear hK135 K135
          try simp only [Act.put, List.setIfInBounds_toArray, List.set_cons_zero, List.set_cons_succ]
          refine wpAnyH_ready (rs := [9]) (by as_aux_lemma => kernel_rfl) (by simp) ?_
          refine AllReadyH.cons rfl (fun K137 hK137 => ?_) AllReadyH.nil
          obtain ⟨g7, c7, v46, hr, own7, oG, hg7, hl7⟩ := push_one (P := Tryz.prog) (t := 57) (ty := 57) Tryz.underlying57 Tryz.infoRow rfl OWN.out BO.out rfl (by intro u hu; simp at hu; rcases hu with rfl | rfl | rfl | rfl <;> rfl) (by omega) (by decide)
          (refine step_append_run rfl (.tmp 159) (.tmp 164) 57 rfl _ _ rfl rfl _ _ hr ?_)
          have hbv := OO.out.size
          have X := Lib.hid (OO.out.then oG (fun k hk hlt => by have : k = gg := hk; omega)); clear OO; have OO := X; clear X; have X := Lib.hid (BKc.out.at_ oG (by omega)); clear BKc; have BKc := X; clear X
          have HG7 := Lib.hid (show w6.heap.size ≤ g7 by omega)
          clear hr oG OWN BO hg7 hl7
          refine hK137.out _ _ ?m138 (fun hHeld => ?_)
          case m138 => exact CR.out _ (OO.out.nilTo _)
          clear hK137 K137
          try simp only [Act.put, List.setIfInBounds_toArray, List.set_cons_zero, List.set_cons_succ]
          refine take_dst (some 166) (i := 10) (v := ?vp139) rfl (by as_aux_lemma => kernel_rfl) (by as_aux_lemma => kernel_rfl) (by as_aux_lemma => kernel_rfl) (by as_aux_lemma => kernel_rfl) (fun _ _ _ h => h) (Or.inl ⟨by kernel_rfl, ?hp139⟩) (by assumption) ?rp139
          case hp139 => (intro w hSw; (try dsimp only at hSw); first | (go_simp; done) | (go_simp; with_reducible rfl))
          try simp only [Act.put, List.setIfInBounds_toArray, List.set_cons_zero, List.set_cons_succ]
          refine wpAnyH_ready (rs := [11]) (by as_aux_lemma => kernel_rfl) (by simp) ?_
          refine AllReadyH.cons rfl (fun K140 hK140 => ?_) AllReadyH.nil
          have ck := BKc.out.cell 1 (v := .slice (some ⟨q3, off3, none⟩) nR c3) rfl
          have fk := BKc.out.free 1
          have oS := (OO.out.nilTo (At Sb)).setCell (p := ⟨Sb, 1, none⟩) rfl (.slice (some ⟨g7, 0, none⟩) (nR + 1) c7)
          have bS := bx_set BKc.out 1 (.slice (some ⟨g7, 0, none⟩) (nR + 1) c7)
          simp only [List.set_cons_succ, List.set_cons_zero] at bS
          have rS := own_keep own7 ((Only.refl (At Sb) v46).setCell (p := ⟨Sb, 1, none⟩) rfl (.slice (some ⟨g7, 0, none⟩) (nR + 1) c7)) (fun k hk h => by have e1 : k = Sb := h; have e2 : k = g7 := (by simpa [Value.ownBlock] using hk); have := HG7.out; omega)
          go_simp
          clear ck fk
          refine hK140.out _ _ ?m141 (fun hHeld => ?_)
          case m141 => exact CR.out _ oS
          clear hK140 K140
          try simp only [Act.put, List.setIfInBounds_toArray, List.set_cons_zero, List.set_cons_succ]
          refine wpAnyH_done (by as_aux_lemma => kernel_rfl) ?_ _
          go_wp2
          go_meet
          exact ⟨g7, c7, Lib.hid rS, Lib.hid bS, Lib.hid oS, HG7⟩
      · skip
        have on := (Only.refl Nil v0).alloc (.cells #[.string (bs t1.tag), .bool t1.only, .int .i64 t1.n, .slice e1 m1 d1] 62)
        have BO := Lib.hid (bx_new v0 [.string (bs t1.tag), .bool t1.only, .int .i64 t1.n, .slice e1 m1 d1] 62)
        have X := Lib.hid (OO.out.trans on); clear OO; have OO := X; clear X; have X := Lib.hid (BKc.out.keep on); clear BKc; have BKc := X; clear X
        go_simp
        obtain ⟨v48, hv48⟩ : ∃ v, v = v0.alloc (.cells #[.string (bs t1.tag), .bool t1.only, .int .i64 t1.n, .slice e1 m1 d1] 62) := ⟨_, rfl⟩
        change Hid (Bx (v0.alloc (.cells #[.string (bs t1.tag), .bool t1.only, .int .i64 t1.n, .slice e1 m1 d1] 62)) v0.heap.size [.string (bs t1.tag), .bool t1.only, .int .i64 t1.n, .slice e1 m1 d1] 62) at BO
        rw [← hv48] at BO on OO BKc
        try rw [← hv48]
        refine hK122.out _ _ ?m142 (fun hHeld => ?_)
        case m142 => exact CR.out _ (OO.out.nilTo _)
        clear hK122 K122 hv48 on
        generalize v0.heap.size = bO48 at *
        try simp only [Act.put, List.setIfInBounds_toArray, List.set_cons_zero, List.set_cons_succ]
        refine wpAnyH_ready (rs := [0]) (by as_aux_lemma => kernel_rfl) (by simp) ?_
        refine AllReadyH.cons rfl (fun K143 hK143 => ?_) AllReadyH.nil
        have on := (Only.refl Nil v48).alloc (.cells #[] 62)
        have OE := Lib.hid (own_empty v48 62 4)
        have hsz := (OO.out).size
        have X := Lib.hid (OO.out.trans on); clear OO; have OO := X; clear X; have X := Lib.hid (BKc.out.keep on); clear BKc; have BKc := X; clear X; have X := Lib.hid (BO.out.keep on); clear BO; have BO := X; clear X
        go_simp
        obtain ⟨v49, hv49⟩ : ∃ v, v = v48.alloc (.cells #[] 62) := ⟨_, rfl⟩
        rw [← hv49] at OE on OO BKc BO
        try rw [← hv49]
        refine hK143.out _ _ ?m144 (fun hHeld => ?_)
        case m144 => exact CR.out _ (OO.out.nilTo _)
        clear hK143 K143 hv49 on hsz
        generalize v48.heap.size = bE49 at *
        try simp only [Act.put, List.setIfInBounds_toArray, List.set_cons_zero, List.set_cons_succ]
        refine wpAnyH_ready (rs := [3]) (by as_aux_lemma => kernel_rfl) (by simp) ?_
        refine AllReadyH.cons rfl (fun K145 hK145 => ?_) AllReadyH.nil
        obtain ⟨c6, v50, hr, own6, on⟩ := copy_cin (P := Tryz.prog) (t := 57) (ty := 57) Tryz.underlying57 Tryz.infoRow rfl (HcR.out.keep (OT6.out.trans OO.out) (nilS · D)) OE.out (by omega) (by decide) (by decide) hbR
        have hgg := OO.out.size
        (refine step_append_run rfl (.tmp 156) (.tmp 158) 57 rfl _ _ rfl rfl _ _ hr ?_)
        have X := Lib.hid (OO.out.trans on); clear OO; have OO := X; clear X; have X := Lib.hid (BKc.out.keep on); clear BKc; have BKc := X; clear X; have X := Lib.hid (BO.out.keep on); clear BO; have BO := X; clear X
        have OWN := Lib.hid own6
        clear hr own6 OE on
        generalize v49.heap.size = gg at *
        refine hK145.out _ _ ?m146 (fun hHeld => ?_)
        case m146 => exact CR.out _ (OO.out.nilTo _)
        clear hK145 K145
        try simp only [Act.put, List.setIfInBounds_toArray, List.set_cons_zero, List.set_cons_succ]
        refine wpAnyH_ready (rs := [9]) (by as_aux_lemma => kernel_rfl) (by simp) ?_
        refine AllReadyH.cons rfl (fun K147 hK147 => ?_) AllReadyH.nil
        obtain ⟨g7, c7, v51, hr, own7, oG, hg7, hl7⟩ := push_one (P := Tryz.prog) (t := 57) (ty := 57) Tryz.underlying57 Tryz.infoRow rfl OWN.out BO.out rfl (by intro u hu; simp at hu; rcases hu with rfl | rfl | rfl | rfl <;> rfl) (by omega) (by decide)
        (refine step_append_run rfl (.tmp 159) (.tmp 164) 57 rfl _ _ rfl rfl _ _ hr ?_)
        have hbv := OO.out.size
        have X := Lib.hid (OO.out.then oG (fun k hk hlt => by have : k = gg := hk; omega)); clear OO; have OO := X; clear X; have X := Lib.hid (BKc.out.at_ oG (by omega)); clear BKc; have BKc := X; clear X
        have HG7 := Lib.hid (show w6.heap.size ≤ g7 by omega)
        clear hr oG OWN BO hg7 hl7
        refine hK147.out _ _ ?m148 (fun hHeld => ?_)
        case m148 => exact CR.out _ (OO.out.nilTo _)
        clear hK147 K147
        try simp only [Act.put, List.setIfInBounds_toArray, List.set_cons_zero, List.set_cons_succ]
        refine take_dst (some 166) (i := 10) (v := ?vp149) rfl (by as_aux_lemma => kernel_rfl) (by as_aux_lemma => kernel_rfl) (by as_aux_lemma => kernel_rfl) (by as_aux_lemma => kernel_rfl) (fun _ _ _ h => h) (Or.inl ⟨by kernel_rfl, ?hp149⟩) (by assumption) ?rp149
        case hp149 => (intro w hSw; (try dsimp only at hSw); first | (go_simp; done) | (go_simp; with_reducible rfl))
        try simp only [Act.put, List.setIfInBounds_toArray, List.set_cons_zero, List.set_cons_succ]
        refine wpAnyH_ready (rs := [11]) (by as_aux_lemma => kernel_rfl) (by simp) ?_
        refine AllReadyH.cons rfl (fun K150 hK150 => ?_) AllReadyH.nil
        have ck := BKc.out.cell 1 (v := .slice (some ⟨q3, off3, none⟩) nR c3) rfl
        have fk := BKc.out.free 1
        have oS := (OO.out.nilTo (At Sb)).setCell (p := ⟨Sb, 1, none⟩) rfl (.slice (some ⟨g7, 0, none⟩) (nR + 1) c7)
        have bS := bx_set BKc.out 1 (.slice (some ⟨g7, 0, none⟩) (nR + 1) c7)
        simp only [List.set_cons_succ, List.set_cons_zero] at bS
        have rS := own_keep own7 ((Only.refl (At Sb) v51).setCell (p := ⟨Sb, 1, none⟩) rfl (.slice (some ⟨g7, 0, none⟩) (nR + 1) c7)) (fun k hk h => by have e1 : k = Sb := h; have e2 : k = g7 := (by simpa [Value.ownBlock] using hk); have := HG7.out; omega)
        go_simp
        clear ck fk
        refine hK150.out _ _ ?m151 (fun hHeld => ?_)
        case m151 => exact CR.out _ oS
        clear hK150 K150
        try simp only [Act.put, List.setIfInBounds_toArray, List.set_cons_zero, List.set_cons_succ]
        refine wpAnyH_done (by as_aux_lemma => kernel_rfl) ?_ _
        go_wp2
        go_meet
        exact ⟨g7, c7, Lib.hid rS, Lib.hid bS, Lib.hid oS, HG7⟩
  · skip
    have ck := BKc.out.cell 1 (v := .slice (some ⟨q3, off3, none⟩) nR c3) rfl
    go_simp
    clear ck
    refine hK5.out _ _ ?m152 (fun hHeld => ?_)
    case m152 => exact CR.out _ (OO.out.nilTo _)
    clear hK5 K5
    try simp only [Act.put, List.setIfInBounds_toArray, List.set_cons_zero, List.set_cons_succ]
    refine take_dst (some 162) (i := 6) (v := ?vp153) rfl (by as_aux_lemma => kernel_rfl) (by as_aux_lemma => kernel_rfl) (by as_aux_lemma => kernel_rfl) (by as_aux_lemma => kernel_rfl) (fun _ _ _ h => h) (Or.inl ⟨by kernel_rfl, ?hp153⟩) (by assumption) ?rp153
    case hp153 => (intro w hSw; (try dsimp only at hSw); first | (go_simp; done) | (go_simp; with_reducible rfl))
    try simp only [Act.put, List.setIfInBounds_toArray, List.set_cons_zero, List.set_cons_succ]
    refine take_dst (some 163) (i := 7) (v := ?vp154) rfl (by as_aux_lemma => kernel_rfl) (by as_aux_lemma => kernel_rfl) (by as_aux_lemma => kernel_rfl) (by as_aux_lemma => kernel_rfl) (fun _ _ _ h => h) (Or.inl ⟨by kernel_rfl, ?hp154⟩) (by assumption) ?rp154
    case hp154 => (intro w hSw; (try dsimp only at hSw); first | (go_simp; done) | (go_simp; with_reducible rfl))
    try simp only [Act.put, List.setIfInBounds_toArray, List.set_cons_zero, List.set_cons_succ]
    refine wpAnyH_ready (rs := [0, 2, 8]) (by as_aux_lemma => kernel_rfl) (by simp) ?_
    refine (AllReadyH.cons rfl (fun K155 hK155 => ?_) (AllReadyH.cons rfl (fun K156 hK156 => ?_) (AllReadyH.cons rfl (fun K157 hK157 => ?_) AllReadyH.nil)))
    · skip
      have on := (Only.refl Nil v0).alloc (.cells #[] 62)
      have OE := Lib.hid (own_empty v0 62 4)
      have hsz := (OO.out).size
      have X := Lib.hid (OO.out.trans on); clear OO; have OO := X; clear X; have X := Lib.hid (BKc.out.keep on); clear BKc; have BKc := X; clear X
      go_simp
      obtain ⟨v53, hv53⟩ : ∃ v, v = v0.alloc (.cells #[] 62) := ⟨_, rfl⟩
      rw [← hv53] at OE on OO BKc
      try rw [← hv53]
      refine hK155.out _ _ ?m158 (fun hHeld => ?_)
      case m158 => exact CR.out _ (OO.out.nilTo _)
      clear hK155 K155 hv53 on hsz
      generalize v0.heap.size = bE53 at *
      try simp only [Act.put, List.setIfInBounds_toArray, List.set_cons_zero, List.set_cons_succ]
      refine wpAnyH_ready (rs := [2, 8]) (by as_aux_lemma => kernel_rfl) (by simp) ?_
      refine (AllReadyH.cons rfl (fun K159 hK159 => ?_) (AllReadyH.cons rfl (fun K160 hK160 => ?_) AllReadyH.nil))
      · skip
        have ck := BKc.out.cell 1 (v := .slice (some ⟨q3, off3, none⟩) nR c3) rfl
        go_simp
        clear ck
        refine hK159.out _ _ ?m161 (fun hHeld => ?_)
        case m161 => exact CR.out _ (OO.out.nilTo _)
        clear hK159 K159
        try simp only [Act.put, List.setIfInBounds_toArray, List.set_cons_zero, List.set_cons_succ]
        refine wpAnyH_ready (rs := [3, 8]) (by as_aux_lemma => kernel_rfl) (by simp) ?_
        refine (AllReadyH.cons rfl (fun K162 hK162 => ?_) (AllReadyH.cons rfl (fun K163 hK163 => ?_) AllReadyH.nil))
        · skip
          obtain ⟨c6, v54, hr, own6, on⟩ := copy_cin (P := Tryz.prog) (t := 57) (ty := 57) Tryz.underlying57 Tryz.infoRow rfl (HcR.out.keep (OT6.out.trans OO.out) (nilS · D)) OE.out (by omega) (by decide) (by decide) hbR
          have hgg := OO.out.size
          (refine step_append_run rfl (.tmp 156) (.tmp 158) 57 rfl _ _ rfl rfl _ _ hr ?_)
          have X := Lib.hid (OO.out.trans on); clear OO; have OO := X; clear X; have X := Lib.hid (BKc.out.keep on); clear BKc; have BKc := X; clear X
          have OWN := Lib.hid own6
          clear hr own6 OE on
          generalize v53.heap.size = gg at *
          refine hK162.out _ _ ?m164 (fun hHeld => ?_)
          case m164 => exact CR.out _ (OO.out.nilTo _)
          clear hK162 K162
          try simp only [Act.put, List.setIfInBounds_toArray, List.set_cons_zero, List.set_cons_succ]
          refine wpAnyH_ready (rs := [8]) (by as_aux_lemma => kernel_rfl) (by simp) ?_
          refine AllReadyH.cons rfl (fun K165 hK165 => ?_) AllReadyH.nil
          have on := (Only.refl Nil v54).alloc (.cells #[.string (bs t1.tag), .bool t1.only, .int .i64 t1.n, .slice e1 m1 d1] 62)
          have BO := Lib.hid (bx_new v54 [.string (bs t1.tag), .bool t1.only, .int .i64 t1.n, .slice e1 m1 d1] 62)
          have X := Lib.hid (OO.out.trans on); clear OO; have OO := X; clear X; have X := Lib.hid (BKc.out.keep on); clear BKc; have BKc := X; clear X; have X := Lib.hid (own_keep OWN.out on (fun _ _ h => h)); clear OWN; have OWN := X; clear X
          go_simp
          obtain ⟨v55, hv55⟩ : ∃ v, v = v54.alloc (.cells #[.string (bs t1.tag), .bool t1.only, .int .i64 t1.n, .slice e1 m1 d1] 62) := ⟨_, rfl⟩
          change Hid (Bx (v54.alloc (.cells #[.string (bs t1.tag), .bool t1.only, .int .i64 t1.n, .slice e1 m1 d1] 62)) v54.heap.size [.string (bs t1.tag), .bool t1.only, .int .i64 t1.n, .slice e1 m1 d1] 62) at BO
          rw [← hv55] at BO on OO BKc OWN
          try rw [← hv55]
          refine hK165.out _ _ ?m166 (fun hHeld => ?_)
          case m166 => exact CR.out _ (OO.out.nilTo _)
          clear hK165 K165 hv55 on
          generalize v54.heap.size = bO55 at *
          try simp only [Act.put, List.setIfInBounds_toArray, List.set_cons_zero, List.set_cons_succ]
          refine wpAnyH_ready (rs := [9]) (by as_aux_lemma => kernel_rfl) (by simp) ?_
          refine AllReadyH.cons rfl (fun K167 hK167 => ?_) AllReadyH.nil
          obtain ⟨g7, c7, v56, hr, own7, oG, hg7, hl7⟩ := push_one (P := Tryz.prog) (t := 57) (ty := 57) Tryz.underlying57 Tryz.infoRow rfl OWN.out BO.out rfl (by intro u hu; simp at hu; rcases hu with rfl | rfl | rfl | rfl <;> rfl) (by omega) (by decide)
          (refine step_append_run rfl (.tmp 159) (.tmp 164) 57 rfl _ _ rfl rfl _ _ hr ?_)
          have hbv := OO.out.size
          have X := Lib.hid (OO.out.then oG (fun k hk hlt => by have : k = gg := hk; omega)); clear OO; have OO := X; clear X; have X := Lib.hid (BKc.out.at_ oG (by omega)); clear BKc; have BKc := X; clear X
          have HG7 := Lib.hid (show w6.heap.size ≤ g7 by omega)
          clear hr oG OWN BO hg7 hl7
          refine hK167.out _ _ ?m168 (fun hHeld => ?_)
          case m168 => exact CR.out _ (OO.out.nilTo _)
          clear hK167 K167
          try simp only [Act.put, List.setIfInBounds_toArray, List.set_cons_zero, List.set_cons_succ]
          refine take_dst (some 166) (i := 10) (v := ?vp169) rfl (by as_aux_lemma => kernel_rfl) (by as_aux_lemma => kernel_rfl) (by as_aux_lemma => kernel_rfl) (by as_aux_lemma => kernel_rfl) (fun _ _ _ h => h) (Or.inl ⟨by kernel_rfl, ?hp169⟩) (by assumption) ?rp169
          case hp169 => (intro w hSw; (try dsimp only at hSw); first | (go_simp; done) | (go_simp; with_reducible rfl))
          try simp only [Act.put, List.setIfInBounds_toArray, List.set_cons_zero, List.set_cons_succ]
          refine wpAnyH_ready (rs := [11]) (by as_aux_lemma => kernel_rfl) (by simp) ?_
          refine AllReadyH.cons rfl (fun K170 hK170 => ?_) AllReadyH.nil
          have ck := BKc.out.cell 1 (v := .slice (some ⟨q3, off3, none⟩) nR c3) rfl
          have fk := BKc.out.free 1
          have oS := (OO.out.nilTo (At Sb)).setCell (p := ⟨Sb, 1, none⟩) rfl (.slice (some ⟨g7, 0, none⟩) (nR + 1) c7)
          have bS := bx_set BKc.out 1 (.slice (some ⟨g7, 0, none⟩) (nR + 1) c7)
          simp only [List.set_cons_succ, List.set_cons_zero] at bS
          have rS := own_keep own7 ((Only.refl (At Sb) v56).setCell (p := ⟨Sb, 1, none⟩) rfl (.slice (some ⟨g7, 0, none⟩) (nR + 1) c7)) (fun k hk h => by have e1 : k = Sb := h; have e2 : k = g7 := (by simpa [Value.ownBlock] using hk); have := HG7.out; omega)
          go_simp
          clear ck fk
          refine hK170.out _ _ ?m171 (fun hHeld => ?_)
          case m171 => exact CR.out _ oS
          clear hK170 K170
          try simp only [Act.put, List.setIfInBounds_toArray, List.set_cons_zero, List.set_cons_succ]
          refine wpAnyH_done (by as_aux_lemma => kernel_rfl) ?_ _
          go_wp2
          go_meet
          exact ⟨g7, c7, Lib.hid rS, Lib.hid bS, Lib.hid oS, HG7⟩
        · skip
          have on := (Only.refl Nil v53).alloc (.cells #[.string (bs t1.tag), .bool t1.only, .int .i64 t1.n, .slice e1 m1 d1] 62)
          have BO := Lib.hid (bx_new v53 [.string (bs t1.tag), .bool t1.only, .int .i64 t1.n, .slice e1 m1 d1] 62)
          have X := Lib.hid (OO.out.trans on); clear OO; have OO := X; clear X; have X := Lib.hid (BKc.out.keep on); clear BKc; have BKc := X; clear X; have X := Lib.hid (own_keep OE.out on (fun _ _ h => h)); clear OE; have OE := X; clear X
          go_simp
          obtain ⟨v58, hv58⟩ : ∃ v, v = v53.alloc (.cells #[.string (bs t1.tag), .bool t1.only, .int .i64 t1.n, .slice e1 m1 d1] 62) := ⟨_, rfl⟩
          change Hid (Bx (v53.alloc (.cells #[.string (bs t1.tag), .bool t1.only, .int .i64 t1.n, .slice e1 m1 d1] 62)) v53.heap.size [.string (bs t1.tag), .bool t1.only, .int .i64 t1.n, .slice e1 m1 d1] 62) at BO
          rw [← hv58] at BO on OO BKc OE
          try rw [← hv58]
          refine hK163.out _ _ ?m172 (fun hHeld => ?_)
          case m172 => exact CR.out _ (OO.out.nilTo _)
          clear hK163 K163 hv58 on
          generalize v53.heap.size = bO58 at *
          try simp only [Act.put, List.setIfInBounds_toArray, List.set_cons_zero, List.set_cons_succ]
          refine wpAnyH_ready (rs := [3]) (by as_aux_lemma => kernel_rfl) (by simp) ?_
          refine AllReadyH.cons rfl (fun K173 hK173 => ?_) AllReadyH.nil
          obtain ⟨c6, v59, hr, own6, on⟩ := copy_cin (P := Tryz.prog) (t := 57) (ty := 57) Tryz.underlying57 Tryz.infoRow rfl (HcR.out.keep (OT6.out.trans OO.out) (nilS · D)) OE.out (by omega) (by decide) (by decide) hbR
          have hgg := OO.out.size
          (refine step_append_run rfl (.tmp 156) (.tmp 158) 57 rfl _ _ rfl rfl _ _ hr ?_)
          have X := Lib.hid (OO.out.trans on); clear OO; have OO := X; clear X; have X := Lib.hid (BKc.out.keep on); clear BKc; have BKc := X; clear X; have X := Lib.hid (BO.out.keep on); clear BO; have BO := X; clear X
          have OWN := Lib.hid own6
          clear hr own6 OE on
          generalize v58.heap.size = gg at *
          refine hK173.out _ _ ?m174 (fun hHeld => ?_)
          case m174 => exact CR.out _ (OO.out.nilTo _)
          clear hK173 K173
          try simp only [Act.put, List.setIfInBounds_toArray, List.set_cons_zero, List.set_cons_succ]
          refine wpAnyH_ready (rs := [9]) (by as_aux_lemma => kernel_rfl) (by simp) ?_
          refine AllReadyH.cons rfl (fun K175 hK175 => ?_) AllReadyH.nil
          obtain ⟨g7, c7, v60, hr, own7, oG, hg7, hl7⟩ := push_one (P := Tryz.prog) (t := 57) (ty := 57) Tryz.underlying57 Tryz.infoRow rfl OWN.out BO.out rfl (by intro u hu; simp at hu; rcases hu with rfl | rfl | rfl | rfl <;> rfl) (by omega) (by decide)
          (refine step_append_run rfl (.tmp 159) (.tmp 164) 57 rfl _ _ rfl rfl _ _ hr ?_)
          have hbv := OO.out.size
          have X := Lib.hid (OO.out.then oG (fun k hk hlt => by have : k = gg := hk; omega)); clear OO; have OO := X; clear X; have X := Lib.hid (BKc.out.at_ oG (by omega)); clear BKc; have BKc := X; clear X
          have HG7 := Lib.hid (show w6.heap.size ≤ g7 by omega)
          clear hr oG OWN BO hg7 hl7
          refine hK175.out _ _ ?m176 (fun hHeld => ?_)
          case m176 => exact CR.out _ (OO.out.nilTo _)
          clear hK175 K175
          try simp only [Act.put, List.setIfInBounds_toArray, List.set_cons_zero, List.set_cons_succ]
          refine take_dst (some 166) (i := 10) (v := ?vp177) rfl (by as_aux_lemma => kernel_rfl) (by as_aux_lemma => kernel_rfl) (by as_aux_lemma => kernel_rfl) (by as_aux_lemma => kernel_rfl) (fun _ _ _ h => h) (Or.inl ⟨by kernel_rfl, ?hp177⟩) (by assumption) ?rp177
          case hp177 => (intro w hSw; (try dsimp only at hSw); first | (go_simp; done) | (go_simp; with_reducible rfl))
          try simp only [Act.put, List.setIfInBounds_toArray, List.set_cons_zero, List.set_cons_succ]
          refine wpAnyH_ready (rs := [11]) (by as_aux_lemma => kernel_rfl) (by simp) ?_
          refine AllReadyH.cons rfl (fun K178 hK178 => ?_) AllReadyH.nil
          have ck := BKc.out.cell 1 (v := .slice (some ⟨q3, off3, none⟩) nR c3) rfl
          have fk := BKc.out.free 1
          have oS := (OO.out.nilTo (At Sb)).setCell (p := ⟨Sb, 1, none⟩) rfl (.slice (some ⟨g7, 0, none⟩) (nR + 1) c7)
          have bS := bx_set BKc.out 1 (.slice (some ⟨g7, 0, none⟩) (nR + 1) c7)
          simp only [List.set_cons_succ, List.set_cons_zero] at bS
          have rS := own_keep own7 ((Only.refl (At Sb) v60).setCell (p := ⟨Sb, 1, none⟩) rfl (.slice (some ⟨g7, 0, none⟩) (nR + 1) c7)) (fun k hk h => by have e1 : k = Sb := h; have e2 : k = g7 := (by simpa [Value.ownBlock] using hk); have := HG7.out; omega)
          go_simp
          clear ck fk
          refine hK178.out _ _ ?m179 (fun hHeld => ?_)
          case m179 => exact CR.out _ oS
          clear hK178 K178
          try simp only [Act.put, List.setIfInBounds_toArray, List.set_cons_zero, List.set_cons_succ]
          refine wpAnyH_done (by as_aux_lemma => kernel_rfl) ?_ _
          go_wp2
          go_meet
          exact ⟨g7, c7, Lib.hid rS, Lib.hid bS, Lib.hid oS, HG7⟩
      · skip
        have on := (Only.refl Nil v53).alloc (.cells #[.string (bs t1.tag), .bool t1.only, .int .i64 t1.n, .slice e1 m1 d1] 62)
        have BO := Lib.hid (bx_new v53 [.string (bs t1.tag), .bool t1.only, .int .i64 t1.n, .slice e1 m1 d1] 62)
        have X := Lib.hid (OO.out.trans on); clear OO; have OO := X; clear X; have X := Lib.hid (BKc.out.keep on); clear BKc; have BKc := X; clear X; have X := Lib.hid (own_keep OE.out on (fun _ _ h => h)); clear OE; have OE := X; clear X
        go_simp
        obtain ⟨v62, hv62⟩ : ∃ v, v = v53.alloc (.cells #[.string (bs t1.tag), .bool t1.only, .int .i64 t1.n, .slice e1 m1 d1] 62) := ⟨_, rfl⟩
        change Hid (Bx (v53.alloc (.cells #[.string (bs t1.tag), .bool t1.only, .int .i64 t1.n, .slice e1 m1 d1] 62)) v53.heap.size [.string (bs t1.tag), .bool t1.only, .int .i64 t1.n, .slice e1 m1 d1] 62) at BO
        rw [← hv62] at BO on OO BKc OE
        try rw [← hv62]
        refine hK160.out _ _ ?m180 (fun hHeld => ?_)
        case m180 => exact CR.out _ (OO.out.nilTo _)
        clear hK160 K160 hv62 on
        generalize v53.heap.size = bO62 at *
        try simp only [Act.put, List.setIfInBounds_toArray, List.set_cons_zero, List.set_cons_succ]
        refine wpAnyH_ready (rs := [2]) (by as_aux_lemma => kernel_rfl) (by simp) ?_
        refine AllReadyH.cons rfl (fun K181 hK181 => ?_) AllReadyH.nil
        have ck := BKc.out.cell 1 (v := .slice (some ⟨q3, off3, none⟩) nR c3) rfl
        go_simp
        clear ck
        refine hK181.out _ _ ?m182 (fun hHeld => ?_)
        case m182 => exact CR.out _ (OO.out.nilTo _)
        clear hK181 K181
        try simp only [Act.put, List.setIfInBounds_toArray, List.set_cons_zero, List.set_cons_succ]
        refine wpAnyH_ready (rs := [3]) (by as_aux_lemma => kernel_rfl) (by simp) ?_
        refine AllReadyH.cons rfl (fun K183 hK183 => ?_) AllReadyH.nil
        obtain ⟨c6, v63, hr, own6, on⟩ := copy_cin (P := Tryz.prog) (t := 57) (ty := 57) Tryz.underlying57 Tryz.infoRow rfl (HcR.out.keep (OT6.out.trans OO.out) (nilS · D)) OE.out (by omega) (by decide) (by decide) hbR
        have hgg := OO.out.size
        (refine step_append_run rfl (.tmp 156) (.tmp 158) 57 rfl _ _ rfl rfl _ _ hr ?_)
        have X := Lib.hid (OO.out.trans on); clear OO; have OO := X; clear X; have X := Lib.hid (BKc.out.keep on); clear BKc; have BKc := X; clear X; have X := Lib.hid (BO.out.keep on); clear BO; have BO := X; clear X
        have OWN := Lib.hid own6
        clear hr own6 OE on
        generalize v62.heap.size = gg at *
        refine hK183.out _ _ ?m184 (fun hHeld => ?_)
        case m184 => exact CR.out _ (OO.out.nilTo _)
        clear hK183 K183
        try simp only [Act.put, List.setIfInBounds_toArray, List.set_cons_zero, List.set_cons_succ]
        refine wpAnyH_ready (rs := [9]) (by as_aux_lemma => kernel_rfl) (by simp) ?_
        refine AllReadyH.cons rfl (fun K185 hK185 => ?_) AllReadyH.nil
        obtain ⟨g7, c7, v64, hr, own7, oG, hg7, hl7⟩ := push_one (P := Tryz.prog) (t := 57) (ty := 57) Tryz.underlying57 Tryz.infoRow rfl OWN.out BO.out rfl (by intro u hu; simp at hu; rcases hu with rfl | rfl | rfl | rfl <;> rfl) (by omega) (by decide)
        (refine step_append_run rfl (.tmp 159) (.tmp 164) 57 rfl _ _ rfl rfl _ _ hr ?_)
        have hbv := OO.out.size
        have X := Lib.hid (OO.out.then oG (fun k hk hlt => by have : k = gg := hk; omega)); clear OO; have OO := X; clear X; have X := Lib.hid (BKc.out.at_ oG (by omega)); clear BKc; have BKc := X; clear X
        have HG7 := Lib.hid (show w6.heap.size ≤ g7 by omega)
        clear hr oG OWN BO hg7 hl7
        refine hK185.out _ _ ?m186 (fun hHeld => ?_)
        case m186 => exact CR.out _ (OO.out.nilTo _)
        clear hK185 K185
        try simp only [Act.put, List.setIfInBounds_toArray, List.set_cons_zero, List.set_cons_succ]
        refine take_dst (some 166) (i := 10) (v := ?vp187) rfl (by as_aux_lemma => kernel_rfl) (by as_aux_lemma => kernel_rfl) (by as_aux_lemma => kernel_rfl) (by as_aux_lemma => kernel_rfl) (fun _ _ _ h => h) (Or.inl ⟨by kernel_rfl, ?hp187⟩) (by assumption) ?rp187
        case hp187 => (intro w hSw; (try dsimp only at hSw); first | (go_simp; done) | (go_simp; with_reducible rfl))
        try simp only [Act.put, List.setIfInBounds_toArray, List.set_cons_zero, List.set_cons_succ]
        refine wpAnyH_ready (rs := [11]) (by as_aux_lemma => kernel_rfl) (by simp) ?_
        refine AllReadyH.cons rfl (fun K188 hK188 => ?_) AllReadyH.nil
        have ck := BKc.out.cell 1 (v := .slice (some ⟨q3, off3, none⟩) nR c3) rfl
        have fk := BKc.out.free 1
        have oS := (OO.out.nilTo (At Sb)).setCell (p := ⟨Sb, 1, none⟩) rfl (.slice (some ⟨g7, 0, none⟩) (nR + 1) c7)
        have bS := bx_set BKc.out 1 (.slice (some ⟨g7, 0, none⟩) (nR + 1) c7)
        simp only [List.set_cons_succ, List.set_cons_zero] at bS
        have rS := own_keep own7 ((Only.refl (At Sb) v64).setCell (p := ⟨Sb, 1, none⟩) rfl (.slice (some ⟨g7, 0, none⟩) (nR + 1) c7)) (fun k hk h => by have e1 : k = Sb := h; have e2 : k = g7 := (by simpa [Value.ownBlock] using hk); have := HG7.out; omega)
        go_simp
        clear ck fk
        refine hK188.out _ _ ?m189 (fun hHeld => ?_)
        case m189 => exact CR.out _ oS
        clear hK188 K188
        try simp only [Act.put, List.setIfInBounds_toArray, List.set_cons_zero, List.set_cons_succ]
        refine wpAnyH_done (by as_aux_lemma => kernel_rfl) ?_ _
        go_wp2
        go_meet
        exact ⟨g7, c7, Lib.hid rS, Lib.hid bS, Lib.hid oS, HG7⟩
    · skip
      have ck := BKc.out.cell 1 (v := .slice (some ⟨q3, off3, none⟩) nR c3) rfl
      go_simp
      clear ck
      refine hK156.out _ _ ?m190 (fun hHeld => ?_)
      case m190 => exact CR.out _ (OO.out.nilTo _)
      clear hK156 K156
      try simp only [Act.put, List.setIfInBounds_toArray, List.set_cons_zero, List.set_cons_succ]
      refine wpAnyH_ready (rs := [0, 8]) (by as_aux_lemma => kernel_rfl) (by simp) ?_
      refine (AllReadyH.cons rfl (fun K191 hK191 => ?_) (AllReadyH.cons rfl (fun K192 hK192 => ?_) AllReadyH.nil))
      · skip
        have on := (Only.refl Nil v0).alloc (.cells #[] 62)
        have OE := Lib.hid (own_empty v0 62 4)
        have hsz := (OO.out).size
        have X := Lib.hid (OO.out.trans on); clear OO; have OO := X; clear X; have X := Lib.hid (BKc.out.keep on); clear BKc; have BKc := X; clear X
        go_simp
        obtain ⟨v66, hv66⟩ : ∃ v, v = v0.alloc (.cells #[] 62) := ⟨_, rfl⟩
        rw [← hv66] at OE on OO BKc
        try rw [← hv66]
        refine hK191.out _ _ ?m193 (fun hHeld => ?_)
        case m193 => exact CR.out _ (OO.out.nilTo _)
        clear hK191 K191 hv66 on hsz
        generalize v0.heap.size = bE66 at *
        try simp only [Act.put, List.setIfInBounds_toArray, List.set_cons_zero, List.set_cons_succ]
        refine wpAnyH_ready (rs := [3, 8]) (by as_aux_lemma => kernel_rfl) (by simp) ?_
        refine (AllReadyH.cons rfl (fun K194 hK194 => ?_) (AllReadyH.cons rfl (fun K195 hK195 => ?_) AllReadyH.nil))
        · skip
          obtain ⟨c6, v67, hr, own6, on⟩ := copy_cin (P := Tryz.prog) (t := 57) (ty := 57) Tryz.underlying57 Tryz.infoRow rfl (HcR.out.keep (OT6.out.trans OO.out) (nilS · D)) OE.out (by omega) (by decide) (by decide) hbR
          have hgg := OO.out.size
          (refine step_append_run rfl (.tmp 156) (.tmp 158) 57 rfl _ _ rfl rfl _ _ hr ?_)
          have X := Lib.hid (OO.out.trans on); clear OO; have OO := X; clear X; have X := Lib.hid (BKc.out.keep on); clear BKc; have BKc := X; clear X
          have OWN := Lib.hid own6
          clear hr own6 OE on
          generalize v66.heap.size = gg at *
          refine hK194.out _ _ ?m196 (fun hHeld => ?_)
          case m196 => exact CR.out _ (OO.out.nilTo _)
          clear hK194 K194
          try simp only [Act.put, List.setIfInBounds_toArray, List.set_cons_zero, List.set_cons_succ]
          refine wpAnyH_ready (rs := [8]) (by as_aux_lemma => kernel_rfl) (by simp) ?_
          refine AllReadyH.cons rfl (fun K197 hK197 => ?_) AllReadyH.nil
          have on := (Only.refl Nil v67).alloc (.cells #[.string (bs t1.tag), .bool t1.only, .int .i64 t1.n, .slice e1 m1 d1] 62)
          have BO := Lib.hid (bx_new v67 [.string (bs t1.tag), .bool t1.only, .int .i64 t1.n, .slice e1 m1 d1] 62)
          have X := Lib.hid (OO.out.trans on); clear OO; have OO := X; clear X; have X := Lib.hid (BKc.out.keep on); clear BKc; have BKc := X; clear X; have X := Lib.hid (own_keep OWN.out on (fun _ _ h => h)); clear OWN; have OWN := X; clear X
          go_simp
          obtain ⟨v68, hv68⟩ : ∃ v, v = v67.alloc (.cells #[.string (bs t1.tag), .bool t1.only, .int .i64 t1.n, .slice e1 m1 d1] 62) := ⟨_, rfl⟩
          change Hid (Bx (v67.alloc (.cells #[.string (bs t1.tag), .bool t1.only, .int .i64 t1.n, .slice e1 m1 d1] 62)) v67.heap.size [.string (bs t1.tag), .bool t1.only, .int .i64 t1.n, .slice e1 m1 d1] 62) at BO
          rw [← hv68] at BO on OO BKc OWN
          try rw [← hv68]
          refine hK197.out _ _ ?m198 (fun hHeld => ?_)
          case m198 => exact CR.out _ (OO.out.nilTo _)
          clear hK197 K197 hv68 on
          generalize v67.heap.size = bO68 at *
          try simp only [Act.put, List.setIfInBounds_toArray, List.set_cons_zero, List.set_cons_succ]
          refine wpAnyH_ready (rs := [9]) (by as_aux_lemma => kernel_rfl) (by simp) ?_
          refine AllReadyH.cons rfl (fun K199 hK199 => ?_) AllReadyH.nil
          obtain ⟨g7, c7, v69, hr, own7, oG, hg7, hl7⟩ := push_one (P := Tryz.prog) (t := 57) (ty := 57) Tryz.underlying57 Tryz.infoRow rfl OWN.out BO.out rfl (by intro u hu; simp at hu; rcases hu with rfl | rfl | rfl | rfl <;> rfl) (by omega) (by decide)
          (refine step_append_run rfl (.tmp 159) (.tmp 164) 57 rfl _ _ rfl rfl _ _ hr ?_)
          have hbv := OO.out.size
          have X := Lib.hid (OO.out.then oG (fun k hk hlt => by have : k = gg := hk; omega)); clear OO; have OO := X; clear X; have X := Lib.hid (BKc.out.at_ oG (by omega)); clear BKc; have BKc := X; clear X
          have HG7 := Lib.hid (show w6.heap.size ≤ g7 by omega)
          clear hr oG OWN BO hg7 hl7
          refine hK199.out _ _ ?m200 (fun hHeld => ?_)
          case m200 => exact CR.out _ (OO.out.nilTo _)
          clear hK199 K199
          try simp only [Act.put, List.setIfInBounds_toArray, List.set_cons_zero, List.set_cons_succ]
          refine take_dst (some 166) (i := 10) (v := ?vp201) rfl (by as_aux_lemma => kernel_rfl) (by as_aux_lemma => kernel_rfl) (by as_aux_lemma => kernel_rfl) (by as_aux_lemma => kernel_rfl) (fun _ _ _ h => h) (Or.inl ⟨by kernel_rfl, ?hp201⟩) (by assumption) ?rp201
          case hp201 => (intro w hSw; (try dsimp only at hSw); first | (go_simp; done) | (go_simp; with_reducible rfl))
          try simp only [Act.put, List.setIfInBounds_toArray, List.set_cons_zero, List.set_cons_succ]
          refine wpAnyH_ready (rs := [11]) (by as_aux_lemma => kernel_rfl) (by simp) ?_
          refine AllReadyH.cons rfl (fun K202 hK202 => ?_) AllReadyH.nil
          have ck := BKc.out.cell 1 (v := .slice (some ⟨q3, off3, none⟩) nR c3) rfl
          have fk := BKc.out.free 1
          have oS := (OO.out.nilTo (At Sb)).setCell (p := ⟨Sb, 1, none⟩) rfl (.slice (some ⟨g7, 0, none⟩) (nR + 1) c7)
          have bS := bx_set BKc.out 1 (.slice (some ⟨g7, 0, none⟩) (nR + 1) c7)
          simp only [List.set_cons_succ, List.set_cons_zero] at bS
          have rS := own_keep own7 ((Only.refl (At Sb) v69).setCell (p := ⟨Sb, 1, none⟩) rfl (.slice (some ⟨g7, 0, none⟩) (nR + 1) c7)) (fun k hk h => by have e1 : k = Sb := h; have e2 : k = g7 := (by simpa [Value.ownBlock] using hk); have := HG7.out; omega)
          go_simp
          clear ck fk
          refine hK202.out _ _ ?m203 (fun hHeld => ?_)
          case m203 => exact CR.out _ oS
          clear hK202 K202
          try simp only [Act.put, List.setIfInBounds_toArray, List.set_cons_zero, List.set_cons_succ]
          refine wpAnyH_done (by as_aux_lemma => kernel_rfl) ?_ _
          go_wp2
          go_meet
          exact ⟨g7, c7, Lib.hid rS, Lib.hid bS, Lib.hid oS, HG7⟩
        · skip
          have on := (Only.refl Nil v66).alloc (.cells #[.string (bs t1.tag), .bool t1.only, .int .i64 t1.n, .slice e1 m1 d1] 62)
          have BO := Lib.hid (bx_new v66 [.string (bs t1.tag), .bool t1.only, .int .i64 t1.n, .slice e1 m1 d1] 62)
          have X := Lib.hid (OO.out.trans on); clear OO; have OO := X; clear X; have X := Lib.hid (BKc.out.keep on); clear BKc; have BKc := X; clear X; have X := Lib.hid (own_keep OE.out on (fun _ _ h => h)); clear OE; have OE := X; clear X
          go_simp
          obtain ⟨v71, hv71⟩ : ∃ v, v = v66.alloc (.cells #[.string (bs t1.tag), .bool t1.only, .int .i64 t1.n, .slice e1 m1 d1] 62) := ⟨_, rfl⟩
          change Hid (Bx (v66.alloc (.cells #[.string (bs t1.tag), .bool t1.only, .int .i64 t1.n, .slice e1 m1 d1] 62)) v66.heap.size [.string (bs t1.tag), .bool t1.only, .int .i64 t1.n, .slice e1 m1 d1] 62) at BO
          rw [← hv71] at BO on OO BKc OE
          try rw [← hv71]
          refine hK195.out _ _ ?m204 (fun hHeld => ?_)
          case m204 => exact CR.out _ (OO.out.nilTo _)
          clear hK195 K195 hv71 on
          generalize v66.heap.size = bO71 at *
          try simp only [Act.put, List.setIfInBounds_toArray, List.set_cons_zero, List.set_cons_succ]
          refine wpAnyH_ready (rs := [3]) (by as_aux_lemma => kernel_rfl) (by simp) ?_
          refine AllReadyH.cons rfl (fun K205 hK205 => ?_) AllReadyH.nil
          obtain ⟨c6, v72, hr, own6, on⟩ := copy_cin (P := Tryz.prog) (t := 57) (ty := 57) Tryz.underlying57 Tryz.infoRow rfl (HcR.out.keep (OT6.out.trans OO.out) (nilS · D)) OE.out (by omega) (by decide) (by decide) hbR
          have hgg := OO.out.size
          (refine step_append_run rfl (.tmp 156) (.tmp 158) 57 rfl _ _ rfl rfl _ _ hr ?_)
          have X := Lib.hid (OO.out.trans on); clear OO; have OO := X; clear X; have X := Lib.hid (BKc.out.keep on); clear BKc; have BKc := X; clear X; have X := Lib.hid (BO.out.keep on); clear BO; have BO := X; clear X
          have OWN := Lib.hid own6
          clear hr own6 OE on
          generalize v71.heap.size = gg at *
          refine hK205.out _ _ ?m206 (fun hHeld => ?_)
          case m206 => exact CR.out _ (OO.out.nilTo _)
          clear hK205 K205
          try simp only [Act.put, List.setIfInBounds_toArray, List.set_cons_zero, List.set_cons_succ]
          refine wpAnyH_ready (rs := [9]) (by as_aux_lemma => kernel_rfl) (by simp) ?_
          refine AllReadyH.cons rfl (fun K207 hK207 => ?_) AllReadyH.nil
          obtain ⟨g7, c7, v73, hr, own7, oG, hg7, hl7⟩ := push_one (P := Tryz.prog) (t := 57) (ty := 57) Tryz.underlying57 Tryz.infoRow rfl OWN.out BO.out rfl (by intro u hu; simp at hu; rcases hu with rfl | rfl | rfl | rfl <;> rfl) (by omega) (by decide)
          (refine step_append_run rfl (.tmp 159) (.tmp 164) 57 rfl _ _ rfl rfl _ _ hr ?_)
          have hbv := OO.out.size
          have X := Lib.hid (OO.out.then oG (fun k hk hlt => by have : k = gg := hk; omega)); clear OO; have OO := X; clear X; have X := Lib.hid (BKc.out.at_ oG (by omega)); clear BKc; have BKc := X; clear X
          have HG7 := Lib.hid (show w6.heap.size ≤ g7 by omega)
          clear hr oG OWN BO hg7 hl7
          refine hK207.out _ _ ?m208 (fun hHeld => ?_)
          case m208 => exact CR.out _ (OO.out.nilTo _)
          clear hK207 K207
          try simp only [Act.put, List.setIfInBounds_toArray, List.set_cons_zero, List.set_cons_succ]
          refine take_dst (some 166) (i := 10) (v := ?vp209) rfl (by as_aux_lemma => kernel_rfl) (by as_aux_lemma => kernel_rfl) (by as_aux_lemma => kernel_rfl) (by as_aux_lemma => kernel_rfl) (fun _ _ _ h => h) (Or.inl ⟨by kernel_rfl, ?hp209⟩) (by assumption) ?rp209
          case hp209 => (intro w hSw; (try dsimp only at hSw); first | (go_simp; done) | (go_simp; with_reducible rfl))
          try simp only [Act.put, List.setIfInBounds_toArray, List.set_cons_zero, List.set_cons_succ]
          refine wpAnyH_ready (rs := [11]) (by as_aux_lemma => kernel_rfl) (by simp) ?_
          refine AllReadyH.cons rfl (fun K210 hK210 => ?_) AllReadyH.nil
          have ck := BKc.out.cell 1 (v := .slice (some ⟨q3, off3, none⟩) nR c3) rfl
          have fk := BKc.out.free 1
          have oS := (OO.out.nilTo (At Sb)).setCell (p := ⟨Sb, 1, none⟩) rfl (.slice (some ⟨g7, 0, none⟩) (nR + 1) c7)
          have bS := bx_set BKc.out 1 (.slice (some ⟨g7, 0, none⟩) (nR + 1) c7)
          simp only [List.set_cons_succ, List.set_cons_zero] at bS
          have rS := own_keep own7 ((Only.refl (At Sb) v73).setCell (p := ⟨Sb, 1, none⟩) rfl (.slice (some ⟨g7, 0, none⟩) (nR + 1) c7)) (fun k hk h => by have e1 : k = Sb := h; have e2 : k = g7 := (by simpa [Value.ownBlock] using hk); have := HG7.out; omega)
          go_simp
          clear ck fk
          refine hK210.out _ _ ?m211 (fun hHeld => ?_)
          case m211 => exact CR.out _ oS
          clear hK210 K210
          try simp only [Act.put, List.setIfInBounds_toArray, List.set_cons_zero, List.set_cons_succ]
          refine wpAnyH_done (by as_aux_lemma => kernel_rfl) ?_ _
          go_wp2
          go_meet
          exact ⟨g7, c7, Lib.hid rS, Lib.hid bS, Lib.hid oS, HG7⟩
      · skip
        have on := (Only.refl Nil v0).alloc (.cells #[.string (bs t1.tag), .bool t1.only, .int .i64 t1.n, .slice e1 m1 d1] 62)
        have BO := Lib.hid (bx_new v0 [.string (bs t1.tag), .bool t1.only, .int .i64 t1.n, .slice e1 m1 d1] 62)
        have X := Lib.hid (OO.out.trans on); clear OO; have OO := X; clear X; have X := Lib.hid (BKc.out.keep on); clear BKc; have BKc := X; clear X
        go_simp
        obtain ⟨v75, hv75⟩ : ∃ v, v = v0.alloc (.cells #[.string (bs t1.tag), .bool t1.only, .int .i64 t1.n, .slice e1 m1 d1] 62) := ⟨_, rfl⟩
        change Hid (Bx (v0.alloc (.cells #[.string (bs t1.tag), .bool t1.only, .int .i64 t1.n, .slice e1 m1 d1] 62)) v0.heap.size [.string (bs t1.tag), .bool t1.only, .int .i64 t1.n, .slice e1 m1 d1] 62) at BO
        rw [← hv75] at BO on OO BKc
        try rw [← hv75]
        refine hK192.out _ _ ?m212 (fun hHeld => ?_)
        case m212 => exact CR.out _ (OO.out.nilTo _)
        clear hK192 K192 hv75 on
        generalize v0.heap.size = bO75 at *
        try simp only [Act.put, List.setIfInBounds_toArray, List.set_cons_zero, List.set_cons_succ]
        refine wpAnyH_ready (rs := [0]) (by as_aux_lemma => kernel_rfl) (by simp) ?_
        refine AllReadyH.cons rfl (fun K213 hK213 => ?_) AllReadyH.nil
        have on := (Only.refl Nil v75).alloc (.cells #[] 62)
        have OE := Lib.hid (own_empty v75 62 4)
        have hsz := (OO.out).size
        have X := Lib.hid (OO.out.trans on); clear OO; have OO := X; clear X; have X := Lib.hid (BKc.out.keep on); clear BKc; have BKc := X; clear X; have X := Lib.hid (BO.out.keep on); clear BO; have BO := X; clear X
        go_simp
        obtain ⟨v76, hv76⟩ : ∃ v, v = v75.alloc (.cells #[] 62) := ⟨_, rfl⟩
        rw [← hv76] at OE on OO BKc BO
        try rw [← hv76]
        refine hK213.out _ _ ?m214 (fun hHeld => ?_)
        case m214 => exact CR.out _ (OO.out.nilTo _)
        clear hK213 K213 hv76 on hsz
        generalize v75.heap.size = bE76 at *
        try simp only [Act.put, List.setIfInBounds_toArray, List.set_cons_zero, List.set_cons_succ]
        refine wpAnyH_ready (rs := [3]) (by as_aux_lemma => kernel_rfl) (by simp) ?_
        refine AllReadyH.cons rfl (fun K215 hK215 => ?_) AllReadyH.nil
        obtain ⟨c6, v77, hr, own6, on⟩ := copy_cin (P := Tryz.prog) (t := 57) (ty := 57) Tryz.underlying57 Tryz.infoRow rfl (HcR.out.keep (OT6.out.trans OO.out) (nilS · D)) OE.out (by omega) (by decide) (by decide) hbR
        have hgg := OO.out.size
        (refine step_append_run rfl (.tmp 156) (.tmp 158) 57 rfl _ _ rfl rfl _ _ hr ?_)
        have X := Lib.hid (OO.out.trans on); clear OO; have OO := X; clear X; have X := Lib.hid (BKc.out.keep on); clear BKc; have BKc := X; clear X; have X := Lib.hid (BO.out.keep on); clear BO; have BO := X; clear X
        have OWN := Lib.hid own6
        clear hr own6 OE on
        generalize v76.heap.size = gg at *
        refine hK215.out _ _ ?m216 (fun hHeld => ?_)
        case m216 => exact CR.out _ (OO.out.nilTo _)
        clear hK215 K215
        try simp only [Act.put, List.setIfInBounds_toArray, List.set_cons_zero, List.set_cons_succ]
        refine wpAnyH_ready (rs := [9]) (by as_aux_lemma => kernel_rfl) (by simp) ?_
        refine AllReadyH.cons rfl (fun K217 hK217 => ?_) AllReadyH.nil
        obtain ⟨g7, c7, v78, hr, own7, oG, hg7, hl7⟩ := push_one (P := Tryz.prog) (t := 57) (ty := 57) Tryz.underlying57 Tryz.infoRow rfl OWN.out BO.out rfl (by intro u hu; simp at hu; rcases hu with rfl | rfl | rfl | rfl <;> rfl) (by omega) (by decide)
        (refine step_append_run rfl (.tmp 159) (.tmp 164) 57 rfl _ _ rfl rfl _ _ hr ?_)
        have hbv := OO.out.size
        have X := Lib.hid (OO.out.then oG (fun k hk hlt => by have : k = gg := hk; omega)); clear OO; have OO := X; clear X; have X := Lib.hid (BKc.out.at_ oG (by omega)); clear BKc; have BKc := X; clear X
        have HG7 := Lib.hid (show w6.heap.size ≤ g7 by omega)
        clear hr oG OWN BO hg7 hl7
        refine hK217.out _ _ ?m218 (fun hHeld => ?_)
        case m218 => exact CR.out _ (OO.out.nilTo _)
        clear hK217 K217
        try simp only [Act.put, List.setIfInBounds_toArray, List.set_cons_zero, List.set_cons_succ]
        refine take_dst (some 166) (i := 10) (v := ?vp219) rfl (by as_aux_lemma => kernel_rfl) (by as_aux_lemma => kernel_rfl) (by as_aux_lemma => kernel_rfl) (by as_aux_lemma => kernel_rfl) (fun _ _ _ h => h) (Or.inl ⟨by kernel_rfl, ?hp219⟩) (by assumption) ?rp219
        case hp219 => (intro w hSw; (try dsimp only at hSw); first | (go_simp; done) | (go_simp; with_reducible rfl))
        try simp only [Act.put, List.setIfInBounds_toArray, List.set_cons_zero, List.set_cons_succ]
        refine wpAnyH_ready (rs := [11]) (by as_aux_lemma => kernel_rfl) (by simp) ?_
        refine AllReadyH.cons rfl (fun K220 hK220 => ?_) AllReadyH.nil
        have ck := BKc.out.cell 1 (v := .slice (some ⟨q3, off3, none⟩) nR c3) rfl
        have fk := BKc.out.free 1
        have oS := (OO.out.nilTo (At Sb)).setCell (p := ⟨Sb, 1, none⟩) rfl (.slice (some ⟨g7, 0, none⟩) (nR + 1) c7)
        have bS := bx_set BKc.out 1 (.slice (some ⟨g7, 0, none⟩) (nR + 1) c7)
        simp only [List.set_cons_succ, List.set_cons_zero] at bS
        have rS := own_keep own7 ((Only.refl (At Sb) v78).setCell (p := ⟨Sb, 1, none⟩) rfl (.slice (some ⟨g7, 0, none⟩) (nR + 1) c7)) (fun k hk h => by have e1 : k = Sb := h; have e2 : k = g7 := (by simpa [Value.ownBlock] using hk); have := HG7.out; omega)
        go_simp
        clear ck fk
        refine hK220.out _ _ ?m221 (fun hHeld => ?_)
        case m221 => exact CR.out _ oS
        clear hK220 K220
        try simp only [Act.put, List.setIfInBounds_toArray, List.set_cons_zero, List.set_cons_succ]
        refine wpAnyH_done (by as_aux_lemma => kernel_rfl) ?_ _
        go_wp2
        go_meet
        exact ⟨g7, c7, Lib.hid rS, Lib.hid bS, Lib.hid oS, HG7⟩
    · skip
      have on := (Only.refl Nil v0).alloc (.cells #[.string (bs t1.tag), .bool t1.only, .int .i64 t1.n, .slice e1 m1 d1] 62)
      have BO := Lib.hid (bx_new v0 [.string (bs t1.tag), .bool t1.only, .int .i64 t1.n, .slice e1 m1 d1] 62)
      have X := Lib.hid (OO.out.trans on); clear OO; have OO := X; clear X; have X := Lib.hid (BKc.out.keep on); clear BKc; have BKc := X; clear X
      go_simp
      obtain ⟨v80, hv80⟩ : ∃ v, v = v0.alloc (.cells #[.string (bs t1.tag), .bool t1.only, .int .i64 t1.n, .slice e1 m1 d1] 62) := ⟨_, rfl⟩
      change Hid (Bx (v0.alloc (.cells #[.string (bs t1.tag), .bool t1.only, .int .i64 t1.n, .slice e1 m1 d1] 62)) v0.heap.size [.string (bs t1.tag), .bool t1.only, .int .i64 t1.n, .slice e1 m1 d1] 62) at BO
      rw [← hv80] at BO on OO BKc
      try rw [← hv80]
      refine hK157.out _ _ ?m222 (fun hHeld => ?_)
      case m222 => exact CR.out _ (OO.out.nilTo _)
      clear hK157 K157 hv80 on
      generalize v0.heap.size = bO80 at *
      try simp only [Act.put, List.setIfInBounds_toArray, List.set_cons_zero, List.set_cons_succ]
      refine wpAnyH_ready (rs := [0, 2]) (by as_aux_lemma => kernel_rfl) (by simp) ?_
      refine (AllReadyH.cons rfl (fun K223 hK223 => ?_) (AllReadyH.cons rfl (fun K224 hK224 => ?_) AllReadyH.nil))
      · skip
        have on := (Only.refl Nil v80).alloc (.cells #[] 62)
        have OE := Lib.hid (own_empty v80 62 4)
        have hsz := (OO.out).size
        have X := Lib.hid (OO.out.trans on); clear OO; have OO := X; clear X; have X := Lib.hid (BKc.out.keep on); clear BKc; have BKc := X; clear X; have X := Lib.hid (BO.out.keep on); clear BO; have BO := X; clear X
        go_simp
        obtain ⟨v81, hv81⟩ : ∃ v, v = v80.alloc (.cells #[] 62) := ⟨_, rfl⟩
        rw [← hv81] at OE on OO BKc BO
        try rw [← hv81]
        refine hK223.out _ _ ?m225 (fun hHeld => ?_)
        case m225 => exact CR.out _ (OO.out.nilTo _)
        clear hK223 K223 hv81 on hsz
        generalize v80.heap.size = bE81 at *
        try simp only [Act.put, List.setIfInBounds_toArray, List.set_cons_zero, List.set_cons_succ]
        refine wpAnyH_ready (rs := [2]) (by as_aux_lemma => kernel_rfl) (by simp) ?_
        refine AllReadyH.cons rfl (fun K226 hK226 => ?_) AllReadyH.nil
        have ck := BKc.out.cell 1 (v := .slice (some ⟨q3, off3, none⟩) nR c3) rfl
        go_simp
        clear ck
        refine hK226.out _ _ ?m227 (fun hHeld => ?_)
        case m227 => exact CR.out _ (OO.out.nilTo _)
        clear hK226 K226
        try simp only [Act.put, List.setIfInBounds_toArray, List.set_cons_zero, List.set_cons_succ]
        refine wpAnyH_ready (rs := [3]) (by as_aux_lemma => kernel_rfl) (by simp) ?_
        refine AllReadyH.cons rfl (fun K228 hK228 => ?_) AllReadyH.nil
        obtain ⟨c6, v82, hr, own6, on⟩ := copy_cin (P := Tryz.prog) (t := 57) (ty := 57) Tryz.underlying57 Tryz.infoRow rfl (HcR.out.keep (OT6.out.trans OO.out) (nilS · D)) OE.out (by omega) (by decide) (by decide) hbR
        have hgg := OO.out.size
        (refine step_append_run rfl (.tmp 156) (.tmp 158) 57 rfl _ _ rfl rfl _ _ hr ?_)
        have X := Lib.hid (OO.out.trans on); clear OO; have OO := X; clear X; have X := Lib.hid (BKc.out.keep on); clear BKc; have BKc := X; clear X; have X := Lib.hid (BO.out.keep on); clear BO; have BO := X; clear X
        have OWN := Lib.hid own6
        clear hr own6 OE on
        generalize v81.heap.size = gg at *
        refine hK228.out _ _ ?m229 (fun hHeld => ?_)
        case m229 => exact CR.out _ (OO.out.nilTo _)
        clear hK228 K228
        try simp only [Act.put, List.setIfInBounds_toArray, List.set_cons_zero, List.set_cons_succ]
        refine wpAnyH_ready (rs := [9]) (by as_aux_lemma => kernel_rfl) (by simp) ?_
        refine AllReadyH.cons rfl (fun K230 hK230 => ?_) AllReadyH.nil
        obtain ⟨g7, c7, v83, hr, own7, oG, hg7, hl7⟩ := push_one (P := Tryz.prog) (t := 57) (ty := 57) Tryz.underlying57 Tryz.infoRow rfl OWN.out BO.out rfl (by intro u hu; simp at hu; rcases hu with rfl | rfl | rfl | rfl <;> rfl) (by omega) (by decide)
        (refine step_append_run rfl (.tmp 159) (.tmp 164) 57 rfl _ _ rfl rfl _ _ hr ?_)
        have hbv := OO.out.size
        have X := Lib.hid (OO.out.then oG (fun k hk hlt => by have : k = gg := hk; omega)); clear OO; have OO := X; clear X; have X := Lib.hid (BKc.out.at_ oG (by omega)); clear BKc; have BKc := X; clear X
        have HG7 := Lib.hid (show w6.heap.size ≤ g7 by omega)
        clear hr oG OWN BO hg7 hl7
        refine hK230.out _ _ ?m231 (fun hHeld => ?_)
        case m231 => exact CR.out _ (OO.out.nilTo _)
        clear hK230 K230
        try simp only [Act.put, List.setIfInBounds_toArray, List.set_cons_zero, List.set_cons_succ]
        refine take_dst (some 166) (i := 10) (v := ?vp232) rfl (by as_aux_lemma => kernel_rfl) (by as_aux_lemma => kernel_rfl) (by as_aux_lemma => kernel_rfl) (by as_aux_lemma => kernel_rfl) (fun _ _ _ h => h) (Or.inl ⟨by kernel_rfl, ?hp232⟩) (by assumption) ?rp232
        case hp232 => (intro w hSw; (try dsimp only at hSw); first | (go_simp; done) | (go_simp; with_reducible rfl))
        try simp only [Act.put, List.setIfInBounds_toArray, List.set_cons_zero, List.set_cons_succ]
        refine wpAnyH_ready (rs := [11]) (by as_aux_lemma => kernel_rfl) (by simp) ?_
        refine AllReadyH.cons rfl (fun K233 hK233 => ?_) AllReadyH.nil
        have ck := BKc.out.cell 1 (v := .slice (some ⟨q3, off3, none⟩) nR c3) rfl
        have fk := BKc.out.free 1
        have oS := (OO.out.nilTo (At Sb)).setCell (p := ⟨Sb, 1, none⟩) rfl (.slice (some ⟨g7, 0, none⟩) (nR + 1) c7)
        have bS := bx_set BKc.out 1 (.slice (some ⟨g7, 0, none⟩) (nR + 1) c7)
        simp only [List.set_cons_succ, List.set_cons_zero] at bS
        have rS := own_keep own7 ((Only.refl (At Sb) v83).setCell (p := ⟨Sb, 1, none⟩) rfl (.slice (some ⟨g7, 0, none⟩) (nR + 1) c7)) (fun k hk h => by have e1 : k = Sb := h; have e2 : k = g7 := (by simpa [Value.ownBlock] using hk); have := HG7.out; omega)
        go_simp
        clear ck fk
        refine hK233.out _ _ ?m234 (fun hHeld => ?_)
        case m234 => exact CR.out _ oS
        clear hK233 K233
        try simp only [Act.put, List.setIfInBounds_toArray, List.set_cons_zero, List.set_cons_succ]
        refine wpAnyH_done (by as_aux_lemma => kernel_rfl) ?_ _
        go_wp2
        go_meet
        exact ⟨g7, c7, Lib.hid rS, Lib.hid bS, Lib.hid oS, HG7⟩
      · skip
        have ck := BKc.out.cell 1 (v := .slice (some ⟨q3, off3, none⟩) nR c3) rfl
        go_simp
        clear ck
        refine hK224.out _ _ ?m235 (fun hHeld => ?_)
        case m235 => exact CR.out _ (OO.out.nilTo _)
        clear hK224 K224
        try simp only [Act.put, List.setIfInBounds_toArray, List.set_cons_zero, List.set_cons_succ]
        refine wpAnyH_ready (rs := [0]) (by as_aux_lemma => kernel_rfl) (by simp) ?_
        refine AllReadyH.cons rfl (fun K236 hK236 => ?_) AllReadyH.nil
        have on := (Only.refl Nil v80).alloc (.cells #[] 62)
        have OE := Lib.hid (own_empty v80 62 4)
        have hsz := (OO.out).size
        have X := Lib.hid (OO.out.trans on); clear OO; have OO := X; clear X; have X := Lib.hid (BKc.out.keep on); clear BKc; have BKc := X; clear X; have X := Lib.hid (BO.out.keep on); clear BO; have BO := X; clear X
        go_simp
        obtain ⟨v85, hv85⟩ : ∃ v, v = v80.alloc (.cells #[] 62) := ⟨_, rfl⟩
        rw [← hv85] at OE on OO BKc BO
        try rw [← hv85]
        refine hK236.out _ _ ?m237 (fun hHeld => ?_)
        case m237 => exact CR.out _ (OO.out.nilTo _)
        clear hK236 K236 hv85 on hsz
        generalize v80.heap.size = bE85 at *
        try simp only [Act.put, List.setIfInBounds_toArray, List.set_cons_zero, List.set_cons_succ]
        refine wpAnyH_ready (rs := [3]) (by as_aux_lemma => kernel_rfl) (by simp) ?_
        refine AllReadyH.cons rfl (fun K238 hK238 => ?_) AllReadyH.nil
        obtain ⟨c6, v86, hr, own6, on⟩ := copy_cin (P := Tryz.prog) (t := 57) (ty := 57) Tryz.underlying57 Tryz.infoRow rfl (HcR.out.keep (OT6.out.trans OO.out) (nilS · D)) OE.out (by omega) (by decide) (by decide) hbR
        have hgg := OO.out.size
        (refine step_append_run rfl (.tmp 156) (.tmp 158) 57 rfl _ _ rfl rfl _ _ hr ?_)
        have X := Lib.hid (OO.out.trans on); clear OO; have OO := X; clear X; have X := Lib.hid (BKc.out.keep on); clear BKc; have BKc := X; clear X; have X := Lib.hid (BO.out.keep on); clear BO; have BO := X; clear X
        have OWN := Lib.hid own6
        clear hr own6 OE on
        generalize v85.heap.size = gg at *
        refine hK238.out _ _ ?m239 (fun hHeld => ?_)
        case m239 => exact CR.out _ (OO.out.nilTo _)
        clear hK238 K238
        try simp only [Act.put, List.setIfInBounds_toArray, List.set_cons_zero, List.set_cons_succ]
        refine wpAnyH_ready (rs := [9]) (by as_aux_lemma => kernel_rfl) (by simp) ?_
        refine AllReadyH.cons rfl (fun K240 hK240 => ?_) AllReadyH.nil
        obtain ⟨g7, c7, v87, hr, own7, oG, hg7, hl7⟩ := push_one (P := Tryz.prog) (t := 57) (ty := 57) Tryz.underlying57 Tryz.infoRow rfl OWN.out BO.out rfl (by intro u hu; simp at hu; rcases hu with rfl | rfl | rfl | rfl <;> rfl) (by omega) (by decide)
        (refine step_append_run rfl (.tmp 159) (.tmp 164) 57 rfl _ _ rfl rfl _ _ hr ?_)
        have hbv := OO.out.size
        have X := Lib.hid (OO.out.then oG (fun k hk hlt => by have : k = gg := hk; omega)); clear OO; have OO := X; clear X; have X := Lib.hid (BKc.out.at_ oG (by omega)); clear BKc; have BKc := X; clear X
        have HG7 := Lib.hid (show w6.heap.size ≤ g7 by omega)
        clear hr oG OWN BO hg7 hl7
        refine hK240.out _ _ ?m241 (fun hHeld => ?_)
        case m241 => exact CR.out _ (OO.out.nilTo _)
        clear hK240 K240
        try simp only [Act.put, List.setIfInBounds_toArray, List.set_cons_zero, List.set_cons_succ]
        refine take_dst (some 166) (i := 10) (v := ?vp242) rfl (by as_aux_lemma => kernel_rfl) (by as_aux_lemma => kernel_rfl) (by as_aux_lemma => kernel_rfl) (by as_aux_lemma => kernel_rfl) (fun _ _ _ h => h) (Or.inl ⟨by kernel_rfl, ?hp242⟩) (by assumption) ?rp242
        case hp242 => (intro w hSw; (try dsimp only at hSw); first | (go_simp; done) | (go_simp; with_reducible rfl))
        try simp only [Act.put, List.setIfInBounds_toArray, List.set_cons_zero, List.set_cons_succ]
        refine wpAnyH_ready (rs := [11]) (by as_aux_lemma => kernel_rfl) (by simp) ?_
        refine AllReadyH.cons rfl (fun K243 hK243 => ?_) AllReadyH.nil
        have ck := BKc.out.cell 1 (v := .slice (some ⟨q3, off3, none⟩) nR c3) rfl
        have fk := BKc.out.free 1
        have oS := (OO.out.nilTo (At Sb)).setCell (p := ⟨Sb, 1, none⟩) rfl (.slice (some ⟨g7, 0, none⟩) (nR + 1) c7)
        have bS := bx_set BKc.out 1 (.slice (some ⟨g7, 0, none⟩) (nR + 1) c7)
        simp only [List.set_cons_succ, List.set_cons_zero] at bS
        have rS := own_keep own7 ((Only.refl (At Sb) v87).setCell (p := ⟨Sb, 1, none⟩) rfl (.slice (some ⟨g7, 0, none⟩) (nR + 1) c7)) (fun k hk h => by have e1 : k = Sb := h; have e2 : k = g7 := (by simpa [Value.ownBlock] using hk); have := HG7.out; omega)
        go_simp
        clear ck fk
        refine hK243.out _ _ ?m244 (fun hHeld => ?_)
        case m244 => exact CR.out _ oS
        clear hK243 K243
        try simp only [Act.put, List.setIfInBounds_toArray, List.set_cons_zero, List.set_cons_succ]
        refine wpAnyH_done (by as_aux_lemma => kernel_rfl) ?_ _
        go_wp2
        go_meet
        exact ⟨g7, c7, Lib.hid rS, Lib.hid bS, Lib.hid oS, HG7⟩
theorem twice_2 (P : List Kd) (sl : Value) (wh lv : Int) (w : World) (hx : XK w.heap.size w sl P) (wf : wfP P) (bz : bzP P) (iw : 0 ≤ wh ∧ wh ≤ 255) (h3 : lv.tmod 3 = 2) (E : EnvE w) : Calls Tryz.prog 6 #[.agg #[sl], .int .u8 wh, .int .u8 lv] w fun e w' => e = .returned (.bool true) ∧ Below w.heap.size w w' := split_twice_2.go (Lib.hid part_twice_2_1) P sl wh lv w hx wf bz iw h3 E
end Go.Proofs.YthanclicnkjmiaaGreatDoor.Ch
