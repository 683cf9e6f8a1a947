/- check: CheckTwice, where a kind is added once more. -/
import Derived.Test.YthanclicnkjmiaaGreatDoorChTuW
set_option linter.unusedVariables false
namespace Go.Proofs.YthanclicnkjmiaaGreatDoor.Ch
open Go Go.RowKit Go.Proofs.YthanclicnkjmiaaGreatDoor Lx Ps

/-- One element more at the end of a row of one's own. -/
theorem push_one {P : Program} {t ty e : TypeId} {z : Value} {size bytes : Nat} (ht : P.underlying t = some (.slice e)) (hi : (P.info? e).map (fun i => (i.zero, i.size, i.bytes)) = some (some z, size, bytes)) (hzs : z.cells.size = size)
    {w : World} {g len cap b : Nat} {xs news : List Value} (hown : w.ownsRow 0 e size (.slice (some ⟨g, 0, none⟩) len cap) len xs) (hB : Bx w b news e) (hl : news.length = size) (hone : ∀ u ∈ news, u.oneCell' = true) (lle : len ≤ 65536) (hb : bytes ≤ 65536) :
    ∃ g' cap' w', (Builtin.append_ #[t, t] ty #[.slice (some ⟨g, 0, none⟩) len cap, .slice (some ⟨b, 0, none⟩) 1 1]).run P w = .ok (.slice (some ⟨g', 0, none⟩) (len + 1) cap') w' ∧
      w'.ownsRow 0 e size (.slice (some ⟨g', 0, none⟩) (len + 1) cap') (len + 1) (xs ++ news) ∧ Only (At g) w w' ∧ (g' = g ∨ w.heap.size ≤ g') ∧ g' < w'.heap.size := by
  obtain ⟨a', cap', w', hr, ho, hO, hN⟩ := run_append_end (P := P) (t := t) (ty := ty) ht hi hzs hown ⟨b, 0, none⟩ news hl hone (fun j u hj => by
    rw [show (⟨b, 0, none⟩ : Addr).add j = ⟨b, j, none⟩ from by by_cases h0 : j = 0 <;> simp [Addr.add, h0]]
    exact hB.cell j hj) lle hb
  obtain ⟨g', c2, cur, e1, _, hg, _⟩ := ho.2.resolve_left (fun h => by have := h.2; omega)
  have hlt := lt_of_block hg
  simp only [Value.slice.injEq] at e1
  obtain ⟨rfl, _, rfl⟩ := e1
  refine ⟨g', cap', w', hr, ho, hO.mono (fun k hk => ?_), ?_, hlt⟩
  · obtain ⟨x, e1, e2⟩ := hk
    cases e1
    exact e2
  · rcases hN _ rfl with ⟨y, e1, e2⟩ | h
    · cases e1
      exact Or.inl e2
    · exact Or.inr h
theorem snoc_wf {P : List Kd} {x : Kd} (h : wfP P) (hx : wfK x) : wfP (P ++ [x]) := fun k hk => by
  rcases List.mem_append.1 hk with hk | hk
  · exact h k hk
  · rw [List.mem_singleton.1 hk]; exact hx
theorem snoc_sz {P : List Kd} {x : Kd} (h : szP P) (hx : szK x) (hl : P.length ≤ 1000) : szP (P ++ [x]) := ⟨by simp; omega, fun k hk => by
  rcases List.mem_append.1 hk with hk | hk
  · exact h.2 k hk
  · rw [List.mem_singleton.1 hk]; exact hx⟩
set_option maxRecDepth 100000 in
set_option maxHeartbeats 16000000 in
theorem twice_0 (P : List Kd) (sl : Value) (wh lv : Int) (w : World) (hx : XK w.heap.size w sl P) (wf : wfP P) (bz : bzP P) (iw : 0 ≤ wh ∧ wh ≤ 255) (h3 : lv.tmod 3 = 0) (E : EnvE w) :
    Calls Tryz.prog 6 #[.agg #[sl], .int .u8 wh, .int .u8 lv] w fun e w' => e = .returned (.bool true) ∧ Below w.heap.size w w' := by
  have sz := bz.sz
  obtain ⟨sa, sc, rfl⟩ := hx.slice
  generalize hnP : P.length = nP at *
  obtain ⟨w1, hw1⟩ : ∃ w1, w1 = w.alloc (.cells #[.slice sa nP sc] 25) := ⟨_, rfl⟩
  have o1 : Only Nil w w1 := hw1 ▸ (Only.refl Nil w).alloc _
  have HB := Lib.hid (show Bx w1 w.heap.size [.slice sa nP sc] 25 from hw1 ▸ bx_new w _ _)
  have hbP : nP ≤ 140737488355328 := by rw [← hnP]; exact sz.1
  have HV := Lib.hid (show VK w.heap.size w1 P sa nP sc from ⟨hx.keep o1 (nilS · _), hnP, hbP, sz, wf⟩)
  have HZ := Lib.hid bz
  have HE1 := Lib.hid (E.keep o1)
  have HA := Lib.hid (alive_any w1 (E.keep o1))
  have O1 := Lib.hid o1
  clear hx wf sz E o1 hnP bz
  go_enter Tryz.func6, Tryz.ntmps6
  go_upto_region 1 with (fail)
  rw [← hw1]; clear hw1
  have HLe := Lib.hid (show w.heap.size ≤ w1.heap.size from O1.out.size)
  have HDlt := Lib.hid (show w.heap.size < w1.heap.size from lt_of_block HB.out)
  generalize hD : w.heap.size = D at *
  go_wp2_with fail
  refine HA.out.mono ?_
  rintro e w2' ⟨rfl, o2⟩
  have c2' := (HB.out.keep o2).cell 0 (v := .slice sa nP sc) rfl
  have HP := Lib.hid (prog_err (HV.out.keep o2) (Lib.hid (Nat.le_trans HLe.out o2.size)))
  have O2' := Lib.hid o2
  clear o2 HA
  cases hwh : whole P with
  | some x =>
    rw [hwh] at HP
    clear hwh
    go_wp2_with fail
    refine HP.out.mono ?_
    rintro e w3 ⟨v, rfl, ⟨b, rfl, _⟩, o3⟩
    go_wp2
    go_ret
    exact ⟨rfl, below_nil ((O1.out.trans O2'.out).trans o3)⟩
  | none =>
  rw [hwh] at HP
  have HWn := Lib.hid hwh
  have hn18 : 1 ≤ nP ∧ nP ≤ 8 := by rw [← HV.out.n]; exact (whole_none.1 hwh).1
  clear hwh
  go_wp2_with fail
  refine HP.out.mono ?_
  rintro e w2 ⟨v, rfl, hv, o3⟩
  obtain rfl : v = .nilIface := hv
  have O2 := Lib.hid (O2'.out.trans o3)
  clear o3 c2' HP O2'
  have c2 := (HB.out.keep O2.out).cell 0 (v := .slice sa nP sc) rfl
  obtain ⟨Z, hZ, hcK, hiK⟩ := (HV.out.keep O2.out).x
  rw [HV.out.n] at hcK
  have hZl : Z.length = nP := by rw [← HV.out.n, ← hZ, List.length_map]
  obtain ⟨i, hi⟩ : ∃ i : Nat, wh.tmod (nP : Int) = (i : Int) := ⟨(wh.tmod nP).toNat, by have := Int.tmod_nonneg (nP : Int) iw.1; omega⟩
  have hiN : i < nP := by have := Int.tmod_lt_of_pos wh (show (0 : Int) < (nP : Int) by omega); omega
  have hil : i < P.length := by rw [HV.out.n]; exact hiN
  obtain ⟨q, off, rfl, hlt, hc⟩ := CIn.at_ (f := kdCs) (s := 5) (fun _ => rfl) (by decide) hcK hZl i hiN
  obtain ⟨gC, gS⟩ := hiK _ (List.getElem_mem (show i < Z.length by omega))
  have hzx : (Z[i]'(by omega)).1 = P[i] := by subst hZ; simp
  obtain ⟨z, hzi⟩ : ∃ z, z = Z[i]'(by omega) := ⟨_, rfl⟩
  rw [← hzi] at hc gC gS hzx
  obtain ⟨x, s1, s2⟩ := z
  dsimp only at hc gC gS hzx
  obtain ⟨a1, c1, rfl⟩ := gC.slice
  obtain ⟨a2, c2', rfl⟩ := gS.slice
  have HZk := Lib.hid (HZ.out.2 _ (List.getElem_mem hil))
  have HWk := Lib.hid (HV.out.wf _ (List.getElem_mem hil))
  obtain ⟨x', hxx⟩ : ∃ x', x' = P[i] := ⟨_, rfl⟩
  rw [← hxx] at HZk HWk hzx
  subst hzx
  have HXX := Lib.hid hxx
  clear hxx
  generalize hnC : x.cases.length = nC at *
  generalize hnS : x.states.length = nS at *
  have hbS : nS * 40 ≤ 140737488355328 := by rw [← hnS]; exact HZk.out.2.1
  have hiNi : (i : Int) < (nP : Int) := by omega
  have h0i : (0 : Int) ≤ (i : Int) := Int.natCast_nonneg i
  have hnz : ¬ ((nP : Int) = 0) := by omega
  have HSS := Lib.hid gS
  have HCC := Lib.hid gC
  have HcK := Lib.hid hcK
  have HiK := Lib.hid hiK
  have HZi := Lib.hid (show ∀ h : i < Z.length, (x, Value.slice a1 nC c1, Value.slice a2 nS c2') = Z[i]'h from fun _ => hzi)
  have HZe := Lib.hid hZ
  have HZl := Lib.hid hZl
  clear hcK hiK hzi hZ
  have hDl : D < w2.heap.size := Nat.lt_of_lt_of_le HDlt.out O2.out.size
  have oa : Only Nil w2 (w2.alloc (.cells #[] 56)) := (Only.refl Nil w2).alloc _
  obtain ⟨cq, w3, hrun1, own1, o3⟩ := copy_cin (P := Tryz.prog) (t := 23) (ty := 23) Tryz.underlying23 Tryz.infoKd rfl (HcK.out.keep oa (nilS · D)) (own_empty w2 56 5) (by omega) (by decide) (by decide) (by have := HZ.out.1; rw [HV.out.n] at this; exact this)
  have HR1 := Lib.hid hrun1
  have ca := only_cell0 oa c2
  have hsa : (w2.alloc (.cells #[] 56)).heap.size = w2.heap.size + 1 := by simp
  rw [hsa] at own1
  have k6_0 : w2.cell? ⟨q, off + i * 5, none⟩ = some (.string (bs x.name)) := hc 0 (by decide)
  have k6_1 : w2.cell? ⟨q, off + i * 5 + 1, none⟩ = some (.int .i64 x.limit) := hc 1 (by decide)
  have k6_2 : w2.cell? ⟨q, off + i * 5 + 2, none⟩ = some (.int .i64 x.within) := hc 2 (by decide)
  have k6_3 : w2.cell? ⟨q, off + i * 5 + 3, none⟩ = some (.slice a1 nC c1) := hc 3 (by decide)
  have k6_4 : w2.cell? ⟨q, off + i * 5 + 4, none⟩ = some (.slice a2 nS c2') := hc 4 (by decide)
  have HC5 := Lib.hid hc
  clear hc gC gS
  go_upto_region 5 with (fail)
  go_upto_region 6 with (at_builtin; refine Lib.wpList_append_run _ rfl (.tmp 22) (.tmp 24) 23 23 rfl _ _ rfl rfl _ _ HR1.out ?_)
  have hg1 := (own1.lt (w2.heap.size + 1) rfl).2
  have OW1 := Lib.hid own1
  have hg1' : w2.heap.size < w2.heap.size + 1 := by omega
  generalize w2.heap.size + 1 = g1 at *
  obtain ⟨w4, hw4⟩ : ∃ w4, w4 = w3.alloc (.cells #[.slice (some ⟨g1, 0, none⟩) nP cq] 25) := ⟨_, rfl⟩
  rw [← hw4]
  have o34 : Only Nil w3 w4 := hw4 ▸ (Only.refl Nil w3).alloc _
  have OT := Lib.hid (oa.trans (o3.trans o34))
  have BQ := Lib.hid (show Bx w4 w3.heap.size [.slice (some ⟨g1, 0, none⟩) nP cq] 25 from hw4 ▸ bx_new w3 _ _)
  have OW4 := Lib.hid (own_keep OW1.out o34 (fun _ _ h => h))
  clear OW1 own1 hw4 oa o3 o34 hrun1 HR1 ca hsa
  generalize w3.heap.size = Qb at *
  have hQl := lt_of_block BQ.out
  have k7_0 := only_cell0 OT.out k6_0
  have k7_1 := only_cell0 OT.out k6_1
  have k7_2 := only_cell0 OT.out k6_2
  have k7_3 := only_cell0 OT.out k6_3
  have k7_4 := only_cell0 OT.out k6_4
  have c4 := only_cell0 OT.out c2
  clear k6_0 k6_1 k6_2 k6_3 k6_4 c2
  go_upto_region 7 with (fail)
  obtain ⟨w5, hw5⟩ : ∃ w5, w5 = w4.alloc (.cells #[.string (bs x.name), .int .i64 x.limit, .int .i64 x.within, .slice a1 nC c1, .slice a2 nS c2'] 56) := ⟨_, rfl⟩
  go_upto_region 8 with (fail)
  rw [← hw5]
  have o45 : Only Nil w4 w5 := hw5 ▸ (Only.refl Nil w4).alloc _
  have BK := Lib.hid (show Bx w5 w4.heap.size [.string (bs x.name), .int .i64 x.limit, .int .i64 x.within, .slice a1 nC c1, .slice a2 nS c2'] 56 from hw5 ▸ bx_new w4 _ _)
  clear hw5 k7_0 k7_1 k7_2 k7_3 k7_4 c4 hi
  have hKl := lt_of_block BK.out
  have hQK : Qb < w4.heap.size := hQl
  generalize w4.heap.size = Kb at *
  have OT5 := Lib.hid (OT.out.trans o45)
  have BQ5 := Lib.hid (BQ.out.keep o45)
  have OW5 := Lib.hid (own_keep OW4.out o45 (fun _ _ h => h))
  clear o45 BQ OW4 OT
  · go_upto_region 10 with (fail)
    have hnil := (Only.refl Nil w5).alloc (.cells #[.string (bs x.name), .int .i64 x.limit, .int .i64 x.within, .slice a1 nC c1, .slice a2 nS c2'] 56)
    obtain ⟨g3, c3, w6, hrun2, own2, o6, hg3, hg3l⟩ := push_one (P := Tryz.prog) (t := 23) (ty := 23) Tryz.underlying23 Tryz.infoKd rfl (own_keep OW5.out hnil (fun _ _ h => h)) (bx_new w5 [.string (bs x.name), .int .i64 x.limit, .int .i64 x.within, .slice a1 nC c1, .slice a2 nS c2'] 56) rfl (by intro u hu; simp at hu; rcases hu with rfl | rfl | rfl | rfl | rfl <;> rfl) (by omega) (by decide)
    have HR2 := Lib.hid hrun2
    have k0 := BK.out.cell 0 (v := .string (bs x.name)) rfl
    have k1 := BK.out.cell 1 (v := .int .i64 x.limit) rfl
    have k2 := BK.out.cell 2 (v := .int .i64 x.within) rfl
    have k3 := BK.out.cell 3 (v := .slice a1 nC c1) rfl
    have k4 := BK.out.cell 4 (v := .slice a2 nS c2') rfl
    have q5 := BQ5.out.cell 0 (v := .slice (some ⟨g1, 0, none⟩) nP cq) rfl
    have BQ6 := Lib.hid ((BQ5.out.keep hnil).at_ o6 (by omega))
    have q6 := BQ6.out.cell 0 (v := .slice (some ⟨g1, 0, none⟩) nP cq) rfl
    have f6 := BQ6.out.free 0
    have hs5 := hnil.size
    have OW6 := Lib.hid own2
    have OT6 := Lib.hid ((OT5.out.trans hnil).then o6 (fun k hk hlt => by have : k = g1 := hk; omega))
    have HG3 := Lib.hid hg3
    clear hrun2 own2 hnil o6 hg3
    go_upto_region 11 with (at_builtin; refine Lib.wpList_append_run _ rfl (.tmp 43) (.tmp 45) 23 23 rfl _ _ rfl rfl _ _ HR2.out ?_)
    clear k0 k1 k2 k3 k4 q5 q6 f6
    obtain ⟨w7, hw7⟩ : ∃ w7, w7 = w6.setCell ⟨Qb, 0, none⟩ (.slice (some ⟨g3, 0, none⟩) (nP + 1) c3) := ⟨_, rfl⟩
    rw [← hw7]
    have o67 : Only (At Qb) w6 w7 := hw7 ▸ (Only.refl (At Qb) w6).setCell (p := ⟨Qb, 0, none⟩) rfl _
    have BQ7 := bx_set BQ6.out 0 (.slice (some ⟨g3, 0, none⟩) (nP + 1) c3)
    rw [← hw7] at BQ7
    simp only [List.set_cons_zero] at BQ7
    have hne : g3 ≠ Qb := by have := HG3.out; omega
    have own7 := own_keep OW6.out o67 (fun k hk h => by
      have e1 : k = Qb := h
      have e2 : k = g3 := by simpa [Value.ownBlock] using hk
      omega)
    have OT7 := (OT6.out.then o67 (fun k hk hlt => by have : k = Qb := hk; omega))
    have hDw : D ≤ w7.heap.size := by have := OT7.size; omega
    have hxm : x ∈ P := by rw [HXX.out]; exact List.getElem_mem _
    have hX1 : XK w7.heap.size w7 (.slice (some ⟨g3, 0, none⟩) (nP + 1) c3) (P ++ [x]) := by
      refine ⟨Z ++ [(x, .slice a1 nC c1, .slice a2 nS c2')], by rw [List.map_append, HZe.out]; rfl, ?_, fun z hz => ?_⟩
      · have hl : (P ++ [x]).length = nP + 1 := by simp [HV.out.n]
        rw [hl, List.flatMap_append]
        exact own_cin own7
      · rcases List.mem_append.1 hz with hz | hz
        · exact ⟨((HiK.out z hz).1.keep OT7 (nilS · D)).mono hDw, ((HiK.out z hz).2.keep OT7 (nilS · D)).mono hDw⟩
        · rw [List.mem_singleton.1 hz]
          exact ⟨(HCC.out.keep OT7 (nilS · D)).mono hDw, (HSS.out.keep OT7 (nilS · D)).mono hDw⟩
    have VQ : VK w7.heap.size w7 (P ++ [x]) (some ⟨g3, 0, none⟩) (nP + 1) c3 :=
      ⟨hX1, by simp [HV.out.n], by omega, snoc_sz HV.out.sz HZk.out.sz (by rw [HV.out.n]; omega), snoc_wf HV.out.wf HWk.out⟩
    have HPq := Lib.hid (prog_err VQ (Lib.hid (Nat.le_refl _)))
    have hwq := once_kind HWn.out hxm
    rw [HV.out.n] at hwq
    have BQ7' := Lib.hid BQ7
    have OT7' := Lib.hid OT7
    have HE7 := Lib.hid (HE1.out.keep (O2.out.trans OT7))
    have BP7 := Lib.hid (HB.out.keep (O2.out.trans OT7))
    have q7 := BQ7.cell 0 (v := .slice (some ⟨g3, 0, none⟩) (nP + 1) c3) rfl
    have hsz7 : (P ++ [x]).length = nP + 1 := by simp [HV.out.n]
    clear hw7 o67 BQ6 BQ7 own7 OW6 OT6 OT7 hX1 VQ hxm hne
    by_cases h8 : nP = 8
    · rw [if_pos h8] at hwq
      rw [hwq] at HPq
      clear hwq
      generalize hn1 : nP + 1 = n1 at *
      have hb8 : ((nP : Int) == 8) = true := by rw [h8]; rfl
      have HN1 := Lib.hid hn1
      clear hn1 h8 hsz7 hDw
      go_wp2_with fail
      refine HPq.out.mono ?_
      rintro e w8 ⟨v, rfl, hv, o8⟩
      have HEr := Lib.hid hv
      obtain ⟨be, rfl, _⟩ := hv
      have O8 := Lib.hid o8
      have HWh := Lib.hid (show Calls Tryz.prog 18 #[.iface 46 (.pointer (some ⟨be, 0, none⟩))] w8 (fun e w' => ∃ a c, e = .returned (.slice a 0 c) ∧ w'.ownsRow w8.heap.size 3 1 (.slice a 0 c) 0 (intsC []) ∧ Only Nil w8 w') from where_any HEr.out (HE7.out.keep o8) (by simp [whereF]))
      clear o8 q7 HPq
      go_wp2_with fail
      refine HWh.out.mono ?_
      rintro e w9 ⟨ra, rc, rfl, hown, o9⟩
      have O9 := Lib.hid (O8.out.trans o9)
      have HCd := Lib.hid (fun w' (o : Only Nil w9 w') => show Calls Tryz.prog 16 #[.iface 46 (.pointer (some ⟨be, 0, none⟩))] w' (fun e w'' => e = .returned (.int .i64 40) ∧ Only Nil w' w'') from code_any (HEr.out.keep (o9.trans o)) (HE7.out.keep (O8.out.trans (o9.trans o))))
      have p9 := (BP7.out.keep O9.out).cell 0 (v := .slice (some ⟨q, off, none⟩) nP sc) rfl
      have q9 := (BQ7'.out.keep O9.out).cell 0 (v := .slice (some ⟨g3, 0, none⟩) n1 c3) rfl
      have OO := Lib.hid (show Only Nil w9 w9.drew from (Only.refl Nil w9).drew)
      have CC := Lib.hid (show ∀ w', Only Nil w9 w' → (fun w' : World => w'.cell? ⟨D, 0, none⟩ = some (.slice (some ⟨q, off, none⟩) nP sc) ∧ w'.cell? ⟨Qb, 0, none⟩ = some (.slice (some ⟨g3, 0, none⟩) n1 c3)) w' from fun w' o => ⟨only_cell0 o p9, only_cell0 o q9⟩)
      have OD := Lib.hid (O1.out.trans (O2.out.trans (OT7'.out.trans O9.out)))
      clear hown o9 p9 q9 HWh
      go_upto_region 13 with (fail)
      refine wp_region_held_drew (S := fun w' => w'.cell? ⟨D, 0, none⟩ = some (.slice (some ⟨q, off, none⟩) nP sc) ∧ w'.cell? ⟨Qb, 0, none⟩ = some (.slice (some ⟨g3, 0, none⟩) n1 c3)) (by kernel_rfl) (CC.out _ OO.out) (fun hHeld => ?_)
      refine take_dst (some 52) (i := 0) (v := ?vka1) rfl (by kernel_rfl) (by kernel_rfl) (by kernel_rfl) (by kernel_rfl) (fun _ _ _ h => h) (Or.inl ⟨by kernel_rfl, ?hka1⟩) (by assumption) ?rka1
      case hka1 => (intro w hSw; (try dsimp only at hSw); first | (go_simp; done) | (go_simp; with_reducible rfl))
      try simp only [Act.put, List.setIfInBounds_toArray, List.set_cons_zero, List.set_cons_succ]
      refine take_dst (some 53) (i := 1) (v := ?vka2) rfl (by kernel_rfl) (by kernel_rfl) (by kernel_rfl) (by kernel_rfl) (fun _ _ _ h => h) (Or.inl ⟨by kernel_rfl, ?hka2⟩) (by assumption) ?rka2
      case hka2 => (intro w hSw; (try dsimp only at hSw); first | (go_simp; done) | (go_simp; with_reducible rfl))
      try simp only [Act.put, List.setIfInBounds_toArray, List.set_cons_zero, List.set_cons_succ]
      refine take_dst (some 54) (i := 2) (v := ?vka3) rfl (by kernel_rfl) (by kernel_rfl) (by kernel_rfl) (by kernel_rfl) (fun _ _ _ h => h) (Or.inl ⟨by kernel_rfl, ?hka3⟩) (by assumption) ?rka3
      case hka3 => (intro w hSw; (try dsimp only at hSw); first | (go_simp; done) | (go_simp; with_reducible rfl))
      try simp only [Act.put, List.setIfInBounds_toArray, List.set_cons_zero, List.set_cons_succ]
      refine take_dst (some 55) (i := 3) (v := ?vka4) rfl (by kernel_rfl) (by kernel_rfl) (by kernel_rfl) (by kernel_rfl) (fun _ _ _ h => h) (Or.inl ⟨by kernel_rfl, ?hka4⟩) (by assumption) ?rka4
      case hka4 => (intro w hSw; (try dsimp only at hSw); first | (go_simp; done) | (go_simp; with_reducible rfl))
      try simp only [Act.put, List.setIfInBounds_toArray, List.set_cons_zero, List.set_cons_succ]
      refine take_dst (some 56) (i := 4) (v := ?vka5) rfl (by kernel_rfl) (by kernel_rfl) (by kernel_rfl) (by kernel_rfl) (fun _ _ _ h => h) (Or.inl ⟨by kernel_rfl, ?hka5⟩) (by assumption) ?rka5
      case hka5 => (intro w hSw; (try dsimp only at hSw); first | (go_simp; done) | (go_simp; with_reducible rfl))
      try simp only [Act.put, List.setIfInBounds_toArray, List.set_cons_zero, List.set_cons_succ]
      refine take_dst (some 57) (i := 5) (v := ?vka6) rfl (by kernel_rfl) (by kernel_rfl) (by kernel_rfl) (by kernel_rfl) (fun _ _ _ h => h) (Or.inl ⟨by kernel_rfl, ?hka6⟩) (by assumption) ?rka6
      case hka6 => (intro w hSw; (try dsimp only at hSw); first | (go_simp; done) | (go_simp; with_reducible rfl))
      try simp only [Act.put, List.setIfInBounds_toArray, List.set_cons_zero, List.set_cons_succ]
      refine wpAnyH_ready (rs := [6]) (by kernel_rfl) (by simp) ?_
      refine AllReadyH.cons rfl (fun Kka7 hKka7 => ?_) AllReadyH.nil
      (go_simp; go_at_call 16; refine (HCd.out _ OO.out).mono ?_; rintro e wn ⟨rfl, on⟩; have O9 := Lib.hid (OO.out.trans on); clear OO on; have OO := O9; clear O9; go_wp2_with fail)
      refine hKka7.out _ _ ?ska7 (fun hHeldka7 => ?_)
      case ska7 => exact CC.out _ OO.out
      clear hKka7 Kka7
      try simp only [Act.put, List.setIfInBounds_toArray, List.set_cons_zero, List.set_cons_succ]
      refine take_dst (some 59) (i := 7) (v := ?vka8) rfl (by kernel_rfl) (by kernel_rfl) (by kernel_rfl) (by kernel_rfl) (fun _ _ _ h => h) (Or.inl ⟨by kernel_rfl, ?hka8⟩) (by assumption) ?rka8
      case hka8 => (intro w hSw; (try dsimp only at hSw); first | (go_simp; done) | (go_simp; with_reducible rfl))
      try simp only [Act.put, List.setIfInBounds_toArray, List.set_cons_zero, List.set_cons_succ]
      refine take_dst (some 60) (i := 8) (v := ?vka9) rfl (by kernel_rfl) (by kernel_rfl) (by kernel_rfl) (by kernel_rfl) (fun _ _ _ h => h) (Or.inl ⟨by kernel_rfl, ?hka9⟩) (by assumption) ?rka9
      case hka9 => (intro w hSw; (try dsimp only at hSw); first | (go_simp; done) | (go_simp; with_reducible rfl))
      try simp only [Act.put, List.setIfInBounds_toArray, List.set_cons_zero, List.set_cons_succ]
      refine take_dst (some 61) (i := 9) (v := ?vka10) rfl (by kernel_rfl) (by kernel_rfl) (by kernel_rfl) (by kernel_rfl) (fun _ _ _ h => h) (Or.inl ⟨by kernel_rfl, ?hka10⟩) (by assumption) ?rka10
      case hka10 => (intro w hSw; (try dsimp only at hSw); first | (go_simp; done) | (go_simp; with_reducible rfl))
      try simp only [Act.put, List.setIfInBounds_toArray, List.set_cons_zero, List.set_cons_succ]
      refine take_dst (some 62) (i := 10) (v := ?vka11) rfl (by kernel_rfl) (by kernel_rfl) (by kernel_rfl) (by kernel_rfl) (fun _ _ _ h => h) (Or.inl ⟨by kernel_rfl, ?hka11⟩) (by assumption) ?rka11
      case hka11 => (intro w hSw; (try dsimp only at hSw); first | (go_simp; done) | (go_simp; with_reducible rfl))
      try simp only [Act.put, List.setIfInBounds_toArray, List.set_cons_zero, List.set_cons_succ]
      refine take_dst (some 63) (i := 11) (v := ?vka12) rfl (by kernel_rfl) (by kernel_rfl) (by kernel_rfl) (by kernel_rfl) (fun _ _ _ h => h) (Or.inl ⟨by kernel_rfl, ?hka12⟩) (by assumption) ?rka12
      case hka12 => (intro w hSw; (try dsimp only at hSw); first | (go_simp; done) | (go_simp; with_reducible rfl))
      try simp only [Act.put, List.setIfInBounds_toArray, List.set_cons_zero, List.set_cons_succ]
      refine take_dst (some 64) (i := 12) (v := ?vka13) rfl (by kernel_rfl) (by kernel_rfl) (by kernel_rfl) (by kernel_rfl) (fun _ _ _ h => h) (Or.inl ⟨by kernel_rfl, ?hka13⟩) (by assumption) ?rka13
      case hka13 => (intro w hSw; (try dsimp only at hSw); first | (go_simp; done) | (go_simp; with_reducible rfl))
      try simp only [Act.put, List.setIfInBounds_toArray, List.set_cons_zero, List.set_cons_succ]
      refine take_dst (some 65) (i := 13) (v := ?vka14) rfl (by kernel_rfl) (by kernel_rfl) (by kernel_rfl) (by kernel_rfl) (fun _ _ _ h => h) (Or.inl ⟨by kernel_rfl, ?hka14⟩) (by assumption) ?rka14
      case hka14 => (intro w hSw; (try dsimp only at hSw); first | (go_simp; done) | (go_simp; with_reducible rfl))
      try simp only [Act.put, List.setIfInBounds_toArray, List.set_cons_zero, List.set_cons_succ]
      refine take_dst (some 66) (i := 14) (v := ?vka15) rfl (by kernel_rfl) (by kernel_rfl) (by kernel_rfl) (by kernel_rfl) (fun _ _ _ h => h) (Or.inl ⟨by kernel_rfl, ?hka15⟩) (by assumption) ?rka15
      case hka15 => (intro w hSw; (try dsimp only at hSw); first | (go_simp; done) | (go_simp; with_reducible rfl))
      try simp only [Act.put, List.setIfInBounds_toArray, List.set_cons_zero, List.set_cons_succ]
      refine take_dst (some 67) (i := 15) (v := undef) rfl (by kernel_rfl) (by kernel_rfl) (by kernel_rfl) (by kernel_rfl) (fun _ _ _ h => h) (Or.inr ⟨by kernel_rfl, rfl⟩) (by assumption) ?rka16
      try simp only [Act.put, List.setIfInBounds_toArray, List.set_cons_zero, List.set_cons_succ]
      refine take_dst (some 68) (i := 16) (v := undef) rfl (by kernel_rfl) (by kernel_rfl) (by kernel_rfl) (by kernel_rfl) (fun _ _ _ h => h) (Or.inr ⟨by kernel_rfl, rfl⟩) (by assumption) ?rka17
      try simp only [Act.put, List.setIfInBounds_toArray, List.set_cons_zero, List.set_cons_succ]
      refine take_dst (some 69) (i := 17) (v := undef) rfl (by kernel_rfl) (by kernel_rfl) (by kernel_rfl) (by kernel_rfl) (fun _ _ _ h => h) (Or.inr ⟨by kernel_rfl, rfl⟩) (by assumption) ?rka18
      try simp only [Act.put, List.setIfInBounds_toArray, List.set_cons_zero, List.set_cons_succ]
      refine take_dst (some 70) (i := 18) (v := undef) rfl (by kernel_rfl) (by kernel_rfl) (by kernel_rfl) (by kernel_rfl) (fun _ _ _ h => h) (Or.inr ⟨by kernel_rfl, rfl⟩) (by assumption) ?rka19
      try simp only [Act.put, List.setIfInBounds_toArray, List.set_cons_zero, List.set_cons_succ]
      refine take_dst (some 71) (i := 19) (v := undef) rfl (by kernel_rfl) (by kernel_rfl) (by kernel_rfl) (by kernel_rfl) (fun _ _ _ h => h) (Or.inr ⟨by kernel_rfl, rfl⟩) (by assumption) ?rka20
      try simp only [Act.put, List.setIfInBounds_toArray, List.set_cons_zero, List.set_cons_succ]
      refine take_dst (some 72) (i := 20) (v := undef) rfl (by kernel_rfl) (by kernel_rfl) (by kernel_rfl) (by kernel_rfl) (fun _ _ _ h => h) (Or.inr ⟨by kernel_rfl, rfl⟩) (by assumption) ?rka21
      try simp only [Act.put, List.setIfInBounds_toArray, List.set_cons_zero, List.set_cons_succ]
      refine take_dst (some 73) (i := 21) (v := undef) rfl (by kernel_rfl) (by kernel_rfl) (by kernel_rfl) (by kernel_rfl) (fun _ _ _ h => h) (Or.inr ⟨by kernel_rfl, rfl⟩) (by assumption) ?rka22
      try simp only [Act.put, List.setIfInBounds_toArray, List.set_cons_zero, List.set_cons_succ]
      refine take_dst (some 74) (i := 22) (v := undef) rfl (by kernel_rfl) (by kernel_rfl) (by kernel_rfl) (by kernel_rfl) (fun _ _ _ h => h) (Or.inr ⟨by kernel_rfl, rfl⟩) (by assumption) ?rka23
      try simp only [Act.put, List.setIfInBounds_toArray, List.set_cons_zero, List.set_cons_succ]
      refine take_dst (some 75) (i := 23) (v := undef) rfl (by kernel_rfl) (by kernel_rfl) (by kernel_rfl) (by kernel_rfl) (fun _ _ _ h => h) (Or.inr ⟨by kernel_rfl, rfl⟩) (by assumption) ?rka24
      try simp only [Act.put, List.setIfInBounds_toArray, List.set_cons_zero, List.set_cons_succ]
      refine take_dst (some 76) (i := 24) (v := undef) rfl (by kernel_rfl) (by kernel_rfl) (by kernel_rfl) (by kernel_rfl) (fun _ _ _ h => h) (Or.inr ⟨by kernel_rfl, rfl⟩) (by assumption) ?rka25
      try simp only [Act.put, List.setIfInBounds_toArray, List.set_cons_zero, List.set_cons_succ]
      refine take_dst (some 77) (i := 25) (v := undef) rfl (by kernel_rfl) (by kernel_rfl) (by kernel_rfl) (by kernel_rfl) (fun _ _ _ h => h) (Or.inr ⟨by kernel_rfl, rfl⟩) (by assumption) ?rka26
      try simp only [Act.put, List.setIfInBounds_toArray, List.set_cons_zero, List.set_cons_succ]
      refine take_dst (some 78) (i := 26) (v := undef) rfl (by kernel_rfl) (by kernel_rfl) (by kernel_rfl) (by kernel_rfl) (fun _ _ _ h => h) (Or.inr ⟨by kernel_rfl, rfl⟩) (by assumption) ?rka27
      try simp only [Act.put, List.setIfInBounds_toArray, List.set_cons_zero, List.set_cons_succ]
      refine take_dst (some 79) (i := 27) (v := undef) rfl (by kernel_rfl) (by kernel_rfl) (by kernel_rfl) (by kernel_rfl) (fun _ _ _ h => h) (Or.inr ⟨by kernel_rfl, rfl⟩) (by assumption) ?rka28
      try simp only [Act.put, List.setIfInBounds_toArray, List.set_cons_zero, List.set_cons_succ]
      refine take_dst (some 80) (i := 28) (v := undef) rfl (by kernel_rfl) (by kernel_rfl) (by kernel_rfl) (by kernel_rfl) (fun _ _ _ h => h) (Or.inr ⟨by kernel_rfl, rfl⟩) (by assumption) ?rka29
      try simp only [Act.put, List.setIfInBounds_toArray, List.set_cons_zero, List.set_cons_succ]
      refine take_dst (some 81) (i := 29) (v := undef) rfl (by kernel_rfl) (by kernel_rfl) (by kernel_rfl) (by kernel_rfl) (fun _ _ _ h => h) (Or.inr ⟨by kernel_rfl, rfl⟩) (by assumption) ?rka30
      try simp only [Act.put, List.setIfInBounds_toArray, List.set_cons_zero, List.set_cons_succ]
      refine take_dst (some 82) (i := 30) (v := undef) rfl (by kernel_rfl) (by kernel_rfl) (by kernel_rfl) (by kernel_rfl) (fun _ _ _ h => h) (Or.inr ⟨by kernel_rfl, rfl⟩) (by assumption) ?rka31
      try simp only [Act.put, List.setIfInBounds_toArray, List.set_cons_zero, List.set_cons_succ]
      refine take_dst (some 83) (i := 31) (v := undef) rfl (by kernel_rfl) (by kernel_rfl) (by kernel_rfl) (by kernel_rfl) (fun _ _ _ h => h) (Or.inr ⟨by kernel_rfl, rfl⟩) (by assumption) ?rka32
      try simp only [Act.put, List.setIfInBounds_toArray, List.set_cons_zero, List.set_cons_succ]
      refine take_dst (some 84) (i := 32) (v := ?vka33) rfl (by kernel_rfl) (by kernel_rfl) (by kernel_rfl) (by kernel_rfl) (fun _ _ _ h => h) (Or.inl ⟨by kernel_rfl, ?hka33⟩) (by assumption) ?rka33
      case hka33 => (intro w hSw; (try dsimp only at hSw); first | (go_simp; done) | (go_simp; with_reducible rfl))
      try simp only [Act.put, List.setIfInBounds_toArray, List.set_cons_zero, List.set_cons_succ]
      refine take_dst (some 6) (i := 33) (v := ?vka34) rfl (by kernel_rfl) (by kernel_rfl) (by kernel_rfl) (by kernel_rfl) (fun _ _ _ h => h) (Or.inl ⟨by kernel_rfl, ?hka34⟩) (by assumption) ?rka34
      case hka34 => (intro w hSw; (try dsimp only at hSw); first | (go_simp; done) | (go_simp; with_reducible rfl))
      try simp only [Act.put, List.setIfInBounds_toArray, List.set_cons_zero, List.set_cons_succ]
      refine wpAnyH_done (by kernel_rfl) ?_ _
      go_wp2
      go_ret
      exact ⟨rfl, below_nil (OD.out.trans OO.out)⟩
    · rw [if_neg h8] at hwq
      rw [hwq] at HPq
      clear hwq
      generalize hn1 : nP + 1 = n1 at *
      have hb8 : ((nP : Int) == 8) = false := by simp; omega
      have HN1 := Lib.hid hn1
      clear hn1 h8 hsz7 hDw
      go_wp2_with fail
      refine HPq.out.mono ?_
      rintro e w8 ⟨v, rfl, hv, o8⟩
      have HEr := Lib.hid hv
      obtain ⟨be, rfl, _⟩ := hv
      have O8 := Lib.hid o8
      have HWh := Lib.hid (show Calls Tryz.prog 18 #[.iface 46 (.pointer (some ⟨be, 0, none⟩))] w8 (fun e w' => ∃ a c, e = .returned (.slice a 1 c) ∧ w'.ownsRow w8.heap.size 3 1 (.slice a 1 c) 1 (intsC [n1]) ∧ Only Nil w8 w') from where_any HEr.out (HE7.out.keep o8) (by simp [whereF]))
      clear o8 q7 HPq
      go_wp2_with fail
      refine HWh.out.mono ?_
      rintro e w9 ⟨ra, rc, rfl, hown, o9⟩
      have O9 := Lib.hid (O8.out.trans o9)
      have HCd := Lib.hid (fun w' (o : Only Nil w9 w') => show Calls Tryz.prog 16 #[.iface 46 (.pointer (some ⟨be, 0, none⟩))] w' (fun e w'' => e = .returned (.int .i64 41) ∧ Only Nil w' w'') from code_any (HEr.out.keep (o9.trans o)) (HE7.out.keep (O8.out.trans (o9.trans o))))
      have p9 := (BP7.out.keep O9.out).cell 0 (v := .slice (some ⟨q, off, none⟩) nP sc) rfl
      have q9 := (BQ7'.out.keep O9.out).cell 0 (v := .slice (some ⟨g3, 0, none⟩) n1 c3) rfl
      obtain ⟨rb, rfl, r9⟩ := own_ints hown 0 (by simp)
      have r9 : w9.cell? ⟨rb, 0, none⟩ = some (.int .i64 (n1 : Int)) := r9
      have OO := Lib.hid (show Only Nil w9 w9.drew from (Only.refl Nil w9).drew)
      have CC := Lib.hid (show ∀ w', Only Nil w9 w' → (fun w' : World => w'.cell? ⟨D, 0, none⟩ = some (.slice (some ⟨q, off, none⟩) nP sc) ∧ w'.cell? ⟨Qb, 0, none⟩ = some (.slice (some ⟨g3, 0, none⟩) n1 c3) ∧ w'.cell? ⟨rb, 0, none⟩ = some (.int .i64 (n1 : Int))) w' from fun w' o => ⟨only_cell0 o p9, only_cell0 o q9, only_cell0 o r9⟩)
      have OD := Lib.hid (O1.out.trans (O2.out.trans (OT7'.out.trans O9.out)))
      clear hown o9 p9 q9 r9 HWh
      go_upto_region 13 with (fail)
      refine wp_region_held_drew (S := fun w' => w'.cell? ⟨D, 0, none⟩ = some (.slice (some ⟨q, off, none⟩) nP sc) ∧ w'.cell? ⟨Qb, 0, none⟩ = some (.slice (some ⟨g3, 0, none⟩) n1 c3) ∧ w'.cell? ⟨rb, 0, none⟩ = some (.int .i64 (n1 : Int))) (by kernel_rfl) (CC.out _ OO.out) (fun hHeld => ?_)
      refine take_dst (some 52) (i := 0) (v := ?vkb1) rfl (by kernel_rfl) (by kernel_rfl) (by kernel_rfl) (by kernel_rfl) (fun _ _ _ h => h) (Or.inl ⟨by kernel_rfl, ?hkb1⟩) (by assumption) ?rkb1
      case hkb1 => (intro w hSw; (try dsimp only at hSw); first | (go_simp; done) | (go_simp; with_reducible rfl))
      try simp only [Act.put, List.setIfInBounds_toArray, List.set_cons_zero, List.set_cons_succ]
      refine take_dst (some 53) (i := 1) (v := ?vkb2) rfl (by kernel_rfl) (by kernel_rfl) (by kernel_rfl) (by kernel_rfl) (fun _ _ _ h => h) (Or.inl ⟨by kernel_rfl, ?hkb2⟩) (by assumption) ?rkb2
      case hkb2 => (intro w hSw; (try dsimp only at hSw); first | (go_simp; done) | (go_simp; with_reducible rfl))
      try simp only [Act.put, List.setIfInBounds_toArray, List.set_cons_zero, List.set_cons_succ]
      refine take_dst (some 54) (i := 2) (v := ?vkb3) rfl (by kernel_rfl) (by kernel_rfl) (by kernel_rfl) (by kernel_rfl) (fun _ _ _ h => h) (Or.inl ⟨by kernel_rfl, ?hkb3⟩) (by assumption) ?rkb3
      case hkb3 => (intro w hSw; (try dsimp only at hSw); first | (go_simp; done) | (go_simp; with_reducible rfl))
      try simp only [Act.put, List.setIfInBounds_toArray, List.set_cons_zero, List.set_cons_succ]
      refine take_dst (some 55) (i := 3) (v := ?vkb4) rfl (by kernel_rfl) (by kernel_rfl) (by kernel_rfl) (by kernel_rfl) (fun _ _ _ h => h) (Or.inl ⟨by kernel_rfl, ?hkb4⟩) (by assumption) ?rkb4
      case hkb4 => (intro w hSw; (try dsimp only at hSw); first | (go_simp; done) | (go_simp; with_reducible rfl))
      try simp only [Act.put, List.setIfInBounds_toArray, List.set_cons_zero, List.set_cons_succ]
      refine take_dst (some 56) (i := 4) (v := ?vkb5) rfl (by kernel_rfl) (by kernel_rfl) (by kernel_rfl) (by kernel_rfl) (fun _ _ _ h => h) (Or.inl ⟨by kernel_rfl, ?hkb5⟩) (by assumption) ?rkb5
      case hkb5 => (intro w hSw; (try dsimp only at hSw); first | (go_simp; done) | (go_simp; with_reducible rfl))
      try simp only [Act.put, List.setIfInBounds_toArray, List.set_cons_zero, List.set_cons_succ]
      refine take_dst (some 57) (i := 5) (v := undef) rfl (by kernel_rfl) (by kernel_rfl) (by kernel_rfl) (by kernel_rfl) (fun _ _ _ h => h) (Or.inr ⟨by kernel_rfl, rfl⟩) (by assumption) ?rkb6
      try simp only [Act.put, List.setIfInBounds_toArray, List.set_cons_zero, List.set_cons_succ]
      refine take_dst (some 58) (i := 6) (v := undef) rfl (by kernel_rfl) (by kernel_rfl) (by kernel_rfl) (by kernel_rfl) (fun _ _ _ h => h) (Or.inr ⟨by kernel_rfl, rfl⟩) (by assumption) ?rkb7
      try simp only [Act.put, List.setIfInBounds_toArray, List.set_cons_zero, List.set_cons_succ]
      refine take_dst (some 59) (i := 7) (v := undef) rfl (by kernel_rfl) (by kernel_rfl) (by kernel_rfl) (by kernel_rfl) (fun _ _ _ h => h) (Or.inr ⟨by kernel_rfl, rfl⟩) (by assumption) ?rkb8
      try simp only [Act.put, List.setIfInBounds_toArray, List.set_cons_zero, List.set_cons_succ]
      refine take_dst (some 60) (i := 8) (v := ?vkb9) rfl (by kernel_rfl) (by kernel_rfl) (by kernel_rfl) (by kernel_rfl) (fun _ _ _ h => h) (Or.inl ⟨by kernel_rfl, ?hkb9⟩) (by assumption) ?rkb9
      case hkb9 => (intro w hSw; (try dsimp only at hSw); first | (go_simp; done) | (go_simp; with_reducible rfl))
      try simp only [Act.put, List.setIfInBounds_toArray, List.set_cons_zero, List.set_cons_succ]
      refine take_dst (some 61) (i := 9) (v := ?vkb10) rfl (by kernel_rfl) (by kernel_rfl) (by kernel_rfl) (by kernel_rfl) (fun _ _ _ h => h) (Or.inl ⟨by kernel_rfl, ?hkb10⟩) (by assumption) ?rkb10
      case hkb10 => (intro w hSw; (try dsimp only at hSw); first | (go_simp; done) | (go_simp; with_reducible rfl))
      try simp only [Act.put, List.setIfInBounds_toArray, List.set_cons_zero, List.set_cons_succ]
      refine take_dst (some 62) (i := 10) (v := undef) rfl (by kernel_rfl) (by kernel_rfl) (by kernel_rfl) (by kernel_rfl) (fun _ _ _ h => h) (Or.inr ⟨by kernel_rfl, rfl⟩) (by assumption) ?rkb11
      try simp only [Act.put, List.setIfInBounds_toArray, List.set_cons_zero, List.set_cons_succ]
      refine take_dst (some 63) (i := 11) (v := undef) rfl (by kernel_rfl) (by kernel_rfl) (by kernel_rfl) (by kernel_rfl) (fun _ _ _ h => h) (Or.inr ⟨by kernel_rfl, rfl⟩) (by assumption) ?rkb12
      try simp only [Act.put, List.setIfInBounds_toArray, List.set_cons_zero, List.set_cons_succ]
      refine take_dst (some 64) (i := 12) (v := undef) rfl (by kernel_rfl) (by kernel_rfl) (by kernel_rfl) (by kernel_rfl) (fun _ _ _ h => h) (Or.inr ⟨by kernel_rfl, rfl⟩) (by assumption) ?rkb13
      try simp only [Act.put, List.setIfInBounds_toArray, List.set_cons_zero, List.set_cons_succ]
      refine take_dst (some 65) (i := 13) (v := ?vkb14) rfl (by kernel_rfl) (by kernel_rfl) (by kernel_rfl) (by kernel_rfl) (fun _ _ _ h => h) (Or.inl ⟨by kernel_rfl, ?hkb14⟩) (by assumption) ?rkb14
      case hkb14 => (intro w hSw; (try dsimp only at hSw); first | (go_simp; done) | (go_simp; with_reducible rfl))
      try simp only [Act.put, List.setIfInBounds_toArray, List.set_cons_zero, List.set_cons_succ]
      refine take_dst (some 66) (i := 14) (v := ?vkb15) rfl (by kernel_rfl) (by kernel_rfl) (by kernel_rfl) (by kernel_rfl) (fun _ _ _ h => h) (Or.inl ⟨by kernel_rfl, ?hkb15⟩) (by assumption) ?rkb15
      case hkb15 => (intro w hSw; (try dsimp only at hSw); first | (go_simp; done) | (go_simp; with_reducible rfl))
      try simp only [Act.put, List.setIfInBounds_toArray, List.set_cons_zero, List.set_cons_succ]
      refine take_dst (some 67) (i := 15) (v := ?vkb16) rfl (by kernel_rfl) (by kernel_rfl) (by kernel_rfl) (by kernel_rfl) (fun _ _ _ h => h) (Or.inl ⟨by kernel_rfl, ?hkb16⟩) (by assumption) ?rkb16
      case hkb16 => (intro w hSw; (try dsimp only at hSw); first | (go_simp; done) | (go_simp; with_reducible rfl))
      try simp only [Act.put, List.setIfInBounds_toArray, List.set_cons_zero, List.set_cons_succ]
      refine wpAnyH_ready (rs := [16]) (by kernel_rfl) (by simp) ?_
      refine AllReadyH.cons rfl (fun Kkb17 hKkb17 => ?_) AllReadyH.nil
      (go_simp; go_at_call 16; refine (HCd.out _ OO.out).mono ?_; rintro e wn ⟨rfl, on⟩; have O9 := Lib.hid (OO.out.trans on); clear OO on; have OO := O9; clear O9; go_wp2_with fail)
      refine hKkb17.out _ _ ?skb17 (fun hHeldkb17 => ?_)
      case skb17 => exact CC.out _ OO.out
      clear hKkb17 Kkb17
      try simp only [Act.put, List.setIfInBounds_toArray, List.set_cons_zero, List.set_cons_succ]
      refine take_dst (some 69) (i := 17) (v := ?vkb18) rfl (by kernel_rfl) (by kernel_rfl) (by kernel_rfl) (by kernel_rfl) (fun _ _ _ h => h) (Or.inl ⟨by kernel_rfl, ?hkb18⟩) (by assumption) ?rkb18
      case hkb18 => (intro w hSw; (try dsimp only at hSw); first | (go_simp; done) | (go_simp; with_reducible rfl))
      try simp only [Act.put, List.setIfInBounds_toArray, List.set_cons_zero, List.set_cons_succ]
      refine take_dst (some 70) (i := 18) (v := ?vkb19) rfl (by kernel_rfl) (by kernel_rfl) (by kernel_rfl) (by kernel_rfl) (fun _ _ _ h => h) (Or.inl ⟨by kernel_rfl, ?hkb19⟩) (by assumption) ?rkb19
      case hkb19 => (intro w hSw; (try dsimp only at hSw); first | (go_simp; done) | (go_simp; with_reducible rfl))
      try simp only [Act.put, List.setIfInBounds_toArray, List.set_cons_zero, List.set_cons_succ]
      refine take_dst (some 71) (i := 19) (v := ?vkb20) rfl (by kernel_rfl) (by kernel_rfl) (by kernel_rfl) (by kernel_rfl) (fun _ _ _ h => h) (Or.inl ⟨by kernel_rfl, ?hkb20⟩) (by assumption) ?rkb20
      case hkb20 => (intro w hSw; (try dsimp only at hSw); first | (go_simp; done) | (go_simp; with_reducible rfl))
      try simp only [Act.put, List.setIfInBounds_toArray, List.set_cons_zero, List.set_cons_succ]
      refine take_dst (some 72) (i := 20) (v := ?vkb21) rfl (by kernel_rfl) (by kernel_rfl) (by kernel_rfl) (by kernel_rfl) (fun _ _ _ h => h) (Or.inl ⟨by kernel_rfl, ?hkb21⟩) (by assumption) ?rkb21
      case hkb21 => (intro w hSw; (try dsimp only at hSw); first | (go_simp; done) | (go_simp; with_reducible rfl))
      try simp only [Act.put, List.setIfInBounds_toArray, List.set_cons_zero, List.set_cons_succ]
      refine take_dst (some 73) (i := 21) (v := ?vkb22) rfl (by kernel_rfl) (by kernel_rfl) (by kernel_rfl) (by kernel_rfl) (fun _ _ _ h => h) (Or.inl ⟨by kernel_rfl, ?hkb22⟩) (by assumption) ?rkb22
      case hkb22 => (intro w hSw; (try dsimp only at hSw); first | (go_simp; done) | (go_simp; with_reducible rfl))
      try simp only [Act.put, List.setIfInBounds_toArray, List.set_cons_zero, List.set_cons_succ]
      refine take_dst (some 74) (i := 22) (v := ?vkb23) rfl (by kernel_rfl) (by kernel_rfl) (by kernel_rfl) (by kernel_rfl) (fun _ _ _ h => h) (Or.inl ⟨by kernel_rfl, ?hkb23⟩) (by assumption) ?rkb23
      case hkb23 => (intro w hSw; (try dsimp only at hSw); first | (go_simp; done) | (go_simp; with_reducible rfl))
      try simp only [Act.put, List.setIfInBounds_toArray, List.set_cons_zero, List.set_cons_succ]
      refine take_dst (some 75) (i := 23) (v := ?vkb24) rfl (by kernel_rfl) (by kernel_rfl) (by kernel_rfl) (by kernel_rfl) (fun _ _ _ h => h) (Or.inl ⟨by kernel_rfl, ?hkb24⟩) (by assumption) ?rkb24
      case hkb24 => (intro w hSw; (try dsimp only at hSw); first | (go_simp; done) | (go_simp; with_reducible rfl))
      try simp only [Act.put, List.setIfInBounds_toArray, List.set_cons_zero, List.set_cons_succ]
      refine take_dst (some 76) (i := 24) (v := ?vkb25) rfl (by kernel_rfl) (by kernel_rfl) (by kernel_rfl) (by kernel_rfl) (fun _ _ _ h => h) (Or.inl ⟨by kernel_rfl, ?hkb25⟩) (by assumption) ?rkb25
      case hkb25 => (intro w hSw; (try dsimp only at hSw); first | (go_simp; done) | (go_simp; with_reducible rfl))
      try simp only [Act.put, List.setIfInBounds_toArray, List.set_cons_zero, List.set_cons_succ]
      refine take_dst (some 77) (i := 25) (v := ?vkb26) rfl (by kernel_rfl) (by kernel_rfl) (by kernel_rfl) (by kernel_rfl) (fun _ _ _ h => h) (Or.inl ⟨by kernel_rfl, ?hkb26⟩) (by assumption) ?rkb26
      case hkb26 => (intro w hSw; (try dsimp only at hSw); first | (go_simp; done) | (go_simp; with_reducible rfl))
      try simp only [Act.put, List.setIfInBounds_toArray, List.set_cons_zero, List.set_cons_succ]
      refine take_dst (some 78) (i := 26) (v := ?vkb27) rfl (by kernel_rfl) (by kernel_rfl) (by kernel_rfl) (by kernel_rfl) (fun _ _ _ h => h) (Or.inl ⟨by kernel_rfl, ?hkb27⟩) (by assumption) ?rkb27
      case hkb27 => (intro w hSw; (try dsimp only at hSw); first | (go_simp; done) | (go_simp; with_reducible rfl))
      try simp only [Act.put, List.setIfInBounds_toArray, List.set_cons_zero, List.set_cons_succ]
      refine take_dst (some 79) (i := 27) (v := ?vkb28) rfl (by kernel_rfl) (by kernel_rfl) (by kernel_rfl) (by kernel_rfl) (fun _ _ _ h => h) (Or.inl ⟨by kernel_rfl, ?hkb28⟩) (by assumption) ?rkb28
      case hkb28 => (intro w hSw; (try dsimp only at hSw); first | (go_simp; done) | (go_simp; with_reducible rfl))
      try simp only [Act.put, List.setIfInBounds_toArray, List.set_cons_zero, List.set_cons_succ]
      refine take_dst (some 80) (i := 28) (v := ?vkb29) rfl (by kernel_rfl) (by kernel_rfl) (by kernel_rfl) (by kernel_rfl) (fun _ _ _ h => h) (Or.inl ⟨by kernel_rfl, ?hkb29⟩) (by assumption) ?rkb29
      case hkb29 => (intro w hSw; (try dsimp only at hSw); first | (go_simp; done) | (go_simp; with_reducible rfl))
      try simp only [Act.put, List.setIfInBounds_toArray, List.set_cons_zero, List.set_cons_succ]
      refine take_dst (some 81) (i := 29) (v := ?vkb30) rfl (by kernel_rfl) (by kernel_rfl) (by kernel_rfl) (by kernel_rfl) (fun _ _ _ h => h) (Or.inl ⟨by kernel_rfl, ?hkb30⟩) (by assumption) ?rkb30
      case hkb30 => (intro w hSw; (try dsimp only at hSw); first | (go_simp; done) | (go_simp; with_reducible rfl))
      try simp only [Act.put, List.setIfInBounds_toArray, List.set_cons_zero, List.set_cons_succ]
      refine take_dst (some 82) (i := 30) (v := ?vkb31) rfl (by kernel_rfl) (by kernel_rfl) (by kernel_rfl) (by kernel_rfl) (fun _ _ _ h => h) (Or.inl ⟨by kernel_rfl, ?hkb31⟩) (by assumption) ?rkb31
      case hkb31 => (intro w hSw; (try dsimp only at hSw); first | (go_simp; done) | (go_simp; with_reducible rfl))
      try simp only [Act.put, List.setIfInBounds_toArray, List.set_cons_zero, List.set_cons_succ]
      refine take_dst (some 83) (i := 31) (v := ?vkb32) rfl (by kernel_rfl) (by kernel_rfl) (by kernel_rfl) (by kernel_rfl) (fun _ _ _ h => h) (Or.inl ⟨by kernel_rfl, ?hkb32⟩) (by assumption) ?rkb32
      case hkb32 => (intro w hSw; (try dsimp only at hSw); first | (go_simp; done) | (go_simp; with_reducible rfl))
      try simp only [Act.put, List.setIfInBounds_toArray, List.set_cons_zero, List.set_cons_succ]
      refine take_dst (some 84) (i := 32) (v := ?vkb33) rfl (by kernel_rfl) (by kernel_rfl) (by kernel_rfl) (by kernel_rfl) (fun _ _ _ h => h) (Or.inl ⟨by kernel_rfl, ?hkb33⟩) (by assumption) ?rkb33
      case hkb33 => (intro w hSw; (try dsimp only at hSw); first | (go_simp; done) | (go_simp; with_reducible rfl))
      try simp only [Act.put, List.setIfInBounds_toArray, List.set_cons_zero, List.set_cons_succ]
      refine take_dst (some 6) (i := 33) (v := ?vkb34) rfl (by kernel_rfl) (by kernel_rfl) (by kernel_rfl) (by kernel_rfl) (fun _ _ _ h => h) (Or.inl ⟨by kernel_rfl, ?hkb34⟩) (by assumption) ?rkb34
      case hkb34 => (intro w hSw; (try dsimp only at hSw); first | (go_simp; done) | (go_simp; with_reducible rfl))
      try simp only [Act.put, List.setIfInBounds_toArray, List.set_cons_zero, List.set_cons_succ]
      refine wpAnyH_done (by kernel_rfl) ?_ _
      go_wp2
      go_ret
      exact ⟨rfl, below_nil (OD.out.trans OO.out)⟩
end Go.Proofs.YthanclicnkjmiaaGreatDoor.Ch
