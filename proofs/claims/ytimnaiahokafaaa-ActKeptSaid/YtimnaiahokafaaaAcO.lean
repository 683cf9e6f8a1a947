/- act: copyOfKind, Row, Find. -/
import Derived.Test.YtimnaiahokafaaaAcN
set_option linter.unusedVariables false
set_option linter.unusedSimpArgs false
namespace Go.Proofs.Ytimnaiahokafaaa.Ac
open Go Go.RowKit Go.Proofs.Ytimnaiahokafaaa Lx Ps Ch


theorem FS.mono {w0 w1 w : World} {v : Value} {L : List Sta} (h : FS w1 w v L) (hs : w0.heap.size ≤ w1.heap.size) : FS w0 w v L := by
  obtain ⟨Z, z1, z2, z3, z4⟩ := h
  exact ⟨Z, z1, z2, new_mono z3 hs, fun y hy => (z4 y hy).mono hs⟩
set_option maxHeartbeats 2000000 in
set_option maxRecDepth 100000 in
theorem copyKd_any {D : Nat} {w : World} (x : Kd) {a1 a2 : Option Addr} {n1 c1 n2 c2 : Nat} (h1 : XC D w (.slice a1 n1 c1) x.cases) (h2 : XS D w (.slice a2 n2 c2) x.states) (e1 : x.cases.length = n1) (e2 : x.states.length = n2) (hb : bzK x) :
    Calls Try.prog 32 #[.agg #[.string (bs x.name), .int .i64 x.limit, .int .i64 x.within, .slice a1 n1 c1, .slice a2 n2 c2]] w fun e w' => (∃ b1 d1 b2 d2, e = .returned (.agg #[.string (bs x.name), .int .i64 x.limit, .int .i64 x.within, .slice b1 n1 d1, .slice b2 n2 d2]) ∧ Hid (MCs w' (.slice b1 n1 d1) x.cases ∧ FS w w' (.slice b2 n2 d2) x.states)) ∧ Only Nil w w' := by
  obtain ⟨W1, hW1⟩ : ∃ W, W = w.alloc (.cells #[.string (bs x.name), .int .i64 x.limit, .int .i64 x.within, .slice a1 n1 c1, .slice a2 n2 c2] 25) := ⟨_, rfl⟩
  have s1 : W1.heap.size = w.heap.size + 1 := by rw [hW1]; simp
  have o1 : Only Nil w W1 := hW1 ▸ (Only.refl Nil w).alloc _
  have b1 : Bx W1 (w.heap.size) [.string (bs x.name), .int .i64 x.limit, .int .i64 x.within, .slice a1 n1 c1, .slice a2 n2 c2] 25 := hW1 ▸ bx_new w _ _
  obtain ⟨W2, hW2⟩ : ∃ W, W = W1.alloc (.cells #[.string ⟨#[]⟩, .int .i64 0, .int .i64 0, .slice none 0 0, .slice none 0 0] 25) := ⟨_, rfl⟩
  have s2 : W2.heap.size = w.heap.size + 1 + 1 := by rw [hW2]; simp [s1]
  have o2 : Only Nil W1 W2 := hW2 ▸ (Only.refl Nil W1).alloc _
  have b2 : Bx W2 (w.heap.size + 1) [.string ⟨#[]⟩, .int .i64 0, .int .i64 0, .slice none 0 0, .slice none 0 0] 25 := by have h := bx_new W1 [.string ⟨#[]⟩, .int .i64 0, .int .i64 0, .slice none 0 0, .slice none 0 0] 25; rw [s1] at h; rw [hW2]; exact h
  have X1 := Lib.hid (b1.keep o2)
  have X2 := Lib.hid b2
  have O := Lib.hid (o1.trans o2)
  have SZ := Lib.hid s2
  have HC := Lib.hid (clone_cs (h1.keep O.out (nilS · D)) e1 (e1 ▸ hb.1))
  have HS := Lib.hid (fun w' (o : Only Nil w w') => eachSta_any (h2.keep o (nilS · D)) e2 (e2 ▸ hb.2.1) hb.2.2)
  clear h1 h2 e1 e2 hb
  go_enter Try.func32, Try.ntmps32
  go_upto_region 1 with (fail)
  (try simp only [World.size_alloc])
  rw [← hW1, ← hW2]
  clear hW1 s1 o1 b1 hW2 s2 o2 b2
  generalize hB2 : w.heap.size + 1 = B2 at *
  generalize hB1 : w.heap.size = B1 at *
  have HB1 := Lib.hid hB1
  have HB2 := Lib.hid hB2
  clear hB1 hB2
  have k3 := X1.out.cell 3 (v := .slice a1 n1 c1) rfl
  go_wp2_with fail
  refine HC.out.mono ?_
  rintro e w1 ⟨⟨b1, d1, rfl, hM⟩, o1⟩
  have Y1 := X1.out.keep o1
  have Y2 := X2.out.keep o1
  have k3 := Y1.cell 3 (v := .slice a1 n1 c1) rfl
  have f3 := Y1.free 3
  go_upto_region 2 with (fail)
  have P1 := Lib.hid (bx_set Y1 3 (.slice b1 n1 d1))
  simp only [List.set_cons_zero, List.set_cons_succ] at P1
  have oA := (Only.refl (At B1) w1).setCell (p := ⟨B1, 3, none⟩) rfl (.slice b1 n1 d1)
  have P2 := Lib.hid (Y2.at_ oA (by have := HB2.out; omega))
  have M1 := Lib.hid (MCs.keep (t := 25) hM.out.1 oA (ofT_at (show w1.heap[B1]? = _ from Y1)) (by decide))
  have O2 := Lib.hid ((O.out.trans o1).then oA (fun k hk hlt => by have e1 : k = B1 := hk; have := HB1.out; omega))
  generalize w1.setCell ⟨B1, 3, none⟩ (.slice b1 n1 d1) = w2 at *
  clear k3 f3 oA Y1 Y2 hM o1
  have HS2 := Lib.hid (HS.out w2 O2.out)
  have k4 := P1.out.cell 4 (v := .slice a2 n2 c2) rfl
  go_wp2_with fail
  refine HS2.out.mono ?_
  rintro e w3 ⟨⟨b2, d2, rfl, hF⟩, o3⟩
  have Y1 := P1.out.keep o3
  have Y2 := P2.out.keep o3
  have k4 := Y1.cell 4 (v := .slice a2 n2 c2) rfl
  have f4 := Y1.free 4
  go_upto_region 3 with (fail)
  have Q1 := bx_set Y1 4 (.slice b2 n2 d2)
  simp only [List.set_cons_zero, List.set_cons_succ] at Q1
  have oA := (Only.refl (At B1) w3).setCell (p := ⟨B1, 4, none⟩) rfl (.slice b2 n2 d2)
  have Q2 := Y2.at_ oA (by have := HB2.out; omega)
  have hT1 : OfT 25 (At B1) w3 := ofT_at (show w3.heap[B1]? = _ from Y1)
  have M3 := MCs.keep (t := 25) (MCs.keep (t := 25) M1.out o3 (ofT_nil _ _) (by decide)) oA hT1 (by decide)
  have F3 := FS.keep (t := 25) hF.out oA hT1 (by decide) (by decide) (by decide)
  have O4 := (O2.out.trans o3).then oA (fun k hk hlt => by have e1 : k = B1 := hk; have := HB1.out; omega)
  generalize w3.setCell ⟨B1, 4, none⟩ (.slice b2 n2 d2) = w4 at *
  clear k4 f4 oA Y1 Y2
  have k0 := Q1.cell 0 (v := .string (bs x.name)) rfl
  have k1 := Q1.cell 1 (v := .int .i64 x.limit) rfl
  have k2 := Q1.cell 2 (v := .int .i64 x.within) rfl
  have k3 := Q1.cell 3 (v := .slice b1 n1 d1) rfl
  have k4 := Q1.cell 4 (v := .slice b2 n2 d2) rfl
  have z0 := Q2.cell 0 (v := .string ⟨#[]⟩) rfl
  have z1 := Q2.cell 1 (v := .int .i64 0) rfl
  have z2 := Q2.cell 2 (v := .int .i64 0) rfl
  have z3 := Q2.cell 3 (v := .slice none 0 0) rfl
  have z4 := Q2.cell 4 (v := .slice none 0 0) rfl
  have f0 := Q2.free 0
  have f1 := Q2.free 1
  have f2 := Q2.free 2
  have f3 := Q2.free 3
  have f4 := Q2.free 4
  go_wp2
  have t1 := bx_set (Q2) 0 (.string (bs x.name))
  have t2 := bx_set (t1) 1 (.int .i64 x.limit)
  have t3 := bx_set (t2) 2 (.int .i64 x.within)
  have t4 := bx_set (t3) 3 (.slice b1 n1 d1)
  have t5 := bx_set (t4) 4 (.slice b2 n2 d2)
  simp only [List.set_cons_zero, List.set_cons_succ] at t5
  have oB := ((((((Only.refl (At B2) w4).setCell (p := ⟨B2, 0, none⟩) rfl (.string (bs x.name))).setCell (p := ⟨B2, 1, none⟩) rfl (.int .i64 x.limit)).setCell (p := ⟨B2, 2, none⟩) rfl (.int .i64 x.within)).setCell (p := ⟨B2, 3, none⟩) rfl (.slice b1 n1 d1)).setCell (p := ⟨B2, 4, none⟩) rfl (.slice b2 n2 d2))
  have hT : OfT 25 (At B2) w4 := ofT_at (show w4.heap[B2]? = _ from Q2)
  refine bodyPost_ret (results_agg rfl _ _ B2 [.string (bs x.name), .int .i64 x.limit, .int .i64 x.within, .slice b1 n1 d1, .slice b2 n2 d2] Try.isAgg25 Try.sizeOf25 rfl t5) rfl ?_
  have F4 := FS.keep (t := 25) F3 oB hT (by decide) (by decide) (by decide)
  have F5 := F4.mono O2.out.size
  exact ⟨⟨b1, d1, b2, d2, rfl, Lib.hid ⟨MCs.keep (t := 25) M3 oB hT (by decide), F5⟩⟩, O4.then oB (fun k hk hlt => by have e1 : k = B2 := hk; have := HB2.out; have := HB1.out; omega)⟩

set_option maxHeartbeats 2000000 in
set_option maxRecDepth 100000 in
theorem row_any {D : Nat} {w : World} {nm : Wd} {lim wi : Int} {S : List Sta} {a2 : Option Addr} {c2 n2 : Nat} {v1 : Value} (hS : SIn D w a2 n2 c2 S) (s t : Wd) (n0 : Int) :
    Calls Try.prog 17 #[.agg #[.string (bs nm), .int .i64 lim, .int .i64 wi, v1, .slice a2 n2 c2], .string (bs s), .string (bs t), .int .i64 n0] w fun e w' => Hid (∃ a' c', e = .returned (.tuple #[.agg #[.string (bs (rowOf S s t n0).tag), .bool (rowOf S s t n0).only, .int .i64 (rowOf S s t n0).n, .slice a' (rowOf S s t n0).effs.length c'], .bool (rowO S s t n0).isSome]) ∧ MEff w' (.slice a' (rowOf S s t n0).effs.length c') (rowOf S s t n0).effs) ∧ Only Nil w w' := by
  obtain ⟨W1, hW1⟩ : ∃ W, W = w.alloc (.cells #[.string (bs nm), .int .i64 lim, .int .i64 wi, v1, .slice a2 n2 c2] 25) := ⟨_, rfl⟩
  have s1 : W1.heap.size = w.heap.size + 1 := by rw [hW1]; simp
  have o1 : Only Nil w W1 := hW1 ▸ (Only.refl Nil w).alloc _
  have b1 : Bx W1 (w.heap.size) [.string (bs nm), .int .i64 lim, .int .i64 wi, v1, .slice a2 n2 c2] 25 := hW1 ▸ bx_new w _ _
  obtain ⟨W2, hW2⟩ : ∃ W, W = W1.alloc (.cells #[.string ⟨#[]⟩, .bool false, .int .i64 0, .slice none 0 0] 40) := ⟨_, rfl⟩
  have s2 : W2.heap.size = w.heap.size + 1 + 1 := by rw [hW2]; simp [s1]
  have o2 : Only Nil W1 W2 := hW2 ▸ (Only.refl Nil W1).alloc _
  have b2 : Bx W2 (w.heap.size + 1) [.string ⟨#[]⟩, .bool false, .int .i64 0, .slice none 0 0] 40 := by have h := bx_new W1 [.string ⟨#[]⟩, .bool false, .int .i64 0, .slice none 0 0] 40; rw [s1] at h; rw [hW2]; exact h
  have X1 := Lib.hid (b1.keep o2)
  have X2 := Lib.hid b2
  have O := Lib.hid (o1.trans o2)
  have SZ := Lib.hid s2
  have h2 := hS.keep O.out
  have HM := Lib.hid (met_any (nm := nm) (lim := lim) (wi := wi) (v1 := v1) h2.x h2.hn h2.hb (fun x hx => by have := (h2.bz x hx).1; omega) h2.hD s t n0)
  have HZ := Lib.hid (row_bz h2.bz s t n0)
  obtain ⟨r, hr0⟩ : ∃ r, r = rowOf S s t n0 := ⟨_, rfl⟩
  rw [← hr0] at HM HZ
  rw [← hr0]
  generalize (rowO S s t n0).isSome = zf at *
  clear hr0 h2 hS
  go_enter Try.func17, Try.ntmps17
  go_upto_region 1 with (fail)
  (try simp only [World.size_alloc])
  rw [← hW1, ← hW2]
  clear hW1 s1 o1 b1 hW2 s2 o2 b2
  generalize hB2 : w.heap.size + 1 = B2 at *
  generalize hB1 : w.heap.size = B1 at *
  have HB1 := Lib.hid hB1
  have HB2 := Lib.hid hB2
  clear hB1 hB2
  have k0 := X1.out.cell 0 (v := .string (bs nm)) rfl
  have k1 := X1.out.cell 1 (v := .int .i64 lim) rfl
  have k2 := X1.out.cell 2 (v := .int .i64 wi) rfl
  have k3 := X1.out.cell 3 (v := v1) rfl
  have k4 := X1.out.cell 4 (v := .slice a2 n2 c2) rfl
  go_wp2_with fail
  refine HM.out.mono ?_
  rintro e w1 ⟨hr, o1⟩
  obtain ⟨s1, he, g1⟩ := hr.out
  obtain ⟨a, c, rfl⟩ := g1.slice
  have he1 : e = .returned (.tuple #[.agg #[.string (bs r.tag), .bool r.only, .int .i64 r.n, .slice a r.effs.length c], .bool zf]) := he
  subst he1
  clear hr he k0 k1 k2 k3 k4
  obtain ⟨w2, hw2⟩ : ∃ w2, w2 = w1.alloc (.cells #[.string (bs r.tag), .bool r.only, .int .i64 r.n, .slice a r.effs.length c] 40) := ⟨_, rfl⟩
  have o2 : Only Nil w1 w2 := hw2 ▸ (Only.refl Nil w1).alloc _
  have b3 : Bx w2 w1.heap.size [.string (bs r.tag), .bool r.only, .int .i64 r.n, .slice a r.effs.length c] 40 := hw2 ▸ bx_new w1 _ _
  have O2 := Lib.hid (O.out.trans (o1.trans o2))
  have Y2 := Lib.hid (X2.out.keep (o1.trans o2))
  have HC := Lib.hid (copyRow_any r (g1.keep o2 (nilS · D)) rfl HZ.out)
  generalize hm : r.effs.length = m at *
  go_upto_region 2 with (fail)
  rw [← hw2]; clear hw2 g1 o1 o2 HM X1 X2
  generalize w1.heap.size = B3 at *
  have k0 := b3.cell 0 (v := .string (bs r.tag)) rfl
  have k1 := b3.cell 1 (v := .bool r.only) rfl
  have k2 := b3.cell 2 (v := .int .i64 r.n) rfl
  have k3 := b3.cell 3 (v := .slice a m c) rfl
  go_wp2_with fail
  refine HC.out.mono ?_
  rintro e w3 ⟨⟨a', c', rfl, hMM⟩, o3⟩
  have y3 := Y2.out.keep o3
  have O3 := O2.out.trans o3
  have z0 := y3.cell 0 (v := .string ⟨#[]⟩) rfl
  have z1 := y3.cell 1 (v := .bool false) rfl
  have z2 := y3.cell 2 (v := .int .i64 0) rfl
  have z3 := y3.cell 3 (v := .slice none 0 0) rfl
  have f0 := y3.free 0
  have f1 := y3.free 1
  have f2 := y3.free 2
  have f3 := y3.free 3
  clear k0 k1 k2 k3
  go_wp2
  have t1 := bx_set (y3) 0 (.string (bs r.tag))
  have t2 := bx_set (t1) 1 (.bool r.only)
  have t3 := bx_set (t2) 2 (.int .i64 r.n)
  have t4 := bx_set (t3) 3 ((.slice a' m c'))
  simp only [List.set_cons_zero, List.set_cons_succ] at t4
  have oB := (((((Only.refl (At B2) w3).setCell (p := ⟨B2, 0, none⟩) rfl (.string (bs r.tag))).setCell (p := ⟨B2, 1, none⟩) rfl (.bool r.only)).setCell (p := ⟨B2, 2, none⟩) rfl (.int .i64 r.n)).setCell (p := ⟨B2, 3, none⟩) rfl ((.slice a' m c')))
  have hT : OfT 40 (At B2) w3 := ofT_at (show w3.heap[B2]? = _ from y3)
  refine bodyPost_ret (results_ag1 rfl _ _ B2 [.string (bs r.tag), .bool r.only, .int .i64 r.n, .slice a' m c'] (.bool zf) Try.isAgg40 Try.sizeOf40 rfl rfl t4) rfl ?_
  exact ⟨Lib.hid ⟨a', c', by first | rfl | (rw [hm]; done) | (rw [hm]; rfl), by first | exact MEff.keep (t := 40) hMM.out.1 oB hT (by decide) | (rw [hm]; exact MEff.keep (t := 40) hMM.out.1 oB hT (by decide))⟩, O3.then oB (fun k hk hlt => by have e1 : k = B2 := hk; have := HB2.out; have := HB1.out; omega)⟩

theorem kd_bz {P : List Kd} (h : bzP P) (s : Wd) : bzK ((P.find? (called s)).getD zK) := by
  cases hf : P.find? (called s) with
  | none => exact ⟨by simp [zK], by simp [zK], fun y hy => by simp [zK] at hy⟩
  | some x => exact h.2 x (List.mem_of_find?_eq_some hf)
set_option maxHeartbeats 2000000 in
set_option maxRecDepth 100000 in
theorem find_any {D : Nat} {w : World} {a : Option Addr} {n c : Nat} {P : List Kd} (h : XK D w (.slice a n c) P) (hn : P.length = n) (hb : bzP P) (hD : D ≤ w.heap.size) (s : Wd) :
    Calls Try.prog 15 #[.agg #[.slice a n c], .string (bs s)] w fun e w' => Hid (∃ b1 d1 b2 d2, e = .returned (.tuple #[.agg #[.string (bs ((P.find? (called s)).getD zK).name), .int .i64 ((P.find? (called s)).getD zK).limit, .int .i64 ((P.find? (called s)).getD zK).within, .slice b1 ((P.find? (called s)).getD zK).cases.length d1, .slice b2 ((P.find? (called s)).getD zK).states.length d2], .bool (P.find? (called s)).isSome]) ∧ MCs w' (.slice b1 ((P.find? (called s)).getD zK).cases.length d1) ((P.find? (called s)).getD zK).cases ∧ FS w w' (.slice b2 ((P.find? (called s)).getD zK).states.length d2) ((P.find? (called s)).getD zK).states) ∧ Only Nil w w' := by
  obtain ⟨W1, hW1⟩ : ∃ W, W = w.alloc (.cells #[.slice a n c] 35) := ⟨_, rfl⟩
  have s1 : W1.heap.size = w.heap.size + 1 := by rw [hW1]; simp
  have o1 : Only Nil w W1 := hW1 ▸ (Only.refl Nil w).alloc _
  have b1 : Bx W1 (w.heap.size) [.slice a n c] 35 := hW1 ▸ bx_new w _ _
  obtain ⟨W2, hW2⟩ : ∃ W, W = W1.alloc (.cells #[.string (bs s)] 9) := ⟨_, rfl⟩
  have s2 : W2.heap.size = w.heap.size + 1 + 1 := by rw [hW2]; simp [s1]
  have o2 : Only Nil W1 W2 := hW2 ▸ (Only.refl Nil W1).alloc _
  have b2 : Bx W2 (w.heap.size + 1) [.string (bs s)] 9 := by have h := bx_new W1 [.string (bs s)] 9; rw [s1] at h; rw [hW2]; exact h
  obtain ⟨W3, hW3⟩ : ∃ W, W = W2.alloc (.cells #[.string ⟨#[]⟩, .int .i64 0, .int .i64 0, .slice none 0 0, .slice none 0 0] 25) := ⟨_, rfl⟩
  have s3 : W3.heap.size = w.heap.size + 1 + 1 + 1 := by rw [hW3]; simp [s2]
  have o3 : Only Nil W2 W3 := hW3 ▸ (Only.refl Nil W2).alloc _
  have b3 : Bx W3 (w.heap.size + 1 + 1) [.string ⟨#[]⟩, .int .i64 0, .int .i64 0, .slice none 0 0, .slice none 0 0] 25 := by have h := bx_new W2 [.string ⟨#[]⟩, .int .i64 0, .int .i64 0, .slice none 0 0, .slice none 0 0] 25; rw [s2] at h; rw [hW3]; exact h
  have X1 := Lib.hid ((b1.keep o2).keep o3)
  have X2 := Lib.hid (b2.keep o3)
  have X3 := Lib.hid b3
  have O := Lib.hid ((o1.trans o2).trans o3)
  have SZ := Lib.hid s3
  have hbn : n ≤ 140737488355328 := by have := hb.1; omega
  have HP : Pred_kd W3 (.func (.func 31) #[] #[.pointer (some ⟨w.heap.size + 1, 0, none⟩)]) (called s) :=
    ⟨31, #[], #[.pointer (some ⟨w.heap.size + 1, 0, none⟩)], rfl, enters_of Try.func31 (by kernel_rfl) rfl, fun w'' x a1 n1 c1 a2 n2 c2 o'' => find1_any s _ ((X2.out.keep o'').cell 0 rfl) x a1 n1 c1 a2 n2 c2⟩
  have HF := Lib.hid (first_kd (h.keep O.out (nilS · D)) hn hbn (Nat.le_trans hD O.out.size) HP)
  have HZ := Lib.hid (kd_bz hb s)
  obtain ⟨x, hx0⟩ : ∃ x, x = (P.find? (called s)).getD zK := ⟨_, rfl⟩
  rw [← hx0] at HF HZ
  rw [← hx0]
  generalize (P.find? (called s)).isSome = zf at *
  clear hx0 h hn hb HP hD
  go_enter Try.func15, Try.ntmps15
  go_upto_region 1 with (fail)
  (try simp only [World.size_alloc])
  rw [← hW1, ← hW2, ← hW3]
  clear hW1 s1 o1 b1 hW2 s2 o2 b2 hW3 s3 o3 b3
  generalize hB3 : w.heap.size + 1 + 1 = B3 at *
  generalize hB2 : w.heap.size + 1 = B2 at *
  generalize hB1 : w.heap.size = B1 at *
  have HB1 := Lib.hid hB1
  have HB2 := Lib.hid hB2
  have HB3 := Lib.hid hB3
  clear hB1 hB2 hB3
  have k0 := X1.out.cell 0 (v := .slice a n c) rfl
  go_wp2_with fail
  refine HF.out.mono ?_
  rintro e w1 ⟨hr, o1⟩
  obtain ⟨s1, s2, he, g1, g2⟩ := hr.out
  obtain ⟨a1, c1, rfl⟩ := g1.slice
  obtain ⟨a2, c2, rfl⟩ := g2.slice
  have he1 : e = .returned (.tuple #[.agg #[.string (bs x.name), .int .i64 x.limit, .int .i64 x.within, .slice a1 x.cases.length c1, .slice a2 x.states.length c2], .bool zf]) := he
  subst he1
  clear hr he k0
  obtain ⟨w2, hw2⟩ : ∃ w2, w2 = w1.alloc (.cells #[.string (bs x.name), .int .i64 x.limit, .int .i64 x.within, .slice a1 x.cases.length c1, .slice a2 x.states.length c2] 25) := ⟨_, rfl⟩
  have o2 : Only Nil w1 w2 := hw2 ▸ (Only.refl Nil w1).alloc _
  have b3 : Bx w2 w1.heap.size [.string (bs x.name), .int .i64 x.limit, .int .i64 x.within, .slice a1 x.cases.length c1, .slice a2 x.states.length c2] 25 := hw2 ▸ bx_new w1 _ _
  have O2 := Lib.hid (O.out.trans (o1.trans o2))
  have Y3 := Lib.hid (X3.out.keep (o1.trans o2))
  have HC := Lib.hid (copyKd_any x (g1.keep o2 (nilS · D)) (g2.keep o2 (nilS · D)) rfl rfl HZ.out)
  generalize hm1 : x.cases.length = n1 at *
  generalize hm2 : x.states.length = n2 at *
  go_upto_region 2 with (fail)
  rw [← hw2]; clear hw2 g1 g2 o1 o2 HF X1 X2 X3
  generalize w1.heap.size = B4 at *
  have k0 := b3.cell 0 (v := .string (bs x.name)) rfl
  have k1 := b3.cell 1 (v := .int .i64 x.limit) rfl
  have k2 := b3.cell 2 (v := .int .i64 x.within) rfl
  have k3 := b3.cell 3 (v := .slice a1 n1 c1) rfl
  have k4 := b3.cell 4 (v := .slice a2 n2 c2) rfl
  go_wp2_with fail
  refine HC.out.mono ?_
  rintro e w3 ⟨⟨b1, d1, b2, d2, rfl, hMM⟩, o3⟩
  have y3 := Y3.out.keep o3
  have O3 := O2.out.trans o3
  have z0 := y3.cell 0 (v := .string ⟨#[]⟩) rfl
  have z1 := y3.cell 1 (v := .int .i64 0) rfl
  have z2 := y3.cell 2 (v := .int .i64 0) rfl
  have z3 := y3.cell 3 (v := .slice none 0 0) rfl
  have z4 := y3.cell 4 (v := .slice none 0 0) rfl
  have f0 := y3.free 0
  have f1 := y3.free 1
  have f2 := y3.free 2
  have f3 := y3.free 3
  have f4 := y3.free 4
  clear k0 k1 k2 k3 k4
  go_wp2
  have t1 := bx_set (y3) 0 (.string (bs x.name))
  have t2 := bx_set (t1) 1 (.int .i64 x.limit)
  have t3 := bx_set (t2) 2 (.int .i64 x.within)
  have t4 := bx_set (t3) 3 (.slice b1 n1 d1)
  have t5 := bx_set (t4) 4 (.slice b2 n2 d2)
  simp only [List.set_cons_zero, List.set_cons_succ] at t5
  have oB := ((((((Only.refl (At B3) w3).setCell (p := ⟨B3, 0, none⟩) rfl (.string (bs x.name))).setCell (p := ⟨B3, 1, none⟩) rfl (.int .i64 x.limit)).setCell (p := ⟨B3, 2, none⟩) rfl (.int .i64 x.within)).setCell (p := ⟨B3, 3, none⟩) rfl (.slice b1 n1 d1)).setCell (p := ⟨B3, 4, none⟩) rfl (.slice b2 n2 d2))
  have hT : OfT 25 (At B3) w3 := ofT_at (show w3.heap[B3]? = _ from y3)
  refine bodyPost_ret (results_ag1 rfl _ _ B3 [.string (bs x.name), .int .i64 x.limit, .int .i64 x.within, .slice b1 n1 d1, .slice b2 n2 d2] (.bool zf) Try.isAgg25 Try.sizeOf25 rfl rfl t5) rfl ?_
  have F4 := FS.keep (t := 25) hMM.out.2 oB hT (by decide) (by decide) (by decide)
  have F5 := F4.mono O2.out.size
  have M5 := MCs.keep (t := 25) hMM.out.1 oB hT (by decide)
  refine ⟨Lib.hid ⟨b1, d1, b2, d2, ?_, ?_, ?_⟩, O3.then oB (fun k hk hlt => by have e1 : k = B3 := hk; have := HB3.out; have := HB2.out; have := HB1.out; omega)⟩
  · first | rfl | (rw [hm1, hm2]; done) | (rw [hm1, hm2]; rfl)
  · first | exact M5 | (rw [hm1]; exact M5)
  · first | exact F5 | (rw [hm2]; exact F5)
end Go.Proofs.Ytimnaiahokafaaa.Ac
