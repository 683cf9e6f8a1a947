/- act: ActRows. -/
import Derived.Test.YtimnaiahokafaaaAcL
import Derived.Test.YtimnaiahokafaaaAcO
import Derived.Test.YtimnaiahokafaaaAcR
import Derived.StillTailTactics
set_option linter.unusedVariables false
set_option linter.unusedSimpArgs false
namespace Go.Proofs.Ytimnaiahokafaaa.Ac
open Go Go.RowKit Go.Proofs.Ytimnaiahokafaaa Lx Ps Ch

theorem kone {w : World} {q D1 D2 : Nat} (x : Kd) {v1 v2 : Value} (h : Bx w q [.string (bs x.name), .int .i64 x.limit, .int .i64 x.within, v1, v2] 25) (h1 : XC D1 w v1 x.cases) (h2 : XS D2 w v2 x.states) (e1 : D1 ≤ w.heap.size) (e2 : D2 ≤ w.heap.size) : XK w.heap.size w (.slice (some ⟨q, 0, none⟩) 1 1) [x] :=
  ⟨[(x, v1, v2)], rfl, cin_box h rfl (lt_of_block h), fun y hy => by rw [List.mem_singleton.1 hy]; exact ⟨h1.mono e1, h2.mono e2⟩⟩
theorem bz_sm {x : Kd} (h : bzK x) : smP [x] := by
  have hs := h.sz
  refine ⟨by simp, fun k hk => ?_⟩
  rw [List.mem_singleton.1 hk]
  exact ⟨hs.1, hs.2.1, fun s hs' => hs.2.2 s hs'⟩
set_option maxHeartbeats 16000000 in
set_option maxRecDepth 100000 in
theorem rows_all {w : World} (P : List Kd) {sa : Option Addr} {nP sc : Nat} (hx : XK w.heap.size w (.slice sa nP sc) P) (hn : P.length = nP) (wf : wfP P) (bz : bzP P) (kd s t : Wd) (n : Int) (hin : inW n) :
    Calls Try.prog 4 #[.agg #[.slice sa nP sc], .string (bs kd), .string (bs s), .string (bs t), .int .i64 n] w fun e w' => e = .returned (.bool true) ∧ Below w.heap.size w w' := by
  obtain ⟨W1, hW1⟩ : ∃ W, W = w.alloc (.cells #[.slice sa nP sc] 35) := ⟨_, rfl⟩
  have s1 : W1.heap.size = w.heap.size + 1 := by rw [hW1]; simp
  have o1 : Only Nil w W1 := hW1 ▸ (Only.refl Nil w).alloc _
  have b1 : Bx W1 (w.heap.size) [.slice sa nP sc] 35 := hW1 ▸ bx_new w _ _
  have X1 := Lib.hid b1
  have O := Lib.hid o1
  have SZ := Lib.hid s1
  have HA := Lib.hid (alive_any W1)
  have HX := Lib.hid (hx.keep O.out (nilS · _))
  have HN := Lib.hid hn
  have HWF := Lib.hid wf
  have HBZ := Lib.hid bz
  have hbP : nP ≤ 140737488355328 := by rw [← hn]; have := bz.1; omega
  have hbPi : (nP : Int) ≤ 140737488355328 := by omega
  have HBP := Lib.hid hbP
  have HDw := Lib.hid (show w.heap.size ≤ W1.heap.size from O.out.size)
  clear hx hn wf bz hbP
  go_enter Try.func4, Try.ntmps4
  go_upto_region 1 with (fail)
  (try simp only [World.size_alloc])
  rw [← hW1]
  clear hW1 s1 o1 b1
  generalize hB1 : w.heap.size = B1 at *
  have HB1 := Lib.hid hB1
  clear hB1
  go_wp2_with fail
  refine HA.out.mono ?_
  rintro e w1 ⟨rfl, o1⟩
  have O1 := Lib.hid (O.out.trans o1)
  have Y1 := Lib.hid (X1.out.keep o1)
  have HF := Lib.hid (find_any (HX.out.keep o1 (nilS · _)) HN.out HBZ.out (Nat.le_trans HDw.out o1.size) kd)
  have k0 := Y1.out.cell 0 (v := .slice sa nP sc) rfl
  have HX1 := Lib.hid (HX.out.keep o1 (nilS · _))
  have HD1 := Lib.hid (Nat.le_trans HDw.out o1.size)
  clear o1 HA X1 HX HDw
  go_wp2_with fail
  refine HF.out.mono ?_
  rintro e w2 ⟨hr, o2⟩
  obtain ⟨b1, d1, b2, d2, he, hM, hF⟩ := hr.out
  cases hf : P.find? (called kd) with
  | none =>
    rw [hf] at he hM hF
    have he1 : e = .returned (.tuple #[.agg #[.string (bs []), .int .i64 0, .int .i64 0, .slice b1 0 d1, .slice b2 0 d2], .bool false]) := he
    subst he1
    obtain ⟨w3, hw3⟩ : ∃ w3, w3 = w2.alloc (.cells #[.string (bs []), .int .i64 0, .int .i64 0, .slice b1 0 d1, .slice b2 0 d2] 25) := ⟨_, rfl⟩
    have o3 : Only Nil w2 w3 := hw3 ▸ (Only.refl Nil w2).alloc _
    have BK := Lib.hid (show Bx w3 w2.heap.size [.string (bs []), .int .i64 0, .int .i64 0, .slice b1 0 d1, .slice b2 0 d2] 25 from hw3 ▸ bx_new w2 _ _)
    have O3 := Lib.hid (O1.out.trans (o2.trans o3))
    have Y3 := Lib.hid (Y1.out.keep (o2.trans o3))
    have HK := Lib.hid (rkind_any (HX1.out.keep (o2.trans o3) (nilS · _)) HN.out HBP.out kd)
    have hS : SIn w2.heap.size w2 b2 0 d2 [] := ⟨hF.x, rfl, by omega, (fun y hy => nomatch hy), (fun y hy => nomatch hy), Nat.le_refl _⟩
    have HS := Lib.hid (hS.keep o3)
    have HFN := Lib.hid hf
    clear hr he hM hF hS o2 o3 k0 hf HF
    go_upto_region 4 with (fail)
    rw [← hw3]; clear hw3
    generalize w2.heap.size = B2 at *
    have k0 := Y3.out.cell 0 (v := .slice sa nP sc) rfl
    go_wp2_with fail
    refine HK.out.mono ?_
    rintro e w4 ⟨hr, o4⟩
    rcases hr.out with ⟨i, y, rfl, hi, hP, hFd⟩ | ⟨hFn, rfl⟩
    · exact absurd (HFN.out.symm.trans hFd) (by simp)
    have bk := BK.out.keep o4
    have HR := Lib.hid (row_any (nm := []) (lim := 0) (wi := 0) (v1 := .slice b1 0 d1) (HS.out.keep o4) s t n)
    have O4 := Lib.hid (O3.out.trans o4)
    have BK4 := Lib.hid bk
    clear hr hFn HK o4 k0 Y3
    have q0 := bk.cell 0 (v := .string (bs [])) rfl
    have q1 := bk.cell 1 (v := .int .i64 0) rfl
    have q2 := bk.cell 2 (v := .int .i64 0) rfl
    have q3 := bk.cell 3 (v := .slice b1 0 d1) rfl
    have q4 := bk.cell 4 (v := .slice b2 0 d2) rfl
    go_wp2_with fail
    refine HR.out.mono ?_
    rintro e w5 ⟨hr, o5⟩
    obtain ⟨a', c', he, _⟩ := hr.out
    have he1 : e = .returned (.tuple #[.agg #[.string (bs []), .bool false, .int .i64 0, (.slice a' 0 c')], .bool false]) := he
    subst he1
    obtain ⟨w6, hw6⟩ : ∃ w6, w6 = w5.alloc (.cells #[.string (bs []), .bool false, .int .i64 0, (.slice a' 0 c')] 40) := ⟨_, rfl⟩
    have o6 : Only Nil w5 w6 := hw6 ▸ (Only.refl Nil w5).alloc _
    have BR := Lib.hid (show Bx w6 w5.heap.size [.string (bs []), .bool false, .int .i64 0, (.slice a' 0 c')] 40 from hw6 ▸ bx_new w5 [.string (bs []), .bool false, .int .i64 0, (.slice a' 0 c')] _)
    have O6 := Lib.hid (O4.out.trans (o5.trans o6))
    have bk := BK4.out.keep (o5.trans o6)
    clear hr he o5 o6 q0 q1 q2 q3 q4 HR
    go_upto_region 7 with (fail)
    rw [← hw6]; clear hw6
    generalize w5.heap.size = B3 at *
    have em : (bs []).toList.isEmpty = true := by rw [emp_bs]; rfl
    have q0 := bk.cell 0 (v := .string (bs [])) rfl
    have q4 := bk.cell 4 (v := .slice b2 0 d2) rfl
    have r3 := BR.out.cell 3 (v := .slice a' 0 c') rfl
    go_wp2
    go_ret
    exact ⟨rfl, below_of O6.out⟩
  | some x =>
    rw [hf] at he hM hF
    have he1 : e = .returned (.tuple #[.agg #[.string (bs x.name), .int .i64 x.limit, .int .i64 x.within, .slice b1 x.cases.length d1, .slice b2 x.states.length d2], .bool true]) := he
    have hM : MCs w2 (.slice b1 x.cases.length d1) x.cases := hM
    have hF : FS w1 w2 (.slice b2 x.states.length d2) x.states := hF
    subst he1
    have hxm := List.mem_of_find?_eq_some hf
    have hzx := HBZ.out.2 x hxm
    have hwx := HWF.out x hxm
    have hS : SIn w2.heap.size w2 b2 x.states.length d2 x.states := ⟨hF.x, rfl, by have := hzx.2.1; omega, hwx.states, hzx.2.2, Nat.le_refl _⟩
    have hn2 : (x.states.length : Int) ≤ 140737488355328 := by have := hzx.2.1; omega
    have hXC := MCs.x hM
    generalize hm1 : x.cases.length = n1 at *
    generalize hm2 : x.states.length = n2 at *
    obtain ⟨w3, hw3⟩ : ∃ w3, w3 = w2.alloc (.cells #[.string (bs x.name), .int .i64 x.limit, .int .i64 x.within, .slice b1 n1 d1, .slice b2 n2 d2] 25) := ⟨_, rfl⟩
    have o3 : Only Nil w2 w3 := hw3 ▸ (Only.refl Nil w2).alloc _
    have BK := Lib.hid (show Bx w3 w2.heap.size [.string (bs x.name), .int .i64 x.limit, .int .i64 x.within, .slice b1 n1 d1, .slice b2 n2 d2] 25 from hw3 ▸ bx_new w2 [.string (bs x.name), .int .i64 x.limit, .int .i64 x.within, .slice b1 n1 d1, .slice b2 n2 d2] _)
    have O3 := Lib.hid (O1.out.trans (o2.trans o3))
    have Y3 := Lib.hid (Y1.out.keep (o2.trans o3))
    have HX3 := Lib.hid (HX1.out.keep (o2.trans o3) (nilS · _))
    have HK := Lib.hid (rkind_any HX3.out HN.out HBP.out kd)
    have HS := Lib.hid (hS.keep o3)
    have HXC := Lib.hid (hXC.keep o3 (nilS · _))
    have HE2 := Lib.hid o3.size
    have HE1 := Lib.hid (Nat.le_trans HD1.out (o2.trans o3).size)
    have HFN := Lib.hid hf
    have HZX := Lib.hid hzx
    have HM1 := Lib.hid hm1
    have HM2 := Lib.hid hm2
    clear hr he hM hF hS o2 o3 k0 hf HF hxm hzx hwx hXC hm1 hm2 HX1 HD1 Y1
    go_upto_region 4 with (fail)
    rw [← hw3]; clear hw3
    generalize w2.heap.size = B2 at *
    have k0 := Y3.out.cell 0 (v := .slice sa nP sc) rfl
    go_wp2_with fail
    refine HK.out.mono ?_
    rintro e w4 ⟨hr, o4⟩
    rcases hr.out with ⟨i, y, rfl, hi, hP, hFd⟩ | ⟨hFn, rfl⟩
    case inr => exact absurd (HFN.out.symm.trans hFn) (by simp)
    obtain rfl : x = y := Option.some.inj (HFN.out.symm.trans hFd)
    have BK4 := Lib.hid (BK.out.keep o4)
    have Y4 := Lib.hid (Y3.out.keep o4)
    have O4 := Lib.hid (O3.out.trans o4)
    have HS4 := Lib.hid (HS.out.keep o4)
    have HXC4 := Lib.hid (HXC.out.keep o4 (nilS · _))
    have HE24 := Lib.hid (Nat.le_trans HE2.out o4.size)
    have HE14 := Lib.hid (Nat.le_trans HE1.out o4.size)
    obtain ⟨s1, s2, ⟨q, off, ha, hlt, hc⟩, g1, g2⟩ := (HX3.out.keep o4 (nilS · _)).at_ HN.out i hi
    have hxi : P[i]'(by rw [HN.out]; exact hi) = x := by
      rw [List.getElem?_eq_getElem (by rw [HN.out]; exact hi)] at hP; exact Option.some.inj hP
    rw [hxi] at hc g1 g2
    subst ha
    obtain ⟨e1, f1, rfl⟩ := g1.slice
    obtain ⟨e2, f2, rfl⟩ := g2.slice
    rw [HM1.out] at hc g1
    rw [HM2.out] at hc g2
    have PC := Lib.hid (show ∀ k, k < 5 → w4.cell? ⟨q, off + i * 5 + k, none⟩ = ([.string (bs x.name), .int .i64 x.limit, .int .i64 x.within, .slice e1 n1 f1, .slice e2 n2 f2] : List Value)[k]? from hc)
    have HG1 := Lib.hid g1
    have HG2 := Lib.hid g2
    have hii : (i : Int) < (nP : Int) := by omega
    have h0i : (0 : Int) ≤ (i : Int) := Int.natCast_nonneg i
    have hneg : ¬ (i : Int) < 0 := by omega
    clear hr hFd hP hxi hc g1 g2 o4 k0 HK BK Y3 O3 HX3 HS HXC HE2 HE1 hi hlt
    have CC := Lib.hid (show ∀ w', Only Nil w4 w' → (fun w' : World => w'.cell? ⟨B2, 0, none⟩ = some (.string (bs x.name)) ∧ w'.cell? ⟨B2, 1, none⟩ = some (.int .i64 x.limit) ∧ w'.cell? ⟨B2, 2, none⟩ = some (.int .i64 x.within) ∧ w'.cell? ⟨B2, 3, none⟩ = some (.slice b1 n1 d1) ∧ w'.cell? ⟨B2, 4, none⟩ = some (.slice b2 n2 d2) ∧ w'.cell? ⟨B1, 0, none⟩ = some (.slice (some ⟨q, off, none⟩) nP sc) ∧ w'.cell? ⟨q, off + i * 5, none⟩ = some (.string (bs x.name)) ∧ w'.cell? ⟨q, off + i * 5 + 1, none⟩ = some (.int .i64 x.limit) ∧ w'.cell? ⟨q, off + i * 5 + 2, none⟩ = some (.int .i64 x.within) ∧ w'.cell? ⟨q, off + i * 5 + 3, none⟩ = some (.slice e1 n1 f1) ∧ w'.cell? ⟨q, off + i * 5 + 4, none⟩ = some (.slice e2 n2 f2)) w' from fun w' o => by
      have h1 := BK4.out.keep o
      have h2 := Y4.out.keep o
      exact ⟨h1.cell 0 rfl, h1.cell 1 rfl, h1.cell 2 rfl, h1.cell 3 rfl, h1.cell 4 rfl, h2.cell 0 rfl, only_cell0 o (PC.out 0 (by decide)), only_cell0 o (PC.out 1 (by decide)), only_cell0 o (PC.out 2 (by decide)), only_cell0 o (PC.out 3 (by decide)), only_cell0 o (PC.out 4 (by decide))⟩)
    have OO := Lib.hid (show Only Nil w4 w4.drew from (Only.refl Nil w4).drew)
    go_upto_region 8 with (fail)
    refine wp_region_held_drew (S := fun w' => w'.cell? ⟨B2, 0, none⟩ = some (.string (bs x.name)) ∧ w'.cell? ⟨B2, 1, none⟩ = some (.int .i64 x.limit) ∧ w'.cell? ⟨B2, 2, none⟩ = some (.int .i64 x.within) ∧ w'.cell? ⟨B2, 3, none⟩ = some (.slice b1 n1 d1) ∧ w'.cell? ⟨B2, 4, none⟩ = some (.slice b2 n2 d2) ∧ w'.cell? ⟨B1, 0, none⟩ = some (.slice (some ⟨q, off, none⟩) nP sc) ∧ w'.cell? ⟨q, off + i * 5, none⟩ = some (.string (bs x.name)) ∧ w'.cell? ⟨q, off + i * 5 + 1, none⟩ = some (.int .i64 x.limit) ∧ w'.cell? ⟨q, off + i * 5 + 2, none⟩ = some (.int .i64 x.within) ∧ w'.cell? ⟨q, off + i * 5 + 3, none⟩ = some (.slice e1 n1 f1) ∧ w'.cell? ⟨q, off + i * 5 + 4, none⟩ = some (.slice e2 n2 f2)) (by kernel_rfl) (CC.out _ OO.out) (fun hHeld => ?_)
    generalize w4.drew = v0 at *
    refine take_dst (some 66) (i := 0) (v := ?vdp1) rfl (by as_aux_lemma => kernel_rfl) (by as_aux_lemma => kernel_rfl) (by as_aux_lemma => kernel_rfl) (by as_aux_lemma => kernel_rfl) (fun _ _ _ h => h) (Or.inl ⟨by kernel_rfl, ?hdp1⟩) (by assumption) ?rdp1
    case hdp1 => (intro w hSw; (try dsimp only at hSw); first | (go_simp; done) | (go_simp; with_reducible rfl))
    try simp only [Act.put, List.setIfInBounds_toArray, List.set_cons_zero, List.set_cons_succ]
    refine take_dst (some 67) (i := 1) (v := ?vdp2) rfl (by as_aux_lemma => kernel_rfl) (by as_aux_lemma => kernel_rfl) (by as_aux_lemma => kernel_rfl) (by as_aux_lemma => kernel_rfl) (fun _ _ _ h => h) (Or.inl ⟨by kernel_rfl, ?hdp2⟩) (by assumption) ?rdp2
    case hdp2 => (intro w hSw; (try dsimp only at hSw); first | (go_simp; done) | (go_simp; with_reducible rfl))
    try simp only [Act.put, List.setIfInBounds_toArray, List.set_cons_zero, List.set_cons_succ]
    refine take_dst (some 68) (i := 2) (v := ?vdp3) rfl (by as_aux_lemma => kernel_rfl) (by as_aux_lemma => kernel_rfl) (by as_aux_lemma => kernel_rfl) (by as_aux_lemma => kernel_rfl) (fun _ _ _ h => h) (Or.inl ⟨by kernel_rfl, ?hdp3⟩) (by assumption) ?rdp3
    case hdp3 => (intro w hSw; (try dsimp only at hSw); first | (go_simp; done) | (go_simp; with_reducible rfl))
    try simp only [Act.put, List.setIfInBounds_toArray, List.set_cons_zero, List.set_cons_succ]
    refine take_dst (some 69) (i := 3) (v := ?vdp4) rfl (by as_aux_lemma => kernel_rfl) (by as_aux_lemma => kernel_rfl) (by as_aux_lemma => kernel_rfl) (by as_aux_lemma => kernel_rfl) (fun _ _ _ h => h) (Or.inl ⟨by kernel_rfl, ?hdp4⟩) (by assumption) ?rdp4
    case hdp4 => (intro w hSw; (try dsimp only at hSw); first | (go_simp; done) | (go_simp; with_reducible rfl))
    try simp only [Act.put, List.setIfInBounds_toArray, List.set_cons_zero, List.set_cons_succ]
    refine take_dst (some 72) (i := 6) (v := ?vdp5) rfl (by as_aux_lemma => kernel_rfl) (by as_aux_lemma => kernel_rfl) (by as_aux_lemma => kernel_rfl) (by as_aux_lemma => kernel_rfl) (fun _ _ _ h => h) (Or.inl ⟨by kernel_rfl, ?hdp5⟩) (by assumption) ?rdp5
    case hdp5 => (intro w hSw; (try dsimp only at hSw); first | (go_simp; done) | (go_simp; with_reducible rfl))
    try simp only [Act.put, List.setIfInBounds_toArray, List.set_cons_zero, List.set_cons_succ]
    refine take_dst (some 73) (i := 7) (v := ?vdp6) rfl (by as_aux_lemma => kernel_rfl) (by as_aux_lemma => kernel_rfl) (by as_aux_lemma => kernel_rfl) (by as_aux_lemma => kernel_rfl) (fun _ _ _ h => h) (Or.inl ⟨by kernel_rfl, ?hdp6⟩) (by assumption) ?rdp6
    case hdp6 => (intro w hSw; (try dsimp only at hSw); first | (go_simp; done) | (go_simp; with_reducible rfl))
    try simp only [Act.put, List.setIfInBounds_toArray, List.set_cons_zero, List.set_cons_succ]
    refine take_dst (some 74) (i := 8) (v := ?vdp7) rfl (by as_aux_lemma => kernel_rfl) (by as_aux_lemma => kernel_rfl) (by as_aux_lemma => kernel_rfl) (by as_aux_lemma => kernel_rfl) (fun _ _ _ h => h) (Or.inl ⟨by kernel_rfl, ?hdp7⟩) (by assumption) ?rdp7
    case hdp7 => (intro w hSw; (try dsimp only at hSw); first | (go_simp; done) | (go_simp; with_reducible rfl))
    try simp only [Act.put, List.setIfInBounds_toArray, List.set_cons_zero, List.set_cons_succ]
    refine take_dst (some 75) (i := 9) (v := ?vdp8) rfl (by as_aux_lemma => kernel_rfl) (by as_aux_lemma => kernel_rfl) (by as_aux_lemma => kernel_rfl) (by as_aux_lemma => kernel_rfl) (fun _ _ _ h => h) (Or.inl ⟨by kernel_rfl, ?hdp8⟩) (by assumption) ?rdp8
    case hdp8 => (intro w hSw; (try dsimp only at hSw); first | (go_simp; done) | (go_simp; with_reducible rfl))
    try simp only [Act.put, List.setIfInBounds_toArray, List.set_cons_zero, List.set_cons_succ]
    refine take_dst (some 76) (i := 10) (v := ?vdp9) rfl (by as_aux_lemma => kernel_rfl) (by as_aux_lemma => kernel_rfl) (by as_aux_lemma => kernel_rfl) (by as_aux_lemma => kernel_rfl) (fun _ _ _ h => h) (Or.inl ⟨by kernel_rfl, ?hdp9⟩) (by assumption) ?rdp9
    case hdp9 => (intro w hSw; (try dsimp only at hSw); first | (go_simp; done) | (go_simp; with_reducible rfl))
    try simp only [Act.put, List.setIfInBounds_toArray, List.set_cons_zero, List.set_cons_succ]
    refine wpAnyH_ready (rs := [4, 11]) (by as_aux_lemma => kernel_rfl) (by simp) ?_
    refine (AllReadyH.cons rfl (fun dK10 hdK10 => ?_) (AllReadyH.cons rfl (fun dK11 hdK11 => ?_) AllReadyH.nil))
    · skip
      have on : Only Nil v0 (v0.alloc (.cells #[.string (bs x.name), .int .i64 x.limit, .int .i64 x.within, .slice b1 n1 d1, .slice b2 n2 d2] 25)) := (Only.refl Nil v0).alloc _
      have HK1 := Lib.hid (bx_new v0 [.string (bs x.name), .int .i64 x.limit, .int .i64 x.within, .slice b1 n1 d1, .slice b2 n2 d2] 25)
      have X := Lib.hid (OO.out.trans on); clear OO; have OO := X; clear X
      go_simp
      obtain ⟨v13, hv13⟩ : ∃ v, v = v0.alloc (.cells #[.string (bs x.name), .int .i64 x.limit, .int .i64 x.within, .slice b1 n1 d1, .slice b2 n2 d2] 25) := ⟨_, rfl⟩
      change Hid (Bx (v0.alloc (.cells #[.string (bs x.name), .int .i64 x.limit, .int .i64 x.within, .slice b1 n1 d1, .slice b2 n2 d2] 25)) v0.heap.size [.string (bs x.name), .int .i64 x.limit, .int .i64 x.within, .slice b1 n1 d1, .slice b2 n2 d2] 25) at HK1
      rw [← hv13] at OO on HK1
      try rw [← hv13]
      refine hdK10.out _ _ ?dm12 (fun hHeld => ?_)
      case dm12 => exact CC.out _ OO.out
      clear hdK10 dK10 hv13 on
      generalize v0.heap.size = qHK1 at *
      try simp only [Act.put, List.setIfInBounds_toArray, List.set_cons_zero, List.set_cons_succ]
      refine take_dst (some 71) (i := 5) (v := ?vdp14) rfl (by as_aux_lemma => kernel_rfl) (by as_aux_lemma => kernel_rfl) (by as_aux_lemma => kernel_rfl) (by as_aux_lemma => kernel_rfl) (fun _ _ _ h => h) (Or.inl ⟨by kernel_rfl, ?hdp14⟩) (by assumption) ?rdp14
      case hdp14 => (intro w hSw; (try dsimp only at hSw); first | (go_simp; done) | (go_simp; with_reducible rfl))
      try simp only [Act.put, List.setIfInBounds_toArray, List.set_cons_zero, List.set_cons_succ]
      refine wpAnyH_ready (rs := [11]) (by as_aux_lemma => kernel_rfl) (by simp) ?_
      refine AllReadyH.cons rfl (fun dK15 hdK15 => ?_) AllReadyH.nil
      have on : Only Nil v13 (v13.alloc (.cells #[.string (bs x.name), .int .i64 x.limit, .int .i64 x.within, .slice e1 n1 f1, .slice e2 n2 f2] 25)) := (Only.refl Nil v13).alloc _
      have HK2 := Lib.hid (bx_new v13 [.string (bs x.name), .int .i64 x.limit, .int .i64 x.within, .slice e1 n1 f1, .slice e2 n2 f2] 25)
      have X := Lib.hid (HK1.out.keep on); clear HK1; have HK1 := X; clear X; have X := Lib.hid (OO.out.trans on); clear OO; have OO := X; clear X
      go_simp
      obtain ⟨v17, hv17⟩ : ∃ v, v = v13.alloc (.cells #[.string (bs x.name), .int .i64 x.limit, .int .i64 x.within, .slice e1 n1 f1, .slice e2 n2 f2] 25) := ⟨_, rfl⟩
      change Hid (Bx (v13.alloc (.cells #[.string (bs x.name), .int .i64 x.limit, .int .i64 x.within, .slice e1 n1 f1, .slice e2 n2 f2] 25)) v13.heap.size [.string (bs x.name), .int .i64 x.limit, .int .i64 x.within, .slice e1 n1 f1, .slice e2 n2 f2] 25) at HK2
      rw [← hv17] at OO on HK1 HK2
      try rw [← hv17]
      refine hdK15.out _ _ ?dm16 (fun hHeld => ?_)
      case dm16 => exact CC.out _ OO.out
      clear hdK15 dK15 hv17 on
      generalize v13.heap.size = qHK2 at *
      try simp only [Act.put, List.setIfInBounds_toArray, List.set_cons_zero, List.set_cons_succ]
      refine take_dst (some 78) (i := 12) (v := ?vdp18) rfl (by as_aux_lemma => kernel_rfl) (by as_aux_lemma => kernel_rfl) (by as_aux_lemma => kernel_rfl) (by as_aux_lemma => kernel_rfl) (fun _ _ _ h => h) (Or.inl ⟨by kernel_rfl, ?hdp18⟩) (by assumption) ?rdp18
      case hdp18 => (intro w hSw; (try dsimp only at hSw); first | (go_simp; done) | (go_simp; with_reducible rfl))
      try simp only [Act.put, List.setIfInBounds_toArray, List.set_cons_zero, List.set_cons_succ]
      refine wpAnyH_ready (rs := [13]) (by as_aux_lemma => kernel_rfl) (by simp) ?_
      refine AllReadyH.cons rfl (fun dK19 hdK19 => ?_) AllReadyH.nil
      go_simp
      go_at_call 18
      refine (rsame_any (kone x HK1.out (HXC4.out.keep OO.out (nilS · _)) (HS4.out.x.keep OO.out (nilS · _)) (Nat.le_trans HE24.out OO.out.size) (Nat.le_trans HE24.out OO.out.size)) (kone x HK2.out (HG1.out.keep OO.out (nilS · _)) (HG2.out.keep OO.out (nilS · _)) (Nat.le_trans HE14.out OO.out.size) (Nat.le_trans HE14.out OO.out.size)) (bz_sm HZX.out)).mono ?_
      rintro e v21 ⟨he, on⟩
      have he1 : e = .returned (.bool true) := by rw [he, decide_eq_true rfl]
      subst he1
      have X := Lib.hid (OO.out.trans on); clear OO; have OO := X; clear X
      clear he on HK1 HK2
      go_wp2_with fail
      refine hdK19.out _ _ ?dm20 (fun hHeld => ?_)
      case dm20 => exact CC.out _ OO.out
      clear hdK19 dK19
      try simp only [Act.put, List.setIfInBounds_toArray, List.set_cons_zero, List.set_cons_succ]
      refine take_dst (some 80) (i := 14) (v := ?vdp22) rfl (by as_aux_lemma => kernel_rfl) (by as_aux_lemma => kernel_rfl) (by as_aux_lemma => kernel_rfl) (by as_aux_lemma => kernel_rfl) (fun _ _ _ h => h) (Or.inl ⟨by kernel_rfl, ?hdp22⟩) (by assumption) ?rdp22
      case hdp22 => (intro w hSw; (try dsimp only at hSw); first | (go_simp; done) | (go_simp; with_reducible rfl))
      try simp only [Act.put, List.setIfInBounds_toArray, List.set_cons_zero, List.set_cons_succ]
      refine take_dst (some 81) (i := 15) (v := ?vdp23) rfl (by as_aux_lemma => kernel_rfl) (by as_aux_lemma => kernel_rfl) (by as_aux_lemma => kernel_rfl) (by as_aux_lemma => kernel_rfl) (fun _ _ _ h => h) (Or.inl ⟨by kernel_rfl, ?hdp23⟩) (by assumption) ?rdp23
      case hdp23 => (intro w hSw; (try dsimp only at hSw); first | (go_simp; done) | (go_simp; with_reducible rfl))
      try simp only [Act.put, List.setIfInBounds_toArray, List.set_cons_zero, List.set_cons_succ]
      refine wpAnyH_done (by as_aux_lemma => kernel_rfl) ?_ _
      have BK5 := Lib.hid (BK4.out.keep OO.out)
      have HS5 := Lib.hid (HS4.out.keep OO.out)
      have O5 := Lib.hid (O4.out.trans OO.out)
      generalize v21 = w5 at *
      clear hHeld CC OO HXC4 HG1 HG2 PC HE24 HE14 Y4 BK4 HS4 O4
      have HR := Lib.hid (row_any (nm := x.name) (lim := x.limit) (wi := x.within) (v1 := .slice b1 n1 d1) HS5.out s t n)
      have bk := BK5.out
      have q0 := bk.cell 0 (v := .string (bs x.name)) rfl
      have q1 := bk.cell 1 (v := .int .i64 x.limit) rfl
      have q2 := bk.cell 2 (v := .int .i64 x.within) rfl
      have q3 := bk.cell 3 (v := .slice b1 n1 d1) rfl
      have q4 := bk.cell 4 (v := .slice b2 n2 d2) rfl
      go_wp2_with fail
      refine HR.out.mono ?_
      rintro e w6 ⟨hr, o6⟩
      obtain ⟨a', c', he, hME⟩ := hr.out
      have HRR := Lib.hid (fun w' (o : Only Nil w5 w') => rrow_any (nm := x.name) (lim := x.limit) (wi := x.within) (v1 := .slice b1 n1 d1) (HS5.out.keep o) s t n)
      have BK6 := Lib.hid (BK5.out.keep o6)
      clear hr HR bk q0 q1 q2 q3 q4
      cases hro : rowO x.states s t n with
      | none =>
        have hrz : rowOf x.states s t n = zR := by unfold rowOf; rw [hro]; rfl
        rw [hrz, hro] at he
        have he1 : e = .returned (.tuple #[.agg #[.string (bs []), .bool false, .int .i64 0, (.slice a' 0 c')], .bool false]) := he
        subst he1
        obtain ⟨w7, hw7⟩ : ∃ w7, w7 = w6.alloc (.cells #[.string (bs []), .bool false, .int .i64 0, (.slice a' 0 c')] 40) := ⟨_, rfl⟩
        have o7 : Only Nil w6 w7 := hw7 ▸ (Only.refl Nil w6).alloc _
        have BR := Lib.hid (show Bx w7 w6.heap.size [.string (bs []), .bool false, .int .i64 0, (.slice a' 0 c')] 40 from hw7 ▸ bx_new w6 [.string (bs []), .bool false, .int .i64 0, (.slice a' 0 c')] _)
        have bk := BK6.out.keep o7
        have O7 := Lib.hid (o6.trans o7)
        have HRX := Lib.hid (HRR.out w7 O7.out)
        have HRO := Lib.hid hro
        clear he hME hrz hro o6 o7 HRR
        go_upto_region 11 with (fail)
        rw [← hw7]; clear hw7
        generalize w6.heap.size = B6 at *
        have q0 := bk.cell 0 (v := .string (bs x.name)) rfl
        have q1 := bk.cell 1 (v := .int .i64 x.limit) rfl
        have q2 := bk.cell 2 (v := .int .i64 x.within) rfl
        have q3 := bk.cell 3 (v := .slice b1 n1 d1) rfl
        have q4 := bk.cell 4 (v := .slice b2 n2 d2) rfl
        go_wp2_with fail
        refine HRX.out.mono ?_
        rintro e w8 ⟨hr, o8⟩
        rcases hr.out with ⟨i', j', st0, r0, rfl, hi', hj', hro'⟩ | ⟨_, iz, rfl⟩
        · exact absurd (HRO.out.symm.trans hro') (by simp)
        have em : (bs []).toList.isEmpty = true := by rw [emp_bs]; rfl
        have br := BR.out.keep o8
        clear q0 q1 q2 q3 q4
        have r0 := br.cell 0 (v := .string (bs [])) rfl
        have r1 := br.cell 1 (v := .bool false) rfl
        have r2 := br.cell 2 (v := .int .i64 0) rfl
        have r3 := br.cell 3 (v := .slice a' 0 c') rfl
        go_wp2
        go_ret
        exact ⟨rfl, below_of (O5.out.trans (O7.out.trans o8))⟩
      | some r =>
        have hrz : rowOf x.states s t n = r := by unfold rowOf; rw [hro]; rfl
        rw [hrz, hro] at he
        rw [hrz] at hME
        have hrb : r.effs.length * 80 ≤ 140737488355328 := hrz ▸ row_bz HS5.out.bz s t n
        have he1 : e = .returned (.tuple #[.agg #[.string (bs r.tag), .bool r.only, .int .i64 r.n, .slice a' r.effs.length c'], .bool true]) := he
        subst he1
        have HXE := Lib.hid (MEff.x hME)
        generalize hm : r.effs.length = m at *
        obtain ⟨w7, hw7⟩ : ∃ w7, w7 = w6.alloc (.cells #[.string (bs r.tag), .bool r.only, .int .i64 r.n, (.slice a' m c')] 40) := ⟨_, rfl⟩
        have o7 : Only Nil w6 w7 := hw7 ▸ (Only.refl Nil w6).alloc _
        have BR := Lib.hid (show Bx w7 w6.heap.size [.string (bs r.tag), .bool r.only, .int .i64 r.n, (.slice a' m c')] 40 from hw7 ▸ bx_new w6 [.string (bs r.tag), .bool r.only, .int .i64 r.n, (.slice a' m c')] _)
        have BK7 := Lib.hid (BK6.out.keep o7)
        have HX7 := Lib.hid (HXE.out.keep o7 (nilS · _))
        have O7 := Lib.hid (o6.trans o7)
        have HRX := Lib.hid (HRR.out w7 O7.out)
        have HS7 := Lib.hid (HS5.out.keep O7.out)
        have HRO := Lib.hid hro
        have HMM := Lib.hid hm
        have hmi : (m : Int) ≤ 140737488355328 := by omega
        clear he hME hrz hro o6 o7 HRR hm hrb HXE HS5 BK6
        go_upto_region 11 with (fail)
        rw [← hw7]; clear hw7
        generalize w6.heap.size = B6 at *
        have bk := BK7.out
        have q0 := bk.cell 0 (v := .string (bs x.name)) rfl
        have q1 := bk.cell 1 (v := .int .i64 x.limit) rfl
        have q2 := bk.cell 2 (v := .int .i64 x.within) rfl
        have q3 := bk.cell 3 (v := .slice b1 n1 d1) rfl
        have q4 := bk.cell 4 (v := .slice b2 n2 d2) rfl
        go_wp2_with fail
        refine HRX.out.mono ?_
        rintro e w8 ⟨hr, o8⟩
        rcases hr.out with ⟨i', j', st0, r0, rfl, hi', hj', hro'⟩ | ⟨hro', iz, rfl⟩
        case inr => exact absurd (HRO.out.symm.trans hro') (by simp)
        obtain rfl : r = r0 := Option.some.inj (HRO.out.symm.trans hro')
        have HS8 := Lib.hid (HS7.out.keep o8)
        have hir : i' < x.states.length := (List.getElem?_eq_some_iff.1 hi').1
        have hjr : j' < st0.rows.length := (List.getElem?_eq_some_iff.1 hj').1
        obtain ⟨t1, ⟨qs, offs, hqs, hlt, hc⟩, g1⟩ := HS8.out.x.at_ HS8.out.hn i' (by rw [← HS8.out.hn]; exact hir)
        have hst : x.states[i']'hir = st0 := (List.getElem?_eq_some_iff.1 hi').2
        rw [hst] at hc g1
        subst hqs
        obtain ⟨sa1, sc1, rfl⟩ := g1.slice
        have u1 : w8.cell? ⟨qs, offs + i' * 2 + 1, none⟩ = some (.slice sa1 st0.rows.length sc1) := hc 1 (by decide)
        obtain ⟨t2, ⟨qr, offr, hqr, hlt2, hcr⟩, g2⟩ := g1.at_ rfl j' hjr
        have hrr : st0.rows[j']'hjr = r := (List.getElem?_eq_some_iff.1 hj').2
        rw [hrr] at hcr g2
        subst hqr
        obtain ⟨aw, cw, rfl⟩ := g2.slice
        rw [HMM.out] at g2
        have u20 : w8.cell? ⟨qr, offr + j' * 4, none⟩ = some (.string (bs r.tag)) := hcr 0 (by decide)
        have u21 : w8.cell? ⟨qr, offr + j' * 4 + 1, none⟩ = some (.bool r.only) := hcr 1 (by decide)
        have u22 : w8.cell? ⟨qr, offr + j' * 4 + 2, none⟩ = some (.int .i64 r.n) := hcr 2 (by decide)
        have u23 : w8.cell? ⟨qr, offr + j' * 4 + 3, none⟩ = some (.slice aw m cw) := by have := hcr 3 (by decide); rw [HMM.out] at this; exact this
        have q4' := (BK7.out.keep o8).cell 4 (v := .slice (some ⟨qs, offs, none⟩) n2 d2) rfl
        have hin' : (i' : Int) < (n2 : Int) := by have := HS8.out.hn; omega
        have h0i' : (0 : Int) ≤ (i' : Int) := Int.natCast_nonneg i'
        have h0j' : (0 : Int) ≤ (j' : Int) := Int.natCast_nonneg j'
        have hjl : ¬ (j' : Int) < 0 := by omega
        have hjn : (j' : Int) < (st0.rows.length : Int) := by omega
        obtain ⟨w9, hw9⟩ : ∃ w9, w9 = w8.alloc (.cells #[.string (bs r.tag), .bool r.only, .int .i64 r.n, (.slice aw m cw)] 40) := ⟨_, rfl⟩
        have o9 : Only Nil w8 w9 := hw9 ▸ (Only.refl Nil w8).alloc _
        have BW := Lib.hid (show Bx w9 w8.heap.size [.string (bs r.tag), .bool r.only, .int .i64 r.n, (.slice aw m cw)] 40 from hw9 ▸ bx_new w8 [.string (bs r.tag), .bool r.only, .int .i64 r.n, (.slice aw m cw)] _)
        have BR9 := Lib.hid (BR.out.keep (o8.trans o9))
        have HX9 := Lib.hid (HX7.out.keep (o8.trans o9) (nilS · _))
        have HW9 := Lib.hid (g2.keep o9 (nilS · _))
        have O9 := Lib.hid (O5.out.trans (O7.out.trans (o8.trans o9)))
        have eqt := str_eq r.tag
        have eqo : (r.only != r.only) = false := by simp
        have eqn : (r.n != r.n) = false := by simp
        have eqm : ((m : Int) != (m : Int)) = false := by simp
        have eqm2 : (m != m) = false := by simp
        clear hr hro' hi' hj' hir hjr hst hrr hc hcr g1 g2 o8 o9 q0 q1 q2 q3 q4 bk hlt hlt2 BK7 HS7 HX7 BR O7 HRX
        go_upto_region 15 with (fail)
        rw [← hw9]; clear hw9 u1 u20 u21 u22 u23 q4'
        generalize w8.heap.size = B9 at *
        have y0 := BR9.out.cell 0 (v := .string (bs r.tag)) rfl
        have y1 := BR9.out.cell 1 (v := .bool r.only) rfl
        have y2 := BR9.out.cell 2 (v := .int .i64 r.n) rfl
        have y3 := BR9.out.cell 3 (v := (.slice a' m c')) rfl
        have z0 := BW.out.cell 0 (v := .string (bs r.tag)) rfl
        have z1 := BW.out.cell 1 (v := .bool r.only) rfl
        have z2 := BW.out.cell 2 (v := .int .i64 r.n) rfl
        have z3 := BW.out.cell 3 (v := (.slice aw m cw)) rfl
        go_wp2
        go_loopw [21] (fun s21 wr => ∃ (l : Nat), l ≤ m ∧ s21 = .int .i64 (l : Int) ∧ Hid (Only Nil w9 wr)) (fun s21 _ => m - (intOf s21).toNat)
        case atStart => exact ⟨0, Nat.zero_le _, rfl, Lib.hid (Only.refl _ _)⟩
        case round =>
          obtain ⟨l, hl, rfl, hO⟩ := hrel
          clear y0 y1 y2 y3 z0 z1 z2 z3
          have k3 := (BR9.out.keep hO.out).cell 3 (v := .slice a' m c') rfl
          have z3 := (BW.out.keep hO.out).cell 3 (v := .slice aw m cw) rfl
          by_cases hlm : l < m
          · obtain ⟨bb, off1, ha1, hlt, hc⟩ := XE.at_ (HX9.out.keep hO.out (nilS · _)) HMM.out l hlm
            obtain ⟨bb', off1', ha2, hlt', hc'⟩ := XE.at_ (HW9.out.keep hO.out (nilS · _)) HMM.out l hlm
            subst ha1
            subst ha2
            generalize r.effs[l]'(by rw [HMM.out]; exact hlm) = ef at *
            have c0 : wr.cell? ⟨bb, off1 + l * 7, none⟩ = some (.int .i64 ef.act) := hc 0 (by decide)
            have d0 : wr.cell? ⟨bb', off1' + l * 7, none⟩ = some (.int .i64 ef.act) := hc' 0 (by decide)
            have c1 : wr.cell? ⟨bb, off1 + l * 7 + 1, none⟩ = some (.string (bs ef.ref)) := hc 1 (by decide)
            have d1 : wr.cell? ⟨bb', off1' + l * 7 + 1, none⟩ = some (.string (bs ef.ref)) := hc' 1 (by decide)
            have c2 : wr.cell? ⟨bb, off1 + l * 7 + 2, none⟩ = some (.string (bs ef.slot)) := hc 2 (by decide)
            have d2 : wr.cell? ⟨bb', off1' + l * 7 + 2, none⟩ = some (.string (bs ef.slot)) := hc' 2 (by decide)
            have c3 : wr.cell? ⟨bb, off1 + l * 7 + 3, none⟩ = some (.string (bs ef.name)) := hc 3 (by decide)
            have d3 : wr.cell? ⟨bb', off1' + l * 7 + 3, none⟩ = some (.string (bs ef.name)) := hc' 3 (by decide)
            have c4 : wr.cell? ⟨bb, off1 + l * 7 + 4, none⟩ = some (.int .i64 ef.val) := hc 4 (by decide)
            have d4 : wr.cell? ⟨bb', off1' + l * 7 + 4, none⟩ = some (.int .i64 ef.val) := hc' 4 (by decide)
            have c5 : wr.cell? ⟨bb, off1 + l * 7 + 5, none⟩ = some (.int .i64 ef.n) := hc 5 (by decide)
            have d5 : wr.cell? ⟨bb', off1' + l * 7 + 5, none⟩ = some (.int .i64 ef.n) := hc' 5 (by decide)
            have c6 : wr.cell? ⟨bb, off1 + l * 7 + 6, none⟩ = some (.int .i64 ef.delay) := hc 6 (by decide)
            have d6 : wr.cell? ⟨bb', off1' + l * 7 + 6, none⟩ = some (.int .i64 ef.delay) := hc' 6 (by decide)
            clear hc hc'
            have hg := guard_eff
            have hne := neq_eff ef ef
            simp only [decide_true, Bool.not_true] at hne
            have hlmi : (l : Int) < (m : Int) := by omega
            have h0l : (0 : Int) ≤ (l : Int) := Int.natCast_nonneg l
            have od := Lib.hid (hO.out.trans (Only.refl Nil wr).drew)
            have HI := Lib.hid hlm
            clear hlm hl
            go_upto_region 20 with (fail)
            go_region_with (fail)
            all_goals
              go_wp2
              go_roundw
              case rel => exact ⟨l + 1, HI.out, by go_num, od⟩
              case measure => have := HI.out; simp [intOf]; omega
          · obtain rfl : l = m := by omega
            have hk0 : ¬ (l : Int) < (l : Int) := by omega
            clear hlm
            go_wp2
            go_ret
            exact ⟨rfl, below_of (O9.out.trans hO.out)⟩
    · skip
      have on : Only Nil v0 (v0.alloc (.cells #[.string (bs x.name), .int .i64 x.limit, .int .i64 x.within, .slice e1 n1 f1, .slice e2 n2 f2] 25)) := (Only.refl Nil v0).alloc _
      have HK2 := Lib.hid (bx_new v0 [.string (bs x.name), .int .i64 x.limit, .int .i64 x.within, .slice e1 n1 f1, .slice e2 n2 f2] 25)
      have X := Lib.hid (OO.out.trans on); clear OO; have OO := X; clear X
      go_simp
      obtain ⟨v25, hv25⟩ : ∃ v, v = v0.alloc (.cells #[.string (bs x.name), .int .i64 x.limit, .int .i64 x.within, .slice e1 n1 f1, .slice e2 n2 f2] 25) := ⟨_, rfl⟩
      change Hid (Bx (v0.alloc (.cells #[.string (bs x.name), .int .i64 x.limit, .int .i64 x.within, .slice e1 n1 f1, .slice e2 n2 f2] 25)) v0.heap.size [.string (bs x.name), .int .i64 x.limit, .int .i64 x.within, .slice e1 n1 f1, .slice e2 n2 f2] 25) at HK2
      rw [← hv25] at OO on HK2
      try rw [← hv25]
      refine hdK11.out _ _ ?dm24 (fun hHeld => ?_)
      case dm24 => exact CC.out _ OO.out
      clear hdK11 dK11 hv25 on
      generalize v0.heap.size = qHK2 at *
      try simp only [Act.put, List.setIfInBounds_toArray, List.set_cons_zero, List.set_cons_succ]
      refine take_dst (some 78) (i := 12) (v := ?vdp26) rfl (by as_aux_lemma => kernel_rfl) (by as_aux_lemma => kernel_rfl) (by as_aux_lemma => kernel_rfl) (by as_aux_lemma => kernel_rfl) (fun _ _ _ h => h) (Or.inl ⟨by kernel_rfl, ?hdp26⟩) (by assumption) ?rdp26
      case hdp26 => (intro w hSw; (try dsimp only at hSw); first | (go_simp; done) | (go_simp; with_reducible rfl))
      try simp only [Act.put, List.setIfInBounds_toArray, List.set_cons_zero, List.set_cons_succ]
      refine wpAnyH_ready (rs := [4]) (by as_aux_lemma => kernel_rfl) (by simp) ?_
      refine AllReadyH.cons rfl (fun dK27 hdK27 => ?_) AllReadyH.nil
      have on : Only Nil v25 (v25.alloc (.cells #[.string (bs x.name), .int .i64 x.limit, .int .i64 x.within, .slice b1 n1 d1, .slice b2 n2 d2] 25)) := (Only.refl Nil v25).alloc _
      have HK1 := Lib.hid (bx_new v25 [.string (bs x.name), .int .i64 x.limit, .int .i64 x.within, .slice b1 n1 d1, .slice b2 n2 d2] 25)
      have X := Lib.hid (HK2.out.keep on); clear HK2; have HK2 := X; clear X; have X := Lib.hid (OO.out.trans on); clear OO; have OO := X; clear X
      go_simp
      obtain ⟨v29, hv29⟩ : ∃ v, v = v25.alloc (.cells #[.string (bs x.name), .int .i64 x.limit, .int .i64 x.within, .slice b1 n1 d1, .slice b2 n2 d2] 25) := ⟨_, rfl⟩
      change Hid (Bx (v25.alloc (.cells #[.string (bs x.name), .int .i64 x.limit, .int .i64 x.within, .slice b1 n1 d1, .slice b2 n2 d2] 25)) v25.heap.size [.string (bs x.name), .int .i64 x.limit, .int .i64 x.within, .slice b1 n1 d1, .slice b2 n2 d2] 25) at HK1
      rw [← hv29] at OO on HK2 HK1
      try rw [← hv29]
      refine hdK27.out _ _ ?dm28 (fun hHeld => ?_)
      case dm28 => exact CC.out _ OO.out
      clear hdK27 dK27 hv29 on
      generalize v25.heap.size = qHK1 at *
      try simp only [Act.put, List.setIfInBounds_toArray, List.set_cons_zero, List.set_cons_succ]
      refine take_dst (some 71) (i := 5) (v := ?vdp30) rfl (by as_aux_lemma => kernel_rfl) (by as_aux_lemma => kernel_rfl) (by as_aux_lemma => kernel_rfl) (by as_aux_lemma => kernel_rfl) (fun _ _ _ h => h) (Or.inl ⟨by kernel_rfl, ?hdp30⟩) (by assumption) ?rdp30
      case hdp30 => (intro w hSw; (try dsimp only at hSw); first | (go_simp; done) | (go_simp; with_reducible rfl))
      try simp only [Act.put, List.setIfInBounds_toArray, List.set_cons_zero, List.set_cons_succ]
      refine wpAnyH_ready (rs := [13]) (by as_aux_lemma => kernel_rfl) (by simp) ?_
      refine AllReadyH.cons rfl (fun dK31 hdK31 => ?_) AllReadyH.nil
      go_simp
      go_at_call 18
      refine (rsame_any (kone x HK1.out (HXC4.out.keep OO.out (nilS · _)) (HS4.out.x.keep OO.out (nilS · _)) (Nat.le_trans HE24.out OO.out.size) (Nat.le_trans HE24.out OO.out.size)) (kone x HK2.out (HG1.out.keep OO.out (nilS · _)) (HG2.out.keep OO.out (nilS · _)) (Nat.le_trans HE14.out OO.out.size) (Nat.le_trans HE14.out OO.out.size)) (bz_sm HZX.out)).mono ?_
      rintro e v33 ⟨he, on⟩
      have he1 : e = .returned (.bool true) := by rw [he, decide_eq_true rfl]
      subst he1
      have X := Lib.hid (OO.out.trans on); clear OO; have OO := X; clear X
      clear he on HK1 HK2
      go_wp2_with fail
      refine hdK31.out _ _ ?dm32 (fun hHeld => ?_)
      case dm32 => exact CC.out _ OO.out
      clear hdK31 dK31
      try simp only [Act.put, List.setIfInBounds_toArray, List.set_cons_zero, List.set_cons_succ]
      refine take_dst (some 80) (i := 14) (v := ?vdp34) rfl (by as_aux_lemma => kernel_rfl) (by as_aux_lemma => kernel_rfl) (by as_aux_lemma => kernel_rfl) (by as_aux_lemma => kernel_rfl) (fun _ _ _ h => h) (Or.inl ⟨by kernel_rfl, ?hdp34⟩) (by assumption) ?rdp34
      case hdp34 => (intro w hSw; (try dsimp only at hSw); first | (go_simp; done) | (go_simp; with_reducible rfl))
      try simp only [Act.put, List.setIfInBounds_toArray, List.set_cons_zero, List.set_cons_succ]
      refine take_dst (some 81) (i := 15) (v := ?vdp35) rfl (by as_aux_lemma => kernel_rfl) (by as_aux_lemma => kernel_rfl) (by as_aux_lemma => kernel_rfl) (by as_aux_lemma => kernel_rfl) (fun _ _ _ h => h) (Or.inl ⟨by kernel_rfl, ?hdp35⟩) (by assumption) ?rdp35
      case hdp35 => (intro w hSw; (try dsimp only at hSw); first | (go_simp; done) | (go_simp; with_reducible rfl))
      try simp only [Act.put, List.setIfInBounds_toArray, List.set_cons_zero, List.set_cons_succ]
      refine wpAnyH_done (by as_aux_lemma => kernel_rfl) ?_ _
      have BK5 := Lib.hid (BK4.out.keep OO.out)
      have HS5 := Lib.hid (HS4.out.keep OO.out)
      have O5 := Lib.hid (O4.out.trans OO.out)
      generalize v33 = w5 at *
      clear hHeld CC OO HXC4 HG1 HG2 PC HE24 HE14 Y4 BK4 HS4 O4
      have HR := Lib.hid (row_any (nm := x.name) (lim := x.limit) (wi := x.within) (v1 := .slice b1 n1 d1) HS5.out s t n)
      have bk := BK5.out
      have q0 := bk.cell 0 (v := .string (bs x.name)) rfl
      have q1 := bk.cell 1 (v := .int .i64 x.limit) rfl
      have q2 := bk.cell 2 (v := .int .i64 x.within) rfl
      have q3 := bk.cell 3 (v := .slice b1 n1 d1) rfl
      have q4 := bk.cell 4 (v := .slice b2 n2 d2) rfl
      go_wp2_with fail
      refine HR.out.mono ?_
      rintro e w6 ⟨hr, o6⟩
      obtain ⟨a', c', he, hME⟩ := hr.out
      have HRR := Lib.hid (fun w' (o : Only Nil w5 w') => rrow_any (nm := x.name) (lim := x.limit) (wi := x.within) (v1 := .slice b1 n1 d1) (HS5.out.keep o) s t n)
      have BK6 := Lib.hid (BK5.out.keep o6)
      clear hr HR bk q0 q1 q2 q3 q4
      cases hro : rowO x.states s t n with
      | none =>
        have hrz : rowOf x.states s t n = zR := by unfold rowOf; rw [hro]; rfl
        rw [hrz, hro] at he
        have he1 : e = .returned (.tuple #[.agg #[.string (bs []), .bool false, .int .i64 0, (.slice a' 0 c')], .bool false]) := he
        subst he1
        obtain ⟨w7, hw7⟩ : ∃ w7, w7 = w6.alloc (.cells #[.string (bs []), .bool false, .int .i64 0, (.slice a' 0 c')] 40) := ⟨_, rfl⟩
        have o7 : Only Nil w6 w7 := hw7 ▸ (Only.refl Nil w6).alloc _
        have BR := Lib.hid (show Bx w7 w6.heap.size [.string (bs []), .bool false, .int .i64 0, (.slice a' 0 c')] 40 from hw7 ▸ bx_new w6 [.string (bs []), .bool false, .int .i64 0, (.slice a' 0 c')] _)
        have bk := BK6.out.keep o7
        have O7 := Lib.hid (o6.trans o7)
        have HRX := Lib.hid (HRR.out w7 O7.out)
        have HRO := Lib.hid hro
        clear he hME hrz hro o6 o7 HRR
        go_upto_region 11 with (fail)
        rw [← hw7]; clear hw7
        generalize w6.heap.size = B6 at *
        have q0 := bk.cell 0 (v := .string (bs x.name)) rfl
        have q1 := bk.cell 1 (v := .int .i64 x.limit) rfl
        have q2 := bk.cell 2 (v := .int .i64 x.within) rfl
        have q3 := bk.cell 3 (v := .slice b1 n1 d1) rfl
        have q4 := bk.cell 4 (v := .slice b2 n2 d2) rfl
        go_wp2_with fail
        refine HRX.out.mono ?_
        rintro e w8 ⟨hr, o8⟩
        rcases hr.out with ⟨i', j', st0, r0, rfl, hi', hj', hro'⟩ | ⟨_, iz, rfl⟩
        · exact absurd (HRO.out.symm.trans hro') (by simp)
        have em : (bs []).toList.isEmpty = true := by rw [emp_bs]; rfl
        have br := BR.out.keep o8
        clear q0 q1 q2 q3 q4
        have r0 := br.cell 0 (v := .string (bs [])) rfl
        have r1 := br.cell 1 (v := .bool false) rfl
        have r2 := br.cell 2 (v := .int .i64 0) rfl
        have r3 := br.cell 3 (v := .slice a' 0 c') rfl
        go_wp2
        go_ret
        exact ⟨rfl, below_of (O5.out.trans (O7.out.trans o8))⟩
      | some r =>
        have hrz : rowOf x.states s t n = r := by unfold rowOf; rw [hro]; rfl
        rw [hrz, hro] at he
        rw [hrz] at hME
        have hrb : r.effs.length * 80 ≤ 140737488355328 := hrz ▸ row_bz HS5.out.bz s t n
        have he1 : e = .returned (.tuple #[.agg #[.string (bs r.tag), .bool r.only, .int .i64 r.n, .slice a' r.effs.length c'], .bool true]) := he
        subst he1
        have HXE := Lib.hid (MEff.x hME)
        generalize hm : r.effs.length = m at *
        obtain ⟨w7, hw7⟩ : ∃ w7, w7 = w6.alloc (.cells #[.string (bs r.tag), .bool r.only, .int .i64 r.n, (.slice a' m c')] 40) := ⟨_, rfl⟩
        have o7 : Only Nil w6 w7 := hw7 ▸ (Only.refl Nil w6).alloc _
        have BR := Lib.hid (show Bx w7 w6.heap.size [.string (bs r.tag), .bool r.only, .int .i64 r.n, (.slice a' m c')] 40 from hw7 ▸ bx_new w6 [.string (bs r.tag), .bool r.only, .int .i64 r.n, (.slice a' m c')] _)
        have BK7 := Lib.hid (BK6.out.keep o7)
        have HX7 := Lib.hid (HXE.out.keep o7 (nilS · _))
        have O7 := Lib.hid (o6.trans o7)
        have HRX := Lib.hid (HRR.out w7 O7.out)
        have HS7 := Lib.hid (HS5.out.keep O7.out)
        have HRO := Lib.hid hro
        have HMM := Lib.hid hm
        have hmi : (m : Int) ≤ 140737488355328 := by omega
        clear he hME hrz hro o6 o7 HRR hm hrb HXE HS5 BK6
        go_upto_region 11 with (fail)
        rw [← hw7]; clear hw7
        generalize w6.heap.size = B6 at *
        have bk := BK7.out
        have q0 := bk.cell 0 (v := .string (bs x.name)) rfl
        have q1 := bk.cell 1 (v := .int .i64 x.limit) rfl
        have q2 := bk.cell 2 (v := .int .i64 x.within) rfl
        have q3 := bk.cell 3 (v := .slice b1 n1 d1) rfl
        have q4 := bk.cell 4 (v := .slice b2 n2 d2) rfl
        go_wp2_with fail
        refine HRX.out.mono ?_
        rintro e w8 ⟨hr, o8⟩
        rcases hr.out with ⟨i', j', st0, r0, rfl, hi', hj', hro'⟩ | ⟨hro', iz, rfl⟩
        case inr => exact absurd (HRO.out.symm.trans hro') (by simp)
        obtain rfl : r = r0 := Option.some.inj (HRO.out.symm.trans hro')
        have HS8 := Lib.hid (HS7.out.keep o8)
        have hir : i' < x.states.length := (List.getElem?_eq_some_iff.1 hi').1
        have hjr : j' < st0.rows.length := (List.getElem?_eq_some_iff.1 hj').1
        obtain ⟨t1, ⟨qs, offs, hqs, hlt, hc⟩, g1⟩ := HS8.out.x.at_ HS8.out.hn i' (by rw [← HS8.out.hn]; exact hir)
        have hst : x.states[i']'hir = st0 := (List.getElem?_eq_some_iff.1 hi').2
        rw [hst] at hc g1
        subst hqs
        obtain ⟨sa1, sc1, rfl⟩ := g1.slice
        have u1 : w8.cell? ⟨qs, offs + i' * 2 + 1, none⟩ = some (.slice sa1 st0.rows.length sc1) := hc 1 (by decide)
        obtain ⟨t2, ⟨qr, offr, hqr, hlt2, hcr⟩, g2⟩ := g1.at_ rfl j' hjr
        have hrr : st0.rows[j']'hjr = r := (List.getElem?_eq_some_iff.1 hj').2
        rw [hrr] at hcr g2
        subst hqr
        obtain ⟨aw, cw, rfl⟩ := g2.slice
        rw [HMM.out] at g2
        have u20 : w8.cell? ⟨qr, offr + j' * 4, none⟩ = some (.string (bs r.tag)) := hcr 0 (by decide)
        have u21 : w8.cell? ⟨qr, offr + j' * 4 + 1, none⟩ = some (.bool r.only) := hcr 1 (by decide)
        have u22 : w8.cell? ⟨qr, offr + j' * 4 + 2, none⟩ = some (.int .i64 r.n) := hcr 2 (by decide)
        have u23 : w8.cell? ⟨qr, offr + j' * 4 + 3, none⟩ = some (.slice aw m cw) := by have := hcr 3 (by decide); rw [HMM.out] at this; exact this
        have q4' := (BK7.out.keep o8).cell 4 (v := .slice (some ⟨qs, offs, none⟩) n2 d2) rfl
        have hin' : (i' : Int) < (n2 : Int) := by have := HS8.out.hn; omega
        have h0i' : (0 : Int) ≤ (i' : Int) := Int.natCast_nonneg i'
        have h0j' : (0 : Int) ≤ (j' : Int) := Int.natCast_nonneg j'
        have hjl : ¬ (j' : Int) < 0 := by omega
        have hjn : (j' : Int) < (st0.rows.length : Int) := by omega
        obtain ⟨w9, hw9⟩ : ∃ w9, w9 = w8.alloc (.cells #[.string (bs r.tag), .bool r.only, .int .i64 r.n, (.slice aw m cw)] 40) := ⟨_, rfl⟩
        have o9 : Only Nil w8 w9 := hw9 ▸ (Only.refl Nil w8).alloc _
        have BW := Lib.hid (show Bx w9 w8.heap.size [.string (bs r.tag), .bool r.only, .int .i64 r.n, (.slice aw m cw)] 40 from hw9 ▸ bx_new w8 [.string (bs r.tag), .bool r.only, .int .i64 r.n, (.slice aw m cw)] _)
        have BR9 := Lib.hid (BR.out.keep (o8.trans o9))
        have HX9 := Lib.hid (HX7.out.keep (o8.trans o9) (nilS · _))
        have HW9 := Lib.hid (g2.keep o9 (nilS · _))
        have O9 := Lib.hid (O5.out.trans (O7.out.trans (o8.trans o9)))
        have eqt := str_eq r.tag
        have eqo : (r.only != r.only) = false := by simp
        have eqn : (r.n != r.n) = false := by simp
        have eqm : ((m : Int) != (m : Int)) = false := by simp
        have eqm2 : (m != m) = false := by simp
        clear hr hro' hi' hj' hir hjr hst hrr hc hcr g1 g2 o8 o9 q0 q1 q2 q3 q4 bk hlt hlt2 BK7 HS7 HX7 BR O7 HRX
        go_upto_region 15 with (fail)
        rw [← hw9]; clear hw9 u1 u20 u21 u22 u23 q4'
        generalize w8.heap.size = B9 at *
        have y0 := BR9.out.cell 0 (v := .string (bs r.tag)) rfl
        have y1 := BR9.out.cell 1 (v := .bool r.only) rfl
        have y2 := BR9.out.cell 2 (v := .int .i64 r.n) rfl
        have y3 := BR9.out.cell 3 (v := (.slice a' m c')) rfl
        have z0 := BW.out.cell 0 (v := .string (bs r.tag)) rfl
        have z1 := BW.out.cell 1 (v := .bool r.only) rfl
        have z2 := BW.out.cell 2 (v := .int .i64 r.n) rfl
        have z3 := BW.out.cell 3 (v := (.slice aw m cw)) rfl
        go_wp2
        go_loopw [21] (fun s21 wr => ∃ (l : Nat), l ≤ m ∧ s21 = .int .i64 (l : Int) ∧ Hid (Only Nil w9 wr)) (fun s21 _ => m - (intOf s21).toNat)
        case atStart => exact ⟨0, Nat.zero_le _, rfl, Lib.hid (Only.refl _ _)⟩
        case round =>
          obtain ⟨l, hl, rfl, hO⟩ := hrel
          clear y0 y1 y2 y3 z0 z1 z2 z3
          have k3 := (BR9.out.keep hO.out).cell 3 (v := .slice a' m c') rfl
          have z3 := (BW.out.keep hO.out).cell 3 (v := .slice aw m cw) rfl
          by_cases hlm : l < m
          · obtain ⟨bb, off1, ha1, hlt, hc⟩ := XE.at_ (HX9.out.keep hO.out (nilS · _)) HMM.out l hlm
            obtain ⟨bb', off1', ha2, hlt', hc'⟩ := XE.at_ (HW9.out.keep hO.out (nilS · _)) HMM.out l hlm
            subst ha1
            subst ha2
            generalize r.effs[l]'(by rw [HMM.out]; exact hlm) = ef at *
            have c0 : wr.cell? ⟨bb, off1 + l * 7, none⟩ = some (.int .i64 ef.act) := hc 0 (by decide)
            have d0 : wr.cell? ⟨bb', off1' + l * 7, none⟩ = some (.int .i64 ef.act) := hc' 0 (by decide)
            have c1 : wr.cell? ⟨bb, off1 + l * 7 + 1, none⟩ = some (.string (bs ef.ref)) := hc 1 (by decide)
            have d1 : wr.cell? ⟨bb', off1' + l * 7 + 1, none⟩ = some (.string (bs ef.ref)) := hc' 1 (by decide)
            have c2 : wr.cell? ⟨bb, off1 + l * 7 + 2, none⟩ = some (.string (bs ef.slot)) := hc 2 (by decide)
            have d2 : wr.cell? ⟨bb', off1' + l * 7 + 2, none⟩ = some (.string (bs ef.slot)) := hc' 2 (by decide)
            have c3 : wr.cell? ⟨bb, off1 + l * 7 + 3, none⟩ = some (.string (bs ef.name)) := hc 3 (by decide)
            have d3 : wr.cell? ⟨bb', off1' + l * 7 + 3, none⟩ = some (.string (bs ef.name)) := hc' 3 (by decide)
            have c4 : wr.cell? ⟨bb, off1 + l * 7 + 4, none⟩ = some (.int .i64 ef.val) := hc 4 (by decide)
            have d4 : wr.cell? ⟨bb', off1' + l * 7 + 4, none⟩ = some (.int .i64 ef.val) := hc' 4 (by decide)
            have c5 : wr.cell? ⟨bb, off1 + l * 7 + 5, none⟩ = some (.int .i64 ef.n) := hc 5 (by decide)
            have d5 : wr.cell? ⟨bb', off1' + l * 7 + 5, none⟩ = some (.int .i64 ef.n) := hc' 5 (by decide)
            have c6 : wr.cell? ⟨bb, off1 + l * 7 + 6, none⟩ = some (.int .i64 ef.delay) := hc 6 (by decide)
            have d6 : wr.cell? ⟨bb', off1' + l * 7 + 6, none⟩ = some (.int .i64 ef.delay) := hc' 6 (by decide)
            clear hc hc'
            have hg := guard_eff
            have hne := neq_eff ef ef
            simp only [decide_true, Bool.not_true] at hne
            have hlmi : (l : Int) < (m : Int) := by omega
            have h0l : (0 : Int) ≤ (l : Int) := Int.natCast_nonneg l
            have od := Lib.hid (hO.out.trans (Only.refl Nil wr).drew)
            have HI := Lib.hid hlm
            clear hlm hl
            go_upto_region 20 with (fail)
            go_region_with (fail)
            all_goals
              go_wp2
              go_roundw
              case rel => exact ⟨l + 1, HI.out, by go_num, od⟩
              case measure => have := HI.out; simp [intOf]; omega
          · obtain rfl : l = m := by omega
            have hk0 : ¬ (l : Int) < (l : Int) := by omega
            clear hlm
            go_wp2
            go_ret
            exact ⟨rfl, below_of (O9.out.trans hO.out)⟩
theorem rows_row (P : List Kd) (sl : Value) (w : World) (x : XK w.heap.size w sl P) (wf : wfP P) (bz : bzP P) (a b c : ByteArray) (n : Int) (hn : inW n) :
    Calls Try.prog 4 #[.agg #[sl], .string a, .string b, .string c, .int .i64 n] w fun e w' => e = .returned (.bool true) ∧ Below w.heap.size w w' := by
  obtain ⟨sa, sc, rfl⟩ := x.slice
  have h := rows_all P x rfl wf bz a.data.toList b.data.toList c.data.toList n hn
  rw [bs_of, bs_of, bs_of] at h
  exact h
end Go.Proofs.Ytimnaiahokafaaa.Ac
