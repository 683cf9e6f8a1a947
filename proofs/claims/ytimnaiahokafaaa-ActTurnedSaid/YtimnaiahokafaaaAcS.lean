/- act: ActTurned. -/
import Derived.Test.YtimnaiahokafaaaAcM
import Derived.Test.YtimnaiahokafaaaAcN
import Derived.StillTailTactics
set_option linter.unusedVariables false
set_option linter.unusedSimpArgs false
namespace Go.Proofs.Ytimnaiahokafaaa.Ac
open Go Go.RowKit Go.Proofs.Ytimnaiahokafaaa Lx Ps Ch

theorem Blk.set {w : World} {g t} (h : Blk w g t) (o : Nat) (vs : List Value) : Blk (w.setCells g o vs) g t := by
  obtain ⟨cur, hg⟩ := h
  exact ⟨_, setCells_row g vs o w cur t (0, 0) hg⟩
theorem plan_set (S : List Sta) (i : Nat) (st : Sta) (R : List Rw) (hi : S[i]? = some st) (t : Wd) (n : Int) (hR : R.find? (fitsR t n) = st.rows.find? (fitsR t n)) (s : Wd) : planOf (S.set i ⟨st.name, R⟩) s t n = planOf S s t n := by
  unfold planOf rowOf
  rw [rowO_set S i st R hi t n hR s]
set_option maxHeartbeats 32000000 in
set_option maxRecDepth 100000 in
theorem turned_all {w : World} (k : Kd) {v1 : Value} {a2 : Option Addr} {nS c2 : Nat} (hx : SIn w.heap.size w a2 nS c2 k.states) (h40 : nS * 40 ≤ 140737488355328) (st rw : Int) (is : inW st) (ir : inW rw) (t : Wd) (n : Int) (hn : inW n) :
    Calls Try.prog 7 #[.agg #[.string (bs k.name), .int .i64 k.limit, .int .i64 k.within, v1, .slice a2 nS c2], .int .i64 st, .int .i64 rw, .string (bs t), .int .i64 n] w fun e w' => e = .returned (.bool true) ∧ Below w.heap.size w w' := by
  obtain ⟨W1, hW1⟩ : ∃ W, W = w.alloc (.cells #[.string (bs k.name), .int .i64 k.limit, .int .i64 k.within, v1, .slice a2 nS c2] 25) := ⟨_, rfl⟩
  have s1 : W1.heap.size = w.heap.size + 1 := by rw [hW1]; simp
  have o1 : Only Nil w W1 := hW1 ▸ (Only.refl Nil w).alloc _
  have b1 : Bx W1 (w.heap.size) [.string (bs k.name), .int .i64 k.limit, .int .i64 k.within, v1, .slice a2 nS c2] 25 := hW1 ▸ bx_new w _ _
  have X1 := Lib.hid b1
  have O := Lib.hid o1
  have SZ := Lib.hid s1
  have HA := Lib.hid (alive_any W1)
  have HS1 := Lib.hid (hx.keep O.out)
  have HN := Lib.hid hn
  have H40 := Lib.hid h40
  have hb2 : (nS : Int) ≤ 140737488355328 := by have := hx.hb; omega
  have HDW := Lib.hid (show w.heap.size < W1.heap.size from lt_of_block X1.out)
  clear hx hn h40
  go_enter Try.func7, Try.ntmps7
  go_upto_region 1 with (fail)
  (try simp only [World.size_alloc])
  rw [← hW1]
  clear hW1 s1 o1 b1
  generalize hB1 : w.heap.size = B1 at *
  have HB1 := Lib.hid hB1
  clear hB1
  go_wp2_with fail
  refine HA.out.mono ?_
  rintro e w2 ⟨rfl, o1⟩
  have OA := Lib.hid (O.out.trans o1)
  have XA := Lib.hid (X1.out.keep o1)
  have HSA := Lib.hid (HS1.out.keep o1)
  have HDA := Lib.hid (Nat.lt_of_lt_of_le HDW.out o1.size)
  have ka4 := XA.out.cell 4 (v := .slice a2 nS c2) rfl
  clear o1 HA X1 HS1 HDW
  by_cases k0 : st < 0
  · have t0 := decide_eq_true k0
    clear k0
    go_wp2
    go_ret
    exact ⟨rfl, below_of OA.out⟩
  have t0 := decide_eq_false k0
  by_cases k1 : st ≥ (nS : Int)
  · have t1' := decide_eq_true k1
    clear k0 k1
    go_wp2
    go_ret
    exact ⟨rfl, below_of OA.out⟩
  have t1' := decide_eq_false k1
  obtain ⟨i, hi⟩ : ∃ i : Nat, st = (i : Int) := ⟨st.toNat, by omega⟩
  subst hi
  have hiN : i < nS := by omega
  have t1n : decide (nS ≤ i) = false := decide_eq_false (by omega)
  by_cases k2 : rw < 0
  · have t2' := decide_eq_true k2
    clear k0 k1 k2 hiN
    go_wp2
    go_ret
    exact ⟨rfl, below_of OA.out⟩
  have t2' := decide_eq_false k2
  obtain ⟨Zs, hZs, hcS, hiS⟩ := HSA.out.x
  rw [HSA.out.hn] at hcS
  have hZsl : Zs.length = nS := by rw [← HSA.out.hn, ← hZs, List.length_map]
  obtain ⟨q2, off2, ha2, _, hc2⟩ := CIn.at_ (f := staCs) (s := 2) (fun _ => rfl) (by decide) hcS hZsl i hiN
  subst ha2
  have gR := hiS _ (List.getElem_mem (show i < Zs.length by omega))
  have hil : i < k.states.length := by rw [HSA.out.hn]; exact hiN
  have hzy : (Zs[i]'(by omega)).1 = k.states[i] := by simp only [← hZs, List.getElem_map]
  obtain ⟨z, hzj⟩ : ∃ z, z = Zs[i]'(by omega) := ⟨_, rfl⟩
  rw [← hzj] at hc2 gR hzy
  obtain ⟨y, sr⟩ := z
  dsimp only at hc2 gR hzy
  obtain ⟨a3, c3, rfl⟩ := gR.slice
  have HYB := Lib.hid (show bzS y from hzy ▸ HSA.out.bz _ (List.getElem_mem hil))
  have HYW := Lib.hid (show wfS y from hzy ▸ HSA.out.wf _ (List.getElem_mem hil))
  have HYY := Lib.hid (show k.states[i]? = some y from by rw [hzy]; exact List.getElem?_eq_getElem hil)
  have hbR0 : y.rows.length * 56 ≤ 140737488355328 := HYB.out.1
  generalize hnR : y.rows.length = nR at *
  have HNR := Lib.hid hnR
  have u1 : w2.cell? ⟨q2, off2 + i * 2 + 1, none⟩ = some (.slice a3 nR c3) := hc2 1 (by decide)
  have u0 : w2.cell? ⟨q2, off2 + i * 2, none⟩ = some (.string (bs y.name)) := hc2 0 (by decide)
  have hwR : IntKind.i64.wrap ((nR : Int) - 1) = (nR : Int) - 1 := IntWalk.i64_in _ (by omega)
  have hii : (i : Int) < (nS : Int) := by omega
  have h0i : (0 : Int) ≤ (i : Int) := Int.natCast_nonneg i
  have HRR := Lib.hid gR
  have HcS := Lib.hid hcS
  have HiS := Lib.hid hiS
  have HZj := Lib.hid (show ∀ h : i < Zs.length, (y, Value.slice a3 nR c3) = Zs[i]'h from fun _ => hzj)
  have HZse := Lib.hid hZs
  have HZsl := Lib.hid hZsl
  have HbR := Lib.hid hbR0
  have HiN := Lib.hid hiN
  clear hcS hiS hzj hZs hc2 gR hzy hil hZsl hnR hbR0 k0 k1 hiN
  by_cases k3 : rw ≥ (nR : Int) - 1
  · have t3 := decide_eq_true k3
    clear k2 k3
    go_wp2
    go_ret
    exact ⟨rfl, below_of OA.out⟩
  have t3 := decide_eq_false k3
  obtain ⟨r, hr⟩ : ∃ r : Nat, rw = (r : Int) := ⟨rw.toNat, by omega⟩
  subst hr
  have hrN : r + 1 < nR := by omega
  clear k2 k3
  obtain ⟨Zr, hZr, hcR, hiR⟩ := HRR.out
  rw [HNR.out] at hcR
  have hZrl : Zr.length = nR := by rw [← HNR.out, ← hZr, List.length_map]
  obtain ⟨q3, off3, ha3, _, hc3⟩ := CIn.at_ (f := rowCs) (s := 4) (fun _ => rfl) (by decide) hcR hZrl r (by omega)
  subst ha3
  clear hc3
  obtain ⟨cr, w3, hrun1, own1, o3⟩ := copy_cin (P := Try.prog) (t := 46) (ty := 46) Try.underlying46 Try.infoRow rfl hcR (World.ownsRow_nil w2 0 40 4) (by omega) (by decide) (by decide) HbR.out
  have HR1 := Lib.hid hrun1
  have HcR := Lib.hid hcR
  have HiR := Lib.hid hiR
  have HZre := Lib.hid hZr
  have HZrl := Lib.hid hZrl
  clear hcR hiR hZr hZrl hrun1
  go_upto_region 6 with (fail)
  go_upto_region 7 with (at_builtin; refine Lib.wpList_append_run _ rfl (.tmp 43) (.tmp 49) 46 46 rfl _ _ rfl rfl _ _ HR1.out ?_)
  have hg1 := (own1.lt w2.heap.size rfl).2
  have R3 := Lib.hid (own_cin own1)
  have F3 := Lib.hid (Blk.of own1)
  have HG1 := Lib.hid (show B1 < w2.heap.size from HDA.out)
  have O3 := Lib.hid o3
  have X3 := Lib.hid (XA.out.keep o3)
  have HG3 := Lib.hid hg1
  have HGE := Lib.hid (show w2.heap.size ≤ w2.heap.size from Nat.le_refl _)
  obtain ⟨g1, hg1e⟩ : ∃ g, g = w2.heap.size := ⟨_, rfl⟩
  rw [← hg1e] at R3 F3 HG1 HG3
  rw [← hg1e]
  have HGE := Lib.hid (show w2.heap.size ≤ g1 from by omega)
  clear own1 HR1 hg1 o3 hg1e t0 t1' t2' t3 u0 u1 hwR ka4
  obtain ⟨z1, hz1⟩ : ∃ z, z = Zr[r]'(by have := HZrl.out; omega) := ⟨_, rfl⟩
  obtain ⟨z2, hz2⟩ : ∃ z, z = Zr[r + 1]'(by have := HZrl.out; omega) := ⟨_, rfl⟩
  have gE1 := HiR.out z1 (hz1 ▸ List.getElem_mem _)
  have gE2 := HiR.out z2 (hz2 ▸ List.getElem_mem _)
  obtain ⟨t1, l1⟩ := z1
  obtain ⟨t2, l2⟩ := z2
  dsimp only at gE1 gE2
  obtain ⟨e1, d1, rfl⟩ := CIn.slice gE1
  obtain ⟨e2, d2, rfl⟩ := CIn.slice gE2
  clear gE1 gE2
  generalize t1.effs.length = m1 at *
  generalize t2.effs.length = m2 at *
  have HZ1 := Lib.hid (show ∀ h : r < Zr.length, (t1, Value.slice e1 m1 d1) = Zr[r]'h from fun _ => hz1)
  have HZ2 := Lib.hid (show ∀ h : r + 1 < Zr.length, (t2, Value.slice e2 m2 d2) = Zr[r + 1]'h from fun _ => hz2)
  clear hz1 hz2
  obtain ⟨r1, hr1⟩ : ∃ r1 : Nat, r1 = r + 1 := ⟨_, rfl⟩
  rw [← hr1] at HZ2 hrN
  have hwr : IntKind.i64.wrap ((r : Int) + 1) = (r1 : Int) := by have h1 := HbR.out; rw [hr1]; exact IntWalk.i64_in _ (by omega)
  have h0r : (0 : Int) ≤ (r : Int) := Int.natCast_nonneg r
  have h0r1 : (0 : Int) ≤ (r1 : Int) := Int.natCast_nonneg r1
  have hrNi : (r : Int) < (nR : Int) := by omega
  have hr1Ni : (r1 : Int) < (nR : Int) := by omega
  have HR1e := Lib.hid hr1
  have HrN := Lib.hid hrN
  clear hr1 hrN
  have hk1 := cells_at (f := rowCs) (s := 4) (fun _ => rfl) (by decide) R3.out HZrl.out r (by have := HR1e.out; have := HrN.out; omega) HZ1.out
  have hk2 := cells_at (f := rowCs) (s := 4) (fun _ => rfl) (by decide) R3.out HZrl.out r1 (by have := HrN.out; omega) HZ2.out
  have HK1 := Lib.hid hk1
  have HK2 := Lib.hid hk2
  have CC := Lib.hid (show ∀ w', Only Nil w3 w' → (fun w' : World => w'.cell? ⟨g1, r * 4, none⟩ = some (.string (bs t1.tag)) ∧ w'.cell? ⟨g1, r * 4 + 1, none⟩ = some (.bool t1.only) ∧ w'.cell? ⟨g1, r * 4 + 2, none⟩ = some (.int .i64 t1.n) ∧ w'.cell? ⟨g1, r * 4 + 3, none⟩ = some (.slice e1 m1 d1) ∧ w'.cell? ⟨g1, r1 * 4, none⟩ = some (.string (bs t2.tag)) ∧ w'.cell? ⟨g1, r1 * 4 + 1, none⟩ = some (.bool t2.only) ∧ w'.cell? ⟨g1, r1 * 4 + 2, none⟩ = some (.int .i64 t2.n) ∧ w'.cell? ⟨g1, r1 * 4 + 3, none⟩ = some (.slice e2 m2 d2)) w' from fun w' o => ⟨only_cell0 o (HK1.out 0 (by decide)), only_cell0 o (HK1.out 1 (by decide)), only_cell0 o (HK1.out 2 (by decide)), only_cell0 o (HK1.out 3 (by decide)), only_cell0 o (HK2.out 0 (by decide)), only_cell0 o (HK2.out 1 (by decide)), only_cell0 o (HK2.out 2 (by decide)), only_cell0 o (HK2.out 3 (by decide))⟩)
  clear hk1 hk2
  go_cut [12, 13] (fun s12 s13 wx => ∃ X Y : Nat, s12 = .pointer (some ⟨X, 0, none⟩) ∧ s13 = .pointer (some ⟨Y, 0, none⟩) ∧ Hid (Bx wx X [.string (bs t1.tag), .bool t1.only, .int .i64 t1.n, .slice e1 m1 d1] 40) ∧ Hid (Bx wx Y [.string (bs t2.tag), .bool t2.only, .int .i64 t2.n, .slice e2 m2 d2] 40) ∧ Hid (w3.heap.size ≤ X) ∧ Hid (w3.heap.size ≤ Y) ∧ Hid (Only Nil w3 wx))
  case first =>
    have OO := Lib.hid (show Only Nil w3 w3.drew from (Only.refl Nil w3).drew)
    refine wp_region_held_drew (S := fun w' => w'.cell? ⟨g1, r * 4, none⟩ = some (.string (bs t1.tag)) ∧ w'.cell? ⟨g1, r * 4 + 1, none⟩ = some (.bool t1.only) ∧ w'.cell? ⟨g1, r * 4 + 2, none⟩ = some (.int .i64 t1.n) ∧ w'.cell? ⟨g1, r * 4 + 3, none⟩ = some (.slice e1 m1 d1) ∧ w'.cell? ⟨g1, r1 * 4, none⟩ = some (.string (bs t2.tag)) ∧ w'.cell? ⟨g1, r1 * 4 + 1, none⟩ = some (.bool t2.only) ∧ w'.cell? ⟨g1, r1 * 4 + 2, none⟩ = some (.int .i64 t2.n) ∧ w'.cell? ⟨g1, r1 * 4 + 3, none⟩ = some (.slice e2 m2 d2)) (by kernel_rfl) (CC.out _ OO.out) (fun hHeld => ?_)
    generalize w3.drew = v0 at *
    refine take_dst (some 51) (i := 0) (v := ?vdp1) rfl (by as_aux_lemma => kernel_rfl) (by as_aux_lemma => kernel_rfl) (by as_aux_lemma => kernel_rfl) (by as_aux_lemma => kernel_rfl) (fun _ _ _ h => h) (Or.inl ⟨by kernel_rfl, ?hdp1⟩) (by assumption) ?rdp1
    case hdp1 => (intro w hSw; (try dsimp only at hSw); first | (go_simp; done) | (go_simp; with_reducible rfl))
    try simp only [Act.put, List.setIfInBounds_toArray, List.set_cons_zero, List.set_cons_succ]
    refine take_dst (some 52) (i := 1) (v := ?vdp2) rfl (by as_aux_lemma => kernel_rfl) (by as_aux_lemma => kernel_rfl) (by as_aux_lemma => kernel_rfl) (by as_aux_lemma => kernel_rfl) (fun _ _ _ h => h) (Or.inl ⟨by kernel_rfl, ?hdp2⟩) (by assumption) ?rdp2
    case hdp2 => (intro w hSw; (try dsimp only at hSw); first | (go_simp; done) | (go_simp; with_reducible rfl))
    try simp only [Act.put, List.setIfInBounds_toArray, List.set_cons_zero, List.set_cons_succ]
    refine take_dst (some 53) (i := 2) (v := ?vdp3) rfl (by as_aux_lemma => kernel_rfl) (by as_aux_lemma => kernel_rfl) (by as_aux_lemma => kernel_rfl) (by as_aux_lemma => kernel_rfl) (fun _ _ _ h => h) (Or.inl ⟨by kernel_rfl, ?hdp3⟩) (by assumption) ?rdp3
    case hdp3 => (intro w hSw; (try dsimp only at hSw); first | (go_simp; done) | (go_simp; with_reducible rfl))
    try simp only [Act.put, List.setIfInBounds_toArray, List.set_cons_zero, List.set_cons_succ]
    refine take_dst (some 54) (i := 3) (v := ?vdp4) rfl (by as_aux_lemma => kernel_rfl) (by as_aux_lemma => kernel_rfl) (by as_aux_lemma => kernel_rfl) (by as_aux_lemma => kernel_rfl) (fun _ _ _ h => h) (Or.inl ⟨by kernel_rfl, ?hdp4⟩) (by assumption) ?rdp4
    case hdp4 => (intro w hSw; (try dsimp only at hSw); first | (go_simp; done) | (go_simp; with_reducible rfl))
    try simp only [Act.put, List.setIfInBounds_toArray, List.set_cons_zero, List.set_cons_succ]
    refine take_dst (some 55) (i := 4) (v := ?vdp5) rfl (by as_aux_lemma => kernel_rfl) (by as_aux_lemma => kernel_rfl) (by as_aux_lemma => kernel_rfl) (by as_aux_lemma => kernel_rfl) (fun _ _ _ h => h) (Or.inl ⟨by kernel_rfl, ?hdp5⟩) (by assumption) ?rdp5
    case hdp5 => (intro w hSw; (try dsimp only at hSw); first | (go_simp; done) | (go_simp; with_reducible rfl))
    try simp only [Act.put, List.setIfInBounds_toArray, List.set_cons_zero, List.set_cons_succ]
    refine take_dst (some 56) (i := 5) (v := ?vdp6) rfl (by as_aux_lemma => kernel_rfl) (by as_aux_lemma => kernel_rfl) (by as_aux_lemma => kernel_rfl) (by as_aux_lemma => kernel_rfl) (fun _ _ _ h => h) (Or.inl ⟨by kernel_rfl, ?hdp6⟩) (by assumption) ?rdp6
    case hdp6 => (intro w hSw; (try dsimp only at hSw); first | (go_simp; done) | (go_simp; with_reducible rfl))
    try simp only [Act.put, List.setIfInBounds_toArray, List.set_cons_zero, List.set_cons_succ]
    refine take_dst (some 57) (i := 6) (v := ?vdp7) rfl (by as_aux_lemma => kernel_rfl) (by as_aux_lemma => kernel_rfl) (by as_aux_lemma => kernel_rfl) (by as_aux_lemma => kernel_rfl) (fun _ _ _ h => h) (Or.inl ⟨by kernel_rfl, ?hdp7⟩) (by assumption) ?rdp7
    case hdp7 => (intro w hSw; (try dsimp only at hSw); first | (go_simp; done) | (go_simp; with_reducible rfl))
    try simp only [Act.put, List.setIfInBounds_toArray, List.set_cons_zero, List.set_cons_succ]
    refine take_dst (some 58) (i := 7) (v := ?vdp8) rfl (by as_aux_lemma => kernel_rfl) (by as_aux_lemma => kernel_rfl) (by as_aux_lemma => kernel_rfl) (by as_aux_lemma => kernel_rfl) (fun _ _ _ h => h) (Or.inl ⟨by kernel_rfl, ?hdp8⟩) (by assumption) ?rdp8
    case hdp8 => (intro w hSw; (try dsimp only at hSw); first | (go_simp; done) | (go_simp; with_reducible rfl))
    try simp only [Act.put, List.setIfInBounds_toArray, List.set_cons_zero, List.set_cons_succ]
    refine take_dst (some 59) (i := 8) (v := ?vdp9) rfl (by as_aux_lemma => kernel_rfl) (by as_aux_lemma => kernel_rfl) (by as_aux_lemma => kernel_rfl) (by as_aux_lemma => kernel_rfl) (fun _ _ _ h => h) (Or.inl ⟨by kernel_rfl, ?hdp9⟩) (by assumption) ?rdp9
    case hdp9 => (intro w hSw; (try dsimp only at hSw); first | (go_simp; done) | (go_simp; with_reducible rfl))
    try simp only [Act.put, List.setIfInBounds_toArray, List.set_cons_zero, List.set_cons_succ]
    refine wpAnyH_ready (rs := [9, 10]) (by as_aux_lemma => kernel_rfl) (by simp) ?_
    refine (AllReadyH.cons rfl (fun dK10 hdK10 => ?_) (AllReadyH.cons rfl (fun dK11 hdK11 => ?_) AllReadyH.nil))
    · skip
      have on : Only Nil v0 (v0.alloc (.cells #[.string ⟨#[]⟩, .bool false, .int .i64 0, .slice none 0 0] 40)) := (Only.refl Nil v0).alloc _
      have HNHX := Lib.hid (show w3.heap.size ≤ v0.heap.size from OO.out.size)
      have HX := Lib.hid (bx_new v0 [.string ⟨#[]⟩, .bool false, .int .i64 0, .slice none 0 0] 40)
      have X := Lib.hid (OO.out.trans on); clear OO; have OO := X; clear X
      go_simp
      obtain ⟨v13, hv13⟩ : ∃ v, v = v0.alloc (.cells #[.string ⟨#[]⟩, .bool false, .int .i64 0, .slice none 0 0] 40) := ⟨_, rfl⟩
      change Hid (Bx (v0.alloc (.cells #[.string ⟨#[]⟩, .bool false, .int .i64 0, .slice none 0 0] 40)) v0.heap.size [.string ⟨#[]⟩, .bool false, .int .i64 0, .slice none 0 0] 40) at HX
      rw [← hv13] at OO on HX
      try rw [← hv13]
      refine hdK10.out _ _ ?dm12 (fun hHeld => ?_)
      case dm12 => exact CC.out _ OO.out
      clear hdK10 dK10 hv13 on
      generalize v0.heap.size = qHX at *
      try simp only [Act.put, List.setIfInBounds_toArray, List.set_cons_zero, List.set_cons_succ]
      refine wpAnyH_ready (rs := [10]) (by as_aux_lemma => kernel_rfl) (by simp) ?_
      refine AllReadyH.cons rfl (fun dK14 hdK14 => ?_) AllReadyH.nil
      have on : Only Nil v13 (v13.alloc (.cells #[.string ⟨#[]⟩, .bool false, .int .i64 0, .slice none 0 0] 40)) := (Only.refl Nil v13).alloc _
      have HNHY := Lib.hid (show w3.heap.size ≤ v13.heap.size from OO.out.size)
      have X := Lib.hid (show qHX < v13.heap.size from lt_of_block HX.out); have HLHX := X; clear X; have HY := Lib.hid (bx_new v13 [.string ⟨#[]⟩, .bool false, .int .i64 0, .slice none 0 0] 40)
      have X := Lib.hid (HX.out.keep on); clear HX; have HX := X; clear X; have X := Lib.hid (OO.out.trans on); clear OO; have OO := X; clear X
      go_simp
      obtain ⟨v16, hv16⟩ : ∃ v, v = v13.alloc (.cells #[.string ⟨#[]⟩, .bool false, .int .i64 0, .slice none 0 0] 40) := ⟨_, rfl⟩
      change Hid (Bx (v13.alloc (.cells #[.string ⟨#[]⟩, .bool false, .int .i64 0, .slice none 0 0] 40)) v13.heap.size [.string ⟨#[]⟩, .bool false, .int .i64 0, .slice none 0 0] 40) at HY
      rw [← hv16] at OO on HX HY
      try rw [← hv16]
      refine hdK14.out _ _ ?dm15 (fun hHeld => ?_)
      case dm15 => exact CC.out _ OO.out
      clear hdK14 dK14 hv16 on
      generalize v13.heap.size = qHY at *
      try simp only [Act.put, List.setIfInBounds_toArray, List.set_cons_zero, List.set_cons_succ]
      refine wpAnyH_ready (rs := [11]) (by as_aux_lemma => kernel_rfl) (by simp) ?_
      refine AllReadyH.cons rfl (fun dK17 hdK17 => ?_) AllReadyH.nil
      have bz := HX.out
      have z0 := bz.cell 0 (v := .string ⟨#[]⟩) rfl
      have z1 := bz.cell 1 (v := .bool false) rfl
      have z2 := bz.cell 2 (v := .int .i64 0) rfl
      have z3 := bz.cell 3 (v := .slice none 0 0) rfl
      have f0 := bz.free 0
      have f1 := bz.free 1
      have f2 := bz.free 2
      have f3 := bz.free 3
      have s1 := bx_set (bz) 0 (.string (bs t1.tag))
      have s2 := bx_set (s1) 1 (.bool t1.only)
      have s3 := bx_set (s2) 2 (.int .i64 t1.n)
      have s4 := bx_set (s3) 3 (.slice e1 m1 d1)
      simp only [List.set_cons_zero, List.set_cons_succ] at s4
      have oS := (((((Only.refl (At qHX) v16).setCell (p := ⟨qHX, 0, none⟩) rfl (.string (bs t1.tag))).setCell (p := ⟨qHX, 1, none⟩) rfl (.bool t1.only)).setCell (p := ⟨qHX, 2, none⟩) rfl (.int .i64 t1.n)).setCell (p := ⟨qHX, 3, none⟩) rfl (.slice e1 m1 d1))
      have X := Lib.hid s4; clear HX; have HX := X; clear X
      have X := Lib.hid (HY.out.at_ oS (by have := HLHX.out; omega)); clear HY; have HY := X; clear X
      have X := Lib.hid (OO.out.then oS (fun g hg hlt => by have e1 : g = qHX := hg; have := HNHX.out; omega)); clear OO; have OO := X; clear X
      go_simp
      clear bz z0 z1 z2 z3 f0 f1 f2 f3 s1 s2 s3 s4
      obtain ⟨v19, hv19⟩ : ∃ v, v = ((((v16.setCell ⟨qHX, 0, none⟩ (.string (bs t1.tag))).setCell ⟨qHX, 1, none⟩ (.bool t1.only)).setCell ⟨qHX, 2, none⟩ (.int .i64 t1.n)).setCell ⟨qHX, 3, none⟩ (.slice e1 m1 d1)) := ⟨_, rfl⟩
      rw [← hv19] at OO HX HY
      rw [← hv19]
      refine hdK17.out _ _ ?dm18 (fun hHeld => ?_)
      case dm18 => exact CC.out _ OO.out
      clear hdK17 dK17 hv19 oS
      try simp only [Act.put, List.setIfInBounds_toArray, List.set_cons_zero, List.set_cons_succ]
      refine wpAnyH_ready (rs := [12]) (by as_aux_lemma => kernel_rfl) (by simp) ?_
      refine AllReadyH.cons rfl (fun dK20 hdK20 => ?_) AllReadyH.nil
      have bz := HY.out
      have z0 := bz.cell 0 (v := .string ⟨#[]⟩) rfl
      have z1 := bz.cell 1 (v := .bool false) rfl
      have z2 := bz.cell 2 (v := .int .i64 0) rfl
      have z3 := bz.cell 3 (v := .slice none 0 0) rfl
      have f0 := bz.free 0
      have f1 := bz.free 1
      have f2 := bz.free 2
      have f3 := bz.free 3
      have s1 := bx_set (bz) 0 (.string (bs t2.tag))
      have s2 := bx_set (s1) 1 (.bool t2.only)
      have s3 := bx_set (s2) 2 (.int .i64 t2.n)
      have s4 := bx_set (s3) 3 (.slice e2 m2 d2)
      simp only [List.set_cons_zero, List.set_cons_succ] at s4
      have oS := (((((Only.refl (At qHY) v19).setCell (p := ⟨qHY, 0, none⟩) rfl (.string (bs t2.tag))).setCell (p := ⟨qHY, 1, none⟩) rfl (.bool t2.only)).setCell (p := ⟨qHY, 2, none⟩) rfl (.int .i64 t2.n)).setCell (p := ⟨qHY, 3, none⟩) rfl (.slice e2 m2 d2))
      have X := Lib.hid s4; clear HY; have HY := X; clear X
      have X := Lib.hid (HX.out.at_ oS (by have := HLHX.out; omega)); clear HX; have HX := X; clear X
      have X := Lib.hid (OO.out.then oS (fun g hg hlt => by have e1 : g = qHY := hg; have := HNHY.out; omega)); clear OO; have OO := X; clear X
      go_simp
      clear bz z0 z1 z2 z3 f0 f1 f2 f3 s1 s2 s3 s4
      obtain ⟨v22, hv22⟩ : ∃ v, v = ((((v19.setCell ⟨qHY, 0, none⟩ (.string (bs t2.tag))).setCell ⟨qHY, 1, none⟩ (.bool t2.only)).setCell ⟨qHY, 2, none⟩ (.int .i64 t2.n)).setCell ⟨qHY, 3, none⟩ (.slice e2 m2 d2)) := ⟨_, rfl⟩
      rw [← hv22] at OO HX HY
      rw [← hv22]
      refine hdK20.out _ _ ?dm21 (fun hHeld => ?_)
      case dm21 => exact CC.out _ OO.out
      clear hdK20 dK20 hv22 oS
      try simp only [Act.put, List.setIfInBounds_toArray, List.set_cons_zero, List.set_cons_succ]
      refine wpAnyH_done (by as_aux_lemma => kernel_rfl) ?_ _
      go_wp2_with (fail)
      go_meet
      exact ⟨qHX, qHY, rfl, rfl, HX, HY, HNHX, HNHY, OO⟩
    · skip
      have on : Only Nil v0 (v0.alloc (.cells #[.string ⟨#[]⟩, .bool false, .int .i64 0, .slice none 0 0] 40)) := (Only.refl Nil v0).alloc _
      have HNHY := Lib.hid (show w3.heap.size ≤ v0.heap.size from OO.out.size)
      have HY := Lib.hid (bx_new v0 [.string ⟨#[]⟩, .bool false, .int .i64 0, .slice none 0 0] 40)
      have X := Lib.hid (OO.out.trans on); clear OO; have OO := X; clear X
      go_simp
      obtain ⟨v24, hv24⟩ : ∃ v, v = v0.alloc (.cells #[.string ⟨#[]⟩, .bool false, .int .i64 0, .slice none 0 0] 40) := ⟨_, rfl⟩
      change Hid (Bx (v0.alloc (.cells #[.string ⟨#[]⟩, .bool false, .int .i64 0, .slice none 0 0] 40)) v0.heap.size [.string ⟨#[]⟩, .bool false, .int .i64 0, .slice none 0 0] 40) at HY
      rw [← hv24] at OO on HY
      try rw [← hv24]
      refine hdK11.out _ _ ?dm23 (fun hHeld => ?_)
      case dm23 => exact CC.out _ OO.out
      clear hdK11 dK11 hv24 on
      generalize v0.heap.size = qHY at *
      try simp only [Act.put, List.setIfInBounds_toArray, List.set_cons_zero, List.set_cons_succ]
      refine wpAnyH_ready (rs := [9]) (by as_aux_lemma => kernel_rfl) (by simp) ?_
      refine AllReadyH.cons rfl (fun dK25 hdK25 => ?_) AllReadyH.nil
      have on : Only Nil v24 (v24.alloc (.cells #[.string ⟨#[]⟩, .bool false, .int .i64 0, .slice none 0 0] 40)) := (Only.refl Nil v24).alloc _
      have HNHX := Lib.hid (show w3.heap.size ≤ v24.heap.size from OO.out.size)
      have X := Lib.hid (show qHY < v24.heap.size from lt_of_block HY.out); have HLHY := X; clear X; have HX := Lib.hid (bx_new v24 [.string ⟨#[]⟩, .bool false, .int .i64 0, .slice none 0 0] 40)
      have X := Lib.hid (HY.out.keep on); clear HY; have HY := X; clear X; have X := Lib.hid (OO.out.trans on); clear OO; have OO := X; clear X
      go_simp
      obtain ⟨v27, hv27⟩ : ∃ v, v = v24.alloc (.cells #[.string ⟨#[]⟩, .bool false, .int .i64 0, .slice none 0 0] 40) := ⟨_, rfl⟩
      change Hid (Bx (v24.alloc (.cells #[.string ⟨#[]⟩, .bool false, .int .i64 0, .slice none 0 0] 40)) v24.heap.size [.string ⟨#[]⟩, .bool false, .int .i64 0, .slice none 0 0] 40) at HX
      rw [← hv27] at OO on HY HX
      try rw [← hv27]
      refine hdK25.out _ _ ?dm26 (fun hHeld => ?_)
      case dm26 => exact CC.out _ OO.out
      clear hdK25 dK25 hv27 on
      generalize v24.heap.size = qHX at *
      try simp only [Act.put, List.setIfInBounds_toArray, List.set_cons_zero, List.set_cons_succ]
      refine wpAnyH_ready (rs := [11]) (by as_aux_lemma => kernel_rfl) (by simp) ?_
      refine AllReadyH.cons rfl (fun dK28 hdK28 => ?_) AllReadyH.nil
      have bz := HX.out
      have z0 := bz.cell 0 (v := .string ⟨#[]⟩) rfl
      have z1 := bz.cell 1 (v := .bool false) rfl
      have z2 := bz.cell 2 (v := .int .i64 0) rfl
      have z3 := bz.cell 3 (v := .slice none 0 0) rfl
      have f0 := bz.free 0
      have f1 := bz.free 1
      have f2 := bz.free 2
      have f3 := bz.free 3
      have s1 := bx_set (bz) 0 (.string (bs t1.tag))
      have s2 := bx_set (s1) 1 (.bool t1.only)
      have s3 := bx_set (s2) 2 (.int .i64 t1.n)
      have s4 := bx_set (s3) 3 (.slice e1 m1 d1)
      simp only [List.set_cons_zero, List.set_cons_succ] at s4
      have oS := (((((Only.refl (At qHX) v27).setCell (p := ⟨qHX, 0, none⟩) rfl (.string (bs t1.tag))).setCell (p := ⟨qHX, 1, none⟩) rfl (.bool t1.only)).setCell (p := ⟨qHX, 2, none⟩) rfl (.int .i64 t1.n)).setCell (p := ⟨qHX, 3, none⟩) rfl (.slice e1 m1 d1))
      have X := Lib.hid s4; clear HX; have HX := X; clear X
      have X := Lib.hid (HY.out.at_ oS (by have := HLHY.out; omega)); clear HY; have HY := X; clear X
      have X := Lib.hid (OO.out.then oS (fun g hg hlt => by have e1 : g = qHX := hg; have := HNHX.out; omega)); clear OO; have OO := X; clear X
      go_simp
      clear bz z0 z1 z2 z3 f0 f1 f2 f3 s1 s2 s3 s4
      obtain ⟨v30, hv30⟩ : ∃ v, v = ((((v27.setCell ⟨qHX, 0, none⟩ (.string (bs t1.tag))).setCell ⟨qHX, 1, none⟩ (.bool t1.only)).setCell ⟨qHX, 2, none⟩ (.int .i64 t1.n)).setCell ⟨qHX, 3, none⟩ (.slice e1 m1 d1)) := ⟨_, rfl⟩
      rw [← hv30] at OO HX HY
      rw [← hv30]
      refine hdK28.out _ _ ?dm29 (fun hHeld => ?_)
      case dm29 => exact CC.out _ OO.out
      clear hdK28 dK28 hv30 oS
      try simp only [Act.put, List.setIfInBounds_toArray, List.set_cons_zero, List.set_cons_succ]
      refine wpAnyH_ready (rs := [12]) (by as_aux_lemma => kernel_rfl) (by simp) ?_
      refine AllReadyH.cons rfl (fun dK31 hdK31 => ?_) AllReadyH.nil
      have bz := HY.out
      have z0 := bz.cell 0 (v := .string ⟨#[]⟩) rfl
      have z1 := bz.cell 1 (v := .bool false) rfl
      have z2 := bz.cell 2 (v := .int .i64 0) rfl
      have z3 := bz.cell 3 (v := .slice none 0 0) rfl
      have f0 := bz.free 0
      have f1 := bz.free 1
      have f2 := bz.free 2
      have f3 := bz.free 3
      have s1 := bx_set (bz) 0 (.string (bs t2.tag))
      have s2 := bx_set (s1) 1 (.bool t2.only)
      have s3 := bx_set (s2) 2 (.int .i64 t2.n)
      have s4 := bx_set (s3) 3 (.slice e2 m2 d2)
      simp only [List.set_cons_zero, List.set_cons_succ] at s4
      have oS := (((((Only.refl (At qHY) v30).setCell (p := ⟨qHY, 0, none⟩) rfl (.string (bs t2.tag))).setCell (p := ⟨qHY, 1, none⟩) rfl (.bool t2.only)).setCell (p := ⟨qHY, 2, none⟩) rfl (.int .i64 t2.n)).setCell (p := ⟨qHY, 3, none⟩) rfl (.slice e2 m2 d2))
      have X := Lib.hid s4; clear HY; have HY := X; clear X
      have X := Lib.hid (HX.out.at_ oS (by have := HLHY.out; omega)); clear HX; have HX := X; clear X
      have X := Lib.hid (OO.out.then oS (fun g hg hlt => by have e1 : g = qHY := hg; have := HNHY.out; omega)); clear OO; have OO := X; clear X
      go_simp
      clear bz z0 z1 z2 z3 f0 f1 f2 f3 s1 s2 s3 s4
      obtain ⟨v33, hv33⟩ : ∃ v, v = ((((v30.setCell ⟨qHY, 0, none⟩ (.string (bs t2.tag))).setCell ⟨qHY, 1, none⟩ (.bool t2.only)).setCell ⟨qHY, 2, none⟩ (.int .i64 t2.n)).setCell ⟨qHY, 3, none⟩ (.slice e2 m2 d2)) := ⟨_, rfl⟩
      rw [← hv33] at OO HX HY
      rw [← hv33]
      refine hdK31.out _ _ ?dm32 (fun hHeld => ?_)
      case dm32 => exact CC.out _ OO.out
      clear hdK31 dK31 hv33 oS
      try simp only [Act.put, List.setIfInBounds_toArray, List.set_cons_zero, List.set_cons_succ]
      refine wpAnyH_done (by as_aux_lemma => kernel_rfl) ?_ _
      go_wp2_with (fail)
      go_meet
      exact ⟨qHX, qHY, rfl, rfl, HX, HY, HNHX, HNHY, OO⟩
  case rest =>
    obtain ⟨qHX, qHY, rfl, rfl, HX, HY, HNHX, HNHY, OO⟩ := hcut
    generalize wc = w4 at *
    go_upto_region 8 with (fail)
    obtain ⟨bad, hbad⟩ : ∃ b : Bool, b = decide (t1.tag = [] ∨ t2.tag = [] ∨ (t1.tag = t2.tag ∧ (t1.only = false ∨ t2.only = false ∨ t1.n = t2.n))) := ⟨_, rfl⟩
    have HBAD := Lib.hid hbad
    clear hbad
    go_cut [91] (fun s91 wx => s91 = .bool bad ∧ w4 = wx)
    case first =>
      have x0 := HX.out.cell 0 (v := .string (bs t1.tag)) rfl
      have x1 := HX.out.cell 1 (v := .bool t1.only) rfl
      have x2 := HX.out.cell 2 (v := .int .i64 t1.n) rfl
      have y0 := HY.out.cell 0 (v := .string (bs t2.tag)) rfl
      have y1 := HY.out.cell 1 (v := .bool t2.only) rfl
      have y2 := HY.out.cell 2 (v := .int .i64 t2.n) rfl
      by_cases n1 : t1.tag = []
      · have g1' : (bs t1.tag).toList.isEmpty = true := by rw [emp_bs]; exact decide_eq_true n1
        have hb : bad = true := by rw [HBAD.out]; exact decide_eq_true (Or.inl n1)
        clear n1
        go_wp2_with (fail)
        go_meet
        exact ⟨by rw [hb], rfl⟩
      have g1' := emp_no n1
      by_cases n2 : t2.tag = []
      · have g2' : (bs t2.tag).toList.isEmpty = true := by rw [emp_bs]; exact decide_eq_true n2
        have hb : bad = true := by rw [HBAD.out]; exact decide_eq_true (Or.inr (Or.inl n2))
        clear n1 n2
        go_wp2_with (fail)
        go_meet
        exact ⟨by rw [hb], rfl⟩
      have g2' := emp_no n2
      by_cases n3 : t1.tag = t2.tag
      · have g3' : ((bs t1.tag).toList == (bs t2.tag).toList) = true := lit_eb n3
        by_cases n4 : t1.only = false
        · have hb : bad = true := by rw [HBAD.out]; exact decide_eq_true (Or.inr (Or.inr ⟨n3, Or.inl n4⟩))
          rw [n4] at x1
          clear n1 n2 n3 n4
          go_wp2_with (fail)
          go_meet
          exact ⟨by rw [hb], rfl⟩
        have n4' : t1.only = true := by simpa using n4
        rw [n4'] at x1
        by_cases n5 : t2.only = false
        · have hb : bad = true := by rw [HBAD.out]; exact decide_eq_true (Or.inr (Or.inr ⟨n3, Or.inr (Or.inl n5)⟩))
          rw [n5] at y1
          clear n1 n2 n3 n4 n5 n4'
          go_wp2_with (fail)
          go_meet
          exact ⟨by rw [hb], rfl⟩
        have n5' : t2.only = true := by simpa using n5
        rw [n5'] at y1
        by_cases n6 : t1.n = t2.n
        · have hb : bad = true := by rw [HBAD.out]; exact decide_eq_true (Or.inr (Or.inr ⟨n3, Or.inr (Or.inr n6)⟩))
          have g6 : (t1.n == t2.n) = true := by simpa using n6
          clear n1 n2 n3 n4 n5 n4' n5' n6
          go_wp2_with (fail)
          go_meet
          exact ⟨by rw [hb], rfl⟩
        have g6 : (t1.n == t2.n) = false := by simpa using n6
        have hb : bad = false := by rw [HBAD.out]; exact decide_eq_false (fun h => by rcases h with h | h | ⟨_, h | h | h⟩ <;> (first | exact n1 h | exact n2 h | exact n4 h | exact n5 h | exact n6 h))
        clear n1 n2 n3 n4 n5 n4' n5' n6
        go_wp2_with (fail)
        go_meet
        exact ⟨by rw [hb], rfl⟩
      have g3' := str_ne n3
      have hb : bad = false := by rw [HBAD.out]; exact decide_eq_false (fun h => by rcases h with h | h | h <;> (first | exact n1 h | exact n2 h | exact n3 h.1))
      clear n1 n2 n3
      go_wp2_with (fail)
      go_meet
      exact ⟨by rw [hb], rfl⟩
    case rest =>
      obtain ⟨rfl, rfl⟩ := hcut
      cases bad with
      | true =>
        go_wp2
        go_ret
        exact ⟨rfl, below_of (OA.out.trans (O3.out.trans OO.out))⟩
      | false =>
        have HFS := Lib.hid (show ¬ (fitsR t n t1 = true ∧ fitsR t n t2 = true) from by
          have h := of_decide_eq_false HBAD.out.symm
          exact fits_no (fun h' => h (Or.inl h')) (fun h' => h (Or.inr (Or.inl h'))) (fun h' => h (Or.inr (Or.inr h'))))
        go_upto_region 10 with (fail)
        have R4 := Lib.hid (R3.out.keep OO.out (nilS · _))
        have F4 := Lib.hid (F3.out.keep OO.out (fun h => h.elim))
        have X4 := Lib.hid (X3.out.keep OO.out)
        have OT4 := Lib.hid (O3.out.trans OO.out)
        have HQX := Lib.hid (show g1 < qHX from by have := HNHX.out; have := HG3.out; omega)
        have HQY := Lib.hid (show g1 < qHY from by have := HNHY.out; have := HG3.out; omega)
        have HW3 := Lib.hid (show w3.heap.size ≤ w4.heap.size from OO.out.size)
        clear OO CC R3 F3 X3 O3 HK1 HK2
        have hk1 := cells_at (f := rowCs) (s := 4) (fun _ => rfl) (by decide) R4.out HZrl.out r (by have := HR1e.out; have := HrN.out; omega) HZ1.out
        have s0 : w4.cell? ⟨g1, r * 4, none⟩ = some (.string (bs t1.tag)) := hk1 0 (by decide)
        have s1 : w4.cell? ⟨g1, r * 4 + 1, none⟩ = some (.bool t1.only) := hk1 1 (by decide)
        have s2 : w4.cell? ⟨g1, r * 4 + 2, none⟩ = some (.int .i64 t1.n) := hk1 2 (by decide)
        have s3 : w4.cell? ⟨g1, r * 4 + 3, none⟩ = some (.slice e1 m1 d1) := hk1 3 (by decide)
        have f0 := F4.out.free (r * 4)
        have f1 := F4.out.free (r * 4 + 1)
        have f2 := F4.out.free (r * 4 + 2)
        have f3 := F4.out.free (r * 4 + 3)
        have y0 := HY.out.cell 0 (v := .string (bs t2.tag)) rfl
        have y1 := HY.out.cell 1 (v := .bool t2.only) rfl
        have y2 := HY.out.cell 2 (v := .int .i64 t2.n) rfl
        have y3 := HY.out.cell 3 (v := .slice e2 m2 d2) rfl
        clear hk1
        go_upto_region 11 with (fail)
        clear s0 s1 s2 s3 f0 f1 f2 f3 y0 y1 y2 y3
        obtain ⟨wA, hwA⟩ : ∃ wA, wA = w4.setCells g1 (r * 4) (rowCs (t2, .slice e2 m2 d2)) := ⟨_, rfl⟩
        have ew : (((w4.setCell ⟨g1, r * 4, none⟩ (.string (bs t2.tag))).setCell ⟨g1, r * 4 + 1, none⟩ (.bool t2.only)).setCell ⟨g1, r * 4 + 2, none⟩ (.int .i64 t2.n)).setCell ⟨g1, r * 4 + 3, none⟩ (.slice e2 m2 d2) = wA := hwA.symm
        rw [ew]
        clear ew
        have oA : Only (At g1) w4 wA := hwA ▸ only_setCells (S := At g1) g1 rfl _ _ _ (Only.refl _ _)
        have RA := Lib.hid (show CIn w3.heap.size wA (.slice (some ⟨g1, 0, none⟩) nR cr) nR 4 ((Zr.set r (t2, Value.slice e2 m2 d2)).flatMap rowCs) from hwA ▸ cin_put (f := rowCs) (s := 4) (fun _ => rfl) (by decide) R4.out HZrl.out r (by have := HrN.out; have := HR1e.out; omega) _)
        have FA := Lib.hid (show Blk wA g1 40 from hwA ▸ Blk.set F4.out _ _)
        have HXA := Lib.hid (HX.out.at_ oA (by have := HQX.out; omega))
        have XA4 := Lib.hid (X4.out.at_ oA (by have := HG1.out; omega))
        have OTA := Lib.hid (OT4.out.then oA (fun kk hk hlt => by have e : kk = g1 := hk; have := HGE.out; omega))
        have HlA := Lib.hid (show (Zr.set r (t2, Value.slice e2 m2 d2)).length = nR by rw [List.length_set]; exact HZrl.out)
        have HZ2A := Lib.hid (show ∀ h : r1 < (Zr.set r (t2, Value.slice e2 m2 d2)).length, (t2, Value.slice e2 m2 d2) = (Zr.set r (t2, Value.slice e2 m2 d2))[r1]'h from fun h => by
          have hne : r ≠ r1 := by have := HR1e.out; omega
          rw [List.getElem_set, if_neg hne]
          exact HZ2.out _)
        have X := Lib.hid (Nat.le_trans HW3.out oA.size); clear HW3; have HW3 := X; clear X
        clear hwA oA HX HY X4 R4 F4 OT4
        have hk2 := cells_at (f := rowCs) (s := 4) (fun _ => rfl) (by decide) RA.out HlA.out r1 (by have := HrN.out; omega) HZ2A.out
        have s0 : wA.cell? ⟨g1, r1 * 4, none⟩ = some (.string (bs t2.tag)) := hk2 0 (by decide)
        have s1 : wA.cell? ⟨g1, r1 * 4 + 1, none⟩ = some (.bool t2.only) := hk2 1 (by decide)
        have s2 : wA.cell? ⟨g1, r1 * 4 + 2, none⟩ = some (.int .i64 t2.n) := hk2 2 (by decide)
        have s3 : wA.cell? ⟨g1, r1 * 4 + 3, none⟩ = some (.slice e2 m2 d2) := hk2 3 (by decide)
        have f0 := FA.out.free (r1 * 4)
        have f1 := FA.out.free (r1 * 4 + 1)
        have f2 := FA.out.free (r1 * 4 + 2)
        have f3 := FA.out.free (r1 * 4 + 3)
        have x0 := HXA.out.cell 0 (v := .string (bs t1.tag)) rfl
        have x1 := HXA.out.cell 1 (v := .bool t1.only) rfl
        have x2 := HXA.out.cell 2 (v := .int .i64 t1.n) rfl
        have x3 := HXA.out.cell 3 (v := .slice e1 m1 d1) rfl
        clear hk2
        go_upto_region 12 with (fail)
        clear s0 s1 s2 s3 f0 f1 f2 f3 x0 x1 x2 x3
        obtain ⟨wB, hwB⟩ : ∃ wB, wB = wA.setCells g1 (r1 * 4) (rowCs (t1, .slice e1 m1 d1)) := ⟨_, rfl⟩
        have ew : (((wA.setCell ⟨g1, r1 * 4, none⟩ (.string (bs t1.tag))).setCell ⟨g1, r1 * 4 + 1, none⟩ (.bool t1.only)).setCell ⟨g1, r1 * 4 + 2, none⟩ (.int .i64 t1.n)).setCell ⟨g1, r1 * 4 + 3, none⟩ (.slice e1 m1 d1) = wB := hwB.symm
        rw [ew]
        clear ew
        have oB : Only (At g1) wA wB := hwB ▸ only_setCells (S := At g1) g1 rfl _ _ _ (Only.refl _ _)
        have RB := Lib.hid (show CIn w3.heap.size wB (.slice (some ⟨g1, 0, none⟩) nR cr) nR 4 (((Zr.set r (t2, Value.slice e2 m2 d2)).set r1 (t1, Value.slice e1 m1 d1)).flatMap rowCs) from hwB ▸ cin_put (f := rowCs) (s := 4) (fun _ => rfl) (by decide) RA.out HlA.out r1 (by have := HrN.out; omega) _)
        have XB := Lib.hid (XA4.out.at_ oB (by have := HG1.out; omega))
        have OTB := Lib.hid (OTA.out.then oB (fun kk hk hlt => by have e : kk = g1 := hk; have := HGE.out; omega))
        have HGB := Lib.hid (show g1 < wB.heap.size from by have h1 := OTA.out.size; have h2 := oB.size; have h3 := FA.out; obtain ⟨cur, h3⟩ := h3; have := lt_of_block h3; omega)
        have X := Lib.hid (Nat.le_trans HW3.out oB.size); clear HW3; have HW3 := X; clear X
        clear hwB oB HXA XA4 RA FA OTA HZ2A
        have k0 := XB.out.cell 0 (v := .string (bs k.name)) rfl
        obtain ⟨w5, hw5⟩ : ∃ w5, w5 = wB.alloc (.cells #[.string (bs k.name), .int .i64 0, .int .i64 0, .slice none 0 0, .slice none 0 0] 25) := ⟨_, rfl⟩
        have o5 : Only Nil wB w5 := hw5 ▸ (Only.refl Nil wB).alloc _
        have BT := Lib.hid (show Bx w5 wB.heap.size [.string (bs k.name), .int .i64 0, .int .i64 0, .slice none 0 0, .slice none 0 0] 25 from hw5 ▸ bx_new wB [.string (bs k.name), .int .i64 0, .int .i64 0, .slice none 0 0, .slice none 0 0] _)
        have OT5 := Lib.hid (OTB.out.trans o5)
        have X5 := Lib.hid (XB.out.keep o5)
        have R5 := Lib.hid (RB.out.keep o5 (nilS · _))
        go_upto_region 13 with (fail)
        rw [← hw5]
        have X := Lib.hid (Nat.le_trans HW3.out o5.size); clear HW3; have HW3 := X; clear X
        clear hw5 k0 o5 XB RB
        have HTb := Lib.hid (show g1 < wB.heap.size from HGB.out)
        have HTl := Lib.hid (show wB.heap.size < w5.heap.size from lt_of_block BT.out)
        have HTw := Lib.hid (show w2.heap.size ≤ wB.heap.size from OTB.out.size)
        clear HGB OTB
        generalize wB.heap.size = Tb at *
        obtain ⟨cs, w6, hrun2, own2, o6⟩ := copy_cin (P := Try.prog) (t := 23) (ty := 23) Try.underlying23 Try.infoSta rfl (HcS.out.keep OT5.out (nilS · _)) (World.ownsRow_nil w5 0 48 2) (by have := HiN.out; omega) (by decide) (by decide) H40.out
        have HR2 := Lib.hid hrun2
        have x4 := X5.out.cell 4 (v := .slice (some ⟨q2, off2, none⟩) nS c2) rfl
        have T6 := BT.out.keep o6
        have kT := BT.out.cell 4 (v := .slice none 0 0) rfl
        have kT6 := T6.cell 4 (v := .slice none 0 0) rfl
        have fT6 := T6.free 4
        clear hrun2
        go_upto_region 14 with (at_builtin; refine Lib.wpList_append_run _ rfl (.tmp 105) (.tmp 107) 23 23 rfl _ _ rfl rfl _ _ HR2.out ?_)
        have hg2 := (own2.lt w5.heap.size rfl).2
        have S6 := own_cin own2
        have FF6 := Blk.of own2
        obtain ⟨g2, hg2e⟩ : ∃ g, g = w5.heap.size := ⟨_, rfl⟩
        rw [← hg2e] at S6 FF6 hg2
        rw [← hg2e]
        obtain ⟨w7, hw7⟩ : ∃ w7, w7 = w6.setCell ⟨Tb, 4, none⟩ (.slice (some ⟨g2, 0, none⟩) nS cs) := ⟨_, rfl⟩
        rw [← hw7]
        have o67 : Only (At Tb) w6 w7 := hw7 ▸ (Only.refl (At Tb) w6).setCell (p := ⟨Tb, 4, none⟩) rfl _
        have T7 := bx_set T6 4 (.slice (some ⟨g2, 0, none⟩) nS cs)
        rw [← hw7] at T7
        simp only [List.set_cons_succ, List.set_cons_zero] at T7
        have HT7 := Lib.hid T7
        have HG2 := Lib.hid (show Tb < g2 from by have := HTl.out; omega)
        have OT7 := Lib.hid ((OT5.out.trans o6).then o67 (fun kk hk hlt => by have e : kk = Tb := hk; have := HTw.out; omega))
        have X7 := Lib.hid ((X5.out.keep o6).at_ o67 (by have := HG1.out; have := HTb.out; omega))
        have R7 := Lib.hid (cin_at (R5.out.keep o6 (nilS · _)) o67 (by have := HTb.out; omega))
        have S7 := Lib.hid (cin_at S6 o67 (by have := HG2.out; omega))
        have F7 := Lib.hid (FF6.keep o67 (fun h => by have e : g2 = Tb := h; have := HG2.out; omega))
        have HW67 := Lib.hid o67.size
        have HW37 := Lib.hid (Nat.le_trans HW3.out (Nat.le_trans o6.size o67.size))
        clear own2 HR2 S6 FF6 T6 T7 hw7 o67 o6 HW3 kT kT6 fT6 x4 hg2 hg2e X5 R5 OT5 BT
        have hk := cells_at (f := staCs) (s := 2) (fun _ => rfl) (by decide) S7.out HZsl.out i HiN.out HZj.out
        have p0 : w7.cell? ⟨g2, i * 2, none⟩ = some (.string (bs y.name)) := hk 0 (by decide)
        have p1 : w7.cell? ⟨g2, i * 2 + 1, none⟩ = some (.slice (some ⟨q3, off3, none⟩) nR c3) := hk 1 (by decide)
        have f0 := F7.out.free (i * 2)
        have f1 := F7.out.free (i * 2 + 1)
        have x4 := X7.out.cell 4 (v := .slice (some ⟨q2, off2, none⟩) nS c2) rfl
        have kT := HT7.out.cell 4 (v := .slice (some ⟨g2, 0, none⟩) nS cs) rfl
        obtain ⟨bq, ho2, hq2, _, hcq⟩ := CIn.at_ (f := staCs) (s := 2) (fun _ => rfl) (by decide) (HcS.out.keep OT7.out (nilS · _)) HZsl.out i HiN.out
        obtain ⟨rfl, rfl⟩ : q2 = bq ∧ off2 = ho2 := by simpa using hq2
        have u0 : w7.cell? ⟨q2, off2 + i * 2, none⟩ = some (.string (bs y.name)) := by have := hcq 0 (by decide); rw [← HZj.out (by rw [HZsl.out]; exact HiN.out)] at this; exact this
        clear hk hcq hq2
        go_still_tail 12, (by kernel_rfl)
        change wpList _ _ _ _ _ w7.drew
        go_upto_region 15 with (fail)
        clear p0 p1 f0 f1 x4 kT u0
        obtain ⟨Zq, hZq⟩ : ∃ Zq, Zq = (Zr.set r (t2, Value.slice e2 m2 d2)).set r1 (t1, Value.slice e1 m1 d1) := ⟨_, rfl⟩
        rw [← hZq] at R7
        have HQM := Lib.hid (show ∀ x ∈ Zq, x ∈ Zr from by
          have h1 : r < Zr.length := by have := HrN.out; have := HR1e.out; have := HZrl.out; omega
          have h2 : r1 < Zr.length := by have := HrN.out; have := HZrl.out; omega
          have hp : Zq.Perm Zr := by rw [hZq, HZ1.out h1, HZ2.out h2]; exact List.set_set_perm h1 h2
          exact fun x hx => hp.mem_iff.1 hx)
        have HQL := Lib.hid (show Zq.length = nR from by rw [hZq, List.length_set, List.length_set]; exact HZrl.out)
        obtain ⟨R', hR'⟩ : ∃ R', R' = Zq.map Prod.fst := ⟨_, rfl⟩
        have HRF := Lib.hid (show R'.find? (fitsR t n) = y.rows.find? (fitsR t n) from by
          have h1 : r < Zr.length := by have := HrN.out; have := HR1e.out; have := HZrl.out; omega
          have h2 : r1 < Zr.length := by have := HrN.out; have := HZrl.out; omega
          rw [hR', hZq, List.map_set, List.map_set, ← HZre.out]
          have hh := HR1e.out
          subst hh
          refine find_swap (fitsR t n) (Zr.map Prod.fst) r t1 t2 ?_ ?_ HFS.out
          · rw [List.getElem?_map, List.getElem?_eq_getElem h1, ← HZ1.out h1]; rfl
          · rw [List.getElem?_map, List.getElem?_eq_getElem h2, ← HZ2.out h2]; rfl)
        have HRM := Lib.hid (show ∀ x ∈ R', x ∈ y.rows from fun x hx => by
          rw [hR'] at hx
          obtain ⟨z, hz, rfl⟩ := List.mem_map.1 hx
          rw [← HZre.out]; exact List.mem_map.2 ⟨z, HQM.out z hz, rfl⟩)
        have HRL := Lib.hid (show R'.length = nR from by rw [hR', List.length_map]; exact HQL.out)
        have HR' := Lib.hid hR'.symm
        clear hZq hR'
        obtain ⟨w8, hw8⟩ : ∃ w8, w8 = (w7.setCells g2 (i * 2) (staCs ((⟨y.name, R'⟩ : Sta), .slice (some ⟨g1, 0, none⟩) nR cr))).drew := ⟨_, rfl⟩
        have ew : ((w7.setCell ⟨g2, i * 2, none⟩ (.string (bs y.name))).setCell ⟨g2, i * 2 + 1, none⟩ (.slice (some ⟨g1, 0, none⟩) nR cr)).drew = w8 := hw8.symm
        rw [ew]
        clear ew
        have o8 : Only (At g2) w7 w8 := hw8 ▸ (only_setCells (S := At g2) g2 rfl _ _ _ (Only.refl _ _)).drew
        have S8 := (show CIn w6.heap.size w8 (.slice (some ⟨g2, 0, none⟩) nS cs) nS 2 ((Zs.set i ((⟨y.name, R'⟩ : Sta), Value.slice (some ⟨g1, 0, none⟩) nR cr)).flatMap staCs) from hw8 ▸ (cin_put (f := staCs) (s := 2) (fun _ => rfl) (by decide) S7.out HZsl.out i HiN.out _).keep ((Only.refl Nil _).drew) (nilS · _))
        have R8 := cin_at R7.out o8 (by have := HG2.out; have := HTb.out; omega)
        have T8 := Lib.hid (HT7.out.at_ o8 (by have := HG2.out; omega))
        have X8 := Lib.hid (X7.out.at_ o8 (by have := HG2.out; have := HTb.out; have := HG1.out; omega))
        have OT8 := Lib.hid (OT7.out.then o8 (fun kk hk hlt => by have e : kk = g2 := hk; have := HG2.out; have := HTw.out; omega))
        have hs6 : w6.heap.size ≤ w8.heap.size := by have h1 := OT7.out.size; have h2 := o8.size; have h3 := HW67.out; omega
        have hs3 : w3.heap.size ≤ w8.heap.size := by have h2 := o8.size; have h3 := HW37.out; omega
        have hD8 : w2.heap.size ≤ w8.heap.size := OT8.out.size
        have HTW := Lib.hid (show SIn w8.heap.size w8 (some ⟨g2, 0, none⟩) nS cs (k.states.set i ⟨y.name, R'⟩) from by
          refine ⟨⟨Zs.set i ((⟨y.name, R'⟩ : Sta), Value.slice (some ⟨g1, 0, none⟩) nR cr), by rw [List.map_set, HZse.out], ?_, fun z hz => ?_⟩, by rw [List.length_set]; exact HSA.out.hn, HSA.out.hb, fun x hx => ?_, fun x hx => ?_, Nat.le_refl _⟩
          · have hl : (k.states.set i ⟨y.name, R'⟩).length = nS := by rw [List.length_set]; exact HSA.out.hn
            rw [hl]; exact S8.mono hs6
          · rcases List.mem_or_eq_of_mem_set hz with hz | rfl
            · exact ((HiS.out z hz).keep OT8.out (nilS · _)).mono (by have := HDA.out; omega)
            · refine ⟨Zq, HR'.out, by dsimp only; rw [HRL.out]; exact R8.mono hs3, fun u hu => ?_⟩
              exact ((HiR.out u (HQM.out u hu)).keep OT8.out (nilS · _)).mono (by have := HDA.out; omega)
          · rcases List.mem_or_eq_of_mem_set hx with hx | rfl
            · exact HSA.out.wf x hx
            · exact ⟨HYW.out.name, fun u hu => HYW.out.rows u (HRM.out u hu)⟩
          · rcases List.mem_or_eq_of_mem_set hx with hx | rfl
            · exact HSA.out.bz x hx
            · exact ⟨by dsimp only; rw [HRL.out]; exact HbR.out, fun u hu => HYB.out.2 u (HRM.out u hu)⟩)
        have HS8 := Lib.hid (HSA.out.keep OT8.out)
        clear o8 S8 R8 hw8 hs6 hs3 hD8 S7 R7 F7 HT7 X7 OT7 HR'
        go_wp2
        go_loopw [15] (fun s15 wr => ∃ (l : Nat), l ≤ nS ∧ s15 = .int .i64 (l : Int) ∧ Hid (Only Nil w8 wr)) (fun s15 _ => nS - (intOf s15).toNat)
        case atStart => exact ⟨0, Nat.zero_le _, rfl, Lib.hid (Only.refl _ _)⟩
        case round =>
          obtain ⟨l, hl, rfl, hO⟩ := hrel
          have x4 := (X8.out.keep hO.out).cell 4 (v := .slice (some ⟨q2, off2, none⟩) nS c2) rfl
          by_cases hlm : l < nS
          · obtain ⟨sx, ⟨bq, ho2, hq2, hlt, hcq⟩, gx⟩ := (HS8.out.keep hO.out).x.at_ HSA.out.hn l hlm
            obtain ⟨rfl, rfl⟩ : q2 = bq ∧ off2 = ho2 := by simpa using hq2
            generalize k.states[l]'(by rw [HSA.out.hn]; exact hlm) = s at *
            have c0 : wr.cell? ⟨q2, off2 + l * 2, none⟩ = some (.string (bs s.name)) := hcq 0 (by decide)
            have C0 := Lib.hid c0
            have hlmi : (l : Int) < (nS : Int) := by omega
            have h0l : (0 : Int) ≤ (l : Int) := Int.natCast_nonneg l
            have HI := Lib.hid hlm
            have HPE := Lib.hid (plan_set k.states i y R' HYY.out t n HRF.out s.name)
            have HD1 := Lib.hid (fun w' (o : Only Nil wr w') => do_any (nm := k.name) (lim := k.limit) (wi := k.within) (v1 := v1) ((HS8.out.keep hO.out).keep o) s.name t n HN.out)
            have HD2 := Lib.hid (fun w' (o : Only Nil wr w') => do_any (nm := k.name) (lim := 0) (wi := 0) (v1 := .slice none 0 0) ((HTW.out.keep hO.out).keep o) s.name t n HN.out)
            have HPZ := Lib.hid (show (planOf k.states s.name t n).effs.length ≤ 140737488355328 from by
              have h1 := doE_len n (rowOf k.states s.name t n).effs s.name
              have h2 := row_bz HSA.out.bz s.name t n
              unfold planOf; omega)
            rw [HPE.out] at HD2
            generalize planOf k.states s.name t n = p at *
            have CC := Lib.hid (show ∀ w', Only Nil wr w' → (fun w' : World => w'.cell? ⟨B1, 0, none⟩ = some (.string (bs k.name)) ∧ w'.cell? ⟨B1, 1, none⟩ = some (.int .i64 k.limit) ∧ w'.cell? ⟨B1, 2, none⟩ = some (.int .i64 k.within) ∧ w'.cell? ⟨B1, 3, none⟩ = some (v1) ∧ w'.cell? ⟨B1, 4, none⟩ = some ((.slice (some ⟨q2, off2, none⟩) nS c2)) ∧ w'.cell? ⟨Tb, 0, none⟩ = some (.string (bs k.name)) ∧ w'.cell? ⟨Tb, 1, none⟩ = some (.int .i64 0) ∧ w'.cell? ⟨Tb, 2, none⟩ = some (.int .i64 0) ∧ w'.cell? ⟨Tb, 3, none⟩ = some (.slice none 0 0) ∧ w'.cell? ⟨Tb, 4, none⟩ = some ((.slice (some ⟨g2, 0, none⟩) nS cs)) ∧ w'.cell? ⟨q2, off2 + l * 2, none⟩ = some (.string (bs s.name))) w' from fun w' o => by
              have h1 := X8.out.keep (hO.out.trans o)
              have h2 := T8.out.keep (hO.out.trans o)
              exact ⟨h1.cell 0 rfl, h1.cell 1 rfl, h1.cell 2 rfl, h1.cell 3 rfl, h1.cell 4 rfl, h2.cell 0 rfl, h2.cell 1 rfl, h2.cell 2 rfl, h2.cell 3 rfl, h2.cell 4 rfl, only_cell0 o C0.out⟩)
            have OL := Lib.hid (show Only Nil wr wr.drew from (Only.refl Nil wr).drew)
            clear hcq gx hlt hlm hl c0 HPE hq2
            go_upto_region 18 with (fail)
            clear x4
            refine wp_region_held_drew (S := fun w' => w'.cell? ⟨B1, 0, none⟩ = some (.string (bs k.name)) ∧ w'.cell? ⟨B1, 1, none⟩ = some (.int .i64 k.limit) ∧ w'.cell? ⟨B1, 2, none⟩ = some (.int .i64 k.within) ∧ w'.cell? ⟨B1, 3, none⟩ = some (v1) ∧ w'.cell? ⟨B1, 4, none⟩ = some ((.slice (some ⟨q2, off2, none⟩) nS c2)) ∧ w'.cell? ⟨Tb, 0, none⟩ = some (.string (bs k.name)) ∧ w'.cell? ⟨Tb, 1, none⟩ = some (.int .i64 0) ∧ w'.cell? ⟨Tb, 2, none⟩ = some (.int .i64 0) ∧ w'.cell? ⟨Tb, 3, none⟩ = some (.slice none 0 0) ∧ w'.cell? ⟨Tb, 4, none⟩ = some ((.slice (some ⟨g2, 0, none⟩) nS cs)) ∧ w'.cell? ⟨q2, off2 + l * 2, none⟩ = some (.string (bs s.name))) (by kernel_rfl) (CC.out _ OL.out) (fun hHeld => ?_)
            refine take_dst (some 129) (i := 0) (v := ?vr1) rfl (by kernel_rfl) (by kernel_rfl) (by kernel_rfl) (by kernel_rfl) (fun _ _ _ h => h) (Or.inl ⟨by kernel_rfl, ?hr1⟩) (by assumption) ?rr1
            case hr1 => (intro w hSw; (try dsimp only at hSw); first | (go_simp; done) | (go_simp; with_reducible rfl))
            try simp only [Act.put, List.setIfInBounds_toArray, List.set_cons_zero, List.set_cons_succ]
            refine take_dst (some 130) (i := 1) (v := ?vr2) rfl (by kernel_rfl) (by kernel_rfl) (by kernel_rfl) (by kernel_rfl) (fun _ _ _ h => h) (Or.inl ⟨by kernel_rfl, ?hr2⟩) (by assumption) ?rr2
            case hr2 => (intro w hSw; (try dsimp only at hSw); first | (go_simp; done) | (go_simp; with_reducible rfl))
            try simp only [Act.put, List.setIfInBounds_toArray, List.set_cons_zero, List.set_cons_succ]
            refine take_dst (some 131) (i := 2) (v := ?vr3) rfl (by kernel_rfl) (by kernel_rfl) (by kernel_rfl) (by kernel_rfl) (fun _ _ _ h => h) (Or.inl ⟨by kernel_rfl, ?hr3⟩) (by assumption) ?rr3
            case hr3 => (intro w hSw; (try dsimp only at hSw); first | (go_simp; done) | (go_simp; with_reducible rfl))
            try simp only [Act.put, List.setIfInBounds_toArray, List.set_cons_zero, List.set_cons_succ]
            refine take_dst (some 132) (i := 3) (v := ?vr4) rfl (by kernel_rfl) (by kernel_rfl) (by kernel_rfl) (by kernel_rfl) (fun _ _ _ h => h) (Or.inl ⟨by kernel_rfl, ?hr4⟩) (by assumption) ?rr4
            case hr4 => (intro w hSw; (try dsimp only at hSw); first | (go_simp; done) | (go_simp; with_reducible rfl))
            try simp only [Act.put, List.setIfInBounds_toArray, List.set_cons_zero, List.set_cons_succ]
            refine take_dst (some 133) (i := 4) (v := ?vr5) rfl (by kernel_rfl) (by kernel_rfl) (by kernel_rfl) (by kernel_rfl) (fun _ _ _ h => h) (Or.inl ⟨by kernel_rfl, ?hr5⟩) (by assumption) ?rr5
            case hr5 => (intro w hSw; (try dsimp only at hSw); first | (go_simp; done) | (go_simp; with_reducible rfl))
            try simp only [Act.put, List.setIfInBounds_toArray, List.set_cons_zero, List.set_cons_succ]
            refine take_dst (some 134) (i := 5) (v := ?vr6) rfl (by kernel_rfl) (by kernel_rfl) (by kernel_rfl) (by kernel_rfl) (fun _ _ _ h => h) (Or.inl ⟨by kernel_rfl, ?hr6⟩) (by assumption) ?rr6
            case hr6 => (intro w hSw; (try dsimp only at hSw); first | (go_simp; done) | (go_simp; with_reducible rfl))
            try simp only [Act.put, List.setIfInBounds_toArray, List.set_cons_zero, List.set_cons_succ]
            refine take_dst (some 135) (i := 6) (v := ?vr7) rfl (by kernel_rfl) (by kernel_rfl) (by kernel_rfl) (by kernel_rfl) (fun _ _ _ h => h) (Or.inl ⟨by kernel_rfl, ?hr7⟩) (by assumption) ?rr7
            case hr7 => (intro w hSw; (try dsimp only at hSw); first | (go_simp; done) | (go_simp; with_reducible rfl))
            try simp only [Act.put, List.setIfInBounds_toArray, List.set_cons_zero, List.set_cons_succ]
            refine take_dst (some 136) (i := 7) (v := ?vr8) rfl (by kernel_rfl) (by kernel_rfl) (by kernel_rfl) (by kernel_rfl) (fun _ _ _ h => h) (Or.inl ⟨by kernel_rfl, ?hr8⟩) (by assumption) ?rr8
            case hr8 => (intro w hSw; (try dsimp only at hSw); first | (go_simp; done) | (go_simp; with_reducible rfl))
            try simp only [Act.put, List.setIfInBounds_toArray, List.set_cons_zero, List.set_cons_succ]
            refine take_dst (some 137) (i := 8) (v := ?vr9) rfl (by kernel_rfl) (by kernel_rfl) (by kernel_rfl) (by kernel_rfl) (fun _ _ _ h => h) (Or.inl ⟨by kernel_rfl, ?hr9⟩) (by assumption) ?rr9
            case hr9 => (intro w hSw; (try dsimp only at hSw); first | (go_simp; done) | (go_simp; with_reducible rfl))
            try simp only [Act.put, List.setIfInBounds_toArray, List.set_cons_zero, List.set_cons_succ]
            refine take_dst (some 139) (i := 10) (v := ?vr10) rfl (by kernel_rfl) (by kernel_rfl) (by kernel_rfl) (by kernel_rfl) (fun _ _ _ h => h) (Or.inl ⟨by kernel_rfl, ?hr10⟩) (by assumption) ?rr10
            case hr10 => (intro w hSw; (try dsimp only at hSw); first | (go_simp; done) | (go_simp; with_reducible rfl))
            try simp only [Act.put, List.setIfInBounds_toArray, List.set_cons_zero, List.set_cons_succ]
            refine take_dst (some 140) (i := 11) (v := ?vr11) rfl (by kernel_rfl) (by kernel_rfl) (by kernel_rfl) (by kernel_rfl) (fun _ _ _ h => h) (Or.inl ⟨by kernel_rfl, ?hr11⟩) (by assumption) ?rr11
            case hr11 => (intro w hSw; (try dsimp only at hSw); first | (go_simp; done) | (go_simp; with_reducible rfl))
            try simp only [Act.put, List.setIfInBounds_toArray, List.set_cons_zero, List.set_cons_succ]
            refine take_dst (some 141) (i := 12) (v := ?vr12) rfl (by kernel_rfl) (by kernel_rfl) (by kernel_rfl) (by kernel_rfl) (fun _ _ _ h => h) (Or.inl ⟨by kernel_rfl, ?hr12⟩) (by assumption) ?rr12
            case hr12 => (intro w hSw; (try dsimp only at hSw); first | (go_simp; done) | (go_simp; with_reducible rfl))
            try simp only [Act.put, List.setIfInBounds_toArray, List.set_cons_zero, List.set_cons_succ]
            refine take_dst (some 142) (i := 13) (v := ?vr13) rfl (by kernel_rfl) (by kernel_rfl) (by kernel_rfl) (by kernel_rfl) (fun _ _ _ h => h) (Or.inl ⟨by kernel_rfl, ?hr13⟩) (by assumption) ?rr13
            case hr13 => (intro w hSw; (try dsimp only at hSw); first | (go_simp; done) | (go_simp; with_reducible rfl))
            try simp only [Act.put, List.setIfInBounds_toArray, List.set_cons_zero, List.set_cons_succ]
            refine take_dst (some 143) (i := 14) (v := ?vr14) rfl (by kernel_rfl) (by kernel_rfl) (by kernel_rfl) (by kernel_rfl) (fun _ _ _ h => h) (Or.inl ⟨by kernel_rfl, ?hr14⟩) (by assumption) ?rr14
            case hr14 => (intro w hSw; (try dsimp only at hSw); first | (go_simp; done) | (go_simp; with_reducible rfl))
            try simp only [Act.put, List.setIfInBounds_toArray, List.set_cons_zero, List.set_cons_succ]
            refine take_dst (some 144) (i := 15) (v := ?vr15) rfl (by kernel_rfl) (by kernel_rfl) (by kernel_rfl) (by kernel_rfl) (fun _ _ _ h => h) (Or.inl ⟨by kernel_rfl, ?hr15⟩) (by assumption) ?rr15
            case hr15 => (intro w hSw; (try dsimp only at hSw); first | (go_simp; done) | (go_simp; with_reducible rfl))
            try simp only [Act.put, List.setIfInBounds_toArray, List.set_cons_zero, List.set_cons_succ]
            refine take_dst (some 145) (i := 16) (v := ?vr16) rfl (by kernel_rfl) (by kernel_rfl) (by kernel_rfl) (by kernel_rfl) (fun _ _ _ h => h) (Or.inl ⟨by kernel_rfl, ?hr16⟩) (by assumption) ?rr16
            case hr16 => (intro w hSw; (try dsimp only at hSw); first | (go_simp; done) | (go_simp; with_reducible rfl))
            try simp only [Act.put, List.setIfInBounds_toArray, List.set_cons_zero, List.set_cons_succ]
            refine take_dst (some 146) (i := 17) (v := ?vr17) rfl (by kernel_rfl) (by kernel_rfl) (by kernel_rfl) (by kernel_rfl) (fun _ _ _ h => h) (Or.inl ⟨by kernel_rfl, ?hr17⟩) (by assumption) ?rr17
            case hr17 => (intro w hSw; (try dsimp only at hSw); first | (go_simp; done) | (go_simp; with_reducible rfl))
            try simp only [Act.put, List.setIfInBounds_toArray, List.set_cons_zero, List.set_cons_succ]
            refine take_dst (some 147) (i := 18) (v := ?vr18) rfl (by kernel_rfl) (by kernel_rfl) (by kernel_rfl) (by kernel_rfl) (fun _ _ _ h => h) (Or.inl ⟨by kernel_rfl, ?hr18⟩) (by assumption) ?rr18
            case hr18 => (intro w hSw; (try dsimp only at hSw); first | (go_simp; done) | (go_simp; with_reducible rfl))
            try simp only [Act.put, List.setIfInBounds_toArray, List.set_cons_zero, List.set_cons_succ]
            refine wpAnyH_ready (rs := [9]) (by kernel_rfl) (by simp) ?_
            refine AllReadyH.cons rfl (fun Kr19 hKr19 => ?_) AllReadyH.nil
            (go_simp; go_at_call 13; refine (HD1.out _ OL.out).mono ?_; rintro e wn ⟨hr, on⟩; obtain ⟨v, rfl, hM, _⟩ := hr.out; obtain ⟨ua, uc, rfl⟩ := own_slice_n hM; have M1 := Lib.hid hM; have X := Lib.hid (OL.out.trans on); clear OL; have OL := X; clear X; clear hr hM on; simp only [plC]; go_wp2_with fail)
            refine hKr19.out _ _ ?sr19 (fun hHeldr19 => ?_)
            case sr19 => exact CC.out _ OL.out
            clear hKr19 Kr19
            try simp only [Act.put, List.setIfInBounds_toArray, List.set_cons_zero, List.set_cons_succ]
            refine wpAnyH_ready (rs := [19]) (by kernel_rfl) (by simp) ?_
            refine AllReadyH.cons rfl (fun Kr20 hKr20 => ?_) AllReadyH.nil
            (go_simp; go_at_call 13; refine (HD2.out _ OL.out).mono ?_; rintro e wn ⟨hr, on⟩; obtain ⟨v, rfl, hM, _⟩ := hr.out; obtain ⟨ub, ud, rfl⟩ := own_slice_n hM; have M2 := Lib.hid hM; have X := Lib.hid (MEff.keep (t := 25) M1.out on (ofT_nil _ _) (by decide)); clear M1; have M1 := X; clear X; have X := Lib.hid (OL.out.trans on); clear OL; have OL := X; clear X; clear hr hM on; simp only [plC]; go_wp2_with fail)
            refine hKr20.out _ _ ?sr20 (fun hHeldr20 => ?_)
            case sr20 => exact CC.out _ OL.out
            clear hKr20 Kr20
            try simp only [Act.put, List.setIfInBounds_toArray, List.set_cons_zero, List.set_cons_succ]
            refine wpAnyH_ready (rs := [20]) (by kernel_rfl) (by simp) ?_
            refine AllReadyH.cons rfl (fun Kr21 hKr21 => ?_) AllReadyH.nil
            (go_simp; go_at_call 26; refine (lsame15 p (MEff.x M1.out) (MEff.x M2.out) rfl HPZ.out).mono ?_; rintro e wn ⟨rfl, on⟩; have X := Lib.hid (OL.out.trans on); clear OL; have OL := X; clear X; clear on; go_wp2_with fail)
            refine hKr21.out _ _ ?sr21 (fun hHeldr21 => ?_)
            case sr21 => exact CC.out _ OL.out
            clear hKr21 Kr21
            try simp only [Act.put, List.setIfInBounds_toArray, List.set_cons_zero, List.set_cons_succ]
            refine take_dst (some 150) (i := 21) (v := ?vr22) rfl (by kernel_rfl) (by kernel_rfl) (by kernel_rfl) (by kernel_rfl) (fun _ _ _ h => h) (Or.inl ⟨by kernel_rfl, ?hr22⟩) (by assumption) ?rr22
            case hr22 => (intro w hSw; (try dsimp only at hSw); first | (go_simp; done) | (go_simp; with_reducible rfl))
            try simp only [Act.put, List.setIfInBounds_toArray, List.set_cons_zero, List.set_cons_succ]
            refine wpAnyH_done (by kernel_rfl) ?_ _
            go_wp2
            have OR := Lib.hid (hO.out.trans OL.out)
            go_roundw
            case rel => exact ⟨l + 1, HI.out, by go_num, OR⟩
            case measure => have := HI.out; simp [intOf]; omega
          · obtain rfl : l = nS := by omega
            have hk0 : ¬ (l : Int) < (l : Int) := by omega
            clear hlm
            go_wp2
            go_ret
            exact ⟨rfl, below_of (OA.out.trans (OT8.out.trans hO.out))⟩
end Go.Proofs.Ytimnaiahokafaaa.Ac
