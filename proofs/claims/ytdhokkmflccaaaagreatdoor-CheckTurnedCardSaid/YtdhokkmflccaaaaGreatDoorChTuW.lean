/- check: CheckTurned's walk. -/
import Derived.Test.YtdhokkmflccaaaaGreatDoorChT
import Derived.Test.YtdhokkmflccaaaaGreatDoorChPlW
import Derived.Test.YtdhokkmflccaaaaGreatDoorChU
import Derived.StillTailTactics
set_option linter.unusedVariables false
namespace Go.Proofs.YtdhokkmflccaaaaGreatDoor.Ch
open Go Go.RowKit Go.Proofs.YtdhokkmflccaaaaGreatDoor Lx Ps

theorem own_empty (w : World) (e : TypeId) (s : Nat) : (w.alloc (.cells #[] e)).ownsRow 0 e s (.slice (some ⟨w.heap.size, 0, none⟩) 0 0) 0 [] :=
  World.ownsRow_made w #[] 0 (Nat.zero_le _) (Nat.zero_le _) (by simp)
theorem cells_at {α : Type} {D : Nat} {w : World} {g n s c : Nat} {f : α → List Value} {Z : List α} (hf : ∀ x, (f x).length = s) (hs : 0 < s) (h : CIn D w (.slice (some ⟨g, 0, none⟩) n c) n s (Z.flatMap f)) (hZ : Z.length = n) (j : Nat) (hj : j < n) {z : α} (hz : ∀ h : j < Z.length, z = Z[j]'h) (k : Nat) (hk : k < s) : w.cell? ⟨g, j * s + k, none⟩ = (f z)[k]? := by
  rw [hz (by omega)]
  obtain ⟨b, off, e, _, h⟩ := CIn.at_ hf hs h hZ j hj
  obtain ⟨rfl, rfl⟩ : g = b ∧ 0 = off := by simpa using e
  have := h k hk
  rw [Nat.zero_add] at this
  exact this
theorem cin_at {D w w' g n s c cs q} (h : CIn D w (.slice (some ⟨g, 0, none⟩) n c) n s cs) (o : Only (At q) w w') (hq : g ≠ q) : CIn D w' (.slice (some ⟨g, 0, none⟩) n c) n s cs := by
  obtain ⟨a, c', h1, h2, h3⟩ := h
  refine ⟨a, c', h1, h2, fun i hi => ?_⟩
  obtain ⟨b, off, ha, hD, hlt, hc⟩ := h3 i hi
  have hb : b = g := by
    have := h1.1
    rw [ha] at this
    simp at this
    exact this.1.1.symm
  refine ⟨b, off, ha, hD, Nat.lt_of_lt_of_le hlt o.size, fun j hj => ?_⟩
  have e : cs[j]? = some cs[j] := by simp [hj]
  rw [e]
  exact only_cellS o (fun h => hq (hb ▸ h)) ((hc j hj).trans e)
def Blk (w : World) (g : Nat) (t : TypeId) : Prop := ∃ cur : Array Value, w.heap[g]? = some (.cells cur t (0, 0))
theorem Blk.of {w : World} {lo e s g n c xs} (h : w.ownsRow lo e s (.slice (some ⟨g, 0, none⟩) n c) n xs) : Blk w g e := by
  rcases h.2 with ⟨h', _⟩ | ⟨g', c', cur, hv, _, hg, _⟩
  · simp at h'
  · simp only [Value.slice.injEq, Option.some.injEq, Addr.mk.injEq, and_true, true_and] at hv
    obtain ⟨rfl, _⟩ := hv
    exact ⟨cur, hg⟩
theorem Blk.keep {S : Nat → Prop} {w w' : World} {g t} (h : Blk w g t) (o : Only S w w') (hS : ¬ S g) : Blk w' g t := by
  obtain ⟨cur, hg⟩ := h
  exact ⟨cur, (o.block g (lt_of_block hg) hS).trans hg⟩
theorem Blk.free {w : World} {g t} (h : Blk w g t) (k : Nat) : w.frozen? ⟨g, k, none⟩ = false := by
  obtain ⟨cur, hg⟩ := h
  exact frozen_blk hg k
theorem Blk.set {w : World} {g t} (h : Blk w g t) (o : Nat) (vs : List Value) : Blk (w.setCells g o vs) g t := by
  obtain ⟨cur, hg⟩ := h
  exact ⟨_, setCells_row g vs o w cur t (0, 0) hg⟩
theorem bx_set {w : World} {O : Nat} {cs : List Value} {t : TypeId} (h : Bx w O cs t) (k : Nat) (v : Value) : Bx (w.setCell ⟨O, k, none⟩ v) O (cs.set k v) t := by
  unfold Bx at h ⊢
  rw [heap_setCell_self v h]
  simp
set_option maxRecDepth 100000 in
set_option maxHeartbeats 16000000 in
theorem turned_all (P : List Kd) (sl : Value) (kd st rw : Int) (w : World) (hx : XK w.heap.size w sl P) (wf : wfP P) (bz : bzP P) (ik : inW kd) (is : inW st) (ir : inW rw) (E : EnvE w) :
    Calls Tryz.prog 13 #[.agg #[sl], .int .i64 kd, .int .i64 st, .int .i64 rw] w fun e w' => e = .returned (.bool true) ∧ Below w.heap.size w w' := by
  have sz := bz.sz
  obtain ⟨sa, sc, rfl⟩ := hx.slice
  generalize hnP : P.length = nP at *
  obtain ⟨w1, hw1⟩ : ∃ w1, w1 = w.alloc (.cells #[.slice sa nP sc] 25) := ⟨_, rfl⟩
  have o1 : Only Nil w w1 := hw1 ▸ (Only.refl Nil w).alloc _
  have HB := Lib.hid (show Bx w1 w.heap.size [.slice sa nP sc] 25 from hw1 ▸ bx_new w _ _)
  have hbP : nP ≤ 140737488355328 := by rw [← hnP]; exact sz.1
  have HV := Lib.hid (show VK w.heap.size w1 P sa nP sc from ⟨hx.keep o1 (nilS · _), hnP, hbP, sz, wf⟩)
  have HZ := Lib.hid bz
  have HA := Lib.hid (alive_any w1 (E.keep o1))
  have O1 := Lib.hid o1
  clear hx wf sz E o1 hnP bz
  go_enter Tryz.func13, Tryz.ntmps13
  go_upto_region 1 with (fail)
  rw [← hw1]; clear hw1
  have HLe := Lib.hid (show w.heap.size ≤ w1.heap.size from O1.out.size)
  have HDlt := Lib.hid (show w.heap.size < w1.heap.size from lt_of_block HB.out)
  generalize hD : w.heap.size = D at *
  go_wp2_with fail
  refine HA.out.mono ?_
  rintro e w2 ⟨rfl, o2⟩
  have O2 := Lib.hid o2
  have c2 := (HB.out.keep o2).cell 0 (v := .slice sa nP sc) rfl
  have hbPi : (nP : Int) ≤ 140737488355328 := by omega
  clear o2 HA
  by_cases k0 : kd < 0
  · have t := decide_eq_true k0
    clear k0
    go_wp2
    go_ret
    exact ⟨rfl, below_nil (O1.out.trans O2.out)⟩
  have t0 := decide_eq_false k0
  by_cases k1 : (nP : Int) ≤ kd
  · have t := decide_eq_true k1
    clear k0 k1 hbP hbPi
    go_wp2
    go_ret
    exact ⟨rfl, below_nil (O1.out.trans O2.out)⟩
  have t1 := decide_eq_false k1
  obtain ⟨i, hi⟩ : ∃ i : Nat, kd = (i : Int) := ⟨kd.toNat, by omega⟩
  subst hi
  have hiN : i < nP := by omega
  obtain ⟨Z, hZ, hcK, hiK⟩ := (HV.out.keep O2.out).x
  rw [HV.out.n] at hcK
  have hil : i < P.length := by rw [HV.out.n]; exact hiN
  have hZl : Z.length = nP := by rw [← HV.out.n, ← hZ, List.length_map]
  obtain ⟨q, off, rfl, hlt, hc⟩ := CIn.at_ (f := kdCs) (s := 5) (fun _ => rfl) (by decide) hcK hZl i hiN
  obtain ⟨gC, gS⟩ := hiK _ (List.getElem_mem (show i < Z.length by omega))
  have hzx : (Z[i]'(by omega)).1 = P[i] := by subst hZ; simp
  obtain ⟨z, hzi⟩ : ∃ z, z = Z[i]'(by omega) := ⟨_, rfl⟩
  rw [← hzi] at hc gC gS hzx
  obtain ⟨x, s1, s2⟩ := z
  dsimp only at hc gC gS hzx
  obtain ⟨a1, c1, rfl⟩ := gC.slice
  obtain ⟨a2, c2', rfl⟩ := gS.slice
  have HZk := Lib.hid (HZ.out.2 _ (List.getElem_mem hil))
  have HWk := Lib.hid (HV.out.wf _ (List.getElem_mem hil))
  obtain ⟨x', hxx⟩ : ∃ x', x' = P[i] := ⟨_, rfl⟩
  rw [← hxx] at HZk HWk hzx
  subst hzx
  have HXX := Lib.hid hxx
  clear hxx
  generalize hnC : x.cases.length = nC at *
  generalize hnS : x.states.length = nS at *
  have hbS : nS * 40 ≤ 140737488355328 := by rw [← hnS]; exact HZk.out.2.1
  have e4 : w2.cell? ⟨q, off + i * 5 + 4, none⟩ = some (.slice a2 nS c2') := hc 4 (by decide)
  have hiNi : (i : Int) < (nP : Int) := by omega
  have h0i : (0 : Int) ≤ (i : Int) := Int.natCast_nonneg i
  have HC5 := Lib.hid (show ∀ k, k < 5 → w2.cell? ⟨q, off + i * 5 + k, none⟩ = (kdCs (x, .slice a1 nC c1, .slice a2 nS c2'))[k]? from hc)
  have HSS := Lib.hid gS
  have HCC := Lib.hid gC
  have HcK := Lib.hid hcK
  have HiK := Lib.hid hiK
  have HZi := Lib.hid (show ∀ h : i < Z.length, (x, Value.slice a1 nC c1, Value.slice a2 nS c2') = Z[i]'h from fun _ => hzi)
  have HZe := Lib.hid hZ
  have HZl := Lib.hid hZl
  clear hcK hiK hzi hZ
  clear hc gC gS k0 k1
  by_cases k0 : st < 0
  · have t := decide_eq_true k0
    clear k0 hbP hbPi hiN hbS HXX hil hnC hnS
    go_wp2
    go_ret
    exact ⟨rfl, below_nil (O1.out.trans O2.out)⟩
  have t2 := decide_eq_false k0
  by_cases k1 : (nS : Int) ≤ st
  · have t := decide_eq_true k1
    clear k0 k1 hbP hbPi hiN hbS HXX hil hnC hnS
    go_wp2
    go_ret
    exact ⟨rfl, below_nil (O1.out.trans O2.out)⟩
  have t3 := decide_eq_false k1
  obtain ⟨j, hj⟩ : ∃ j : Nat, st = (j : Int) := ⟨st.toNat, by omega⟩
  subst hj
  have hjN : j < nS := by omega
  obtain ⟨Zs, hZs, hcS, hiS⟩ := HSS.out
  rw [hnS] at hcS
  have hjl : j < x.states.length := by omega
  have hZsl : Zs.length = nS := by rw [← hnS, ← hZs, List.length_map]
  obtain ⟨q2, off2, rfl, _, hc2⟩ := CIn.at_ (f := staCs) (s := 2) (fun _ => rfl) (by decide) hcS hZsl j hjN
  have gR := hiS _ (List.getElem_mem (show j < Zs.length by omega))
  have hzy : (Zs[j]'(by omega)).1 = x.states[j] := by simp only [← hZs, List.getElem_map]
  obtain ⟨z, hzj⟩ : ∃ z, z = Zs[j]'(by omega) := ⟨_, rfl⟩
  rw [← hzj] at hc2 gR hzy
  obtain ⟨y, sr⟩ := z
  dsimp only at hc2 gR hzy
  obtain ⟨a3, c3, rfl⟩ := gR.slice
  have HZs := Lib.hid (HZk.out.2.2 _ (List.getElem_mem hjl))
  obtain ⟨y', hyy⟩ : ∃ y', y' = x.states[j] := ⟨_, rfl⟩
  rw [← hyy] at HZs hzy
  subst hzy
  have HYY := Lib.hid hyy
  clear hyy
  generalize hnR : y.rows.length = nR at *
  have hbR : nR * 56 ≤ 140737488355328 := by rw [← hnR]; exact HZs.out.1
  have hjNi : (j : Int) < (nS : Int) := by omega
  have h0j : (0 : Int) ≤ (j : Int) := Int.natCast_nonneg j
  have u1 : w2.cell? ⟨q2, off2 + j * 2 + 1, none⟩ = some (.slice a3 nR c3) := hc2 1 (by decide)
  have u0 : w2.cell? ⟨q2, off2 + j * 2, none⟩ = some (.string (bs y.name)) := hc2 0 (by decide)
  have hwR : IntKind.i64.wrap ((nR : Int) - 1) = (nR : Int) - 1 := IntWalk.i64_in _ (by omega)
  have HRR := Lib.hid gR
  have HcS := Lib.hid hcS
  have HiS := Lib.hid hiS
  have HZj := Lib.hid (show ∀ h : j < Zs.length, (y, Value.slice a3 nR c3) = Zs[j]'h from fun _ => hzj)
  have HZse := Lib.hid hZs
  have HZsl := Lib.hid hZsl
  clear hcS hiS hzj hZs
  clear k0 k1 hc2 gR
  by_cases k0 : rw < 0
  · have t := decide_eq_true k0
    clear k0 hbP hbPi hiN hbS HXX hil hnC hnS hjN HYY hjl hnR hbR
    go_wp2
    go_ret
    exact ⟨rfl, below_nil (O1.out.trans O2.out)⟩
  have t4 := decide_eq_false k0
  by_cases k1 : (nR : Int) - 1 ≤ rw
  · have t := decide_eq_true k1
    clear k0 k1 hbP hbPi hiN hbS HXX hil hnC hnS hjN HYY hjl hnR hbR
    go_wp2
    go_ret
    exact ⟨rfl, below_nil (O1.out.trans O2.out)⟩
  have t5 := decide_eq_false k1
  obtain ⟨r, hr⟩ : ∃ r : Nat, rw = (r : Int) := ⟨rw.toNat, by omega⟩
  subst hr
  have hrN : r + 1 < nR := by omega
  clear k0 k1
  obtain ⟨Zr, hZr, hcR, hiR⟩ := HRR.out
  rw [hnR] at hcR
  have hZrl : Zr.length = nR := by rw [← hnR, ← hZr, List.length_map]
  obtain ⟨q3, off3, rfl, _, hc3⟩ := CIn.at_ (f := rowCs) (s := 4) (fun _ => rfl) (by decide) hcR hZrl r (by omega)
  clear hc3
  have HcR := Lib.hid hcR
  have HiR := Lib.hid hiR
  have HZre := Lib.hid hZr
  have HZrl := Lib.hid hZrl
  clear hcR hiR hZr hZrl
  have hDl : D < w2.heap.size := Nat.lt_of_lt_of_le HDlt.out O2.out.size
  have oa : Only Nil w2 (w2.alloc (.cells #[] 66)) := (Only.refl Nil w2).alloc _
  obtain ⟨cq, w3, hrun1, own1, o3⟩ := copy_cin (P := Tryz.prog) (t := 23) (ty := 23) Tryz.underlying23 Tryz.infoKd rfl (HcK.out.keep oa (nilS · D)) (own_empty w2 66 5) (by omega) (by decide) (by decide) (by have := HZ.out.1; rw [HV.out.n] at this; exact this)
  have HR1 := Lib.hid hrun1
  have ca := only_cell0 oa c2
  have hsa : (w2.alloc (.cells #[] 66)).heap.size = w2.heap.size + 1 := by simp
  rw [hsa] at own1
  go_upto_region 5 with (fail)
  go_upto_region 6 with (at_builtin; refine Lib.wpList_append_run _ rfl (.tmp 59) (.tmp 61) 23 23 rfl _ _ rfl rfl _ _ HR1.out ?_)
  have hg1 := (own1.lt (w2.heap.size + 1) rfl).2
  have R1 := own_cin own1
  have F1 := Blk.of own1
  have hg1' : w2.heap.size < w2.heap.size + 1 := by omega
  generalize w2.heap.size + 1 = g1 at *
  obtain ⟨w4, hw4⟩ : ∃ w4, w4 = w3.alloc (.cells #[.slice (some ⟨g1, 0, none⟩) nP cq] 25) := ⟨_, rfl⟩
  rw [← hw4]
  have o34 : Only Nil w3 w4 := hw4 ▸ (Only.refl Nil w3).alloc _
  have OT := Lib.hid (oa.trans (o3.trans o34))
  have BQ := Lib.hid (show Bx w4 w3.heap.size [.slice (some ⟨g1, 0, none⟩) nP cq] 25 from hw4 ▸ bx_new w3 _ _)
  have R1' := Lib.hid (R1.keep o34 (nilS · _))
  have F14 := Lib.hid (F1.keep o34 (fun q => q.elim))
  clear F1
  clear R1 own1 hw4 oa o3 o34 hrun1 HR1 ca hsa
  generalize w3.heap.size = Qb at *
  have hQl := lt_of_block BQ.out
  have cQ := BQ.out.cell 0 (v := .slice (some ⟨g1, 0, none⟩) nP cq) rfl
  have hk := cells_at (f := kdCs) (s := 5) (fun _ => rfl) (by decide) R1'.out HZl.out i hiN HZi.out
  have k6_0 : w4.cell? ⟨g1, i * 5, none⟩ = some (.string (bs x.name)) := hk 0 (by decide)
  have k6_1 : w4.cell? ⟨g1, i * 5 + 1, none⟩ = some (.int .i64 x.limit) := hk 1 (by decide)
  have k6_2 : w4.cell? ⟨g1, i * 5 + 2, none⟩ = some (.int .i64 x.within) := hk 2 (by decide)
  have k6_3 : w4.cell? ⟨g1, i * 5 + 3, none⟩ = some (.slice a1 nC c1) := hk 3 (by decide)
  have k6_4 : w4.cell? ⟨g1, i * 5 + 4, none⟩ = some (.slice (some ⟨q2, off2, none⟩) nS c2') := hk 4 (by decide)
  clear hk
  go_upto_region 7 with (fail)
  obtain ⟨w5, hw5⟩ : ∃ w5, w5 = w4.alloc (.cells #[.string (bs x.name), .int .i64 x.limit, .int .i64 x.within, .slice a1 nC c1, .slice (some ⟨q2, off2, none⟩) nS c2'] 66) := ⟨_, rfl⟩
  rw [← hw5]
  have o45 : Only Nil w4 w5 := hw5 ▸ (Only.refl Nil w4).alloc _
  have BK := (show Bx w5 w4.heap.size [.string (bs x.name), .int .i64 x.limit, .int .i64 x.within, .slice a1 nC c1, .slice (some ⟨q2, off2, none⟩) nS c2'] 66 from hw5 ▸ bx_new w4 _ _)
  clear hw5 k6_0 k6_1 k6_2 k6_3 k6_4 cQ
  have hKl := lt_of_block BK
  have hQK : Qb < w4.heap.size := hQl
  generalize w4.heap.size = Kb at *
  have ob : Only Nil w5 (w5.alloc (.cells #[] 69)) := (Only.refl Nil w5).alloc _
  obtain ⟨cs2, w6, hrun2, own2, o6⟩ := copy_cin (P := Tryz.prog) (t := 64) (ty := 64) Tryz.underlying64 Tryz.infoSta rfl (HcS.out.keep (OT.out.trans (o45.trans ob)) (nilS · D)) (own_empty w5 69 2) (by omega) (by decide) (by decide) hbS
  have HR2 := Lib.hid hrun2
  have cKa := (BK.keep ob).cell 4 (v := .slice (some ⟨q2, off2, none⟩) nS c2') rfl
  have hsb : (w5.alloc (.cells #[] 69)).heap.size = w5.heap.size + 1 := by simp
  rw [hsb] at own2
  have BK6 := BK.keep (ob.trans o6)
  have cK6 := BK6.cell 4 (v := .slice (some ⟨q2, off2, none⟩) nS c2') rfl
  have fK6 := BK6.free 4
  go_upto_region 8 with (at_builtin; refine Lib.wpList_append_run _ rfl (.tmp 69) (.tmp 71) 64 64 rfl _ _ rfl rfl _ _ HR2.out ?_)
  have hg2 := (own2.lt (w5.heap.size + 1) rfl).2
  have R2 := own_cin own2
  have F2 := Blk.of own2
  have hg2' : w5.heap.size < w5.heap.size + 1 := by omega
  generalize w5.heap.size + 1 = g2 at *
  obtain ⟨w7, hw7⟩ : ∃ w7, w7 = w6.setCell ⟨Kb, 4, none⟩ (.slice (some ⟨g2, 0, none⟩) nS cs2) := ⟨_, rfl⟩
  rw [← hw7]
  have o67 : Only (At Kb) w6 w7 := hw7 ▸ (Only.refl (At Kb) w6).setCell (p := ⟨Kb, 4, none⟩) rfl _
  have BK7 := bx_set BK6 4 (.slice (some ⟨g2, 0, none⟩) nS cs2)
  rw [← hw7] at BK7
  simp only [List.set_cons_succ, List.set_cons_zero] at BK7
  have h46 := o45.trans (ob.trans o6)
  have OT7 := Lib.hid ((OT.out.trans h46).then o67 (fun k hk hlt => by have : k = Kb := hk; have := OT.out.size; omega))
  have BQ7 := Lib.hid ((BQ.out.keep h46).at_ o67 (by omega))
  have F17 := Lib.hid ((F14.out.keep h46 (fun q => q.elim)).keep o67 (fun h => by have : g1 = Kb := h; omega))
  have F27 := Lib.hid (F2.keep o67 (fun h => by have : g2 = Kb := h; omega))
  clear F2 F14
  have R17 := Lib.hid (cin_at (R1'.out.keep h46 (nilS · _)) o67 (by omega))
  have R27 := Lib.hid (cin_at R2 o67 (by omega))
  have hs67 := o67.size
  clear hw7 cKa cK6 fK6 BK BK6 o67 h46 ob o6 R2 own2 hrun2 HR2 hsb o45
  have u2 := cells_at (f := staCs) (s := 2) (fun _ => rfl) (by decide) R27.out HZsl.out j hjN HZj.out
  have oc : Only Nil w7 (w7.alloc (.cells #[] 72)) := (Only.refl Nil w7).alloc _
  have u21 : (w7.alloc (.cells #[] 72)).cell? ⟨g2, j * 2 + 1, none⟩ = some (.slice (some ⟨q3, off3, none⟩) nR c3) := only_cell0 oc (u2 1 (by decide))
  have cK8 := (BK7.keep oc).cell 4 (v := .slice (some ⟨g2, 0, none⟩) nS cs2) rfl
  obtain ⟨cr, w8, hrun3, own3, o8⟩ := copy_cin (P := Tryz.prog) (t := 67) (ty := 67) Tryz.underlying67 Tryz.infoRow rfl (HcR.out.keep (OT7.out.trans oc) (nilS · D)) (own_empty w7 72 4) (by omega) (by decide) (by decide) hbR
  have HR3 := Lib.hid hrun3
  have hsc : (w7.alloc (.cells #[] 72)).heap.size = w7.heap.size + 1 := by simp
  rw [hsc] at own3
  have BK7' := Lib.hid BK7
  clear u2 BK7
  go_upto_region 9 with (at_builtin; refine Lib.wpList_append_run _ rfl (.tmp 74) (.tmp 80) 67 67 rfl _ _ rfl rfl _ _ HR3.out ?_)
  have hg3 := (own3.lt (w7.heap.size + 1) rfl).2
  have R3 := own_cin own3
  have F3 := Blk.of own3
  have hg3' : w7.heap.size < w7.heap.size + 1 := by omega
  generalize w7.heap.size + 1 = g3 at *
  have OT8 := Lib.hid (OT7.out.trans (oc.trans o8))
  have BQ8 := Lib.hid (BQ7.out.keep (oc.trans o8))
  have BK8 := Lib.hid (BK7'.out.keep (oc.trans o8))
  have R18 := Lib.hid (R17.out.keep (oc.trans o8) (nilS · _))
  have F18 := Lib.hid (F17.out.keep (oc.trans o8) (fun q => q.elim))
  have F28 := Lib.hid (F27.out.keep (oc.trans o8) (fun q => q.elim))
  clear F17 F27
  have R28 := Lib.hid (R27.out.keep (oc.trans o8) (nilS · _))
  clear oc o8 own3 HR3 hrun3 hsc u21 cK8 BQ7 BK7' R17 R27
  obtain ⟨z1, hz1⟩ : ∃ z, z = Zr[r]'(by have := HZrl.out; omega) := ⟨_, rfl⟩
  obtain ⟨z2, hz2⟩ : ∃ z, z = Zr[r + 1]'(by have := HZrl.out; omega) := ⟨_, rfl⟩
  have gE1 := HiR.out z1 (hz1 ▸ List.getElem_mem _)
  have gE2 := HiR.out z2 (hz2 ▸ List.getElem_mem _)
  obtain ⟨t1, l1⟩ := z1
  obtain ⟨t2, l2⟩ := z2
  dsimp only at gE1 gE2
  obtain ⟨e1, d1, rfl⟩ := CIn.slice gE1
  obtain ⟨e2, d2, rfl⟩ := CIn.slice gE2
  clear gE1 gE2
  generalize t1.effs.length = m1 at *
  generalize t2.effs.length = m2 at *
  have HZ1 := Lib.hid (show ∀ h : r < Zr.length, (t1, Value.slice e1 m1 d1) = Zr[r]'h from fun _ => hz1)
  have HZ2 := Lib.hid (show ∀ h : r + 1 < Zr.length, (t2, Value.slice e2 m2 d2) = Zr[r + 1]'h from fun _ => hz2)
  clear hz1 hz2
  have hk := cells_at (f := rowCs) (s := 4) (fun _ => rfl) (by decide) R3 HZrl.out r (by omega) HZ1.out
  have v0 : w8.cell? ⟨g3, r * 4, none⟩ = some (.string (bs t1.tag)) := hk 0 (by decide)
  have v1 : w8.cell? ⟨g3, r * 4 + 1, none⟩ = some (.bool t1.only) := hk 1 (by decide)
  have v2 : w8.cell? ⟨g3, r * 4 + 2, none⟩ = some (.int .i64 t1.n) := hk 2 (by decide)
  have v3 : w8.cell? ⟨g3, r * 4 + 3, none⟩ = some (.slice e1 m1 d1) := hk 3 (by decide)
  have h0r : (0 : Int) ≤ (r : Int) := Int.natCast_nonneg r
  have hrNi : (r : Int) < (nR : Int) := by omega
  have R38 := Lib.hid R3
  have F38 := Lib.hid F3
  clear hk R3 F3
  go_upto_region 10 with (fail)
  obtain ⟨w9, hw9⟩ : ∃ w9, w9 = w8.alloc (.cells #[.string (bs t1.tag), .bool t1.only, .int .i64 t1.n, .slice e1 m1 d1] 72) := ⟨_, rfl⟩
  rw [← hw9]
  have o89 : Only Nil w8 w9 := hw9 ▸ (Only.refl Nil w8).alloc _
  have BX9 := Lib.hid (show Bx w9 w8.heap.size [.string (bs t1.tag), .bool t1.only, .int .i64 t1.n, .slice e1 m1 d1] 72 from hw9 ▸ bx_new w8 _ _)
  clear hw9 v0 v1 v2 v3
  have hXl := lt_of_block BX9.out
  generalize w8.heap.size = Xb at *
  have OT9 := Lib.hid (OT8.out.trans o89)
  have BQ9 := Lib.hid (BQ8.out.keep o89)
  have BK9 := Lib.hid (BK8.out.keep o89)
  have R19 := Lib.hid (R18.out.keep o89 (nilS · _))
  have F19 := Lib.hid (F18.out.keep o89 (fun q => q.elim))
  have F29 := Lib.hid (F28.out.keep o89 (fun q => q.elim))
  clear F18 F28
  have R29 := Lib.hid (R28.out.keep o89 (nilS · _))
  have R39 := Lib.hid (R38.out.keep o89 (nilS · _))
  have F39 := Lib.hid (F38.out.keep o89 (fun q => q.elim))
  clear o89 BQ8 BK8 R18 R28 R38 F38 OT8
  obtain ⟨r1, hr1⟩ : ∃ r1 : Nat, r1 = r + 1 := ⟨_, rfl⟩
  rw [← hr1] at HZ2 hrN
  have hk := cells_at (f := rowCs) (s := 4) (fun _ => rfl) (by decide) R39.out HZrl.out r1 (by omega) HZ2.out
  have v0 : w9.cell? ⟨g3, r1 * 4, none⟩ = some (.string (bs t2.tag)) := hk 0 (by decide)
  have v1 : w9.cell? ⟨g3, r1 * 4 + 1, none⟩ = some (.bool t2.only) := hk 1 (by decide)
  have v2 : w9.cell? ⟨g3, r1 * 4 + 2, none⟩ = some (.int .i64 t2.n) := hk 2 (by decide)
  have v3 : w9.cell? ⟨g3, r1 * 4 + 3, none⟩ = some (.slice e2 m2 d2) := hk 3 (by decide)
  clear hk
  have hk := cells_at (f := rowCs) (s := 4) (fun _ => rfl) (by decide) R39.out HZrl.out r (by omega) HZ1.out
  have s0 : w9.cell? ⟨g3, r * 4, none⟩ = some (.string (bs t1.tag)) := hk 0 (by decide)
  have s1 : w9.cell? ⟨g3, r * 4 + 1, none⟩ = some (.bool t1.only) := hk 1 (by decide)
  have s2 : w9.cell? ⟨g3, r * 4 + 2, none⟩ = some (.int .i64 t1.n) := hk 2 (by decide)
  have s3 : w9.cell? ⟨g3, r * 4 + 3, none⟩ = some (.slice e1 m1 d1) := hk 3 (by decide)
  have f0 := F39.out.free (r * 4)
  have f1 := F39.out.free (r * 4 + 1)
  have f2 := F39.out.free (r * 4 + 2)
  have f3 := F39.out.free (r * 4 + 3)
  have hwr : IntKind.i64.wrap ((r : Int) + 1) = (r1 : Int) := by rw [hr1]; exact IntWalk.i64_in _ (by omega)
  have h0r1 : (0 : Int) ≤ (r1 : Int) := Int.natCast_nonneg r1
  have hr1Ni : (r1 : Int) < (nR : Int) := by omega
  have HR1e := Lib.hid hr1
  have HrN := Lib.hid hrN
  clear hr1 hrN hk
  go_upto_region 11 with (fail)
  clear v0 v1 v2 v3 s0 s1 s2 s3 f0 f1 f2 f3
  obtain ⟨wA, hwA⟩ : ∃ wA, wA = w9.setCells g3 (r * 4) (rowCs (t2, .slice e2 m2 d2)) := ⟨_, rfl⟩
  have ew : (((w9.setCell ⟨g3, r * 4, none⟩ (.string (bs t2.tag))).setCell ⟨g3, r * 4 + 1, none⟩ (.bool t2.only)).setCell ⟨g3, r * 4 + 2, none⟩ (.int .i64 t2.n)).setCell ⟨g3, r * 4 + 3, none⟩ (.slice e2 m2 d2) = wA := hwA.symm
  rw [ew]
  clear ew
  have oA : Only (At g3) w9 wA := hwA ▸ only_setCells (S := At g3) g3 rfl _ _ _ (Only.refl _ _)
  have R3A := Lib.hid (show CIn Xb wA (.slice (some ⟨g3, 0, none⟩) nR cr) nR 4 ((Zr.set r (t2, Value.slice e2 m2 d2)).flatMap rowCs) from hwA ▸ cin_put (f := rowCs) (s := 4) (fun _ => rfl) (by decide) R39.out HZrl.out r (by have := HrN.out; have := HR1e.out; omega) _)
  have F3A := Lib.hid (show Blk wA g3 72 from hwA ▸ F39.out.set _ _)
  have BXA := Lib.hid (BX9.out.at_ oA (by omega))
  have BQA := Lib.hid (BQ9.out.at_ oA (by omega))
  have BKA := Lib.hid (BK9.out.at_ oA (by omega))
  have R1A := Lib.hid (cin_at R19.out oA (by omega))
  have F1A := Lib.hid (F19.out.keep oA (fun h => by have : g1 = g3 := h; omega))
  have F2A := Lib.hid (F29.out.keep oA (fun h => by have : g2 = g3 := h; omega))
  clear F19 F29
  have R2A := Lib.hid (cin_at R29.out oA (by omega))
  have hs79 := OT9.out.size
  have hsA := oA.size
  have OTA := Lib.hid (OT9.out.then oA (fun k hk hlt => by have : k = g3 := hk; omega))
  have HlA := Lib.hid (show (Zr.set r (t2, Value.slice e2 m2 d2)).length = nR by rw [List.length_set]; exact HZrl.out)
  have HZ2A := Lib.hid (show ∀ h : r1 < (Zr.set r (t2, Value.slice e2 m2 d2)).length, (t2, Value.slice e2 m2 d2) = (Zr.set r (t2, Value.slice e2 m2 d2))[r1]'h from fun h => by
    have hne : r ≠ r1 := by have := HR1e.out; omega
    rw [List.getElem_set, if_neg hne]
    exact HZ2.out _)
  clear hwA oA BX9 BQ9 BK9 R19 R29 R39 F39 OT9
  have hk := cells_at (f := rowCs) (s := 4) (fun _ => rfl) (by decide) R3A.out HlA.out r1 (by have := HrN.out; omega) HZ2A.out
  have v0 : wA.cell? ⟨g3, r1 * 4, none⟩ = some (.string (bs t2.tag)) := hk 0 (by decide)
  have v1 : wA.cell? ⟨g3, r1 * 4 + 1, none⟩ = some (.bool t2.only) := hk 1 (by decide)
  have v2 : wA.cell? ⟨g3, r1 * 4 + 2, none⟩ = some (.int .i64 t2.n) := hk 2 (by decide)
  have v3 : wA.cell? ⟨g3, r1 * 4 + 3, none⟩ = some (.slice e2 m2 d2) := hk 3 (by decide)
  have f0 := F3A.out.free (r1 * 4)
  have f1 := F3A.out.free (r1 * 4 + 1)
  have f2 := F3A.out.free (r1 * 4 + 2)
  have f3 := F3A.out.free (r1 * 4 + 3)
  have x0 := BXA.out.cell 0 (v := .string (bs t1.tag)) rfl
  have x1 := BXA.out.cell 1 (v := .bool t1.only) rfl
  have x2 := BXA.out.cell 2 (v := .int .i64 t1.n) rfl
  have x3 := BXA.out.cell 3 (v := .slice e1 m1 d1) rfl
  clear hk
  go_upto_region 12 with (fail)
  clear v0 v1 v2 v3 x0 x1 x2 x3 f0 f1 f2 f3
  obtain ⟨wB, hwB⟩ : ∃ wB, wB = wA.setCells g3 (r1 * 4) (rowCs (t1, .slice e1 m1 d1)) := ⟨_, rfl⟩
  have ew : (((wA.setCell ⟨g3, r1 * 4, none⟩ (.string (bs t1.tag))).setCell ⟨g3, r1 * 4 + 1, none⟩ (.bool t1.only)).setCell ⟨g3, r1 * 4 + 2, none⟩ (.int .i64 t1.n)).setCell ⟨g3, r1 * 4 + 3, none⟩ (.slice e1 m1 d1) = wB := hwB.symm
  rw [ew]
  clear ew
  have oB : Only (At g3) wA wB := hwB ▸ only_setCells (S := At g3) g3 rfl _ _ _ (Only.refl _ _)
  have R3B := Lib.hid (show CIn Xb wB (.slice (some ⟨g3, 0, none⟩) nR cr) nR 4 (((Zr.set r (t2, Value.slice e2 m2 d2)).set r1 (t1, Value.slice e1 m1 d1)).flatMap rowCs) from hwB ▸ cin_put (f := rowCs) (s := 4) (fun _ => rfl) (by decide) R3A.out HlA.out r1 (by have := HrN.out; omega) _)
  have BQB := Lib.hid (BQA.out.at_ oB (by omega))
  have BKB := Lib.hid (BKA.out.at_ oB (by omega))
  have R1B := Lib.hid (cin_at R1A.out oB (by omega))
  have F1B := Lib.hid (F1A.out.keep oB (fun h => by have : g1 = g3 := h; omega))
  have F2B := Lib.hid (F2A.out.keep oB (fun h => by have : g2 = g3 := h; omega))
  clear F1A F2A
  have R2B := Lib.hid (cin_at R2A.out oB (by omega))
  have hsB := oB.size
  have OTB := Lib.hid (OTA.out.then oB (fun k hk hlt => by have : k = g3 := hk; omega))
  clear hwB oB BQA BKA R1A R2A F3A OTA R3A HZ2A BXA
  have hk := cells_at (f := staCs) (s := 2) (fun _ => rfl) (by decide) R2B.out HZsl.out j hjN HZj.out
  have v0 : wB.cell? ⟨g2, j * 2, none⟩ = some (.string (bs y.name)) := hk 0 (by decide)
  have v1 : wB.cell? ⟨g2, j * 2 + 1, none⟩ = some (.slice (some ⟨q3, off3, none⟩) nR c3) := hk 1 (by decide)
  have f0 := F2B.out.free (j * 2)
  have f1 := F2B.out.free (j * 2 + 1)
  have cKB := BKB.out.cell 4 (v := .slice (some ⟨g2, 0, none⟩) nS cs2) rfl
  clear hk
  go_still_tail 12, (by kernel_rfl)
  change wpList _ _ _ _ _ wB.drew
  go_upto_region 13 with (fail)
  clear v0 v1 f0 f1 cKB
  obtain ⟨Zq, hZq⟩ : ∃ Zq, Zq = (Zr.set r (t2, Value.slice e2 m2 d2)).set r1 (t1, Value.slice e1 m1 d1) := ⟨_, rfl⟩
  rw [← hZq] at R3B
  have HPm := Lib.hid (show Zq.Perm Zr from by
    have h1 : r < Zr.length := by have := HrN.out; have := HR1e.out; have := HZrl.out; omega
    have h2 : r1 < Zr.length := by have := HrN.out; have := HZrl.out; omega
    rw [hZq, HZ1.out h1, HZ2.out h2]
    exact List.set_set_perm h1 h2)
  clear hZq
  obtain ⟨R', hR'⟩ : ∃ R', R' = Zq.map Prod.fst := ⟨_, rfl⟩
  have HRp := Lib.hid (show R'.Perm y.rows from by rw [hR', ← HZre.out]; exact HPm.out.map _)
  have HR' := Lib.hid hR'.symm
  clear hR'
  obtain ⟨wC, hwC⟩ : ∃ wC, wC = (wB.setCells g2 (j * 2) (staCs ((⟨y.name, R'⟩ : Sta), .slice (some ⟨g3, 0, none⟩) nR cr))).drew := ⟨_, rfl⟩
  have ew : ((wB.setCell ⟨g2, j * 2, none⟩ (.string (bs y.name))).setCell ⟨g2, j * 2 + 1, none⟩ (.slice (some ⟨g3, 0, none⟩) nR cr)).drew = wC := hwC.symm
  rw [ew]
  clear ew
  have oC : Only (At g2) wB wC := hwC ▸ (only_setCells (S := At g2) g2 rfl _ _ _ (Only.refl _ _)).drew
  have R2C := Lib.hid (show CIn w6.heap.size wC (.slice (some ⟨g2, 0, none⟩) nS cs2) nS 2 ((Zs.set j ((⟨y.name, R'⟩ : Sta), Value.slice (some ⟨g3, 0, none⟩) nR cr)).flatMap staCs) from hwC ▸ (cin_put (f := staCs) (s := 2) (fun _ => rfl) (by decide) R2B.out HZsl.out j hjN _).keep ((Only.refl Nil _).drew) (nilS · _))
  have R3C := Lib.hid (cin_at R3B.out oC (by omega))
  have BQC := Lib.hid (BQB.out.at_ oC (by omega))
  have BKC := Lib.hid (BKB.out.at_ oC (by omega))
  have R1C := Lib.hid (cin_at R1B.out oC (by omega))
  have F1C := Lib.hid (F1B.out.keep oC (fun h => by have : g1 = g2 := h; omega))
  have hsC := oC.size
  have OTC := Lib.hid (OTB.out.then oC (fun k hk hlt => by have : k = g2 := hk; omega))
  clear hwC oC BQB BKB R1B R2B F1B F2B OTB R3B HZ1 HZ2
  have hk := cells_at (f := kdCs) (s := 5) (fun _ => rfl) (by decide) R1C.out HZl.out i hiN HZi.out
  have v0 : wC.cell? ⟨g1, i * 5, none⟩ = some (.string (bs x.name)) := hk 0 (by decide)
  have f0 := F1C.out.free (i * 5)
  have v1 : wC.cell? ⟨g1, i * 5 + 1, none⟩ = some (.int .i64 x.limit) := hk 1 (by decide)
  have f1 := F1C.out.free (i * 5 + 1)
  have v2 : wC.cell? ⟨g1, i * 5 + 2, none⟩ = some (.int .i64 x.within) := hk 2 (by decide)
  have f2 := F1C.out.free (i * 5 + 2)
  have v3 : wC.cell? ⟨g1, i * 5 + 3, none⟩ = some (.slice a1 nC c1) := hk 3 (by decide)
  have f3 := F1C.out.free (i * 5 + 3)
  have v4 : wC.cell? ⟨g1, i * 5 + 4, none⟩ = some (.slice (some ⟨q2, off2, none⟩) nS c2') := hk 4 (by decide)
  have f4 := F1C.out.free (i * 5 + 4)
  have x0 := BKC.out.cell 0 (v := .string (bs x.name)) rfl
  have x1 := BKC.out.cell 1 (v := .int .i64 x.limit) rfl
  have x2 := BKC.out.cell 2 (v := .int .i64 x.within) rfl
  have x3 := BKC.out.cell 3 (v := .slice a1 nC c1) rfl
  have x4 := BKC.out.cell 4 (v := .slice (some ⟨g2, 0, none⟩) nS cs2) rfl
  have q0 := BQC.out.cell 0 (v := .slice (some ⟨g1, 0, none⟩) nP cq) rfl
  clear hk
  go_upto_region 14 with (fail)
  clear v0 v1 v2 v3 v4 f0 f1 f2 f3 f4 x0 x1 x2 x3 x4 q0
  obtain ⟨x', hx'⟩ : ∃ x' : Kd, x' = { x with states := x.states.set j ⟨y.name, R'⟩ } := ⟨_, rfl⟩
  obtain ⟨wD, hwD⟩ : ∃ wD, wD = wC.setCells g1 (i * 5) (kdCs (x', .slice a1 nC c1, .slice (some ⟨g2, 0, none⟩) nS cs2)) := ⟨_, rfl⟩
  have ew : ((((wC.setCell ⟨g1, i * 5, none⟩ (.string (bs x.name))).setCell ⟨g1, i * 5 + 1, none⟩ (.int .i64 x.limit)).setCell ⟨g1, i * 5 + 2, none⟩ (.int .i64 x.within)).setCell ⟨g1, i * 5 + 3, none⟩ (.slice a1 nC c1)).setCell ⟨g1, i * 5 + 4, none⟩ (.slice (some ⟨g2, 0, none⟩) nS cs2) = wD := by rw [hwD, hx']; rfl
  rw [ew]
  clear ew
  have oD : Only (At g1) wC wD := hwD ▸ only_setCells (S := At g1) g1 rfl _ _ _ (Only.refl _ _)
  have R1D := (show CIn Qb wD (.slice (some ⟨g1, 0, none⟩) nP cq) nP 5 ((Z.set i (x', Value.slice a1 nC c1, Value.slice (some ⟨g2, 0, none⟩) nS cs2)).flatMap kdCs) from hwD ▸ cin_put (f := kdCs) (s := 5) (fun _ => rfl) (by decide) R1C.out HZl.out i hiN _)
  have R2D := cin_at R2C.out oD (by omega)
  have R3D := cin_at R3C.out oD (by omega)
  have BQD := Lib.hid (BQC.out.at_ oD (by omega))
  have OTD := OTC.out.then oD (fun k hk hlt => by have : k = g1 := hk; omega)
  have hs1 := oD.size
  clear hwD oD BQC BKC R1C R2C R3C F1C OTC
  have hDw : D ≤ wD.heap.size := by have := OTD.size; omega
  have hX3 : XR wD.heap.size wD (.slice (some ⟨g3, 0, none⟩) nR cr) R' := by
    have hl : R'.length = nR := by rw [HRp.out.length_eq, hnR]
    refine ⟨Zq, HR'.out, by rw [hl]; exact R3D.mono (by omega), fun z hz => ?_⟩
    exact ((HiR.out z (HPm.out.mem_iff.1 hz)).keep OTD (nilS · D)).mono hDw
  have hX2 : XS wD.heap.size wD (.slice (some ⟨g2, 0, none⟩) nS cs2) x'.states := by
    have he : x'.states = x.states.set j ⟨y.name, R'⟩ := by rw [hx']
    refine ⟨Zs.set j ((⟨y.name, R'⟩ : Sta), .slice (some ⟨g3, 0, none⟩) nR cr), by rw [List.map_set, HZse.out, he], by rw [he, List.length_set, hnS]; exact R2D.mono (by omega), fun z hz => ?_⟩
    rcases List.mem_or_eq_of_mem_set hz with hz | rfl
    · exact ((HiS.out z hz).keep OTD (nilS · D)).mono hDw
    · exact hX3
  have egP : gt P i = x := by rw [gt_eq hil]; exact HXX.out.symm
  have egS : gt x.states j = y := by rw [gt_eq hjl]; exact HYY.out.symm
  have eQ : rowsAt P i j R' = P.set i x' := by unfold rowsAt; rw [egP, egS, hx']
  have hX1 : XK wD.heap.size wD (.slice (some ⟨g1, 0, none⟩) nP cq) (rowsAt P i j R') := by
    refine ⟨Z.set i (x', .slice a1 nC c1, .slice (some ⟨g2, 0, none⟩) nS cs2), by rw [List.map_set, HZe.out, eQ], by rw [rowsAt_len, HV.out.n]; exact R1D.mono (by omega), fun z hz => ?_⟩
    rcases List.mem_or_eq_of_mem_set hz with hz | rfl
    · exact ⟨((HiK.out z hz).1.keep OTD (nilS · D)).mono hDw, ((HiK.out z hz).2.keep OTD (nilS · D)).mono hDw⟩
    · refine ⟨?_, hX2⟩
      have hc : x'.cases = x.cases := by rw [hx']
      dsimp only
      rw [hc]
      exact (HCC.out.keep OTD (nilS · D)).mono hDw
  have hjg : j < (gt P i).states.length := by rw [egP]; omega
  have hRl : R'.length ≤ 140737488355328 := by rw [HRp.out.length_eq, hnR]; omega
  have hzs := HZs.out.sz
  have hwy : wfS y := HWk.out.states y (by rw [HYY.out]; exact List.getElem_mem _)
  have hWh : whole (rowsAt P i j R') = none ↔ whole P = none := rows_whole hil hjg (by rw [egP, egS]; exact HRp.out)
  have VQ : VK wD.heap.size wD (rowsAt P i j R') (some ⟨g1, 0, none⟩) nP cq :=
    ⟨hX1, by rw [rowsAt_len]; exact HV.out.n, hbP, rows_sz HV.out.sz hil hjg hRl (fun t ht => hzs.2 t (HRp.out.mem_iff.1 ht)), rows_wf HV.out.wf hil hjg (fun t ht => hwy.rows t (HRp.out.mem_iff.1 ht))⟩
  have HP1 := Lib.hid (fun w' (o : Only Nil wD w') => prog_err ((HV.out.keep (O2.out.trans OTD)).keep o) (Lib.hid (Nat.le_trans hDw o.size)))
  have HP2 := Lib.hid (fun w' (o : Only Nil wD w') => prog_err (VQ.keep o) (Lib.hid o.size))
  have HW := Lib.hid hWh
  have OD := Lib.hid (O1.out.trans (O2.out.trans OTD))
  have OO := Lib.hid (show Only Nil wD wD.drew from (Only.refl Nil wD).drew)
  have b0 := (HB.out.keep (O2.out.trans OTD)).cell 0 (v := .slice (some ⟨q, off, none⟩) nP sc) rfl
  have b1 := BQD.out.cell 0 (v := .slice (some ⟨g1, 0, none⟩) nP cq) rfl
  have CC := Lib.hid (show ∀ w', Only Nil wD w' → (fun w' : World => w'.cell? ⟨D, 0, none⟩ = some (.slice (some ⟨q, off, none⟩) nP sc) ∧ w'.cell? ⟨Qb, 0, none⟩ = some (.slice (some ⟨g1, 0, none⟩) nP cq)) w' from fun w' o => ⟨only_cell0 o b0, only_cell0 o b1⟩)
  clear R1D R2D R3D hX1 hX2 hX3 VQ hWh hwy hzs hRl hjg eQ egS egP OTD b0 b1 BQD hx'
  generalize whole (rowsAt P i j R') = rQ at *
  generalize whole P = rP at *
  cases rP with
  | none =>
    cases rQ with
    | some x => exact absurd (HW.out.2 rfl) (by simp)
    | none =>
      clear HW
      have hmf : True := trivial
      refine wp_region_held_drew (S := fun w' => w'.cell? ⟨D, 0, none⟩ = some (.slice (some ⟨q, off, none⟩) nP sc) ∧ w'.cell? ⟨Qb, 0, none⟩ = some (.slice (some ⟨g1, 0, none⟩) nP cq)) (by kernel_rfl) (CC.out _ OO.out) (fun hHeld => ?_)
      refine take_dst (some 116) (i := 0) (v := ?vha1) rfl (by kernel_rfl) (by kernel_rfl) (by kernel_rfl) (by kernel_rfl) (fun _ _ _ h => h) (Or.inl ⟨by kernel_rfl, ?hha1⟩) (by assumption) ?rha1
      case hha1 => (intro w hSw; (try dsimp only at hSw); first | (go_simp; done) | (go_simp; with_reducible rfl))
      try simp only [Act.put, List.setIfInBounds_toArray, List.set_cons_zero, List.set_cons_succ]
      refine take_dst (some 119) (i := 3) (v := ?vha2) rfl (by kernel_rfl) (by kernel_rfl) (by kernel_rfl) (by kernel_rfl) (fun _ _ _ h => h) (Or.inl ⟨by kernel_rfl, ?hha2⟩) (by assumption) ?rha2
      case hha2 => (intro w hSw; (try dsimp only at hSw); first | (go_simp; done) | (go_simp; with_reducible rfl))
      try simp only [Act.put, List.setIfInBounds_toArray, List.set_cons_zero, List.set_cons_succ]
      refine wpAnyH_ready (rs := [1]) (by kernel_rfl) (by simp) ?_
      refine AllReadyH.cons rfl (fun Kha3 hKha3 => ?_) AllReadyH.nil
      (go_simp; go_at_call 29; refine (HP1.out _ OO.out).mono ?_; rintro e wn ⟨u1, rfl, hv1, on⟩; obtain rfl : u1 = .nilIface := hv1; have O9 := Lib.hid (OO.out.trans on); clear OO on; have OO := O9; clear O9; go_wp2_with fail)
      refine hKha3.out _ _ ?sha3 (fun hHeldha3 => ?_)
      case sha3 => exact CC.out _ OO.out
      clear hKha3 Kha3
      try simp only [Act.put, List.setIfInBounds_toArray, List.set_cons_zero, List.set_cons_succ]
      refine take_dst (some 118) (i := 2) (v := ?vha4) rfl (by kernel_rfl) (by kernel_rfl) (by kernel_rfl) (by kernel_rfl) (fun _ _ _ h => h) (Or.inl ⟨by kernel_rfl, ?hha4⟩) (by assumption) ?rha4
      case hha4 => (intro w hSw; (try dsimp only at hSw); first | (go_simp; done) | (go_simp; with_reducible rfl))
      try simp only [Act.put, List.setIfInBounds_toArray, List.set_cons_zero, List.set_cons_succ]
      refine wpAnyH_ready (rs := [4]) (by kernel_rfl) (by simp) ?_
      refine AllReadyH.cons rfl (fun Kha5 hKha5 => ?_) AllReadyH.nil
      (go_simp; go_at_call 29; refine (HP2.out _ OO.out).mono ?_; rintro e wn ⟨u2, rfl, hv2, on⟩; obtain rfl : u2 = .nilIface := hv2; have O9 := Lib.hid (OO.out.trans on); clear OO on; have OO := O9; clear O9; go_wp2_with fail)
      refine hKha5.out _ _ ?sha5 (fun hHeldha5 => ?_)
      case sha5 => exact CC.out _ OO.out
      clear hKha5 Kha5
      try simp only [Act.put, List.setIfInBounds_toArray, List.set_cons_zero, List.set_cons_succ]
      refine take_dst (some 121) (i := 5) (v := ?vha6) rfl (by kernel_rfl) (by kernel_rfl) (by kernel_rfl) (by kernel_rfl) (fun _ _ _ h => h) (Or.inl ⟨by kernel_rfl, ?hha6⟩) (by assumption) ?rha6
      case hha6 => (intro w hSw; (try dsimp only at hSw); first | (go_simp; done) | (go_simp; with_reducible rfl))
      try simp only [Act.put, List.setIfInBounds_toArray, List.set_cons_zero, List.set_cons_succ]
      refine take_dst (some 122) (i := 6) (v := ?vha7) rfl (by kernel_rfl) (by kernel_rfl) (by kernel_rfl) (by kernel_rfl) (fun _ _ _ h => h) (Or.inl ⟨by kernel_rfl, ?hha7⟩) (by assumption) ?rha7
      case hha7 => (intro w hSw; (try dsimp only at hSw); first | (go_simp; done) | (go_simp; with_reducible rfl))
      try simp only [Act.put, List.setIfInBounds_toArray, List.set_cons_zero, List.set_cons_succ]
      refine take_dst (some 8) (i := 7) (v := ?vha8) rfl (by kernel_rfl) (by kernel_rfl) (by kernel_rfl) (by kernel_rfl) (fun _ _ _ h => h) (Or.inl ⟨by kernel_rfl, ?hha8⟩) (by assumption) ?rha8
      case hha8 => (intro w hSw; (try dsimp only at hSw); first | (go_simp; done) | (go_simp; with_reducible rfl))
      try simp only [Act.put, List.setIfInBounds_toArray, List.set_cons_zero, List.set_cons_succ]
      refine wpAnyH_done (by kernel_rfl) ?_ _
      go_wp2
      go_ret
      exact ⟨rfl, below_nil (OD.out.trans OO.out)⟩
  | some x =>
    cases rQ with
    | none => exact absurd (HW.out.1 rfl) (by simp)
    | some x2 =>
      clear HW
      have hmf : True := trivial
      refine wp_region_held_drew (S := fun w' => w'.cell? ⟨D, 0, none⟩ = some (.slice (some ⟨q, off, none⟩) nP sc) ∧ w'.cell? ⟨Qb, 0, none⟩ = some (.slice (some ⟨g1, 0, none⟩) nP cq)) (by kernel_rfl) (CC.out _ OO.out) (fun hHeld => ?_)
      refine take_dst (some 116) (i := 0) (v := ?vhb1) rfl (by kernel_rfl) (by kernel_rfl) (by kernel_rfl) (by kernel_rfl) (fun _ _ _ h => h) (Or.inl ⟨by kernel_rfl, ?hhb1⟩) (by assumption) ?rhb1
      case hhb1 => (intro w hSw; (try dsimp only at hSw); first | (go_simp; done) | (go_simp; with_reducible rfl))
      try simp only [Act.put, List.setIfInBounds_toArray, List.set_cons_zero, List.set_cons_succ]
      refine take_dst (some 119) (i := 3) (v := ?vhb2) rfl (by kernel_rfl) (by kernel_rfl) (by kernel_rfl) (by kernel_rfl) (fun _ _ _ h => h) (Or.inl ⟨by kernel_rfl, ?hhb2⟩) (by assumption) ?rhb2
      case hhb2 => (intro w hSw; (try dsimp only at hSw); first | (go_simp; done) | (go_simp; with_reducible rfl))
      try simp only [Act.put, List.setIfInBounds_toArray, List.set_cons_zero, List.set_cons_succ]
      refine wpAnyH_ready (rs := [1]) (by kernel_rfl) (by simp) ?_
      refine AllReadyH.cons rfl (fun Khb3 hKhb3 => ?_) AllReadyH.nil
      (go_simp; go_at_call 29; refine (HP1.out _ OO.out).mono ?_; rintro e wn ⟨u1, rfl, hv1, on⟩; obtain ⟨b1, rfl, _⟩ := hv1; have O9 := Lib.hid (OO.out.trans on); clear OO on; have OO := O9; clear O9; go_wp2_with fail)
      refine hKhb3.out _ _ ?shb3 (fun hHeldhb3 => ?_)
      case shb3 => exact CC.out _ OO.out
      clear hKhb3 Khb3
      try simp only [Act.put, List.setIfInBounds_toArray, List.set_cons_zero, List.set_cons_succ]
      refine take_dst (some 118) (i := 2) (v := ?vhb4) rfl (by kernel_rfl) (by kernel_rfl) (by kernel_rfl) (by kernel_rfl) (fun _ _ _ h => h) (Or.inl ⟨by kernel_rfl, ?hhb4⟩) (by assumption) ?rhb4
      case hhb4 => (intro w hSw; (try dsimp only at hSw); first | (go_simp; done) | (go_simp; with_reducible rfl))
      try simp only [Act.put, List.setIfInBounds_toArray, List.set_cons_zero, List.set_cons_succ]
      refine wpAnyH_ready (rs := [4]) (by kernel_rfl) (by simp) ?_
      refine AllReadyH.cons rfl (fun Khb5 hKhb5 => ?_) AllReadyH.nil
      (go_simp; go_at_call 29; refine (HP2.out _ OO.out).mono ?_; rintro e wn ⟨u2, rfl, hv2, on⟩; obtain ⟨b2, rfl, _⟩ := hv2; have O9 := Lib.hid (OO.out.trans on); clear OO on; have OO := O9; clear O9; go_wp2_with fail)
      refine hKhb5.out _ _ ?shb5 (fun hHeldhb5 => ?_)
      case shb5 => exact CC.out _ OO.out
      clear hKhb5 Khb5
      try simp only [Act.put, List.setIfInBounds_toArray, List.set_cons_zero, List.set_cons_succ]
      refine take_dst (some 121) (i := 5) (v := ?vhb6) rfl (by kernel_rfl) (by kernel_rfl) (by kernel_rfl) (by kernel_rfl) (fun _ _ _ h => h) (Or.inl ⟨by kernel_rfl, ?hhb6⟩) (by assumption) ?rhb6
      case hhb6 => (intro w hSw; (try dsimp only at hSw); first | (go_simp; done) | (go_simp; with_reducible rfl))
      try simp only [Act.put, List.setIfInBounds_toArray, List.set_cons_zero, List.set_cons_succ]
      refine take_dst (some 122) (i := 6) (v := ?vhb7) rfl (by kernel_rfl) (by kernel_rfl) (by kernel_rfl) (by kernel_rfl) (fun _ _ _ h => h) (Or.inl ⟨by kernel_rfl, ?hhb7⟩) (by assumption) ?rhb7
      case hhb7 => (intro w hSw; (try dsimp only at hSw); first | (go_simp; done) | (go_simp; with_reducible rfl))
      try simp only [Act.put, List.setIfInBounds_toArray, List.set_cons_zero, List.set_cons_succ]
      refine take_dst (some 8) (i := 7) (v := ?vhb8) rfl (by kernel_rfl) (by kernel_rfl) (by kernel_rfl) (by kernel_rfl) (fun _ _ _ h => h) (Or.inl ⟨by kernel_rfl, ?hhb8⟩) (by assumption) ?rhb8
      case hhb8 => (intro w hSw; (try dsimp only at hSw); first | (go_simp; done) | (go_simp; with_reducible rfl))
      try simp only [Act.put, List.setIfInBounds_toArray, List.set_cons_zero, List.set_cons_succ]
      refine wpAnyH_done (by kernel_rfl) ?_ _
      go_wp2
      go_ret
      exact ⟨rfl, below_nil (OD.out.trans OO.out)⟩
end Go.Proofs.YtdhokkmflccaaaaGreatDoor.Ch
