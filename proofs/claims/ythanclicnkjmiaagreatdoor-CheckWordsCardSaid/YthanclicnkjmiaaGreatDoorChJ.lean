/- check: first over a new row of looks; ofEffect. -/
import Derived.Test.YthanclicnkjmiaaGreatDoorChI
set_option linter.unusedVariables false
namespace Go.Proofs.YthanclicnkjmiaaGreatDoor.Ch
open Go.RowKit Go.Proofs.YthanclicnkjmiaaGreatDoor Lx Ps

def BadQ (lo : Nat) (w : World) (p : Option Addr) : Fau → Prop
  | none => p = none
  | some x => ∃ b, p = some ⟨b, 0, none⟩ ∧ BadAt lo w b x
theorem BadR.ptr {lo : Nat} {w : World} {e : Ending} {r : Fau} (h : BadR lo w e r) : ∃ p, e = .returned (.pointer p) ∧ BadQ lo w p r := by
  cases r with
  | none => exact ⟨none, h, rfl⟩
  | some x => obtain ⟨b, h1, h2⟩ := h; exact ⟨_, h1, b, rfl, h2⟩
theorem BadQ.ret {lo : Nat} {w : World} {p : Option Addr} {r : Fau} (h : BadQ lo w p r) : BadR lo w (.returned (.pointer p)) r := by
  cases r with
  | none => have : p = none := h; subst this; rfl
  | some x => obtain ⟨b, rfl, h2⟩ := h; exact ⟨b, rfl, h2⟩
theorem BadQ.lower {lo lo' : Nat} {w : World} {p : Option Addr} {r : Fau} (h : BadQ lo w p r) (hl : lo' ≤ lo) : BadQ lo' w p r := by
  cases r with
  | none => exact h
  | some x => obtain ⟨b, h1, h2⟩ := h; exact ⟨b, h1, h2.lower hl⟩
theorem first_box {w : World} (L : List (Value × Fau)) (hL : ∀ x ∈ L, LookOK w x.1 x.2) (hs : L.length ≤ 1000) :
    Calls Tryz.prog 58 #[.slice (some ⟨w.heap.size, 0, none⟩) L.length L.length] (w.alloc (.cells (L.map Prod.fst).toArray 125)) fun e w' => ∃ p, e = .returned (.pointer p) ∧ BadQ w.heap.size w' p (firstO (L.map Prod.snd)) ∧ Only Nil w w' := by
  have o : Only Nil w (w.alloc (.cells (L.map Prod.fst).toArray 125)) := (Only.refl Nil w).alloc _
  have hb := heap_new w (.cells (L.map Prod.fst).toArray 125)
  refine (first_any L (fun x hx => (hL x hx).keep o) w.heap.size L.length L.length rfl hs (fun j hj => ?_)).mono fun e w' ⟨h1, h2⟩ => ?_
  · rw [cell_of_row _ _ j _ _ _ hb]
    simp [hj]
  · obtain ⟨p, h3, h4⟩ := h1.ptr
    exact ⟨p, h3, h4.lower o.size, o.trans h2⟩
theorem eff_short {PN SN : List Wd} {L : List Eff} (i : Nat) (x : Nat × List Nat) (h : ofEff PN SN L i = some x) : x.2.length ≤ 100 := by rw [eff_place h]; decide
theorem row_short {PN SN : List Wd} {R : List Rw} (i : Nat) (x : Nat × List Nat) (h : ofRow PN SN R i = some x) : x.2.length ≤ 100 := by
  rcases row_place h with h | ⟨m, _, h⟩ <;> (rw [h]; simp)
theorem sta_short {PN : List Wd} {S : List Sta} (i : Nat) (x : Nat × List Nat) (h : ofSta PN S i = some x) : x.2.length ≤ 100 := by
  rcases sta_place h with h | ⟨n, _, h | ⟨m, _, h⟩⟩ <;> (rw [h]; simp)
theorem kd_short {P : List Kd} (i : Nat) (x : Nat × List Nat) (h : ofKd P i = some x) : x.2.length ≤ 100 := by
  rcases kd_place h with h | ⟨j, _, h | ⟨n, _, h | ⟨m, _, h⟩⟩⟩ <;> (rw [h]; simp)
set_option maxHeartbeats 4000000 in
set_option maxRecDepth 100000 in
theorem ofEffect_any {D : Nat} {w : World} {P : List Kd} {a0 : Option Addr} {nP c0 : Nat} {x : Kd} {a1 a2 : Option Addr} {nC c1 nS c2 : Nat} {y : Sta} {a3 : Option Addr} {nR c3 : Nat} {z : Rw} {a4 : Option Addr} {nE c4 : Nat} (hP : VK D w P a0 nP c0) (hX : VX D w x a1 nC c1 a2 nS c2) (hZ : VZ D w z a4 nE c4) (m : Nat) (hm : m < nE) :
    Calls Tryz.prog 182 #[.agg #[.slice a0 nP c0, .string (bs x.name), .int .i64 x.limit, .int .i64 x.within, .slice a1 nC c1, .slice a2 nS c2, .string (bs y.name), .slice a3 nR c3, .string (bs z.tag), .bool z.only, .int .i64 z.n, .slice a4 nE c4], .int .i64 (m : Int)] w fun e w' => BadR w.heap.size w' e (ofEff (P.map Kd.name) (x.states.map Sta.name) z.effs m) ∧ Only Nil w w' := by
  obtain ⟨W1, hW1⟩ : ∃ W1, W1 = (w.alloc (.cells #[.slice a0 nP c0, .string (bs x.name), .int .i64 x.limit, .int .i64 x.within, .slice a1 nC c1, .slice a2 nS c2, .string (bs y.name), .slice a3 nR c3, .string (bs z.tag), .bool z.only, .int .i64 z.n, .slice a4 nE c4] 93)).alloc (.cells #[.int .i64 (m : Int)] 3) := ⟨_, rfl⟩
  obtain ⟨o1, b1, b2⟩ : Only Nil w W1 ∧ Bx W1 w.heap.size [.slice a0 nP c0, .string (bs x.name), .int .i64 x.limit, .int .i64 x.within, .slice a1 nC c1, .slice a2 nS c2, .string (bs y.name), .slice a3 nR c3, .string (bs z.tag), .bool z.only, .int .i64 z.n, .slice a4 nE c4] 93 ∧ Bx W1 (w.heap.size + 1) [.int .i64 (m : Int)] 3 := two_box hW1
  have c11 := b1.cell 11 (v := .slice a4 nE c4) rfl
  have k0 := b2.cell 0 (v := .int .i64 (m : Int)) rfl
  obtain ⟨q, off, rfl, hlt, hc⟩ := (hZ.keep o1).e.at_ hZ.n m hm
  have hml : m < z.effs.length := by rw [hZ.n]; exact hm
  have hg : gt z.effs m = z.effs[m] := gt_eq hml
  have hff : wfE z.effs[m] := hZ.wf.effs _ (List.getElem_mem hml)
  have hdef : ofEff (P.map Kd.name) (x.states.map Sta.name) z.effs m = firstO [un 43 (wfEf z.effs[m]), un 42 (there (P.map Kd.name) (x.states.map Sta.name) z.effs[m]), un 44 (lastOk nE m z.effs[m])] := by
    unfold ofEff; rw [hg, hZ.n]
  rw [hdef]
  clear hdef hg
  generalize z.effs[m] = f at *
  have e0 : W1.cell? ⟨q, off + m * 7, none⟩ = some (.int .i64 f.act) := hc 0 (by decide)
  have e1 : W1.cell? ⟨q, off + m * 7 + 1, none⟩ = some (.string (bs f.ref)) := hc 1 (by decide)
  have e2 : W1.cell? ⟨q, off + m * 7 + 2, none⟩ = some (.string (bs f.slot)) := hc 2 (by decide)
  have e3 : W1.cell? ⟨q, off + m * 7 + 3, none⟩ = some (.string (bs f.name)) := hc 3 (by decide)
  have e4 : W1.cell? ⟨q, off + m * 7 + 4, none⟩ = some (.int .i64 f.val) := hc 4 (by decide)
  have e5 : W1.cell? ⟨q, off + m * 7 + 5, none⟩ = some (.int .i64 f.n) := hc 5 (by decide)
  have e6 : W1.cell? ⟨q, off + m * 7 + 6, none⟩ = some (.int .i64 f.delay) := hc 6 (by decide)
  have HBox := Lib.hid (show ∀ W, W = W1.alloc (.cells #[.int .i64 f.act, .string (bs f.ref), .string (bs f.slot), .string (bs f.name), .int .i64 f.val, .int .i64 f.n, .int .i64 f.delay] 67) → Only Nil W1 W ∧ Bx W (w.heap.size + 2) [.int .i64 f.act, .string (bs f.ref), .string (bs f.slot), .string (bs f.name), .int .i64 f.val, .int .i64 f.n, .int .i64 f.delay] 67 from fun W hW => by
    subst hW
    refine ⟨(Only.refl Nil W1).alloc _, ?_⟩
    have := bx_new W1 [.int .i64 f.act, .string (bs f.ref), .string (bs f.slot), .string (bs f.name), .int .i64 f.val, .int .i64 f.n, .int .i64 f.delay] 67
    have hs : W1.heap.size = w.heap.size + 2 := by rw [hW1]; simp
    rw [hs] at this; exact this)
  have B1 := Lib.hid b1
  have B2 := Lib.hid b2
  have O1 := Lib.hid o1
  have KP := Lib.hid (hP.keep o1)
  have KX := Lib.hid (hX.keep o1)
  have hm' : (m : Int) < (nE : Int) := by omega
  have hb := hZ.b
  have HM := Lib.hid hm
  have HBd := Lib.hid hb
  have HF := Lib.hid hff
  have hs1 : W1.heap.size = w.heap.size + 2 := by rw [hW1]; simp
  clear hc b1 b2 o1 hP hX hZ hff hml hm hb
  go_enter Tryz.func182, Tryz.ntmps182
  go_upto_region 1 with (fail)
  (try simp only [World.size_alloc]); rw [← hW1]; clear hW1
  go_upto_region 2 with (fail)
  (try rw [hs1])
  obtain ⟨W, hW⟩ : ∃ W, W = W1.alloc (.cells #[.int .i64 f.act, .string (bs f.ref), .string (bs f.slot), .string (bs f.name), .int .i64 f.val, .int .i64 f.n, .int .i64 f.delay] 67) := ⟨_, rfl⟩
  obtain ⟨o2, b3⟩ := HBox.out W hW
  rw [← hW]
  have O2 := Lib.hid (O1.out.trans o2)
  have V := Lib.hid (B1.out.keep o2)
  have A := Lib.hid ((B2.out.keep o2).cell 0 (v := .int .i64 (m : Int)) rfl)
  have E3 := Lib.hid b3
  have HP := Lib.hid (KP.out.keep o2)
  have HX := Lib.hid (KX.out.keep o2)
  clear hW HBox B1 B2 KP KX o2 b3 c11 k0 e0 e1 e2 e3 e4 e5 e6 O1 hs1
  have T1 : TestOK W (.func (.func 215) #[] #[.pointer (some ⟨w.heap.size + 2, 0, none⟩)]) (wfEf f) :=
    ⟨_, _, _, rfl, enters_of Tryz.func215 (by kernel_rfl) rfl, fun w' o => oe1_any f HF.out (w.heap.size + 2) w' (E3.out.keep o)⟩
  have T2 : TestOK W (.func (.func 217) #[] #[.pointer (some ⟨w.heap.size, 0, none⟩), .pointer (some ⟨w.heap.size + 2, 0, none⟩)]) (there (P.map Kd.name) (x.states.map Sta.name) f) :=
    ⟨_, _, _, rfl, enters_of Tryz.func217 (by kernel_rfl) rfl, fun w' o => oe2_any (HP.out.keep o) (HX.out.keep o) f w.heap.size (w.heap.size + 2) (V.out.keep o) (E3.out.keep o)⟩
  have T3 : TestOK W (.func (.func 219) #[] #[.pointer (some ⟨w.heap.size + 1, 0, none⟩), .pointer (some ⟨w.heap.size, 0, none⟩), .pointer (some ⟨w.heap.size + 2, 0, none⟩)]) (lastOk nE m f) :=
    ⟨_, _, _, rfl, enters_of Tryz.func219 (by kernel_rfl) rfl, fun w' o => (oe3_any f m (w.heap.size + 1) w.heap.size (w.heap.size + 2) HM.out HBd.out (only_cell0 o A.out) (V.out.keep o) (E3.out.keep o)).mono fun e w'' ⟨h1, h2⟩ => ⟨h1, h2 ▸ Only.refl _ _⟩⟩
  have U1 := Lib.hid (fun w' (o : Only Nil W w') => unless_any 43 (T1.keep o))
  have U2 := Lib.hid (fun w' (o : Only Nil W w') => unless_any 42 (T2.keep o))
  have U3 := Lib.hid (fun w' (o : Only Nil W w') => unless_any 44 (T3.keep o))
  have HS := Lib.hid (Nat.le_refl w.heap.size)
  clear T1 T2 T3 V A E3 HP HX HM HBd HF
  have OW := O2.out.size
  have HO := Lib.hid OW
  clear OW
  generalize hB : w.heap.size = B at *
  have HB := Lib.hid hB
  clear hB
  go_wp2_with fail
  refine (U1.out W (Only.refl _ _)).mono ?_
  rintro e w1 ⟨g1, cs1, cb1, rfl, L1, o1⟩
  have P1 := Lib.hid o1; have Q1 := Lib.hid L1; clear o1 L1
  go_wp2_with fail
  refine (U2.out w1 P1.out).mono ?_
  rintro e w2 ⟨g2, cs2, cb2, rfl, L2, o2⟩
  have P2 := Lib.hid (P1.out.trans o2); have Q2 := Lib.hid L2; have R1 := Lib.hid (Q1.out.keep o2); clear o2 L2 Q1
  go_wp2_with fail
  refine (U3.out w2 P2.out).mono ?_
  rintro e w3 ⟨g3, cs3, cb3, rfl, L3, o3⟩
  have P3 := Lib.hid (P2.out.trans o3); have Q3 := Lib.hid L3; have S1 := Lib.hid (R1.out.keep o3); have S2 := Lib.hid (Q2.out.keep o3); clear o3 L3 Q2 R1
  go_wp2_with fail
  refine (first_box [(.func (.func g1) cs1 cb1, un 43 (wfEf f)), (.func (.func g2) cs2 cb2, un 42 (there (P.map Kd.name) (x.states.map Sta.name) f)), (.func (.func g3) cs3 cb3, un 44 (lastOk nE m f))] (fun x hx => ?_) (by simp)).mono ?_
  · simp only [List.mem_cons, List.not_mem_nil, or_false] at hx
    rcases hx with rfl | rfl | rfl
    · exact S1.out
    · exact S2.out
    · exact Q3.out
  rintro e w4 ⟨p, rfl, hQ, o4⟩
  have P4 := Lib.hid (P3.out.trans o4)
  have HQ := Lib.hid (hQ.lower (Nat.le_trans HO.out P3.out.size))
  clear o4 hQ
  go_wp2
  go_ret
  exact ⟨by rw [HB.out]; exact HQ.out.ret, O2.out.trans P4.out⟩
end Go.Proofs.YthanclicnkjmiaaGreatDoor.Ch
