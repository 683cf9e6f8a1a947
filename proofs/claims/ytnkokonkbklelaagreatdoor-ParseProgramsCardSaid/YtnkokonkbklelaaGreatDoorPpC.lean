/- parse, the document's reader: one, Word, Verb. -/
import Derived.Test.YtnkokonkbklelaaGreatDoorPpB
set_option linter.unusedSimpArgs false
set_option linter.unusedVariables false
namespace Go.Proofs.YtnkokonkbklelaaGreatDoor.Ps
open Go.RowKit Go.Proofs.YtnkokonkbklelaaGreatDoor Lx

theorem Own.tx {w0 w : World} {R O : Nat} {cs : List Value} {t : TypeId} {X : Tks} {st : DSt} (h : Own w0 R O cs t w) (k : Nat) (v : Value) (hr : Tx w R X st) : Tx (w.setCell ⟨O, k, none⟩ v) R X st :=
  hr.keepO (at_only w O k v) (by have := h.new; have := h.low; omega)
theorem Own.txs {w0 w : World} {R O : Nat} {cs : List Value} {t : TypeId} {X : Tks} {st : DSt} (h : Own w0 R O cs t w) (k : Nat) (vs : List Value) (hr : Tx w R X st) : Tx (sets O k vs w) R X st :=
  hr.keepO (sets_only O k vs w) (by have := h.new; have := h.low; omega)
/-- What one comes to. -/
def OneP (w : World) (R : Nat) (X : Tks) (st : DSt) (k : Nat) (e : Ending) (w' : World) : Prop := (∃ q : Nat, e = .returned (.agg (tokV (dT k st) q).toArray)) ∧ Tx w' R X (lift (tk k) st) ∧ Only (At R) w w'

set_option maxRecDepth 100000 in
set_option maxHeartbeats 40000000 in
theorem one_bad {w : World} {R : Nat} {X : Tks} {st : DSt} (h : Tx w R X st) (k : Nat) (hb : st.1 = true) (hd : dO k st = false) :
    Calls Tryz.prog 27 #[.pointer (some ⟨R, 0, none⟩), .int .i64 (k : Nat)] w (OneP w R X st k) := by
  obtain ⟨wB, hwB, HB, oB⟩ := box2 (Only.refl (At R) w) h.lt tok0 67
  have hwB' : wB = w.alloc (.cells #[.int .i64 0, .string ⟨#[]⟩, .int .i64 0, .int .i64 0] 67) := hwB
  clear hwB
  have hT := h.keep oB
  have HR := Lib.hid hT
  have HH := Lib.hid HB
  have e1 := Lib.hid (dO_not hd)
  have e2 := Lib.hid (show dT k st = tok_0 from by unfold dT; rw [if_neg (by rw [hd]; decide)])
  have c2 := hT.c2
  have f2 := hT.f 2
  have hlt := h.lt
  rw [hb] at c2
  clear hb
  have d0 := HB.free 0
  have d1 := HB.free 1
  have d2 := HB.free 2
  have d3 := HB.free 3
  have y0 := HB.cell 0 (v := .int .i64 0) rfl
  have y1 := HB.cell 1 (v := .string ⟨#[]⟩) rfl
  have y2 := HB.cell 2 (v := .int .i64 0) rfl
  have y3 := HB.cell 3 (v := .int .i64 0) rfl
  have nRO : R ≠ w.heap.size := by omega
  generalize hO : w.heap.size = O at *
  have HO := Lib.hid hO
  have hfin := Lib.hid (fun (m : Nat) => show Own w R O tok0 67 ((wB.drewN m).setCell ⟨R, 2, none⟩ (.bool true)) ∧ Tx ((wB.drewN m).setCell ⟨R, 2, none⟩ (.bool true)) R X (true, st.2) from
    ⟨(HH.out.keep (((Only.refl Nil wB).drewN m).nilTo _)).keep (at_only _ R 2 _), (HR.out.keep ((Only.refl Nil wB).drewN m)).set2 true⟩)
  clear hO h hd hT HB oB hlt
  go_enter Tryz.func27, Tryz.ntmps27
  go_upto_region 1 with (fail)
  rw [HO.out, ← hwB']; clear hwB'
  go_quiet (fail)
  obtain ⟨H4, R4⟩ := hfin.out nq
  have g2 : (wB.drewN nq).cell? ⟨R, 2, none⟩ = _ := c2
  have g2' : (wB.drewN nq).frozen? ⟨R, 2, none⟩ = false := f2
  have k0 : (wB.drewN nq).frozen? ⟨O, 0, none⟩ = false := d0
  have k1 : (wB.drewN nq).frozen? ⟨O, 1, none⟩ = false := d1
  have k2 : (wB.drewN nq).frozen? ⟨O, 2, none⟩ = false := d2
  have k3 : (wB.drewN nq).frozen? ⟨O, 3, none⟩ = false := d3
  have z0 : (wB.drewN nq).cell? ⟨O, 0, none⟩ = some (.int .i64 0) := y0
  have z1 : (wB.drewN nq).cell? ⟨O, 1, none⟩ = some (.string ⟨#[]⟩) := y1
  have z2 : (wB.drewN nq).cell? ⟨O, 2, none⟩ = some (.int .i64 0) := y2
  have z3 : (wB.drewN nq).cell? ⟨O, 3, none⟩ = some (.int .i64 0) := y3
  have H4' := Lib.hid H4
  have R4' := Lib.hid R4
  clear H4 R4 c2 f2 d0 d1 d2 d3 y0 y1 y2 y3
  go_wp2_with fail
  have H5 := H4'.out.set tok0 rfl
  refine bodyPost_ret (results_agg rfl _ _ O tok0 Tryz.isAgg67 Tryz.sizeOf67 rfl H5.heap) rfl ?_
  refine ⟨⟨0, by rw [e2.out]; rfl⟩, ?_, H5.only⟩
  rw [e1.out]
  exact H4'.out.txs 0 tok0 R4'.out

set_option maxRecDepth 100000 in
set_option maxHeartbeats 40000000 in
theorem one_nil {w : World} {R : Nat} {X : Tks} {st : DSt} (h : Tx w R X st) (k : Nat) (hb : st.1 = false) (he : st.2 = []) (hd : dO k st = false) :
    Calls Tryz.prog 27 #[.pointer (some ⟨R, 0, none⟩), .int .i64 (k : Nat)] w (OneP w R X st k) := by
  obtain ⟨wB, hwB, HB, oB⟩ := box2 (Only.refl (At R) w) h.lt tok0 67
  have hwB' : wB = w.alloc (.cells #[.int .i64 0, .string ⟨#[]⟩, .int .i64 0, .int .i64 0] 67) := hwB
  clear hwB
  have hT := h.keep oB
  have HR := Lib.hid hT
  have HH := Lib.hid HB
  have e1 := Lib.hid (dO_not hd)
  have e2 := Lib.hid (show dT k st = tok_0 from by unfold dT; rw [if_neg (by rw [hd]; decide)])
  have c2 := hT.c2
  have f2 := hT.f 2
  have hlt := h.lt
  have hx : Tx wB R X (false, []) := by
    obtain ⟨b, T⟩ := st
    simp only at hb he
    subst hb he
    exact hT
  obtain ⟨a, n, c, c0, c1, hn⟩ := hx.none
  have hn' : (n : Int) ≤ 20000 := by omega
  rw [hb] at c2
  clear hx hb he hn
  have d0 := HB.free 0
  have d1 := HB.free 1
  have d2 := HB.free 2
  have d3 := HB.free 3
  have y0 := HB.cell 0 (v := .int .i64 0) rfl
  have y1 := HB.cell 1 (v := .string ⟨#[]⟩) rfl
  have y2 := HB.cell 2 (v := .int .i64 0) rfl
  have y3 := HB.cell 3 (v := .int .i64 0) rfl
  have nRO : R ≠ w.heap.size := by omega
  generalize hO : w.heap.size = O at *
  have HO := Lib.hid hO
  have hfin := Lib.hid (fun (m : Nat) => show Own w R O tok0 67 ((wB.drewN m).setCell ⟨R, 2, none⟩ (.bool true)) ∧ Tx ((wB.drewN m).setCell ⟨R, 2, none⟩ (.bool true)) R X (true, st.2) from
    ⟨(HH.out.keep (((Only.refl Nil wB).drewN m).nilTo _)).keep (at_only _ R 2 _), (HR.out.keep ((Only.refl Nil wB).drewN m)).set2 true⟩)
  clear hO h hd hT HB oB hlt
  go_enter Tryz.func27, Tryz.ntmps27
  go_upto_region 1 with (fail)
  rw [HO.out, ← hwB']; clear hwB'
  go_quiet (fail)
  obtain ⟨H4, R4⟩ := hfin.out nq
  have g2 : (wB.drewN nq).cell? ⟨R, 2, none⟩ = _ := c2
  have g2' : (wB.drewN nq).frozen? ⟨R, 2, none⟩ = false := f2
  have k0 : (wB.drewN nq).frozen? ⟨O, 0, none⟩ = false := d0
  have k1 : (wB.drewN nq).frozen? ⟨O, 1, none⟩ = false := d1
  have k2 : (wB.drewN nq).frozen? ⟨O, 2, none⟩ = false := d2
  have k3 : (wB.drewN nq).frozen? ⟨O, 3, none⟩ = false := d3
  have z0 : (wB.drewN nq).cell? ⟨O, 0, none⟩ = some (.int .i64 0) := y0
  have z1 : (wB.drewN nq).cell? ⟨O, 1, none⟩ = some (.string ⟨#[]⟩) := y1
  have z2 : (wB.drewN nq).cell? ⟨O, 2, none⟩ = some (.int .i64 0) := y2
  have z3 : (wB.drewN nq).cell? ⟨O, 3, none⟩ = some (.int .i64 0) := y3
  have H4' := Lib.hid H4
  have R4' := Lib.hid R4
  clear H4 R4 c2 f2 d0 d1 d2 d3 y0 y1 y2 y3
  go_wp2_with fail
  have H5 := H4'.out.set tok0 rfl
  refine bodyPost_ret (results_agg rfl _ _ O tok0 Tryz.isAgg67 Tryz.sizeOf67 rfl H5.heap) rfl ?_
  refine ⟨⟨0, by rw [e2.out]; rfl⟩, ?_, H5.only⟩
  rw [e1.out]
  exact H4'.out.txs 0 tok0 R4'.out

set_option maxRecDepth 100000 in
set_option maxHeartbeats 40000000 in
theorem one_kind {w : World} {R : Nat} {X : Tks} {st : DSt} {x : Tok × Nat} {r : Tks} (h : Tx w R X st) (k : Nat) (hs : st = (false, x :: r)) (hk : x.1.k ≠ k) (hd : dO k st = false) :
    Calls Tryz.prog 27 #[.pointer (some ⟨R, 0, none⟩), .int .i64 (k : Nat)] w (OneP w R X st k) := by
  obtain ⟨wB, hwB, HB, oB⟩ := box2 (Only.refl (At R) w) h.lt tok0 67
  have hwB' : wB = w.alloc (.cells #[.int .i64 0, .string ⟨#[]⟩, .int .i64 0, .int .i64 0] 67) := hwB
  clear hwB
  have hT := h.keep oB
  have HR := Lib.hid hT
  have HH := Lib.hid HB
  have e1 := Lib.hid (dO_not hd)
  have e2 := Lib.hid (show dT k st = tok_0 from by unfold dT; rw [if_neg (by rw [hd]; decide)])
  have c2 := hT.c2
  have f2 := hT.f 2
  have hlt := h.lt
  have hx : Tx wB R X (false, x :: r) := hs ▸ hT
  obtain ⟨g, off, n, c, q, c0, c1, hqn, hn, hg, _, hq, hq1, x0, _, _, _⟩ := hx.head
  have hqn' : (q : Int) < (n : Int) := by omega
  have hge : ¬ (n : Int) ≤ (q : Int) := by omega
  have hge3 : ¬ n ≤ q := by omega
  have hn' : (n : Int) ≤ 20000 := by omega
  have hk' : (((x.1.k : Nat) : Int) != (k : Nat)) = true := by simp; omega
  rw [hs] at c2
  simp only at c2
  clear hx hk hq hq1 hqn hn
  have d0 := HB.free 0
  have d1 := HB.free 1
  have d2 := HB.free 2
  have d3 := HB.free 3
  have y0 := HB.cell 0 (v := .int .i64 0) rfl
  have y1 := HB.cell 1 (v := .string ⟨#[]⟩) rfl
  have y2 := HB.cell 2 (v := .int .i64 0) rfl
  have y3 := HB.cell 3 (v := .int .i64 0) rfl
  have nRO : R ≠ w.heap.size := by omega
  generalize hO : w.heap.size = O at *
  have HO := Lib.hid hO
  have hfin := Lib.hid (fun (m : Nat) => show Own w R O tok0 67 ((wB.drewN m).setCell ⟨R, 2, none⟩ (.bool true)) ∧ Tx ((wB.drewN m).setCell ⟨R, 2, none⟩ (.bool true)) R X (true, st.2) from
    ⟨(HH.out.keep (((Only.refl Nil wB).drewN m).nilTo _)).keep (at_only _ R 2 _), (HR.out.keep ((Only.refl Nil wB).drewN m)).set2 true⟩)
  clear hO h hd hT HB oB hlt hs
  go_enter Tryz.func27, Tryz.ntmps27
  go_upto_region 1 with (fail)
  rw [HO.out, ← hwB']; clear hwB'
  go_quiet (fail)
  obtain ⟨H4, R4⟩ := hfin.out nq
  have g2 : (wB.drewN nq).cell? ⟨R, 2, none⟩ = _ := c2
  have g2' : (wB.drewN nq).frozen? ⟨R, 2, none⟩ = false := f2
  have k0 : (wB.drewN nq).frozen? ⟨O, 0, none⟩ = false := d0
  have k1 : (wB.drewN nq).frozen? ⟨O, 1, none⟩ = false := d1
  have k2 : (wB.drewN nq).frozen? ⟨O, 2, none⟩ = false := d2
  have k3 : (wB.drewN nq).frozen? ⟨O, 3, none⟩ = false := d3
  have z0 : (wB.drewN nq).cell? ⟨O, 0, none⟩ = some (.int .i64 0) := y0
  have z1 : (wB.drewN nq).cell? ⟨O, 1, none⟩ = some (.string ⟨#[]⟩) := y1
  have z2 : (wB.drewN nq).cell? ⟨O, 2, none⟩ = some (.int .i64 0) := y2
  have z3 : (wB.drewN nq).cell? ⟨O, 3, none⟩ = some (.int .i64 0) := y3
  have H4' := Lib.hid H4
  have R4' := Lib.hid R4
  clear H4 R4 c2 f2 d0 d1 d2 d3 y0 y1 y2 y3
  go_wp2_with fail
  have H5 := H4'.out.set tok0 rfl
  refine bodyPost_ret (results_agg rfl _ _ O tok0 Tryz.isAgg67 Tryz.sizeOf67 rfl H5.heap) rfl ?_
  refine ⟨⟨0, by rw [e2.out]; rfl⟩, ?_, H5.only⟩
  rw [e1.out]
  exact H4'.out.txs 0 tok0 R4'.out

set_option maxRecDepth 100000 in
set_option maxHeartbeats 40000000 in
theorem one_yes {w : World} {R : Nat} {X : Tks} {x : Tok × Nat} {r : Tks} (h : Tx w R X (false, x :: r)) :
    Calls Tryz.prog 27 #[.pointer (some ⟨R, 0, none⟩), .int .i64 (x.1.k : Nat)] w (OneP w R X (false, x :: r) x.1.k) := by
  obtain ⟨wB, hwB, HB, oB⟩ := box2 (Only.refl (At R) w) h.lt tok0 67
  have hwB' : wB = w.alloc (.cells #[.int .i64 0, .string ⟨#[]⟩, .int .i64 0, .int .i64 0] 67) := hwB
  clear hwB
  have hT := h.keep oB
  have HR := Lib.hid hT
  have HH := Lib.hid HB
  have hd : dO x.1.k (false, x :: r) = true := by simp [dO, hk]
  have e1 := Lib.hid (dO_lift hd)
  have e2 := Lib.hid (show dT x.1.k (false, x :: r) = x.1 from by unfold dT; rw [if_pos hd]; rfl)
  have c2 := hT.c2
  have f1 := hT.f 1
  have hlt := h.lt
  have hgl := hT.lt
  obtain ⟨g, off, n, c, q, c0, c1, hqn, hn, hg, hgR, hq, hq1, x0, x1, x2, x3⟩ := hT.head
  have hqn' : (q : Int) < (n : Int) := by omega
  have hge : ¬ (n : Int) ≤ (q : Int) := by omega
  have hge3 : ¬ n ≤ q := by omega
  have hn' : (n : Int) ≤ 20000 := by omega
  have hk' : (((x.1.k : Nat) : Int) != (x.1.k : Nat)) = false := by simp
  have hs1 : (q : Int) + 1 - 1 = (q : Int) := by omega
  have d0 := HB.free 0
  have d1 := HB.free 1
  have d2 := HB.free 2
  have d3 := HB.free 3
  have y0 := HB.cell 0 (v := .int .i64 0) rfl
  have y1 := HB.cell 1 (v := .string ⟨#[]⟩) rfl
  have y2 := HB.cell 2 (v := .int .i64 0) rfl
  have y3 := HB.cell 3 (v := .int .i64 0) rfl
  have nRO : R ≠ w.heap.size := by omega
  have ngO : g ≠ w.heap.size := by omega
  generalize hO : w.heap.size = O at *
  have HO := Lib.hid hO
  have hfin := Lib.hid (fun (m : Nat) => show Own w R O tok0 67 ((wB.drewN m).setCell ⟨R, 1, none⟩ (.int .i64 ((q : Int) + 1))) ∧ Tx ((wB.drewN m).setCell ⟨R, 1, none⟩ (.int .i64 ((q : Int) + 1))) R X (false, r) from by
    have h1 := (HR.out.keep ((Only.refl Nil wB).drewN m)).set1 h.tail
    rw [hq1] at h1
    exact ⟨(HH.out.keep (((Only.refl Nil wB).drewN m).nilTo _)).keep (at_only _ R 1 _), by simpa using h1⟩)
  clear hO h hd hT HB oB hlt hgR hgl hq hq1
  go_enter Tryz.func27, Tryz.ntmps27
  go_upto_region 1 with (fail)
  rw [HO.out, ← hwB']; clear hwB'
  go_quiet (fail)
  obtain ⟨H4, R4⟩ := hfin.out nq
  have H4' := Lib.hid (H4.keep (w' := ((wB.drewN nq).setCell ⟨R, 1, none⟩ (.int .i64 ((q : Int) + 1))).drew) ((Only.refl _ _).drew))
  have R4' := Lib.hid (R4.keep (w' := ((wB.drewN nq).setCell ⟨R, 1, none⟩ (.int .i64 ((q : Int) + 1))).drew) ((Only.refl _ _).drew))
  have b0 : (wB.drewN nq).cell? ⟨R, 0, none⟩ = _ := c0
  have b1 : (wB.drewN nq).cell? ⟨R, 1, none⟩ = _ := c1
  have b1' : (wB.drewN nq).frozen? ⟨R, 1, none⟩ = false := f1
  have t0 : (wB.drewN nq).cell? ⟨g, off + q * 4, none⟩ = _ := x0
  have t1 : (wB.drewN nq).cell? ⟨g, off + (q * 4 + 1), none⟩ = _ := x1
  have t2 : (wB.drewN nq).cell? ⟨g, off + (q * 4 + 2), none⟩ = _ := x2
  have t3 : (wB.drewN nq).cell? ⟨g, off + (q * 4 + 3), none⟩ = _ := x3
  have t1' : (wB.drewN nq).cell? ⟨g, off + q * 4 + 1, none⟩ = _ := x1
  have t2' : (wB.drewN nq).cell? ⟨g, off + q * 4 + 2, none⟩ = _ := x2
  have t3' : (wB.drewN nq).cell? ⟨g, off + q * 4 + 3, none⟩ = _ := x3
  have k0 : (wB.drewN nq).frozen? ⟨O, 0, none⟩ = false := d0
  have k1 : (wB.drewN nq).frozen? ⟨O, 1, none⟩ = false := d1
  have k2 : (wB.drewN nq).frozen? ⟨O, 2, none⟩ = false := d2
  have k3 : (wB.drewN nq).frozen? ⟨O, 3, none⟩ = false := d3
  have z0 : (wB.drewN nq).cell? ⟨O, 0, none⟩ = some (.int .i64 0) := y0
  have z1 : (wB.drewN nq).cell? ⟨O, 1, none⟩ = some (.string ⟨#[]⟩) := y1
  have z2 : (wB.drewN nq).cell? ⟨O, 2, none⟩ = some (.int .i64 0) := y2
  have z3 : (wB.drewN nq).cell? ⟨O, 3, none⟩ = some (.int .i64 0) := y3
  generalize wB.drewN nq = W6 at *
  clear H4 R4 c2 f1 c0 c1 x0 x1 x2 x3 d0 d1 d2 d3 y0 y1 y2 y3
  go_wp2_with fail
  go_region
  all_goals (try go_wp2)
  have H5 := H4'.out.set (tokV x.1 x.2) rfl
  refine bodyPost_ret (results_agg rfl _ _ O (tokV x.1 x.2) Tryz.isAgg67 Tryz.sizeOf67 rfl H5.heap) rfl ?_
  refine ⟨⟨x.2, by rw [e2.out]⟩, ?_, H5.only⟩
  rw [e1.out]
  exact H4'.out.txs 0 (tokV x.1 x.2) R4'.out

theorem one_any {w : World} {R : Nat} {X : Tks} {st : DSt} (h : Tx w R X st) (k : Nat) :
    Calls Tryz.prog 27 #[.pointer (some ⟨R, 0, none⟩), .int .i64 (k : Nat)] w (OneP w R X st k) := by
  obtain ⟨b, T⟩ := st
  cases b with
  | true => exact one_bad h k rfl (by simp [dO])
  | false =>
    cases T with
    | nil => exact one_nil h k rfl rfl (by simp [dO])
    | cons x r =>
      by_cases hk : x.1.k = k
      · subst hk
        exact one_yes h
      · exact one_kind h k rfl hk (by simp [dO, Ps.hk, hk])
end Go.Proofs.YtnkokonkbklelaaGreatDoor.Ps
