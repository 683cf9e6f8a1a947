/- act: the document's Do. -/
import Derived.Test.YtimnaiahokafaaaAcK
import Derived.StillTailTactics
set_option linter.unusedVariables false
set_option linter.unusedSimpArgs false
namespace Go.Proofs.Ytimnaiahokafaaa.Ac
open Go Go.RowKit Go.Proofs.Ytimnaiahokafaaa Lx Ps Ch

theorem failOf_cons (e : Eff) (r : List Eff) : failOf (e :: r) = if e.act = 11 then [] else if e.act = 12 then e.name else failOf r := rfl

set_option maxHeartbeats 16000000 in
set_option maxRecDepth 100000 in
theorem rdo_any {D : Nat} {w : World} {nm : Wd} {lim wi : Int} {S : List Sta} {a2 : Option Addr} {c2 n2 : Nat} {v1 : Value} (hS : SIn D w a2 n2 c2 S) (s t : Wd) (n : Int) (hn : inW n) :
    Calls Try.prog 14 #[.agg #[.string (bs nm), .int .i64 lim, .int .i64 wi, v1, .slice a2 n2 c2], .string (bs s), .string (bs t), .int .i64 n] w fun e w' => Hid (∃ v, e = .returned (.agg (plC (planOf S s t n) v).toArray) ∧ PlAt w w' v (planOf S s t n)) ∧ Only Nil w w' := by
  obtain ⟨W1, hW1⟩ : ∃ W, W = w.alloc (.cells #[.string (bs nm), .int .i64 lim, .int .i64 wi, v1, .slice a2 n2 c2] 25) := ⟨_, rfl⟩
  have s1 : W1.heap.size = w.heap.size + 1 := by rw [hW1]; simp
  have o1 : Only Nil w W1 := hW1 ▸ (Only.refl Nil w).alloc _
  have b1 : Bx W1 (w.heap.size) [.string (bs nm), .int .i64 lim, .int .i64 wi, v1, .slice a2 n2 c2] 25 := hW1 ▸ bx_new w _ _
  obtain ⟨W2, hW2⟩ : ∃ W, W = W1.alloc (.cells #[.bool false, .slice none 0 0, .string ⟨#[]⟩, .bool false, .string ⟨#[]⟩] 30) := ⟨_, rfl⟩
  have s2 : W2.heap.size = w.heap.size + 1 + 1 := by rw [hW2]; simp [s1]
  have o2 : Only Nil W1 W2 := hW2 ▸ (Only.refl Nil W1).alloc _
  have b2 : Bx W2 (w.heap.size + 1) [.bool false, .slice none 0 0, .string ⟨#[]⟩, .bool false, .string ⟨#[]⟩] 30 := by have h := bx_new W1 [.bool false, .slice none 0 0, .string ⟨#[]⟩, .bool false, .string ⟨#[]⟩] 30; rw [s1] at h; rw [hW2]; exact h
  have X1 := Lib.hid (b1.keep o2)
  have X2 := Lib.hid b2
  have O := Lib.hid (o1.trans o2)
  have SZ := Lib.hid s2
  have h2 := hS.keep O.out
  have HM := Lib.hid (rrow_any (nm := nm) (lim := lim) (wi := wi) (v1 := v1) h2 s t n)
  have HS := Lib.hid h2
  have HD := Lib.hid hS.hD
  have HN := Lib.hid hn
  have HWF := Lib.hid (row_wf h2.wf s t n)
  have HBZ := Lib.hid (row_bz h2.bz s t n)
  clear h2 hS hn
  go_enter Try.func14, Try.ntmps14
  go_upto_region 1 with (fail)
  (try simp only [World.size_alloc])
  rw [← hW1, ← hW2]
  clear hW1 s1 o1 b1 hW2 s2 o2 b2
  generalize hB2 : w.heap.size + 1 = B2 at *
  generalize hB1 : w.heap.size = B1 at *
  have HB1 := Lib.hid hB1
  have HB2 := Lib.hid hB2
  clear hB1 hB2
  have k0 := X1.out.cell 0 (v := .string (bs nm)) rfl
  have k1 := X1.out.cell 1 (v := .int .i64 lim) rfl
  have k2 := X1.out.cell 2 (v := .int .i64 wi) rfl
  have k3 := X1.out.cell 3 (v := v1) rfl
  have k4 := X1.out.cell 4 (v := .slice a2 n2 c2) rfl
  go_wp2_with fail
  refine HM.out.mono ?_
  rintro e w1 ⟨hr, o1⟩
  have O2 := Lib.hid (O.out.trans o1)
  have Y2 := Lib.hid (X2.out.keep o1)
  have X2k := Lib.hid (X1.out.keep o1)
  have HS1 := Lib.hid (HS.out.keep o1)
  clear k0 k1 k2 k3 k4 HM o1
  rcases hr.out with ⟨i, j, st0, r, rfl, hi, hj, hro⟩ | ⟨hro, iz, rfl⟩
  case inr =>
    have HP := Lib.hid (show planOf S s t n = ⟨false, [], s, false, []⟩ from by unfold planOf rowOf; rw [hro]; rfl)
    clear hr hro
    have Yw := Y2.out
    have z0 := Yw.cell 0 (v := .bool false) rfl
    have z1 := Yw.cell 1 (v := .slice none 0 0) rfl
    have z2 := Yw.cell 2 (v := .string ⟨#[]⟩) rfl
    have z3 := Yw.cell 3 (v := .bool false) rfl
    have z4 := Yw.cell 4 (v := .string ⟨#[]⟩) rfl
    have f0 := Yw.free 0
    have f1 := Yw.free 1
    have f2 := Yw.free 2
    have f3 := Yw.free 3
    have f4 := Yw.free 4
    go_wp2
    have t1 := bx_set (Yw) 0 (.bool false)
    have t2 := bx_set (t1) 1 (.slice none 0 0)
    have t3 := bx_set (t2) 2 (.string (bs s))
    have t4 := bx_set (t3) 3 (.bool false)
    have t5 := bx_set (t4) 4 (.string ⟨#[]⟩)
    simp only [List.set_cons_zero, List.set_cons_succ] at t5
    have oB := ((((((Only.refl (At B2) w1).setCell (p := ⟨B2, 0, none⟩) rfl (.bool false)).setCell (p := ⟨B2, 1, none⟩) rfl (.slice none 0 0)).setCell (p := ⟨B2, 2, none⟩) rfl (.string (bs s))).setCell (p := ⟨B2, 3, none⟩) rfl (.bool false)).setCell (p := ⟨B2, 4, none⟩) rfl (.string ⟨#[]⟩))
    refine bodyPost_ret (results_agg rfl _ _ B2 [.bool false, .slice none 0 0, .string (bs s), .bool false, .string ⟨#[]⟩] Try.isAgg30 Try.sizeOf30 rfl t5) rfl ?_
    refine ⟨Lib.hid ⟨.slice none 0 0, ?_, ?_⟩, (O2.out).then oB (fun k hk hlt => by have e1 : k = B2 := hk; have := HB2.out; have := HB1.out; omega)⟩
    · rw [HP.out]; rfl
    · rw [HP.out]
      exact ⟨MEff.nil _, new_none _⟩
  have hir : i < S.length := (List.getElem?_eq_some_iff.1 hi).1
  obtain ⟨s1, ⟨qs, offs, rfl, hlt, hc⟩, g1⟩ := HS1.out.x.at_ HS1.out.hn i (by rw [← HS1.out.hn]; exact hir)
  have hst : S[i]'hir = st0 := (List.getElem?_eq_some_iff.1 hi).2
  rw [hst] at hc g1
  obtain ⟨sa1, sc1, rfl⟩ := g1.slice
  have v1' : w1.cell? ⟨qs, offs + i * 2 + 1, none⟩ = some (.slice sa1 st0.rows.length sc1) := hc 1 (by decide)
  have hjr : j < st0.rows.length := (List.getElem?_eq_some_iff.1 hj).1
  obtain ⟨s2, ⟨qr, offr, rfl, hlt2, hcr⟩, g2⟩ := g1.at_ rfl j hjr
  have hrr : st0.rows[j]'hjr = r := (List.getElem?_eq_some_iff.1 hj).2
  rw [hrr] at hcr g2
  obtain ⟨a1, c1, rfl⟩ := g2.slice
  have v3 : w1.cell? ⟨qr, offr + j * 4 + 3, none⟩ = some (.slice a1 r.effs.length c1) := hcr 3 (by decide)
  have k4 := X2k.out.cell 4 (v := .slice (some ⟨qs, offs, none⟩) n2 c2) rfl
  have hro2 : rowOf S s t n = r := by unfold rowOf; rw [hro]; rfl
  have HR0 := Lib.hid (show planOf S s t n = doE n r.effs s from by unfold planOf; rw [hro2])
  have HW := Lib.hid (show ∀ e ∈ r.effs, wfE e from hro2 ▸ HWF.out)
  have HZ := Lib.hid (show r.effs.length * 80 ≤ 140737488355328 from hro2 ▸ HBZ.out)
  have hin : (i : Int) < (n2 : Int) := by have := HS1.out.hn; omega
  have h0i : (0 : Int) ≤ (i : Int) := Int.natCast_nonneg i
  have h0j : (0 : Int) ≤ (j : Int) := Int.natCast_nonneg j
  have hjl : ¬ (j : Int) < 0 := by omega
  have hjn : (j : Int) < (st0.rows.length : Int) := by omega
  have G2 := Lib.hid g2
  clear hr hro hi hj hir hst hjr hrr hc hcr g1 g2 hro2 HWF HBZ HS
  generalize hE : r.effs = E at *
  generalize hm : E.length = m at *
  go_upto_region 5 with (fail)
  clear k4 v1' v3 hin h0i h0j hjl hjn
  rcases Nat.eq_zero_or_pos m with h0 | h0
  · subst h0
    have hE0 : E = [] := List.length_eq_zero_iff.1 hm
    subst hE0
    have HP := Lib.hid (show planOf S s t n = ⟨false, [], s, false, []⟩ from HR0.out)
    clear hm hE HW HZ HR0
    obtain ⟨w3, hw3⟩ : ∃ w3, w3 = w1.alloc (.cells #[.bool false, .slice none 0 0, .string (bs s), .bool false, .string ⟨#[]⟩] 30) := ⟨_, rfl⟩
    have o3 : Only Nil w1 w3 := hw3 ▸ (Only.refl Nil w1).alloc _
    have P3 : Bx w3 w1.heap.size [.bool false, .slice none 0 0, .string (bs s), .bool false, .string ⟨#[]⟩] 30 := hw3 ▸ bx_new w1 [.bool false, .slice none 0 0, .string (bs s), .bool false, .string ⟨#[]⟩] _
    have Y3 := Y2.out.keep o3
    have O3 := O2.out.trans o3
    go_upto_region 8 with (fail)
    rw [← hw3]; clear hw3 o3
    generalize w1.heap.size = B4 at *
    have p1 := P3.cell 1 (v := .slice none 0 0) rfl
    have p3 := P3.cell 3 (v := .bool false) rfl
    go_wp2
    go_loopw [13] (fun s13 wr => s13 = .int .i64 0 ∧ w3 = wr) (fun _ _ => 0)
    case atStart => exact ⟨rfl, rfl⟩
    case round =>
      obtain ⟨rfl, rfl⟩ := hrel
      go_wp2
      go_loopw [15] (fun s15 wr => s15 = .int .i64 0 ∧ w3 = wr) (fun _ _ => 0)
      case atStart => exact ⟨rfl, rfl⟩
      case round =>
        obtain ⟨rfl, rfl⟩ := hrel
        clear p1 p3
        have p0 := P3.cell 0 (v := .bool false) rfl
        have p1 := P3.cell 1 (v := .slice none 0 0) rfl
        have p2 := P3.cell 2 (v := .string (bs s)) rfl
        have p3 := P3.cell 3 (v := .bool false) rfl
        have p4 := P3.cell 4 (v := .string ⟨#[]⟩) rfl
        have z0 := Y3.cell 0 (v := .bool false) rfl
        have z1 := Y3.cell 1 (v := .slice none 0 0) rfl
        have z2 := Y3.cell 2 (v := .string ⟨#[]⟩) rfl
        have z3 := Y3.cell 3 (v := .bool false) rfl
        have z4 := Y3.cell 4 (v := .string ⟨#[]⟩) rfl
        have f0 := Y3.free 0
        have f1 := Y3.free 1
        have f2 := Y3.free 2
        have f3 := Y3.free 3
        have f4 := Y3.free 4
        go_wp2
        have t1 := bx_set (Y3) 0 (.bool false)
        have t2 := bx_set (t1) 1 (.slice none 0 0)
        have t3 := bx_set (t2) 2 (.string (bs s))
        have t4 := bx_set (t3) 3 (.bool false)
        have t5 := bx_set (t4) 4 (.string ⟨#[]⟩)
        simp only [List.set_cons_zero, List.set_cons_succ] at t5
        have oB := ((((((Only.refl (At B2) w3).setCell (p := ⟨B2, 0, none⟩) rfl (.bool false)).setCell (p := ⟨B2, 1, none⟩) rfl (.slice none 0 0)).setCell (p := ⟨B2, 2, none⟩) rfl (.string (bs s))).setCell (p := ⟨B2, 3, none⟩) rfl (.bool false)).setCell (p := ⟨B2, 4, none⟩) rfl (.string ⟨#[]⟩))
        have hB2 : OfT 30 (At B2) w3 := ofT_at (show w3.heap[B2]? = _ from Y3)
        refine bodyPost_ret (results_agg rfl _ _ B2 [.bool false, .slice none 0 0, .string (bs s), .bool false, .string ⟨#[]⟩] Try.isAgg30 Try.sizeOf30 rfl t5) rfl ?_
        refine ⟨Lib.hid ⟨.slice none 0 0, ?_, ?_⟩, (O3).then oB (fun k hk hlt => by have e1 : k = B2 := hk; have := HB2.out; have := HB1.out; omega)⟩
        · rw [HP.out]; rfl
        · rw [HP.out]
          exact ⟨MEff.keep (t := 30) (MEff.nil _) oB hB2 (by decide), new_none _⟩
  have hmE : E.length = m := hm
  obtain ⟨q, off, ha1, hq, hc⟩ := XE.at_ (a := a1) (c := c1) (show XE D w1 (.slice a1 m c1) E from G2.out) hmE 0 h0
  subst ha1
  obtain ⟨e0, he0⟩ : ∃ e, e = E[0]'(by omega) := ⟨_, rfl⟩
  rw [← he0] at hc
  have u0 : w1.cell? ⟨q, off, none⟩ = some (.int .i64 e0.act) := by have := hc 0 (by decide); simp only [Nat.zero_mul, Nat.add_zero] at this; exact this
  have hputs : putsE E = decide (e0.act = 4) := by
    cases E with
    | nil => simp at hmE; omega
    | cons x y => rw [he0]; rfl
  have hmi : (0 : Int) < (m : Int) := by omega
  have hm0 : ((m : Int) > 0) := hmi
  clear hc he0
  by_cases h4 : e0.act = 4
  · have HP := Lib.hid (show planOf S s t n = ⟨true, [], s, false, []⟩ from by rw [HR0.out]; unfold doE; rw [hputs, decide_eq_true h4]; rfl)
    have g4 : (e0.act == 4) = true := by simpa using h4
    clear hputs h4 hmE hm hE HW HZ HR0
    have Yw := Y2.out
    have z0 := Yw.cell 0 (v := .bool false) rfl
    have z1 := Yw.cell 1 (v := .slice none 0 0) rfl
    have z2 := Yw.cell 2 (v := .string ⟨#[]⟩) rfl
    have z3 := Yw.cell 3 (v := .bool false) rfl
    have z4 := Yw.cell 4 (v := .string ⟨#[]⟩) rfl
    have f0 := Yw.free 0
    have f1 := Yw.free 1
    have f2 := Yw.free 2
    have f3 := Yw.free 3
    have f4 := Yw.free 4
    go_wp2
    have t1 := bx_set (Yw) 0 (.bool true)
    have t2 := bx_set (t1) 1 (.slice none 0 0)
    have t3 := bx_set (t2) 2 (.string (bs s))
    have t4 := bx_set (t3) 3 (.bool false)
    have t5 := bx_set (t4) 4 (.string ⟨#[]⟩)
    simp only [List.set_cons_zero, List.set_cons_succ] at t5
    have oB := ((((((Only.refl (At B2) w1).setCell (p := ⟨B2, 0, none⟩) rfl (.bool true)).setCell (p := ⟨B2, 1, none⟩) rfl (.slice none 0 0)).setCell (p := ⟨B2, 2, none⟩) rfl (.string (bs s))).setCell (p := ⟨B2, 3, none⟩) rfl (.bool false)).setCell (p := ⟨B2, 4, none⟩) rfl (.string ⟨#[]⟩))
    refine bodyPost_ret (results_agg rfl _ _ B2 [.bool true, .slice none 0 0, .string (bs s), .bool false, .string ⟨#[]⟩] Try.isAgg30 Try.sizeOf30 rfl t5) rfl ?_
    refine ⟨Lib.hid ⟨.slice none 0 0, ?_, ?_⟩, (O2.out).then oB (fun k hk hlt => by have e1 : k = B2 := hk; have := HB2.out; have := HB1.out; omega)⟩
    · rw [HP.out]; rfl
    · rw [HP.out]
      exact ⟨MEff.nil _, new_none _⟩
  have HP := Lib.hid (show planOf S s t n = runE n E [] s from by rw [HR0.out]; unfold doE; rw [hputs, decide_eq_false h4]; rfl)
  have g4 : (e0.act == 4) = false := by simpa using h4
  have HmE := Lib.hid hmE
  clear hputs h4 hmE hm hE HR0
  have hmb : m ≤ 140737488355328 := by have := HZ.out; omega
  have hmbi : (m : Int) ≤ 140737488355328 := by omega
  obtain ⟨w3, hw3⟩ : ∃ w3, w3 = w1.alloc (.cells #[.bool false, .slice none 0 0, .string (bs s), .bool false, .string ⟨#[]⟩] 30) := ⟨_, rfl⟩
  have o3 : Only Nil w1 w3 := hw3 ▸ (Only.refl Nil w1).alloc _
  have b4 : Bx w3 w1.heap.size [.bool false, .slice none 0 0, .string (bs s), .bool false, .string ⟨#[]⟩] 30 := hw3 ▸ bx_new w1 [.bool false, .slice none 0 0, .string (bs s), .bool false, .string ⟨#[]⟩] _
  have P3 := Lib.hid b4
  have Y3 := Lib.hid (Y2.out.keep o3)
  have O3 := Lib.hid (O2.out.trans o3)
  have G3 := Lib.hid (G2.out.keep o3 (nilS · D))
  have HB4 := Lib.hid (show B2 < w1.heap.size from lt_of_block Y2.out)
  have HB5 := Lib.hid (show w.heap.size ≤ w1.heap.size from O2.out.size)
  go_upto_region 8 with (fail)
  rw [← hw3]; clear hw3 o3 b4 O2 Y2 G2 X2k HS1 X1 X2
  generalize w1.heap.size = B4 at *
  go_wp2
  go_loopw [13] (fun s13 wr => ∃ (i : Nat) (A : List Eff) (st : Wd) (stop : Bool) (va : Option Addr) (vc : Nat), i ≤ m ∧ s13 = .int .i64 (i : Int) ∧ Hid (Bx wr B4 [.bool false, .slice va A.length vc, .string (bs st), .bool stop, .string ⟨#[]⟩] 30) ∧ Hid (MEff wr (.slice va A.length vc) A) ∧ Hid (New w3 (.slice va A.length vc)) ∧ Hid (Only (At B4) w3 wr) ∧ Hid ((stop = false ∧ runE n E [] s = runE n (E.drop i) A st) ∨ (stop = true ∧ runE n E [] s = ⟨false, A, st, true, []⟩)) ∧ Hid (A.length ≤ i))
    (fun s13 _ => m - (intOf s13).toNat)
  case atStart => exact ⟨0, [], s, false, none, 0, Nat.zero_le _, rfl, P3, Lib.hid (MEff.nil _), Lib.hid (new_none _), Lib.hid (Only.refl _ _), Lib.hid (Or.inl ⟨rfl, rfl⟩), Lib.hid (Nat.le_refl _)⟩
  case round =>
    obtain ⟨i, A, st, stop, va, vc, hi, rfl, hPx, hM, hNw, hO, hR, hA⟩ := hrel
    clear u0 g4
    have hN4 : ∀ b, b < D → ¬ At B4 b := fun b hb h => by have e1 : b = B4 := h; have := HD.out; have := HB5.out; have := HB1.out; omega
    have HN4 := Lib.hid hN4
    have Yr := Lib.hid (Y3.out.at_ hO.out (by have := HB4.out; omega))
    have Or_ := Lib.hid (O3.out.then hO.out (fun k hk hlt => by have e1 : k = B4 := hk; have := HB5.out; omega))
    have NwR := Lib.hid (show New w (.slice va A.length vc) from fun g hg => Nat.le_trans O3.out.size (hNw.out g hg))
    have GR := Lib.hid (show XE D wr (.slice (some ⟨q, off, none⟩) m c1) E from G3.out.keep hO.out HN4.out)
    clear hN4
    have p3 := hPx.out.cell 3 (v := .bool stop) rfl
    -- over?
    by_cases him : i < m
    case neg =>
      obtain rfl : m = i := by omega
      have hk0 : ¬ (m : Int) < (m : Int) := by omega
      have HPp : Hid (∀ fl, failOf E = fl → planOf S s t n = ⟨false, A, st, stop, fl⟩) := Lib.hid fun fl hfl => by
        rw [HP.out, ← hfl, ← runE_fail n E [] s]
        rcases hR.out with ⟨h1, h2⟩ | ⟨h1, h2⟩
        · rw [h2, List.drop_of_length_le (by rw [HmE.out]; exact Nat.le_refl _), h1]; rfl
        · rw [h2, h1]
      have P6 := hPx
      have Y6 := Yr
      have O6 := Or_
      have M6 := hM
      have G6 := GR
      generalize wr = w6 at *
      clear him hR hPx Yr Or_ hM GR hO hA
      go_wp2
      go_loopw [15] (fun s15 wr => ∃ (i : Nat), i ≤ m ∧ s15 = .int .i64 (i : Int) ∧ Hid (failOf E = failOf (E.drop i)) ∧ w6 = wr) (fun s15 _ => m - (intOf s15).toNat)
      case atStart => exact ⟨0, Nat.zero_le _, rfl, Lib.hid rfl, rfl⟩
      case round =>
        obtain ⟨i, hi, rfl, hE, rfl⟩ := hrel
        by_cases him : i < m
        · obtain ⟨q', off', ha1, hq', hc⟩ := XE.at_ (a := some ⟨q, off, none⟩) (c := c1) G6.out HmE.out i him
          obtain ⟨rfl, rfl⟩ : q = q' ∧ off = off' := by simpa using ha1
          have HEi := Lib.hid (List.getElem?_eq_getElem (show i < E.length from by rw [HmE.out]; exact him))
          generalize E[i]'(by rw [HmE.out]; exact him) = e at *
          have u0 : w6.cell? ⟨q, off + i * 7, none⟩ = some (.int .i64 e.act) := hc 0 (by decide)
          have u3 : w6.cell? ⟨q, off + i * 7 + 3, none⟩ = some (.string (bs e.name)) := hc 3 (by decide)
          have hd := drop_step HEi.out
          have HE2 := Lib.hid (hE.out.trans (by rw [hd, failOf_cons]))
          have himi : (i : Int) < (m : Int) := by omega
          have h0i : (0 : Int) ≤ (i : Int) := Int.natCast_nonneg i
          have HI := Lib.hid him
          clear hc hd hq' ha1 him hi
          by_cases h11 : e.act = 11
          · have g11 : (e.act != 11) = false := by simpa using h11
            have HPq := Lib.hid (HPp.out _ (HE2.out.trans (if_pos h11)))
            clear h11
            have p0 := P6.out.cell 0 (v := .bool false) rfl
            have p1 := P6.out.cell 1 (v := .slice va A.length vc) rfl
            have p2 := P6.out.cell 2 (v := .string (bs st)) rfl
            have p3 := P6.out.cell 3 (v := .bool stop) rfl
            have p4 := P6.out.cell 4 (v := .string ⟨#[]⟩) rfl
            have z0 := Y6.out.cell 0 (v := .bool false) rfl
            have z1 := Y6.out.cell 1 (v := .slice none 0 0) rfl
            have z2 := Y6.out.cell 2 (v := .string ⟨#[]⟩) rfl
            have z3 := Y6.out.cell 3 (v := .bool false) rfl
            have z4 := Y6.out.cell 4 (v := .string ⟨#[]⟩) rfl
            have f0 := Y6.out.free 0
            have f1 := Y6.out.free 1
            have f2 := Y6.out.free 2
            have f3 := Y6.out.free 3
            have f4 := Y6.out.free 4
            go_wp2
            have t1 := bx_set (Y6.out) 0 (.bool false)
            have t2 := bx_set (t1) 1 (.slice va A.length vc)
            have t3 := bx_set (t2) 2 (.string (bs st))
            have t4 := bx_set (t3) 3 (.bool stop)
            have t5 := bx_set (t4) 4 (.string ⟨#[]⟩)
            simp only [List.set_cons_zero, List.set_cons_succ] at t5
            have oB := ((((((Only.refl (At B2) w6).setCell (p := ⟨B2, 0, none⟩) rfl (.bool false)).setCell (p := ⟨B2, 1, none⟩) rfl (.slice va A.length vc)).setCell (p := ⟨B2, 2, none⟩) rfl (.string (bs st))).setCell (p := ⟨B2, 3, none⟩) rfl (.bool stop)).setCell (p := ⟨B2, 4, none⟩) rfl (.string ⟨#[]⟩))
            have hB2 : OfT 30 (At B2) w6 := ofT_at (show w6.heap[B2]? = _ from Y6.out)
            refine bodyPost_ret (results_agg rfl _ _ B2 [.bool false, .slice va A.length vc, .string (bs st), .bool stop, .string ⟨#[]⟩] Try.isAgg30 Try.sizeOf30 rfl t5) rfl ?_
            refine ⟨Lib.hid ⟨.slice va A.length vc, ?_, ?_⟩, (O6.out).then oB (fun k hk hlt => by have e1 : k = B2 := hk; have := HB2.out; have := HB1.out; omega)⟩
            · rw [HPq.out]; rfl
            · rw [HPq.out]
              exact ⟨MEff.keep (t := 30) M6.out oB hB2 (by decide), NwR.out⟩
          have g11 : (e.act != 11) = true := by simpa using h11
          by_cases h12 : e.act = 12
          · have g12 : (e.act == 12) = true := by simpa using h12
            have HPq := Lib.hid (HPp.out _ (HE2.out.trans ((if_neg h11).trans (if_pos h12))))
            have p4 := P6.out.cell 4 (v := .string ⟨#[]⟩) rfl
            have f4 := P6.out.free 4
            clear h11 h12
            go_upto_region 25 with (fail)
            have P7 := bx_set P6.out 4 (.string (bs e.name))
            simp only [List.set_cons_zero, List.set_cons_succ] at P7
            have o7 := (Only.refl (At B4) w6).setCell (p := ⟨B4, 4, none⟩) rfl (.string (bs e.name))
            have Y7 := Y6.out.at_ o7 (by have := HB4.out; omega)
            have M7 := MEff.keep (t := 30) M6.out o7 (ofT_at (show w6.heap[B4]? = _ from P6.out)) (by decide)
            have O7 := O6.out.then o7 (fun k hk hlt => by have e1 : k = B4 := hk; have := HB5.out; omega)
            generalize w6.setCell ⟨B4, 4, none⟩ (.string (bs e.name)) = w7 at *
            clear p4 f4 u0 u3 o7
            have p0 := P7.cell 0 (v := .bool false) rfl
            have p1 := P7.cell 1 (v := .slice va A.length vc) rfl
            have p2 := P7.cell 2 (v := .string (bs st)) rfl
            have p3 := P7.cell 3 (v := .bool stop) rfl
            have p4 := P7.cell 4 (v := .string (bs e.name)) rfl
            have z0 := Y7.cell 0 (v := .bool false) rfl
            have z1 := Y7.cell 1 (v := .slice none 0 0) rfl
            have z2 := Y7.cell 2 (v := .string ⟨#[]⟩) rfl
            have z3 := Y7.cell 3 (v := .bool false) rfl
            have z4 := Y7.cell 4 (v := .string ⟨#[]⟩) rfl
            have f0 := Y7.free 0
            have f1 := Y7.free 1
            have f2 := Y7.free 2
            have f3 := Y7.free 3
            have f4 := Y7.free 4
            go_wp2
            have t1 := bx_set (Y7) 0 (.bool false)
            have t2 := bx_set (t1) 1 (.slice va A.length vc)
            have t3 := bx_set (t2) 2 (.string (bs st))
            have t4 := bx_set (t3) 3 (.bool stop)
            have t5 := bx_set (t4) 4 (.string (bs e.name))
            simp only [List.set_cons_zero, List.set_cons_succ] at t5
            have oB := ((((((Only.refl (At B2) w7).setCell (p := ⟨B2, 0, none⟩) rfl (.bool false)).setCell (p := ⟨B2, 1, none⟩) rfl (.slice va A.length vc)).setCell (p := ⟨B2, 2, none⟩) rfl (.string (bs st))).setCell (p := ⟨B2, 3, none⟩) rfl (.bool stop)).setCell (p := ⟨B2, 4, none⟩) rfl (.string (bs e.name)))
            have hB2 : OfT 30 (At B2) w7 := ofT_at (show w7.heap[B2]? = _ from Y7)
            refine bodyPost_ret (results_agg rfl _ _ B2 [.bool false, .slice va A.length vc, .string (bs st), .bool stop, .string (bs e.name)] Try.isAgg30 Try.sizeOf30 rfl t5) rfl ?_
            refine ⟨Lib.hid ⟨.slice va A.length vc, ?_, ?_⟩, (O7).then oB (fun k hk hlt => by have e1 : k = B2 := hk; have := HB2.out; have := HB1.out; omega)⟩
            · rw [HPq.out]; rfl
            · rw [HPq.out]
              exact ⟨MEff.keep (t := 30) M7 oB hB2 (by decide), NwR.out⟩
          have g12 : (e.act == 12) = false := by simpa using h12
          have HE3 := Lib.hid (HE2.out.trans ((if_neg h11).trans (if_neg h12)))
          clear h11 h12
          go_wp2
          go_roundw
          case rel => exact ⟨i + 1, HI.out, by go_num, HE3, by first | rfl | trivial⟩
          case measure => have := HI.out; simp [intOf]; omega
        · obtain rfl : i = m := by omega
          have hk0 : ¬ (i : Int) < (i : Int) := by omega
          have HPq := Lib.hid (HPp.out [] (hE.out.trans (by rw [List.drop_of_length_le (by rw [HmE.out]; exact Nat.le_refl _)]; rfl)))
          clear him
          have p0 := P6.out.cell 0 (v := .bool false) rfl
          have p1 := P6.out.cell 1 (v := .slice va A.length vc) rfl
          have p2 := P6.out.cell 2 (v := .string (bs st)) rfl
          have p3 := P6.out.cell 3 (v := .bool stop) rfl
          have p4 := P6.out.cell 4 (v := .string ⟨#[]⟩) rfl
          have z0 := Y6.out.cell 0 (v := .bool false) rfl
          have z1 := Y6.out.cell 1 (v := .slice none 0 0) rfl
          have z2 := Y6.out.cell 2 (v := .string ⟨#[]⟩) rfl
          have z3 := Y6.out.cell 3 (v := .bool false) rfl
          have z4 := Y6.out.cell 4 (v := .string ⟨#[]⟩) rfl
          have f0 := Y6.out.free 0
          have f1 := Y6.out.free 1
          have f2 := Y6.out.free 2
          have f3 := Y6.out.free 3
          have f4 := Y6.out.free 4
          go_wp2
          have t1 := bx_set (Y6.out) 0 (.bool false)
          have t2 := bx_set (t1) 1 (.slice va A.length vc)
          have t3 := bx_set (t2) 2 (.string (bs st))
          have t4 := bx_set (t3) 3 (.bool stop)
          have t5 := bx_set (t4) 4 (.string ⟨#[]⟩)
          simp only [List.set_cons_zero, List.set_cons_succ] at t5
          have oB := ((((((Only.refl (At B2) w6).setCell (p := ⟨B2, 0, none⟩) rfl (.bool false)).setCell (p := ⟨B2, 1, none⟩) rfl (.slice va A.length vc)).setCell (p := ⟨B2, 2, none⟩) rfl (.string (bs st))).setCell (p := ⟨B2, 3, none⟩) rfl (.bool stop)).setCell (p := ⟨B2, 4, none⟩) rfl (.string ⟨#[]⟩))
          have hB2 : OfT 30 (At B2) w6 := ofT_at (show w6.heap[B2]? = _ from Y6.out)
          refine bodyPost_ret (results_agg rfl _ _ B2 [.bool false, .slice va A.length vc, .string (bs st), .bool stop, .string ⟨#[]⟩] Try.isAgg30 Try.sizeOf30 rfl t5) rfl ?_
          refine ⟨Lib.hid ⟨.slice va A.length vc, ?_, ?_⟩, (O6.out).then oB (fun k hk hlt => by have e1 : k = B2 := hk; have := HB2.out; have := HB1.out; omega)⟩
          · rw [HPq.out]; rfl
          · rw [HPq.out]
            exact ⟨MEff.keep (t := 30) M6.out oB hB2 (by decide), NwR.out⟩
    obtain ⟨q', off', ha1, hq', hc⟩ := XE.at_ (a := some ⟨q, off, none⟩) (c := c1) GR.out HmE.out i him
    obtain ⟨rfl, rfl⟩ : q = q' ∧ off = off' := by simpa using ha1
    have HE := Lib.hid (List.getElem?_eq_getElem (show i < E.length from by rw [HmE.out]; exact him))
    have HWe := Lib.hid (HW.out _ (List.getElem_mem (show i < E.length from by rw [HmE.out]; exact him)))
    generalize E[i]'(by rw [HmE.out]; exact him) = e at *
    have hd := drop_step HE.out
    have himi : (i : Int) < (m : Int) := by omega
    have h0i : (0 : Int) ≤ (i : Int) := Int.natCast_nonneg i
    have HI := Lib.hid him
    rcases hR.out with ⟨rfl, hR1⟩ | ⟨rfl, hR1⟩
    case inr =>
      have HPp : Hid (∀ fl, failOf E = fl → planOf S s t n = ⟨false, A, st, true, fl⟩) := Lib.hid fun fl hfl => by
        rw [HP.out, ← hfl, ← runE_fail n E [] s, hR1]
      have P6 := hPx
      have Y6 := Yr
      have O6 := Or_
      have M6 := hM
      have G6 := GR
      generalize wr = w6 at *
      clear him hR hR1 hPx Yr Or_ hM GR hO hA hc hd hq' ha1 hi HE HWe
      go_wp2
      go_loopw [15] (fun s15 wr => ∃ (i : Nat), i ≤ m ∧ s15 = .int .i64 (i : Int) ∧ Hid (failOf E = failOf (E.drop i)) ∧ w6 = wr) (fun s15 _ => m - (intOf s15).toNat)
      case atStart => exact ⟨0, Nat.zero_le _, rfl, Lib.hid rfl, rfl⟩
      case round =>
        obtain ⟨i, hi, rfl, hE, rfl⟩ := hrel
        by_cases him : i < m
        · obtain ⟨q', off', ha1, hq', hc⟩ := XE.at_ (a := some ⟨q, off, none⟩) (c := c1) G6.out HmE.out i him
          obtain ⟨rfl, rfl⟩ : q = q' ∧ off = off' := by simpa using ha1
          have HEi := Lib.hid (List.getElem?_eq_getElem (show i < E.length from by rw [HmE.out]; exact him))
          generalize E[i]'(by rw [HmE.out]; exact him) = e at *
          have u0 : w6.cell? ⟨q, off + i * 7, none⟩ = some (.int .i64 e.act) := hc 0 (by decide)
          have u3 : w6.cell? ⟨q, off + i * 7 + 3, none⟩ = some (.string (bs e.name)) := hc 3 (by decide)
          have hd := drop_step HEi.out
          have HE2 := Lib.hid (hE.out.trans (by rw [hd, failOf_cons]))
          have himi : (i : Int) < (m : Int) := by omega
          have h0i : (0 : Int) ≤ (i : Int) := Int.natCast_nonneg i
          have HI := Lib.hid him
          clear hc hd hq' ha1 him hi
          by_cases h11 : e.act = 11
          · have g11 : (e.act != 11) = false := by simpa using h11
            have HPq := Lib.hid (HPp.out _ (HE2.out.trans (if_pos h11)))
            clear h11
            have p0 := P6.out.cell 0 (v := .bool false) rfl
            have p1 := P6.out.cell 1 (v := .slice va A.length vc) rfl
            have p2 := P6.out.cell 2 (v := .string (bs st)) rfl
            have p3 := P6.out.cell 3 (v := .bool true) rfl
            have p4 := P6.out.cell 4 (v := .string ⟨#[]⟩) rfl
            have z0 := Y6.out.cell 0 (v := .bool false) rfl
            have z1 := Y6.out.cell 1 (v := .slice none 0 0) rfl
            have z2 := Y6.out.cell 2 (v := .string ⟨#[]⟩) rfl
            have z3 := Y6.out.cell 3 (v := .bool false) rfl
            have z4 := Y6.out.cell 4 (v := .string ⟨#[]⟩) rfl
            have f0 := Y6.out.free 0
            have f1 := Y6.out.free 1
            have f2 := Y6.out.free 2
            have f3 := Y6.out.free 3
            have f4 := Y6.out.free 4
            go_wp2
            have t1 := bx_set (Y6.out) 0 (.bool false)
            have t2 := bx_set (t1) 1 (.slice va A.length vc)
            have t3 := bx_set (t2) 2 (.string (bs st))
            have t4 := bx_set (t3) 3 (.bool true)
            have t5 := bx_set (t4) 4 (.string ⟨#[]⟩)
            simp only [List.set_cons_zero, List.set_cons_succ] at t5
            have oB := ((((((Only.refl (At B2) w6).setCell (p := ⟨B2, 0, none⟩) rfl (.bool false)).setCell (p := ⟨B2, 1, none⟩) rfl (.slice va A.length vc)).setCell (p := ⟨B2, 2, none⟩) rfl (.string (bs st))).setCell (p := ⟨B2, 3, none⟩) rfl (.bool true)).setCell (p := ⟨B2, 4, none⟩) rfl (.string ⟨#[]⟩))
            have hB2 : OfT 30 (At B2) w6 := ofT_at (show w6.heap[B2]? = _ from Y6.out)
            refine bodyPost_ret (results_agg rfl _ _ B2 [.bool false, .slice va A.length vc, .string (bs st), .bool true, .string ⟨#[]⟩] Try.isAgg30 Try.sizeOf30 rfl t5) rfl ?_
            refine ⟨Lib.hid ⟨.slice va A.length vc, ?_, ?_⟩, (O6.out).then oB (fun k hk hlt => by have e1 : k = B2 := hk; have := HB2.out; have := HB1.out; omega)⟩
            · rw [HPq.out]; rfl
            · rw [HPq.out]
              exact ⟨MEff.keep (t := 30) M6.out oB hB2 (by decide), NwR.out⟩
          have g11 : (e.act != 11) = true := by simpa using h11
          by_cases h12 : e.act = 12
          · have g12 : (e.act == 12) = true := by simpa using h12
            have HPq := Lib.hid (HPp.out _ (HE2.out.trans ((if_neg h11).trans (if_pos h12))))
            have p4 := P6.out.cell 4 (v := .string ⟨#[]⟩) rfl
            have f4 := P6.out.free 4
            clear h11 h12
            go_upto_region 25 with (fail)
            have P7 := bx_set P6.out 4 (.string (bs e.name))
            simp only [List.set_cons_zero, List.set_cons_succ] at P7
            have o7 := (Only.refl (At B4) w6).setCell (p := ⟨B4, 4, none⟩) rfl (.string (bs e.name))
            have Y7 := Y6.out.at_ o7 (by have := HB4.out; omega)
            have M7 := MEff.keep (t := 30) M6.out o7 (ofT_at (show w6.heap[B4]? = _ from P6.out)) (by decide)
            have O7 := O6.out.then o7 (fun k hk hlt => by have e1 : k = B4 := hk; have := HB5.out; omega)
            generalize w6.setCell ⟨B4, 4, none⟩ (.string (bs e.name)) = w7 at *
            clear p4 f4 u0 u3 o7
            have p0 := P7.cell 0 (v := .bool false) rfl
            have p1 := P7.cell 1 (v := .slice va A.length vc) rfl
            have p2 := P7.cell 2 (v := .string (bs st)) rfl
            have p3 := P7.cell 3 (v := .bool true) rfl
            have p4 := P7.cell 4 (v := .string (bs e.name)) rfl
            have z0 := Y7.cell 0 (v := .bool false) rfl
            have z1 := Y7.cell 1 (v := .slice none 0 0) rfl
            have z2 := Y7.cell 2 (v := .string ⟨#[]⟩) rfl
            have z3 := Y7.cell 3 (v := .bool false) rfl
            have z4 := Y7.cell 4 (v := .string ⟨#[]⟩) rfl
            have f0 := Y7.free 0
            have f1 := Y7.free 1
            have f2 := Y7.free 2
            have f3 := Y7.free 3
            have f4 := Y7.free 4
            go_wp2
            have t1 := bx_set (Y7) 0 (.bool false)
            have t2 := bx_set (t1) 1 (.slice va A.length vc)
            have t3 := bx_set (t2) 2 (.string (bs st))
            have t4 := bx_set (t3) 3 (.bool true)
            have t5 := bx_set (t4) 4 (.string (bs e.name))
            simp only [List.set_cons_zero, List.set_cons_succ] at t5
            have oB := ((((((Only.refl (At B2) w7).setCell (p := ⟨B2, 0, none⟩) rfl (.bool false)).setCell (p := ⟨B2, 1, none⟩) rfl (.slice va A.length vc)).setCell (p := ⟨B2, 2, none⟩) rfl (.string (bs st))).setCell (p := ⟨B2, 3, none⟩) rfl (.bool true)).setCell (p := ⟨B2, 4, none⟩) rfl (.string (bs e.name)))
            have hB2 : OfT 30 (At B2) w7 := ofT_at (show w7.heap[B2]? = _ from Y7)
            refine bodyPost_ret (results_agg rfl _ _ B2 [.bool false, .slice va A.length vc, .string (bs st), .bool true, .string (bs e.name)] Try.isAgg30 Try.sizeOf30 rfl t5) rfl ?_
            refine ⟨Lib.hid ⟨.slice va A.length vc, ?_, ?_⟩, (O7).then oB (fun k hk hlt => by have e1 : k = B2 := hk; have := HB2.out; have := HB1.out; omega)⟩
            · rw [HPq.out]; rfl
            · rw [HPq.out]
              exact ⟨MEff.keep (t := 30) M7 oB hB2 (by decide), NwR.out⟩
          have g12 : (e.act == 12) = false := by simpa using h12
          have HE3 := Lib.hid (HE2.out.trans ((if_neg h11).trans (if_neg h12)))
          clear h11 h12
          go_wp2
          go_roundw
          case rel => exact ⟨i + 1, HI.out, by go_num, HE3, by first | rfl | trivial⟩
          case measure => have := HI.out; simp [intOf]; omega
        · obtain rfl : i = m := by omega
          have hk0 : ¬ (i : Int) < (i : Int) := by omega
          have HPq := Lib.hid (HPp.out [] (hE.out.trans (by rw [List.drop_of_length_le (by rw [HmE.out]; exact Nat.le_refl _)]; rfl)))
          clear him
          have p0 := P6.out.cell 0 (v := .bool false) rfl
          have p1 := P6.out.cell 1 (v := .slice va A.length vc) rfl
          have p2 := P6.out.cell 2 (v := .string (bs st)) rfl
          have p3 := P6.out.cell 3 (v := .bool true) rfl
          have p4 := P6.out.cell 4 (v := .string ⟨#[]⟩) rfl
          have z0 := Y6.out.cell 0 (v := .bool false) rfl
          have z1 := Y6.out.cell 1 (v := .slice none 0 0) rfl
          have z2 := Y6.out.cell 2 (v := .string ⟨#[]⟩) rfl
          have z3 := Y6.out.cell 3 (v := .bool false) rfl
          have z4 := Y6.out.cell 4 (v := .string ⟨#[]⟩) rfl
          have f0 := Y6.out.free 0
          have f1 := Y6.out.free 1
          have f2 := Y6.out.free 2
          have f3 := Y6.out.free 3
          have f4 := Y6.out.free 4
          go_wp2
          have t1 := bx_set (Y6.out) 0 (.bool false)
          have t2 := bx_set (t1) 1 (.slice va A.length vc)
          have t3 := bx_set (t2) 2 (.string (bs st))
          have t4 := bx_set (t3) 3 (.bool true)
          have t5 := bx_set (t4) 4 (.string ⟨#[]⟩)
          simp only [List.set_cons_zero, List.set_cons_succ] at t5
          have oB := ((((((Only.refl (At B2) w6).setCell (p := ⟨B2, 0, none⟩) rfl (.bool false)).setCell (p := ⟨B2, 1, none⟩) rfl (.slice va A.length vc)).setCell (p := ⟨B2, 2, none⟩) rfl (.string (bs st))).setCell (p := ⟨B2, 3, none⟩) rfl (.bool true)).setCell (p := ⟨B2, 4, none⟩) rfl (.string ⟨#[]⟩))
          have hB2 : OfT 30 (At B2) w6 := ofT_at (show w6.heap[B2]? = _ from Y6.out)
          refine bodyPost_ret (results_agg rfl _ _ B2 [.bool false, .slice va A.length vc, .string (bs st), .bool true, .string ⟨#[]⟩] Try.isAgg30 Try.sizeOf30 rfl t5) rfl ?_
          refine ⟨Lib.hid ⟨.slice va A.length vc, ?_, ?_⟩, (O6.out).then oB (fun k hk hlt => by have e1 : k = B2 := hk; have := HB2.out; have := HB1.out; omega)⟩
          · rw [HPq.out]; rfl
          · rw [HPq.out]
            exact ⟨MEff.keep (t := 30) M6.out oB hB2 (by decide), NwR.out⟩
    have HR := Lib.hid (hR1.trans (by rw [hd]))
    have c0 : wr.cell? ⟨q, off + i * 7, none⟩ = some (.int .i64 e.act) := hc 0 (by decide)
    by_cases h12 : e.act = 12
    · have g12 : (e.act != 12) = false := by simpa using h12
      have HPp : Hid (∀ fl, failOf E = fl → planOf S s t n = ⟨false, A, st, false, fl⟩) := Lib.hid fun fl hfl => by
        rw [HP.out, ← hfl, ← runE_fail n E [] s, HR.out]
        simp only [runE]
        rw [if_neg (by omega), if_pos h12]
      have P6 := hPx
      have Y6 := Yr
      have O6 := Or_
      have M6 := hM
      have G6 := GR
      have c00 := c0
      generalize wr = w6 at *
      clear him hR hR1 hPx Yr Or_ hM GR hO hA hc hd hq' ha1 hi HE HWe HR h12 c00
      go_wp2
      go_loopw [15] (fun s15 wr => ∃ (i : Nat), i ≤ m ∧ s15 = .int .i64 (i : Int) ∧ Hid (failOf E = failOf (E.drop i)) ∧ w6 = wr) (fun s15 _ => m - (intOf s15).toNat)
      case atStart => exact ⟨0, Nat.zero_le _, rfl, Lib.hid rfl, rfl⟩
      case round =>
        obtain ⟨i, hi, rfl, hE, rfl⟩ := hrel
        by_cases him : i < m
        · obtain ⟨q', off', ha1, hq', hc⟩ := XE.at_ (a := some ⟨q, off, none⟩) (c := c1) G6.out HmE.out i him
          obtain ⟨rfl, rfl⟩ : q = q' ∧ off = off' := by simpa using ha1
          have HEi := Lib.hid (List.getElem?_eq_getElem (show i < E.length from by rw [HmE.out]; exact him))
          generalize E[i]'(by rw [HmE.out]; exact him) = e at *
          have u0 : w6.cell? ⟨q, off + i * 7, none⟩ = some (.int .i64 e.act) := hc 0 (by decide)
          have u3 : w6.cell? ⟨q, off + i * 7 + 3, none⟩ = some (.string (bs e.name)) := hc 3 (by decide)
          have hd := drop_step HEi.out
          have HE2 := Lib.hid (hE.out.trans (by rw [hd, failOf_cons]))
          have himi : (i : Int) < (m : Int) := by omega
          have h0i : (0 : Int) ≤ (i : Int) := Int.natCast_nonneg i
          have HI := Lib.hid him
          clear hc hd hq' ha1 him hi
          by_cases h11 : e.act = 11
          · have g11 : (e.act != 11) = false := by simpa using h11
            have HPq := Lib.hid (HPp.out _ (HE2.out.trans (if_pos h11)))
            clear h11
            have p0 := P6.out.cell 0 (v := .bool false) rfl
            have p1 := P6.out.cell 1 (v := .slice va A.length vc) rfl
            have p2 := P6.out.cell 2 (v := .string (bs st)) rfl
            have p3 := P6.out.cell 3 (v := .bool false) rfl
            have p4 := P6.out.cell 4 (v := .string ⟨#[]⟩) rfl
            have z0 := Y6.out.cell 0 (v := .bool false) rfl
            have z1 := Y6.out.cell 1 (v := .slice none 0 0) rfl
            have z2 := Y6.out.cell 2 (v := .string ⟨#[]⟩) rfl
            have z3 := Y6.out.cell 3 (v := .bool false) rfl
            have z4 := Y6.out.cell 4 (v := .string ⟨#[]⟩) rfl
            have f0 := Y6.out.free 0
            have f1 := Y6.out.free 1
            have f2 := Y6.out.free 2
            have f3 := Y6.out.free 3
            have f4 := Y6.out.free 4
            go_wp2
            have t1 := bx_set (Y6.out) 0 (.bool false)
            have t2 := bx_set (t1) 1 (.slice va A.length vc)
            have t3 := bx_set (t2) 2 (.string (bs st))
            have t4 := bx_set (t3) 3 (.bool false)
            have t5 := bx_set (t4) 4 (.string ⟨#[]⟩)
            simp only [List.set_cons_zero, List.set_cons_succ] at t5
            have oB := ((((((Only.refl (At B2) w6).setCell (p := ⟨B2, 0, none⟩) rfl (.bool false)).setCell (p := ⟨B2, 1, none⟩) rfl (.slice va A.length vc)).setCell (p := ⟨B2, 2, none⟩) rfl (.string (bs st))).setCell (p := ⟨B2, 3, none⟩) rfl (.bool false)).setCell (p := ⟨B2, 4, none⟩) rfl (.string ⟨#[]⟩))
            have hB2 : OfT 30 (At B2) w6 := ofT_at (show w6.heap[B2]? = _ from Y6.out)
            refine bodyPost_ret (results_agg rfl _ _ B2 [.bool false, .slice va A.length vc, .string (bs st), .bool false, .string ⟨#[]⟩] Try.isAgg30 Try.sizeOf30 rfl t5) rfl ?_
            refine ⟨Lib.hid ⟨.slice va A.length vc, ?_, ?_⟩, (O6.out).then oB (fun k hk hlt => by have e1 : k = B2 := hk; have := HB2.out; have := HB1.out; omega)⟩
            · rw [HPq.out]; rfl
            · rw [HPq.out]
              exact ⟨MEff.keep (t := 30) M6.out oB hB2 (by decide), NwR.out⟩
          have g11 : (e.act != 11) = true := by simpa using h11
          by_cases h12 : e.act = 12
          · have g12 : (e.act == 12) = true := by simpa using h12
            have HPq := Lib.hid (HPp.out _ (HE2.out.trans ((if_neg h11).trans (if_pos h12))))
            have p4 := P6.out.cell 4 (v := .string ⟨#[]⟩) rfl
            have f4 := P6.out.free 4
            clear h11 h12
            go_upto_region 25 with (fail)
            have P7 := bx_set P6.out 4 (.string (bs e.name))
            simp only [List.set_cons_zero, List.set_cons_succ] at P7
            have o7 := (Only.refl (At B4) w6).setCell (p := ⟨B4, 4, none⟩) rfl (.string (bs e.name))
            have Y7 := Y6.out.at_ o7 (by have := HB4.out; omega)
            have M7 := MEff.keep (t := 30) M6.out o7 (ofT_at (show w6.heap[B4]? = _ from P6.out)) (by decide)
            have O7 := O6.out.then o7 (fun k hk hlt => by have e1 : k = B4 := hk; have := HB5.out; omega)
            generalize w6.setCell ⟨B4, 4, none⟩ (.string (bs e.name)) = w7 at *
            clear p4 f4 u0 u3 o7
            have p0 := P7.cell 0 (v := .bool false) rfl
            have p1 := P7.cell 1 (v := .slice va A.length vc) rfl
            have p2 := P7.cell 2 (v := .string (bs st)) rfl
            have p3 := P7.cell 3 (v := .bool false) rfl
            have p4 := P7.cell 4 (v := .string (bs e.name)) rfl
            have z0 := Y7.cell 0 (v := .bool false) rfl
            have z1 := Y7.cell 1 (v := .slice none 0 0) rfl
            have z2 := Y7.cell 2 (v := .string ⟨#[]⟩) rfl
            have z3 := Y7.cell 3 (v := .bool false) rfl
            have z4 := Y7.cell 4 (v := .string ⟨#[]⟩) rfl
            have f0 := Y7.free 0
            have f1 := Y7.free 1
            have f2 := Y7.free 2
            have f3 := Y7.free 3
            have f4 := Y7.free 4
            go_wp2
            have t1 := bx_set (Y7) 0 (.bool false)
            have t2 := bx_set (t1) 1 (.slice va A.length vc)
            have t3 := bx_set (t2) 2 (.string (bs st))
            have t4 := bx_set (t3) 3 (.bool false)
            have t5 := bx_set (t4) 4 (.string (bs e.name))
            simp only [List.set_cons_zero, List.set_cons_succ] at t5
            have oB := ((((((Only.refl (At B2) w7).setCell (p := ⟨B2, 0, none⟩) rfl (.bool false)).setCell (p := ⟨B2, 1, none⟩) rfl (.slice va A.length vc)).setCell (p := ⟨B2, 2, none⟩) rfl (.string (bs st))).setCell (p := ⟨B2, 3, none⟩) rfl (.bool false)).setCell (p := ⟨B2, 4, none⟩) rfl (.string (bs e.name)))
            have hB2 : OfT 30 (At B2) w7 := ofT_at (show w7.heap[B2]? = _ from Y7)
            refine bodyPost_ret (results_agg rfl _ _ B2 [.bool false, .slice va A.length vc, .string (bs st), .bool false, .string (bs e.name)] Try.isAgg30 Try.sizeOf30 rfl t5) rfl ?_
            refine ⟨Lib.hid ⟨.slice va A.length vc, ?_, ?_⟩, (O7).then oB (fun k hk hlt => by have e1 : k = B2 := hk; have := HB2.out; have := HB1.out; omega)⟩
            · rw [HPq.out]; rfl
            · rw [HPq.out]
              exact ⟨MEff.keep (t := 30) M7 oB hB2 (by decide), NwR.out⟩
          have g12 : (e.act == 12) = false := by simpa using h12
          have HE3 := Lib.hid (HE2.out.trans ((if_neg h11).trans (if_neg h12)))
          clear h11 h12
          go_wp2
          go_roundw
          case rel => exact ⟨i + 1, HI.out, by go_num, HE3, by first | rfl | trivial⟩
          case measure => have := HI.out; simp [intOf]; omega
        · obtain rfl : i = m := by omega
          have hk0 : ¬ (i : Int) < (i : Int) := by omega
          have HPq := Lib.hid (HPp.out [] (hE.out.trans (by rw [List.drop_of_length_le (by rw [HmE.out]; exact Nat.le_refl _)]; rfl)))
          clear him
          have p0 := P6.out.cell 0 (v := .bool false) rfl
          have p1 := P6.out.cell 1 (v := .slice va A.length vc) rfl
          have p2 := P6.out.cell 2 (v := .string (bs st)) rfl
          have p3 := P6.out.cell 3 (v := .bool false) rfl
          have p4 := P6.out.cell 4 (v := .string ⟨#[]⟩) rfl
          have z0 := Y6.out.cell 0 (v := .bool false) rfl
          have z1 := Y6.out.cell 1 (v := .slice none 0 0) rfl
          have z2 := Y6.out.cell 2 (v := .string ⟨#[]⟩) rfl
          have z3 := Y6.out.cell 3 (v := .bool false) rfl
          have z4 := Y6.out.cell 4 (v := .string ⟨#[]⟩) rfl
          have f0 := Y6.out.free 0
          have f1 := Y6.out.free 1
          have f2 := Y6.out.free 2
          have f3 := Y6.out.free 3
          have f4 := Y6.out.free 4
          go_wp2
          have t1 := bx_set (Y6.out) 0 (.bool false)
          have t2 := bx_set (t1) 1 (.slice va A.length vc)
          have t3 := bx_set (t2) 2 (.string (bs st))
          have t4 := bx_set (t3) 3 (.bool false)
          have t5 := bx_set (t4) 4 (.string ⟨#[]⟩)
          simp only [List.set_cons_zero, List.set_cons_succ] at t5
          have oB := ((((((Only.refl (At B2) w6).setCell (p := ⟨B2, 0, none⟩) rfl (.bool false)).setCell (p := ⟨B2, 1, none⟩) rfl (.slice va A.length vc)).setCell (p := ⟨B2, 2, none⟩) rfl (.string (bs st))).setCell (p := ⟨B2, 3, none⟩) rfl (.bool false)).setCell (p := ⟨B2, 4, none⟩) rfl (.string ⟨#[]⟩))
          have hB2 : OfT 30 (At B2) w6 := ofT_at (show w6.heap[B2]? = _ from Y6.out)
          refine bodyPost_ret (results_agg rfl _ _ B2 [.bool false, .slice va A.length vc, .string (bs st), .bool false, .string ⟨#[]⟩] Try.isAgg30 Try.sizeOf30 rfl t5) rfl ?_
          refine ⟨Lib.hid ⟨.slice va A.length vc, ?_, ?_⟩, (O6.out).then oB (fun k hk hlt => by have e1 : k = B2 := hk; have := HB2.out; have := HB1.out; omega)⟩
          · rw [HPq.out]; rfl
          · rw [HPq.out]
            exact ⟨MEff.keep (t := 30) M6.out oB hB2 (by decide), NwR.out⟩
    have g12 : (e.act != 12) = true := by simpa using h12
    have c1' : wr.cell? ⟨q, off + i * 7 + 1, none⟩ = some (.string (bs e.ref)) := hc 1 (by decide)
    have c2' : wr.cell? ⟨q, off + i * 7 + 2, none⟩ = some (.string (bs e.slot)) := hc 2 (by decide)
    have c3' : wr.cell? ⟨q, off + i * 7 + 3, none⟩ = some (.string (bs e.name)) := hc 3 (by decide)
    have c4' : wr.cell? ⟨q, off + i * 7 + 4, none⟩ = some (.int .i64 e.val) := hc 4 (by decide)
    have c5' : wr.cell? ⟨q, off + i * 7 + 5, none⟩ = some (.int .i64 e.n) := hc 5 (by decide)
    have c6' : wr.cell? ⟨q, off + i * 7 + 6, none⟩ = some (.int .i64 e.delay) := hc 6 (by decide)
    obtain ⟨w5, hw5⟩ : ∃ w5, w5 = wr.alloc (.cells #[.int .i64 e.act, .string (bs e.ref), .string (bs e.slot), .string (bs e.name), .int .i64 e.val, .int .i64 e.n, .int .i64 e.delay] 50) := ⟨_, rfl⟩
    have o5 : Only Nil wr w5 := hw5 ▸ (Only.refl Nil wr).alloc _
    have E5 := Lib.hid (show Bx w5 wr.heap.size [.int .i64 e.act, .string (bs e.ref), .string (bs e.slot), .string (bs e.name), .int .i64 e.val, .int .i64 e.n, .int .i64 e.delay] 50 from hw5 ▸ bx_new wr [.int .i64 e.act, .string (bs e.ref), .string (bs e.slot), .string (bs e.name), .int .i64 e.val, .int .i64 e.n, .int .i64 e.delay] _)
    have P5 := Lib.hid (hPx.out.keep o5)
    have M5 := Lib.hid (MEff.keep (t := 30) hM.out o5 (ofT_nil _ _) (by decide))
    have OW := Lib.hid (hO.out.trans (o5.nilTo _))
    have HL5 := Lib.hid (fun g (hg : RowOf va g) => show g < wr.heap.size from row_lt hM.out hg)
    clear hc hd hq' ha1 o5 hPx hM Yr Or_ hO hR hR1 GR
    go_upto_region 12 with (fail)
    rw [← hw5]; clear hw5 c0 c1' c2' c3' c4' c5' c6' p3
    generalize wr.heap.size = B5 at *
    have k0 := E5.out.cell 0 (v := .int .i64 e.act) rfl
    by_cases h3 : e.act = 3
    · have g3 : (e.act == 3) = true := by simpa using h3
      have HRq := Lib.hid (show runE n E [] s = runE n (E.drop (i + 1)) A e.name from by rw [HR.out]; simp only [runE]; rw [if_neg (by omega), if_neg h12, if_pos h3])
      have fp := P5.out.free 2
      have kp := P5.out.cell 2 (v := .string (bs st)) rfl
      have k3 := E5.out.cell 3 (v := .string (bs e.name)) rfl
      have P6 := bx_set P5.out 2 (.string (bs e.name))
      simp only [List.set_cons_zero, List.set_cons_succ] at P6
      have P7 := Lib.hid P6
      have o6 := (Only.refl (At B4) w5).setCell (p := ⟨B4, 2, none⟩) rfl (.string (bs e.name))
      have M6 := Lib.hid (MEff.keep (t := 30) M5.out o6 (ofT_at (show w5.heap[B4]? = _ from P5.out)) (by decide))
      have O6 := Lib.hid (OW.out.trans o6)
      have HA := Lib.hid (show A.length ≤ i + 1 from Nat.le_succ_of_le hA.out)
      clear h12 h3 P6 o6 him hi
      go_wp2
      go_roundw
      case rel => exact ⟨i + 1, A, e.name, false, va, vc, HI.out, by go_num, P7, M6, hNw, O6, Lib.hid (Or.inl ⟨rfl, HRq.out⟩), HA⟩
      case measure => have := HI.out; simp [intOf]; omega
    have g3 : (e.act == 3) = false := by simpa using h3
    by_cases h11 : e.act = 11
    · have g11 : (e.act == 11) = true := by simpa using h11
      have HRq := Lib.hid (show runE n E [] s = ⟨false, A, st, true, []⟩ from by rw [HR.out]; simp only [runE]; rw [if_pos h11])
      have fp := P5.out.free 3
      have kp := P5.out.cell 3 (v := .bool false) rfl
      have P6 := bx_set P5.out 3 (.bool true)
      simp only [List.set_cons_zero, List.set_cons_succ] at P6
      have P7 := Lib.hid P6
      have o6 := (Only.refl (At B4) w5).setCell (p := ⟨B4, 3, none⟩) rfl (.bool true)
      have M6 := Lib.hid (MEff.keep (t := 30) M5.out o6 (ofT_at (show w5.heap[B4]? = _ from P5.out)) (by decide))
      have O6 := Lib.hid (OW.out.trans o6)
      have HA := Lib.hid (show A.length ≤ i + 1 from Nat.le_succ_of_le hA.out)
      clear h12 h3 h11 P6 o6 him hi
      go_wp2
      go_roundw
      case rel => exact ⟨i + 1, A, st, true, va, vc, HI.out, by go_num, P7, M6, hNw, O6, Lib.hid (Or.inr ⟨rfl, HRq.out⟩), HA⟩
      case measure => have := HI.out; simp [intOf]; omega
    have g11 : (e.act == 11) = false := by simpa using h11
    by_cases h18 : e.act = 1 ∨ e.act = 8
    · have HRq := Lib.hid (show runE n E [] s = runE n (E.drop (i + 1)) (A ++ [settle e n]) st from by rw [HR.out]; simp only [runE]; rw [if_neg h11, if_neg h12, if_neg h3, if_neg (by omega)])
      have hst : settle e n = ⟨e.act, e.ref, e.slot, e.name, 2, numOf e n, e.delay⟩ := by unfold settle; rw [if_pos h18]
      rw [hst] at HRq
      have HX : Hid (∀ w', Calls Try.prog 25 #[.agg #[.int .i64 e.act, .string (bs e.ref), .string (bs e.slot), .string (bs e.name), .int .i64 e.val, .int .i64 e.n, .int .i64 e.delay], .int .i64 n] w' fun r w'' => r = .returned (.int .i64 (numOf e n)) ∧ Only Nil w' w'') := Lib.hid fun w' => rnumber_any e n HN.out w'
      generalize numOf e n = z at *
      have g18 : (e.act == 1) = true ∨ ((e.act == 1) = false ∧ (e.act == 8) = true) := by
        by_cases h1 : e.act = 1
        · exact Or.inl (by simpa using h1)
        · exact Or.inr ⟨by simpa using h1, by simpa using (h18.resolve_left h1)⟩
      have HA := Lib.hid (show (A ++ [(⟨e.act, e.ref, e.slot, e.name, 2, z, e.delay⟩ : Eff)]).length ≤ i + 1 from by rw [List.length_append]; exact Nat.succ_le_succ hA.out)
      have HF := Lib.hid (show (A.length + 1) * 80 ≤ 140737488355328 from Nat.le_trans (Nat.mul_le_mul_right 80 (Nat.le_trans (Nat.succ_le_succ hA.out) HI.out)) HZ.out)
      have HV := Lib.hid hNw.out
      have HSZ := Lib.hid (show w3.heap.size ≤ w5.heap.size from OW.out.size)
      clear h11 h12 h3 h18 him hi HR hst
      have CC := Lib.hid (show ∀ w', Only (At B4) w5 w' → (fun w' : World => w'.cell? ⟨B5, 0, none⟩ = some (.int .i64 e.act) ∧ w'.cell? ⟨B5, 1, none⟩ = some (.string (bs e.ref)) ∧ w'.cell? ⟨B5, 2, none⟩ = some (.string (bs e.slot)) ∧ w'.cell? ⟨B5, 3, none⟩ = some (.string (bs e.name)) ∧ w'.cell? ⟨B5, 4, none⟩ = some (.int .i64 e.val) ∧ w'.cell? ⟨B5, 5, none⟩ = some (.int .i64 e.n) ∧ w'.cell? ⟨B5, 6, none⟩ = some (.int .i64 e.delay)) w' from fun w' o => by
        have hh := E5.out.at_ o (blk_ne E5.out P5.out (by decide))
        exact ⟨hh.cell 0 rfl, hh.cell 1 rfl, hh.cell 2 rfl, hh.cell 3 rfl, hh.cell 4 rfl, hh.cell 5 rfl, hh.cell 6 rfl⟩)
      rcases g18 with g1 | ⟨g1, g8⟩
      · go_upto_region 17 with (fail)
        clear k0
        have OO := Lib.hid (show Only Nil w5 w5.drew from (Only.refl Nil w5).drew)
        have BP := Lib.hid (P5.out.keep OO.out)
        have MM := Lib.hid (MEff.keep (t := 30) M5.out OO.out (ofT_nil _ _) (by decide))
        refine wp_region_held_drew (S := fun w' => w'.cell? ⟨B5, 0, none⟩ = some (.int .i64 e.act) ∧ w'.cell? ⟨B5, 1, none⟩ = some (.string (bs e.ref)) ∧ w'.cell? ⟨B5, 2, none⟩ = some (.string (bs e.slot)) ∧ w'.cell? ⟨B5, 3, none⟩ = some (.string (bs e.name)) ∧ w'.cell? ⟨B5, 4, none⟩ = some (.int .i64 e.val) ∧ w'.cell? ⟨B5, 5, none⟩ = some (.int .i64 e.n) ∧ w'.cell? ⟨B5, 6, none⟩ = some (.int .i64 e.delay)) (by kernel_rfl) (CC.out _ (OO.out.nilTo _)) (fun hHeld => ?_)
        generalize w5.drew = v0 at *
        refine take_dst (some 93) (i := 0) (v := ?vdp1) rfl (by as_aux_lemma => kernel_rfl) (by as_aux_lemma => kernel_rfl) (by as_aux_lemma => kernel_rfl) (by as_aux_lemma => kernel_rfl) (fun _ _ _ h => h) (Or.inl ⟨by kernel_rfl, ?hdp1⟩) (by assumption) ?rdp1
        case hdp1 => (intro w hSw; (try dsimp only at hSw); first | (go_simp; done) | (go_simp; with_reducible rfl))
        try simp only [Act.put, List.setIfInBounds_toArray, List.set_cons_zero, List.set_cons_succ]
        refine take_dst (some 95) (i := 2) (v := ?vdp2) rfl (by as_aux_lemma => kernel_rfl) (by as_aux_lemma => kernel_rfl) (by as_aux_lemma => kernel_rfl) (by as_aux_lemma => kernel_rfl) (fun _ _ _ h => h) (Or.inl ⟨by kernel_rfl, ?hdp2⟩) (by assumption) ?rdp2
        case hdp2 => (intro w hSw; (try dsimp only at hSw); first | (go_simp; done) | (go_simp; with_reducible rfl))
        try simp only [Act.put, List.setIfInBounds_toArray, List.set_cons_zero, List.set_cons_succ]
        refine take_dst (some 96) (i := 3) (v := ?vdp3) rfl (by as_aux_lemma => kernel_rfl) (by as_aux_lemma => kernel_rfl) (by as_aux_lemma => kernel_rfl) (by as_aux_lemma => kernel_rfl) (fun _ _ _ h => h) (Or.inl ⟨by kernel_rfl, ?hdp3⟩) (by assumption) ?rdp3
        case hdp3 => (intro w hSw; (try dsimp only at hSw); first | (go_simp; done) | (go_simp; with_reducible rfl))
        try simp only [Act.put, List.setIfInBounds_toArray, List.set_cons_zero, List.set_cons_succ]
        refine take_dst (some 97) (i := 4) (v := ?vdp4) rfl (by as_aux_lemma => kernel_rfl) (by as_aux_lemma => kernel_rfl) (by as_aux_lemma => kernel_rfl) (by as_aux_lemma => kernel_rfl) (fun _ _ _ h => h) (Or.inl ⟨by kernel_rfl, ?hdp4⟩) (by assumption) ?rdp4
        case hdp4 => (intro w hSw; (try dsimp only at hSw); first | (go_simp; done) | (go_simp; with_reducible rfl))
        try simp only [Act.put, List.setIfInBounds_toArray, List.set_cons_zero, List.set_cons_succ]
        refine take_dst (some 98) (i := 5) (v := ?vdp5) rfl (by as_aux_lemma => kernel_rfl) (by as_aux_lemma => kernel_rfl) (by as_aux_lemma => kernel_rfl) (by as_aux_lemma => kernel_rfl) (fun _ _ _ h => h) (Or.inl ⟨by kernel_rfl, ?hdp5⟩) (by assumption) ?rdp5
        case hdp5 => (intro w hSw; (try dsimp only at hSw); first | (go_simp; done) | (go_simp; with_reducible rfl))
        try simp only [Act.put, List.setIfInBounds_toArray, List.set_cons_zero, List.set_cons_succ]
        refine take_dst (some 99) (i := 6) (v := ?vdp6) rfl (by as_aux_lemma => kernel_rfl) (by as_aux_lemma => kernel_rfl) (by as_aux_lemma => kernel_rfl) (by as_aux_lemma => kernel_rfl) (fun _ _ _ h => h) (Or.inl ⟨by kernel_rfl, ?hdp6⟩) (by assumption) ?rdp6
        case hdp6 => (intro w hSw; (try dsimp only at hSw); first | (go_simp; done) | (go_simp; with_reducible rfl))
        try simp only [Act.put, List.setIfInBounds_toArray, List.set_cons_zero, List.set_cons_succ]
        refine take_dst (some 100) (i := 7) (v := ?vdp7) rfl (by as_aux_lemma => kernel_rfl) (by as_aux_lemma => kernel_rfl) (by as_aux_lemma => kernel_rfl) (by as_aux_lemma => kernel_rfl) (fun _ _ _ h => h) (Or.inl ⟨by kernel_rfl, ?hdp7⟩) (by assumption) ?rdp7
        case hdp7 => (intro w hSw; (try dsimp only at hSw); first | (go_simp; done) | (go_simp; with_reducible rfl))
        try simp only [Act.put, List.setIfInBounds_toArray, List.set_cons_zero, List.set_cons_succ]
        refine take_dst (some 101) (i := 8) (v := ?vdp8) rfl (by as_aux_lemma => kernel_rfl) (by as_aux_lemma => kernel_rfl) (by as_aux_lemma => kernel_rfl) (by as_aux_lemma => kernel_rfl) (fun _ _ _ h => h) (Or.inl ⟨by kernel_rfl, ?hdp8⟩) (by assumption) ?rdp8
        case hdp8 => (intro w hSw; (try dsimp only at hSw); first | (go_simp; done) | (go_simp; with_reducible rfl))
        try simp only [Act.put, List.setIfInBounds_toArray, List.set_cons_zero, List.set_cons_succ]
        refine take_dst (some 102) (i := 9) (v := ?vdp9) rfl (by as_aux_lemma => kernel_rfl) (by as_aux_lemma => kernel_rfl) (by as_aux_lemma => kernel_rfl) (by as_aux_lemma => kernel_rfl) (fun _ _ _ h => h) (Or.inl ⟨by kernel_rfl, ?hdp9⟩) (by assumption) ?rdp9
        case hdp9 => (intro w hSw; (try dsimp only at hSw); first | (go_simp; done) | (go_simp; with_reducible rfl))
        try simp only [Act.put, List.setIfInBounds_toArray, List.set_cons_zero, List.set_cons_succ]
        refine take_dst (some 103) (i := 10) (v := ?vdp10) rfl (by as_aux_lemma => kernel_rfl) (by as_aux_lemma => kernel_rfl) (by as_aux_lemma => kernel_rfl) (by as_aux_lemma => kernel_rfl) (fun _ _ _ h => h) (Or.inl ⟨by kernel_rfl, ?hdp10⟩) (by assumption) ?rdp10
        case hdp10 => (intro w hSw; (try dsimp only at hSw); first | (go_simp; done) | (go_simp; with_reducible rfl))
        try simp only [Act.put, List.setIfInBounds_toArray, List.set_cons_zero, List.set_cons_succ]
        refine take_dst (some 104) (i := 11) (v := ?vdp11) rfl (by as_aux_lemma => kernel_rfl) (by as_aux_lemma => kernel_rfl) (by as_aux_lemma => kernel_rfl) (by as_aux_lemma => kernel_rfl) (fun _ _ _ h => h) (Or.inl ⟨by kernel_rfl, ?hdp11⟩) (by assumption) ?rdp11
        case hdp11 => (intro w hSw; (try dsimp only at hSw); first | (go_simp; done) | (go_simp; with_reducible rfl))
        try simp only [Act.put, List.setIfInBounds_toArray, List.set_cons_zero, List.set_cons_succ]
        refine take_dst (some 106) (i := 13) (v := ?vdp12) rfl (by as_aux_lemma => kernel_rfl) (by as_aux_lemma => kernel_rfl) (by as_aux_lemma => kernel_rfl) (by as_aux_lemma => kernel_rfl) (fun _ _ _ h => h) (Or.inl ⟨by kernel_rfl, ?hdp12⟩) (by assumption) ?rdp12
        case hdp12 => (intro w hSw; (try dsimp only at hSw); first | (go_simp; done) | (go_simp; with_reducible rfl))
        try simp only [Act.put, List.setIfInBounds_toArray, List.set_cons_zero, List.set_cons_succ]
        refine take_dst (some 107) (i := 14) (v := ?vdp13) rfl (by as_aux_lemma => kernel_rfl) (by as_aux_lemma => kernel_rfl) (by as_aux_lemma => kernel_rfl) (by as_aux_lemma => kernel_rfl) (fun _ _ _ h => h) (Or.inl ⟨by kernel_rfl, ?hdp13⟩) (by assumption) ?rdp13
        case hdp13 => (intro w hSw; (try dsimp only at hSw); first | (go_simp; done) | (go_simp; with_reducible rfl))
        try simp only [Act.put, List.setIfInBounds_toArray, List.set_cons_zero, List.set_cons_succ]
        refine wpAnyH_ready (rs := [1, 12]) (by as_aux_lemma => kernel_rfl) (by simp) ?_
        refine (AllReadyH.cons rfl (fun dK14 hdK14 => ?_) (AllReadyH.cons rfl (fun dK15 hdK15 => ?_) AllReadyH.nil))
        · skip
          have ck := BP.out.cell 1 (v := .slice va A.length vc) rfl
          go_simp
          clear ck
          refine hdK14.out _ _ ?dm16 (fun hHeld => ?_)
          case dm16 => exact CC.out _ (OO.out.nilTo _)
          clear hdK14 dK14
          try simp only [Act.put, List.setIfInBounds_toArray, List.set_cons_zero, List.set_cons_succ]
          refine wpAnyH_ready (rs := [12]) (by as_aux_lemma => kernel_rfl) (by simp) ?_
          refine AllReadyH.cons rfl (fun dK17 hdK17 => ?_) AllReadyH.nil
          go_simp
          go_at_call 25
          refine (HX.out _).mono ?_
          rintro r v19 ⟨rfl, on⟩
          have X := Lib.hid (OO.out.trans on); clear OO; have OO := X; clear X; have X := Lib.hid (BP.out.keep on); clear BP; have BP := X; clear X; have X := Lib.hid (MEff.keep (t := 30) MM.out on (ofT_nil _ _) (by decide)); clear MM; have MM := X; clear X on
          go_wp2_with fail
          refine hdK17.out _ _ ?dm18 (fun hHeld => ?_)
          case dm18 => exact CC.out _ (OO.out.nilTo _)
          clear hdK17 dK17
          try simp only [Act.put, List.setIfInBounds_toArray, List.set_cons_zero, List.set_cons_succ]
          refine take_dst (some 108) (i := 15) (v := ?vdp20) rfl (by as_aux_lemma => kernel_rfl) (by as_aux_lemma => kernel_rfl) (by as_aux_lemma => kernel_rfl) (by as_aux_lemma => kernel_rfl) (fun _ _ _ h => h) (Or.inl ⟨by kernel_rfl, ?hdp20⟩) (by assumption) ?rdp20
          case hdp20 => (intro w hSw; (try dsimp only at hSw); first | (go_simp; done) | (go_simp; with_reducible rfl))
          try simp only [Act.put, List.setIfInBounds_toArray, List.set_cons_zero, List.set_cons_succ]
          refine wpAnyH_ready (rs := [16]) (by as_aux_lemma => kernel_rfl) (by simp) ?_
          refine AllReadyH.cons rfl (fun dK21 hdK21 => ?_) AllReadyH.nil
          go_simp
          refine hdK21.out _ _ ?dm22 (fun hHeld => ?_)
          case dm22 => exact CC.out _ ((OO.out.alloc (.cells #[.int .i64 e.act, .string (bs e.ref), .string (bs e.slot), .string (bs e.name), .int .i64 2, .int .i64 z, .int .i64 e.delay] 50)).nilTo _)
          clear hdK21 dK21
          try simp only [Act.put, List.setIfInBounds_toArray, List.set_cons_zero, List.set_cons_succ]
          refine wpAnyH_ready (rs := [17]) (by as_aux_lemma => kernel_rfl) (by simp) ?_
          refine AllReadyH.cons rfl (fun dK23 hdK23 => ?_) AllReadyH.nil
          obtain ⟨a6, c6, v25, hr, M6, N6, o6⟩ := eff_pushed MM.out rfl HV.out (Nat.le_trans HSZ.out OO.out.size) HF.out (⟨e.act, e.ref, e.slot, e.name, 2, z, e.delay⟩ : Eff)
          dsimp only at hr
          refine step_append_run rfl (.tmp 94) (.tmp 109) 28 rfl _ _ rfl rfl _ _ hr ?_
          have hlt5 : ∀ g, RowOf va g → g < B5 := HL5.out
          have BQ := Lib.hid (bx_row BP.out MM.out o6 (by decide))
          have OB5 := Lib.hid (show B5 < w5.heap.size from lt_of_block E5.out)
          have CE := Lib.hid (show Bx v25 B5 [.int .i64 e.act, .string (bs e.ref), .string (bs e.slot), .string (bs e.name), .int .i64 e.val, .int .i64 e.n, .int .i64 e.delay] 50 from (o6.block B5 (Nat.lt_of_lt_of_le OB5.out OO.out.size) (fun h => absurd (hlt5 B5 h) (Nat.lt_irrefl _))).trans (E5.out.keep OO.out))
          have O6 := Lib.hid (show Only (At B4) w3 v25 from (OW.out.trans (OO.out.nilTo _)).then o6 (fun g hg hlt => by obtain ⟨y, rfl, rfl⟩ := hg; have := hNw.out y.block rfl; omega))
          clear hr o6 MM BP
          refine hdK23.out _ _ ?dm24 (fun hHeld => ?_)
          case dm24 => exact ⟨CE.out.cell 0 rfl, CE.out.cell 1 rfl, CE.out.cell 2 rfl, CE.out.cell 3 rfl, CE.out.cell 4 rfl, CE.out.cell 5 rfl, CE.out.cell 6 rfl⟩
          clear hdK23 dK23
          try simp only [Act.put, List.setIfInBounds_toArray, List.set_cons_zero, List.set_cons_succ]
          refine take_dst (some 111) (i := 18) (v := ?vdp26) rfl (by as_aux_lemma => kernel_rfl) (by as_aux_lemma => kernel_rfl) (by as_aux_lemma => kernel_rfl) (by as_aux_lemma => kernel_rfl) (fun _ _ _ h => h) (Or.inl ⟨by kernel_rfl, ?hdp26⟩) (by assumption) ?rdp26
          case hdp26 => (intro w hSw; (try dsimp only at hSw); first | (go_simp; done) | (go_simp; with_reducible rfl))
          try simp only [Act.put, List.setIfInBounds_toArray, List.set_cons_zero, List.set_cons_succ]
          refine wpAnyH_ready (rs := [19]) (by as_aux_lemma => kernel_rfl) (by simp) ?_
          refine AllReadyH.cons rfl (fun dK27 hdK27 => ?_) AllReadyH.nil
          have ck := BQ.out.cell 1 (v := .slice va A.length vc) rfl
          have fk := BQ.out.free 1
          have oS := Lib.hid (O6.out.setCell (p := ⟨B4, 1, none⟩) rfl (.slice a6 (A.length + 1) c6))
          have oT := (Only.refl (At B4) v25).setCell (p := ⟨B4, 1, none⟩) rfl (.slice a6 (A.length + 1) c6)
          have bS := bx_set BQ.out 1 (.slice a6 (A.length + 1) c6)
          simp only [List.set_cons_succ, List.set_cons_zero] at bS
          have BS := Lib.hid bS
          have MS := Lib.hid (MEff.keep (t := 30) M6.out oT (ofT_at (show v25.heap[B4]? = _ from BQ.out)) (by decide))
          have CS := Lib.hid (CE.out.at_ oT (blk_ne CE.out BQ.out (by decide)))
          clear bS oT
          go_simp
          clear ck fk
          refine hdK27.out _ _ ?dm28 (fun hHeld => ?_)
          case dm28 => exact ⟨CS.out.cell 0 rfl, CS.out.cell 1 rfl, CS.out.cell 2 rfl, CS.out.cell 3 rfl, CS.out.cell 4 rfl, CS.out.cell 5 rfl, CS.out.cell 6 rfl⟩
          clear hdK27 dK27
          try simp only [Act.put, List.setIfInBounds_toArray, List.set_cons_zero, List.set_cons_succ]
          refine wpAnyH_done (by as_aux_lemma => kernel_rfl) ?_ _
          have hlA : (A ++ [(⟨e.act, e.ref, e.slot, e.name, 2, z, e.delay⟩ : Eff)]).length = A.length + 1 := by rw [List.length_append]; rfl
          have HlA := Lib.hid hlA
          clear hlA
          go_wp2
          go_roundw
          case rel => exact ⟨i + 1, A ++ [(⟨e.act, e.ref, e.slot, e.name, 2, z, e.delay⟩ : Eff)], st, false, a6, c6, HI.out, by go_num, Lib.hid (by rw [HlA.out]; exact BS.out), Lib.hid (by rw [HlA.out]; exact MS.out), Lib.hid (by rw [HlA.out]; exact N6.out), oS, Lib.hid (Or.inl ⟨rfl, HRq.out⟩), HA⟩
          case measure => have := HI.out; simp [intOf]; omega
        · skip
          go_simp
          go_at_call 25
          refine (HX.out _).mono ?_
          rintro r v30 ⟨rfl, on⟩
          have X := Lib.hid (OO.out.trans on); clear OO; have OO := X; clear X; have X := Lib.hid (BP.out.keep on); clear BP; have BP := X; clear X; have X := Lib.hid (MEff.keep (t := 30) MM.out on (ofT_nil _ _) (by decide)); clear MM; have MM := X; clear X on
          go_wp2_with fail
          refine hdK15.out _ _ ?dm29 (fun hHeld => ?_)
          case dm29 => exact CC.out _ (OO.out.nilTo _)
          clear hdK15 dK15
          try simp only [Act.put, List.setIfInBounds_toArray, List.set_cons_zero, List.set_cons_succ]
          refine take_dst (some 108) (i := 15) (v := ?vdp31) rfl (by as_aux_lemma => kernel_rfl) (by as_aux_lemma => kernel_rfl) (by as_aux_lemma => kernel_rfl) (by as_aux_lemma => kernel_rfl) (fun _ _ _ h => h) (Or.inl ⟨by kernel_rfl, ?hdp31⟩) (by assumption) ?rdp31
          case hdp31 => (intro w hSw; (try dsimp only at hSw); first | (go_simp; done) | (go_simp; with_reducible rfl))
          try simp only [Act.put, List.setIfInBounds_toArray, List.set_cons_zero, List.set_cons_succ]
          refine wpAnyH_ready (rs := [1, 16]) (by as_aux_lemma => kernel_rfl) (by simp) ?_
          refine (AllReadyH.cons rfl (fun dK32 hdK32 => ?_) (AllReadyH.cons rfl (fun dK33 hdK33 => ?_) AllReadyH.nil))
          · skip
            have ck := BP.out.cell 1 (v := .slice va A.length vc) rfl
            go_simp
            clear ck
            refine hdK32.out _ _ ?dm34 (fun hHeld => ?_)
            case dm34 => exact CC.out _ (OO.out.nilTo _)
            clear hdK32 dK32
            try simp only [Act.put, List.setIfInBounds_toArray, List.set_cons_zero, List.set_cons_succ]
            refine wpAnyH_ready (rs := [16]) (by as_aux_lemma => kernel_rfl) (by simp) ?_
            refine AllReadyH.cons rfl (fun dK35 hdK35 => ?_) AllReadyH.nil
            go_simp
            refine hdK35.out _ _ ?dm36 (fun hHeld => ?_)
            case dm36 => exact CC.out _ ((OO.out.alloc (.cells #[.int .i64 e.act, .string (bs e.ref), .string (bs e.slot), .string (bs e.name), .int .i64 2, .int .i64 z, .int .i64 e.delay] 50)).nilTo _)
            clear hdK35 dK35
            try simp only [Act.put, List.setIfInBounds_toArray, List.set_cons_zero, List.set_cons_succ]
            refine wpAnyH_ready (rs := [17]) (by as_aux_lemma => kernel_rfl) (by simp) ?_
            refine AllReadyH.cons rfl (fun dK37 hdK37 => ?_) AllReadyH.nil
            obtain ⟨a6, c6, v39, hr, M6, N6, o6⟩ := eff_pushed MM.out rfl HV.out (Nat.le_trans HSZ.out OO.out.size) HF.out (⟨e.act, e.ref, e.slot, e.name, 2, z, e.delay⟩ : Eff)
            dsimp only at hr
            refine step_append_run rfl (.tmp 94) (.tmp 109) 28 rfl _ _ rfl rfl _ _ hr ?_
            have hlt5 : ∀ g, RowOf va g → g < B5 := HL5.out
            have BQ := Lib.hid (bx_row BP.out MM.out o6 (by decide))
            have OB5 := Lib.hid (show B5 < w5.heap.size from lt_of_block E5.out)
            have CE := Lib.hid (show Bx v39 B5 [.int .i64 e.act, .string (bs e.ref), .string (bs e.slot), .string (bs e.name), .int .i64 e.val, .int .i64 e.n, .int .i64 e.delay] 50 from (o6.block B5 (Nat.lt_of_lt_of_le OB5.out OO.out.size) (fun h => absurd (hlt5 B5 h) (Nat.lt_irrefl _))).trans (E5.out.keep OO.out))
            have O6 := Lib.hid (show Only (At B4) w3 v39 from (OW.out.trans (OO.out.nilTo _)).then o6 (fun g hg hlt => by obtain ⟨y, rfl, rfl⟩ := hg; have := hNw.out y.block rfl; omega))
            clear hr o6 MM BP
            refine hdK37.out _ _ ?dm38 (fun hHeld => ?_)
            case dm38 => exact ⟨CE.out.cell 0 rfl, CE.out.cell 1 rfl, CE.out.cell 2 rfl, CE.out.cell 3 rfl, CE.out.cell 4 rfl, CE.out.cell 5 rfl, CE.out.cell 6 rfl⟩
            clear hdK37 dK37
            try simp only [Act.put, List.setIfInBounds_toArray, List.set_cons_zero, List.set_cons_succ]
            refine take_dst (some 111) (i := 18) (v := ?vdp40) rfl (by as_aux_lemma => kernel_rfl) (by as_aux_lemma => kernel_rfl) (by as_aux_lemma => kernel_rfl) (by as_aux_lemma => kernel_rfl) (fun _ _ _ h => h) (Or.inl ⟨by kernel_rfl, ?hdp40⟩) (by assumption) ?rdp40
            case hdp40 => (intro w hSw; (try dsimp only at hSw); first | (go_simp; done) | (go_simp; with_reducible rfl))
            try simp only [Act.put, List.setIfInBounds_toArray, List.set_cons_zero, List.set_cons_succ]
            refine wpAnyH_ready (rs := [19]) (by as_aux_lemma => kernel_rfl) (by simp) ?_
            refine AllReadyH.cons rfl (fun dK41 hdK41 => ?_) AllReadyH.nil
            have ck := BQ.out.cell 1 (v := .slice va A.length vc) rfl
            have fk := BQ.out.free 1
            have oS := Lib.hid (O6.out.setCell (p := ⟨B4, 1, none⟩) rfl (.slice a6 (A.length + 1) c6))
            have oT := (Only.refl (At B4) v39).setCell (p := ⟨B4, 1, none⟩) rfl (.slice a6 (A.length + 1) c6)
            have bS := bx_set BQ.out 1 (.slice a6 (A.length + 1) c6)
            simp only [List.set_cons_succ, List.set_cons_zero] at bS
            have BS := Lib.hid bS
            have MS := Lib.hid (MEff.keep (t := 30) M6.out oT (ofT_at (show v39.heap[B4]? = _ from BQ.out)) (by decide))
            have CS := Lib.hid (CE.out.at_ oT (blk_ne CE.out BQ.out (by decide)))
            clear bS oT
            go_simp
            clear ck fk
            refine hdK41.out _ _ ?dm42 (fun hHeld => ?_)
            case dm42 => exact ⟨CS.out.cell 0 rfl, CS.out.cell 1 rfl, CS.out.cell 2 rfl, CS.out.cell 3 rfl, CS.out.cell 4 rfl, CS.out.cell 5 rfl, CS.out.cell 6 rfl⟩
            clear hdK41 dK41
            try simp only [Act.put, List.setIfInBounds_toArray, List.set_cons_zero, List.set_cons_succ]
            refine wpAnyH_done (by as_aux_lemma => kernel_rfl) ?_ _
            have hlA : (A ++ [(⟨e.act, e.ref, e.slot, e.name, 2, z, e.delay⟩ : Eff)]).length = A.length + 1 := by rw [List.length_append]; rfl
            have HlA := Lib.hid hlA
            clear hlA
            go_wp2
            go_roundw
            case rel => exact ⟨i + 1, A ++ [(⟨e.act, e.ref, e.slot, e.name, 2, z, e.delay⟩ : Eff)], st, false, a6, c6, HI.out, by go_num, Lib.hid (by rw [HlA.out]; exact BS.out), Lib.hid (by rw [HlA.out]; exact MS.out), Lib.hid (by rw [HlA.out]; exact N6.out), oS, Lib.hid (Or.inl ⟨rfl, HRq.out⟩), HA⟩
            case measure => have := HI.out; simp [intOf]; omega
          · skip
            go_simp
            refine hdK33.out _ _ ?dm43 (fun hHeld => ?_)
            case dm43 => exact CC.out _ ((OO.out.alloc (.cells #[.int .i64 e.act, .string (bs e.ref), .string (bs e.slot), .string (bs e.name), .int .i64 2, .int .i64 z, .int .i64 e.delay] 50)).nilTo _)
            clear hdK33 dK33
            try simp only [Act.put, List.setIfInBounds_toArray, List.set_cons_zero, List.set_cons_succ]
            refine wpAnyH_ready (rs := [1]) (by as_aux_lemma => kernel_rfl) (by simp) ?_
            refine AllReadyH.cons rfl (fun dK44 hdK44 => ?_) AllReadyH.nil
            have ck := (BP.out.keep ((Only.refl Nil v30).alloc (.cells #[.int .i64 e.act, .string (bs e.ref), .string (bs e.slot), .string (bs e.name), .int .i64 2, .int .i64 z, .int .i64 e.delay] 50))).cell 1 (v := .slice va A.length vc) rfl
            go_simp
            clear ck
            refine hdK44.out _ _ ?dm45 (fun hHeld => ?_)
            case dm45 => exact CC.out _ ((OO.out.alloc (.cells #[.int .i64 e.act, .string (bs e.ref), .string (bs e.slot), .string (bs e.name), .int .i64 2, .int .i64 z, .int .i64 e.delay] 50)).nilTo _)
            clear hdK44 dK44
            try simp only [Act.put, List.setIfInBounds_toArray, List.set_cons_zero, List.set_cons_succ]
            refine wpAnyH_ready (rs := [17]) (by as_aux_lemma => kernel_rfl) (by simp) ?_
            refine AllReadyH.cons rfl (fun dK46 hdK46 => ?_) AllReadyH.nil
            obtain ⟨a6, c6, v48, hr, M6, N6, o6⟩ := eff_pushed MM.out rfl HV.out (Nat.le_trans HSZ.out OO.out.size) HF.out (⟨e.act, e.ref, e.slot, e.name, 2, z, e.delay⟩ : Eff)
            dsimp only at hr
            refine step_append_run rfl (.tmp 94) (.tmp 109) 28 rfl _ _ rfl rfl _ _ hr ?_
            have hlt5 : ∀ g, RowOf va g → g < B5 := HL5.out
            have BQ := Lib.hid (bx_row BP.out MM.out o6 (by decide))
            have OB5 := Lib.hid (show B5 < w5.heap.size from lt_of_block E5.out)
            have CE := Lib.hid (show Bx v48 B5 [.int .i64 e.act, .string (bs e.ref), .string (bs e.slot), .string (bs e.name), .int .i64 e.val, .int .i64 e.n, .int .i64 e.delay] 50 from (o6.block B5 (Nat.lt_of_lt_of_le OB5.out OO.out.size) (fun h => absurd (hlt5 B5 h) (Nat.lt_irrefl _))).trans (E5.out.keep OO.out))
            have O6 := Lib.hid (show Only (At B4) w3 v48 from (OW.out.trans (OO.out.nilTo _)).then o6 (fun g hg hlt => by obtain ⟨y, rfl, rfl⟩ := hg; have := hNw.out y.block rfl; omega))
            clear hr o6 MM BP
            refine hdK46.out _ _ ?dm47 (fun hHeld => ?_)
            case dm47 => exact ⟨CE.out.cell 0 rfl, CE.out.cell 1 rfl, CE.out.cell 2 rfl, CE.out.cell 3 rfl, CE.out.cell 4 rfl, CE.out.cell 5 rfl, CE.out.cell 6 rfl⟩
            clear hdK46 dK46
            try simp only [Act.put, List.setIfInBounds_toArray, List.set_cons_zero, List.set_cons_succ]
            refine take_dst (some 111) (i := 18) (v := ?vdp49) rfl (by as_aux_lemma => kernel_rfl) (by as_aux_lemma => kernel_rfl) (by as_aux_lemma => kernel_rfl) (by as_aux_lemma => kernel_rfl) (fun _ _ _ h => h) (Or.inl ⟨by kernel_rfl, ?hdp49⟩) (by assumption) ?rdp49
            case hdp49 => (intro w hSw; (try dsimp only at hSw); first | (go_simp; done) | (go_simp; with_reducible rfl))
            try simp only [Act.put, List.setIfInBounds_toArray, List.set_cons_zero, List.set_cons_succ]
            refine wpAnyH_ready (rs := [19]) (by as_aux_lemma => kernel_rfl) (by simp) ?_
            refine AllReadyH.cons rfl (fun dK50 hdK50 => ?_) AllReadyH.nil
            have ck := BQ.out.cell 1 (v := .slice va A.length vc) rfl
            have fk := BQ.out.free 1
            have oS := Lib.hid (O6.out.setCell (p := ⟨B4, 1, none⟩) rfl (.slice a6 (A.length + 1) c6))
            have oT := (Only.refl (At B4) v48).setCell (p := ⟨B4, 1, none⟩) rfl (.slice a6 (A.length + 1) c6)
            have bS := bx_set BQ.out 1 (.slice a6 (A.length + 1) c6)
            simp only [List.set_cons_succ, List.set_cons_zero] at bS
            have BS := Lib.hid bS
            have MS := Lib.hid (MEff.keep (t := 30) M6.out oT (ofT_at (show v48.heap[B4]? = _ from BQ.out)) (by decide))
            have CS := Lib.hid (CE.out.at_ oT (blk_ne CE.out BQ.out (by decide)))
            clear bS oT
            go_simp
            clear ck fk
            refine hdK50.out _ _ ?dm51 (fun hHeld => ?_)
            case dm51 => exact ⟨CS.out.cell 0 rfl, CS.out.cell 1 rfl, CS.out.cell 2 rfl, CS.out.cell 3 rfl, CS.out.cell 4 rfl, CS.out.cell 5 rfl, CS.out.cell 6 rfl⟩
            clear hdK50 dK50
            try simp only [Act.put, List.setIfInBounds_toArray, List.set_cons_zero, List.set_cons_succ]
            refine wpAnyH_done (by as_aux_lemma => kernel_rfl) ?_ _
            have hlA : (A ++ [(⟨e.act, e.ref, e.slot, e.name, 2, z, e.delay⟩ : Eff)]).length = A.length + 1 := by rw [List.length_append]; rfl
            have HlA := Lib.hid hlA
            clear hlA
            go_wp2
            go_roundw
            case rel => exact ⟨i + 1, A ++ [(⟨e.act, e.ref, e.slot, e.name, 2, z, e.delay⟩ : Eff)], st, false, a6, c6, HI.out, by go_num, Lib.hid (by rw [HlA.out]; exact BS.out), Lib.hid (by rw [HlA.out]; exact MS.out), Lib.hid (by rw [HlA.out]; exact N6.out), oS, Lib.hid (Or.inl ⟨rfl, HRq.out⟩), HA⟩
            case measure => have := HI.out; simp [intOf]; omega
      · go_upto_region 17 with (fail)
        clear k0
        have OO := Lib.hid (show Only Nil w5 w5.drew from (Only.refl Nil w5).drew)
        have BP := Lib.hid (P5.out.keep OO.out)
        have MM := Lib.hid (MEff.keep (t := 30) M5.out OO.out (ofT_nil _ _) (by decide))
        refine wp_region_held_drew (S := fun w' => w'.cell? ⟨B5, 0, none⟩ = some (.int .i64 e.act) ∧ w'.cell? ⟨B5, 1, none⟩ = some (.string (bs e.ref)) ∧ w'.cell? ⟨B5, 2, none⟩ = some (.string (bs e.slot)) ∧ w'.cell? ⟨B5, 3, none⟩ = some (.string (bs e.name)) ∧ w'.cell? ⟨B5, 4, none⟩ = some (.int .i64 e.val) ∧ w'.cell? ⟨B5, 5, none⟩ = some (.int .i64 e.n) ∧ w'.cell? ⟨B5, 6, none⟩ = some (.int .i64 e.delay)) (by kernel_rfl) (CC.out _ (OO.out.nilTo _)) (fun hHeld => ?_)
        generalize w5.drew = v0 at *
        refine take_dst (some 93) (i := 0) (v := ?vep1) rfl (by as_aux_lemma => kernel_rfl) (by as_aux_lemma => kernel_rfl) (by as_aux_lemma => kernel_rfl) (by as_aux_lemma => kernel_rfl) (fun _ _ _ h => h) (Or.inl ⟨by kernel_rfl, ?hep1⟩) (by assumption) ?rep1
        case hep1 => (intro w hSw; (try dsimp only at hSw); first | (go_simp; done) | (go_simp; with_reducible rfl))
        try simp only [Act.put, List.setIfInBounds_toArray, List.set_cons_zero, List.set_cons_succ]
        refine take_dst (some 95) (i := 2) (v := ?vep2) rfl (by as_aux_lemma => kernel_rfl) (by as_aux_lemma => kernel_rfl) (by as_aux_lemma => kernel_rfl) (by as_aux_lemma => kernel_rfl) (fun _ _ _ h => h) (Or.inl ⟨by kernel_rfl, ?hep2⟩) (by assumption) ?rep2
        case hep2 => (intro w hSw; (try dsimp only at hSw); first | (go_simp; done) | (go_simp; with_reducible rfl))
        try simp only [Act.put, List.setIfInBounds_toArray, List.set_cons_zero, List.set_cons_succ]
        refine take_dst (some 96) (i := 3) (v := ?vep3) rfl (by as_aux_lemma => kernel_rfl) (by as_aux_lemma => kernel_rfl) (by as_aux_lemma => kernel_rfl) (by as_aux_lemma => kernel_rfl) (fun _ _ _ h => h) (Or.inl ⟨by kernel_rfl, ?hep3⟩) (by assumption) ?rep3
        case hep3 => (intro w hSw; (try dsimp only at hSw); first | (go_simp; done) | (go_simp; with_reducible rfl))
        try simp only [Act.put, List.setIfInBounds_toArray, List.set_cons_zero, List.set_cons_succ]
        refine take_dst (some 97) (i := 4) (v := ?vep4) rfl (by as_aux_lemma => kernel_rfl) (by as_aux_lemma => kernel_rfl) (by as_aux_lemma => kernel_rfl) (by as_aux_lemma => kernel_rfl) (fun _ _ _ h => h) (Or.inl ⟨by kernel_rfl, ?hep4⟩) (by assumption) ?rep4
        case hep4 => (intro w hSw; (try dsimp only at hSw); first | (go_simp; done) | (go_simp; with_reducible rfl))
        try simp only [Act.put, List.setIfInBounds_toArray, List.set_cons_zero, List.set_cons_succ]
        refine take_dst (some 98) (i := 5) (v := ?vep5) rfl (by as_aux_lemma => kernel_rfl) (by as_aux_lemma => kernel_rfl) (by as_aux_lemma => kernel_rfl) (by as_aux_lemma => kernel_rfl) (fun _ _ _ h => h) (Or.inl ⟨by kernel_rfl, ?hep5⟩) (by assumption) ?rep5
        case hep5 => (intro w hSw; (try dsimp only at hSw); first | (go_simp; done) | (go_simp; with_reducible rfl))
        try simp only [Act.put, List.setIfInBounds_toArray, List.set_cons_zero, List.set_cons_succ]
        refine take_dst (some 99) (i := 6) (v := ?vep6) rfl (by as_aux_lemma => kernel_rfl) (by as_aux_lemma => kernel_rfl) (by as_aux_lemma => kernel_rfl) (by as_aux_lemma => kernel_rfl) (fun _ _ _ h => h) (Or.inl ⟨by kernel_rfl, ?hep6⟩) (by assumption) ?rep6
        case hep6 => (intro w hSw; (try dsimp only at hSw); first | (go_simp; done) | (go_simp; with_reducible rfl))
        try simp only [Act.put, List.setIfInBounds_toArray, List.set_cons_zero, List.set_cons_succ]
        refine take_dst (some 100) (i := 7) (v := ?vep7) rfl (by as_aux_lemma => kernel_rfl) (by as_aux_lemma => kernel_rfl) (by as_aux_lemma => kernel_rfl) (by as_aux_lemma => kernel_rfl) (fun _ _ _ h => h) (Or.inl ⟨by kernel_rfl, ?hep7⟩) (by assumption) ?rep7
        case hep7 => (intro w hSw; (try dsimp only at hSw); first | (go_simp; done) | (go_simp; with_reducible rfl))
        try simp only [Act.put, List.setIfInBounds_toArray, List.set_cons_zero, List.set_cons_succ]
        refine take_dst (some 101) (i := 8) (v := ?vep8) rfl (by as_aux_lemma => kernel_rfl) (by as_aux_lemma => kernel_rfl) (by as_aux_lemma => kernel_rfl) (by as_aux_lemma => kernel_rfl) (fun _ _ _ h => h) (Or.inl ⟨by kernel_rfl, ?hep8⟩) (by assumption) ?rep8
        case hep8 => (intro w hSw; (try dsimp only at hSw); first | (go_simp; done) | (go_simp; with_reducible rfl))
        try simp only [Act.put, List.setIfInBounds_toArray, List.set_cons_zero, List.set_cons_succ]
        refine take_dst (some 102) (i := 9) (v := ?vep9) rfl (by as_aux_lemma => kernel_rfl) (by as_aux_lemma => kernel_rfl) (by as_aux_lemma => kernel_rfl) (by as_aux_lemma => kernel_rfl) (fun _ _ _ h => h) (Or.inl ⟨by kernel_rfl, ?hep9⟩) (by assumption) ?rep9
        case hep9 => (intro w hSw; (try dsimp only at hSw); first | (go_simp; done) | (go_simp; with_reducible rfl))
        try simp only [Act.put, List.setIfInBounds_toArray, List.set_cons_zero, List.set_cons_succ]
        refine take_dst (some 103) (i := 10) (v := ?vep10) rfl (by as_aux_lemma => kernel_rfl) (by as_aux_lemma => kernel_rfl) (by as_aux_lemma => kernel_rfl) (by as_aux_lemma => kernel_rfl) (fun _ _ _ h => h) (Or.inl ⟨by kernel_rfl, ?hep10⟩) (by assumption) ?rep10
        case hep10 => (intro w hSw; (try dsimp only at hSw); first | (go_simp; done) | (go_simp; with_reducible rfl))
        try simp only [Act.put, List.setIfInBounds_toArray, List.set_cons_zero, List.set_cons_succ]
        refine take_dst (some 104) (i := 11) (v := ?vep11) rfl (by as_aux_lemma => kernel_rfl) (by as_aux_lemma => kernel_rfl) (by as_aux_lemma => kernel_rfl) (by as_aux_lemma => kernel_rfl) (fun _ _ _ h => h) (Or.inl ⟨by kernel_rfl, ?hep11⟩) (by assumption) ?rep11
        case hep11 => (intro w hSw; (try dsimp only at hSw); first | (go_simp; done) | (go_simp; with_reducible rfl))
        try simp only [Act.put, List.setIfInBounds_toArray, List.set_cons_zero, List.set_cons_succ]
        refine take_dst (some 106) (i := 13) (v := ?vep12) rfl (by as_aux_lemma => kernel_rfl) (by as_aux_lemma => kernel_rfl) (by as_aux_lemma => kernel_rfl) (by as_aux_lemma => kernel_rfl) (fun _ _ _ h => h) (Or.inl ⟨by kernel_rfl, ?hep12⟩) (by assumption) ?rep12
        case hep12 => (intro w hSw; (try dsimp only at hSw); first | (go_simp; done) | (go_simp; with_reducible rfl))
        try simp only [Act.put, List.setIfInBounds_toArray, List.set_cons_zero, List.set_cons_succ]
        refine take_dst (some 107) (i := 14) (v := ?vep13) rfl (by as_aux_lemma => kernel_rfl) (by as_aux_lemma => kernel_rfl) (by as_aux_lemma => kernel_rfl) (by as_aux_lemma => kernel_rfl) (fun _ _ _ h => h) (Or.inl ⟨by kernel_rfl, ?hep13⟩) (by assumption) ?rep13
        case hep13 => (intro w hSw; (try dsimp only at hSw); first | (go_simp; done) | (go_simp; with_reducible rfl))
        try simp only [Act.put, List.setIfInBounds_toArray, List.set_cons_zero, List.set_cons_succ]
        refine wpAnyH_ready (rs := [1, 12]) (by as_aux_lemma => kernel_rfl) (by simp) ?_
        refine (AllReadyH.cons rfl (fun eK14 heK14 => ?_) (AllReadyH.cons rfl (fun eK15 heK15 => ?_) AllReadyH.nil))
        · skip
          have ck := BP.out.cell 1 (v := .slice va A.length vc) rfl
          go_simp
          clear ck
          refine heK14.out _ _ ?em16 (fun hHeld => ?_)
          case em16 => exact CC.out _ (OO.out.nilTo _)
          clear heK14 eK14
          try simp only [Act.put, List.setIfInBounds_toArray, List.set_cons_zero, List.set_cons_succ]
          refine wpAnyH_ready (rs := [12]) (by as_aux_lemma => kernel_rfl) (by simp) ?_
          refine AllReadyH.cons rfl (fun eK17 heK17 => ?_) AllReadyH.nil
          go_simp
          go_at_call 25
          refine (HX.out _).mono ?_
          rintro r v19 ⟨rfl, on⟩
          have X := Lib.hid (OO.out.trans on); clear OO; have OO := X; clear X; have X := Lib.hid (BP.out.keep on); clear BP; have BP := X; clear X; have X := Lib.hid (MEff.keep (t := 30) MM.out on (ofT_nil _ _) (by decide)); clear MM; have MM := X; clear X on
          go_wp2_with fail
          refine heK17.out _ _ ?em18 (fun hHeld => ?_)
          case em18 => exact CC.out _ (OO.out.nilTo _)
          clear heK17 eK17
          try simp only [Act.put, List.setIfInBounds_toArray, List.set_cons_zero, List.set_cons_succ]
          refine take_dst (some 108) (i := 15) (v := ?vep20) rfl (by as_aux_lemma => kernel_rfl) (by as_aux_lemma => kernel_rfl) (by as_aux_lemma => kernel_rfl) (by as_aux_lemma => kernel_rfl) (fun _ _ _ h => h) (Or.inl ⟨by kernel_rfl, ?hep20⟩) (by assumption) ?rep20
          case hep20 => (intro w hSw; (try dsimp only at hSw); first | (go_simp; done) | (go_simp; with_reducible rfl))
          try simp only [Act.put, List.setIfInBounds_toArray, List.set_cons_zero, List.set_cons_succ]
          refine wpAnyH_ready (rs := [16]) (by as_aux_lemma => kernel_rfl) (by simp) ?_
          refine AllReadyH.cons rfl (fun eK21 heK21 => ?_) AllReadyH.nil
          go_simp
          refine heK21.out _ _ ?em22 (fun hHeld => ?_)
          case em22 => exact CC.out _ ((OO.out.alloc (.cells #[.int .i64 e.act, .string (bs e.ref), .string (bs e.slot), .string (bs e.name), .int .i64 2, .int .i64 z, .int .i64 e.delay] 50)).nilTo _)
          clear heK21 eK21
          try simp only [Act.put, List.setIfInBounds_toArray, List.set_cons_zero, List.set_cons_succ]
          refine wpAnyH_ready (rs := [17]) (by as_aux_lemma => kernel_rfl) (by simp) ?_
          refine AllReadyH.cons rfl (fun eK23 heK23 => ?_) AllReadyH.nil
          obtain ⟨a6, c6, v25, hr, M6, N6, o6⟩ := eff_pushed MM.out rfl HV.out (Nat.le_trans HSZ.out OO.out.size) HF.out (⟨e.act, e.ref, e.slot, e.name, 2, z, e.delay⟩ : Eff)
          dsimp only at hr
          refine step_append_run rfl (.tmp 94) (.tmp 109) 28 rfl _ _ rfl rfl _ _ hr ?_
          have hlt5 : ∀ g, RowOf va g → g < B5 := HL5.out
          have BQ := Lib.hid (bx_row BP.out MM.out o6 (by decide))
          have OB5 := Lib.hid (show B5 < w5.heap.size from lt_of_block E5.out)
          have CE := Lib.hid (show Bx v25 B5 [.int .i64 e.act, .string (bs e.ref), .string (bs e.slot), .string (bs e.name), .int .i64 e.val, .int .i64 e.n, .int .i64 e.delay] 50 from (o6.block B5 (Nat.lt_of_lt_of_le OB5.out OO.out.size) (fun h => absurd (hlt5 B5 h) (Nat.lt_irrefl _))).trans (E5.out.keep OO.out))
          have O6 := Lib.hid (show Only (At B4) w3 v25 from (OW.out.trans (OO.out.nilTo _)).then o6 (fun g hg hlt => by obtain ⟨y, rfl, rfl⟩ := hg; have := hNw.out y.block rfl; omega))
          clear hr o6 MM BP
          refine heK23.out _ _ ?em24 (fun hHeld => ?_)
          case em24 => exact ⟨CE.out.cell 0 rfl, CE.out.cell 1 rfl, CE.out.cell 2 rfl, CE.out.cell 3 rfl, CE.out.cell 4 rfl, CE.out.cell 5 rfl, CE.out.cell 6 rfl⟩
          clear heK23 eK23
          try simp only [Act.put, List.setIfInBounds_toArray, List.set_cons_zero, List.set_cons_succ]
          refine take_dst (some 111) (i := 18) (v := ?vep26) rfl (by as_aux_lemma => kernel_rfl) (by as_aux_lemma => kernel_rfl) (by as_aux_lemma => kernel_rfl) (by as_aux_lemma => kernel_rfl) (fun _ _ _ h => h) (Or.inl ⟨by kernel_rfl, ?hep26⟩) (by assumption) ?rep26
          case hep26 => (intro w hSw; (try dsimp only at hSw); first | (go_simp; done) | (go_simp; with_reducible rfl))
          try simp only [Act.put, List.setIfInBounds_toArray, List.set_cons_zero, List.set_cons_succ]
          refine wpAnyH_ready (rs := [19]) (by as_aux_lemma => kernel_rfl) (by simp) ?_
          refine AllReadyH.cons rfl (fun eK27 heK27 => ?_) AllReadyH.nil
          have ck := BQ.out.cell 1 (v := .slice va A.length vc) rfl
          have fk := BQ.out.free 1
          have oS := Lib.hid (O6.out.setCell (p := ⟨B4, 1, none⟩) rfl (.slice a6 (A.length + 1) c6))
          have oT := (Only.refl (At B4) v25).setCell (p := ⟨B4, 1, none⟩) rfl (.slice a6 (A.length + 1) c6)
          have bS := bx_set BQ.out 1 (.slice a6 (A.length + 1) c6)
          simp only [List.set_cons_succ, List.set_cons_zero] at bS
          have BS := Lib.hid bS
          have MS := Lib.hid (MEff.keep (t := 30) M6.out oT (ofT_at (show v25.heap[B4]? = _ from BQ.out)) (by decide))
          have CS := Lib.hid (CE.out.at_ oT (blk_ne CE.out BQ.out (by decide)))
          clear bS oT
          go_simp
          clear ck fk
          refine heK27.out _ _ ?em28 (fun hHeld => ?_)
          case em28 => exact ⟨CS.out.cell 0 rfl, CS.out.cell 1 rfl, CS.out.cell 2 rfl, CS.out.cell 3 rfl, CS.out.cell 4 rfl, CS.out.cell 5 rfl, CS.out.cell 6 rfl⟩
          clear heK27 eK27
          try simp only [Act.put, List.setIfInBounds_toArray, List.set_cons_zero, List.set_cons_succ]
          refine wpAnyH_done (by as_aux_lemma => kernel_rfl) ?_ _
          have hlA : (A ++ [(⟨e.act, e.ref, e.slot, e.name, 2, z, e.delay⟩ : Eff)]).length = A.length + 1 := by rw [List.length_append]; rfl
          have HlA := Lib.hid hlA
          clear hlA
          go_wp2
          go_roundw
          case rel => exact ⟨i + 1, A ++ [(⟨e.act, e.ref, e.slot, e.name, 2, z, e.delay⟩ : Eff)], st, false, a6, c6, HI.out, by go_num, Lib.hid (by rw [HlA.out]; exact BS.out), Lib.hid (by rw [HlA.out]; exact MS.out), Lib.hid (by rw [HlA.out]; exact N6.out), oS, Lib.hid (Or.inl ⟨rfl, HRq.out⟩), HA⟩
          case measure => have := HI.out; simp [intOf]; omega
        · skip
          go_simp
          go_at_call 25
          refine (HX.out _).mono ?_
          rintro r v30 ⟨rfl, on⟩
          have X := Lib.hid (OO.out.trans on); clear OO; have OO := X; clear X; have X := Lib.hid (BP.out.keep on); clear BP; have BP := X; clear X; have X := Lib.hid (MEff.keep (t := 30) MM.out on (ofT_nil _ _) (by decide)); clear MM; have MM := X; clear X on
          go_wp2_with fail
          refine heK15.out _ _ ?em29 (fun hHeld => ?_)
          case em29 => exact CC.out _ (OO.out.nilTo _)
          clear heK15 eK15
          try simp only [Act.put, List.setIfInBounds_toArray, List.set_cons_zero, List.set_cons_succ]
          refine take_dst (some 108) (i := 15) (v := ?vep31) rfl (by as_aux_lemma => kernel_rfl) (by as_aux_lemma => kernel_rfl) (by as_aux_lemma => kernel_rfl) (by as_aux_lemma => kernel_rfl) (fun _ _ _ h => h) (Or.inl ⟨by kernel_rfl, ?hep31⟩) (by assumption) ?rep31
          case hep31 => (intro w hSw; (try dsimp only at hSw); first | (go_simp; done) | (go_simp; with_reducible rfl))
          try simp only [Act.put, List.setIfInBounds_toArray, List.set_cons_zero, List.set_cons_succ]
          refine wpAnyH_ready (rs := [1, 16]) (by as_aux_lemma => kernel_rfl) (by simp) ?_
          refine (AllReadyH.cons rfl (fun eK32 heK32 => ?_) (AllReadyH.cons rfl (fun eK33 heK33 => ?_) AllReadyH.nil))
          · skip
            have ck := BP.out.cell 1 (v := .slice va A.length vc) rfl
            go_simp
            clear ck
            refine heK32.out _ _ ?em34 (fun hHeld => ?_)
            case em34 => exact CC.out _ (OO.out.nilTo _)
            clear heK32 eK32
            try simp only [Act.put, List.setIfInBounds_toArray, List.set_cons_zero, List.set_cons_succ]
            refine wpAnyH_ready (rs := [16]) (by as_aux_lemma => kernel_rfl) (by simp) ?_
            refine AllReadyH.cons rfl (fun eK35 heK35 => ?_) AllReadyH.nil
            go_simp
            refine heK35.out _ _ ?em36 (fun hHeld => ?_)
            case em36 => exact CC.out _ ((OO.out.alloc (.cells #[.int .i64 e.act, .string (bs e.ref), .string (bs e.slot), .string (bs e.name), .int .i64 2, .int .i64 z, .int .i64 e.delay] 50)).nilTo _)
            clear heK35 eK35
            try simp only [Act.put, List.setIfInBounds_toArray, List.set_cons_zero, List.set_cons_succ]
            refine wpAnyH_ready (rs := [17]) (by as_aux_lemma => kernel_rfl) (by simp) ?_
            refine AllReadyH.cons rfl (fun eK37 heK37 => ?_) AllReadyH.nil
            obtain ⟨a6, c6, v39, hr, M6, N6, o6⟩ := eff_pushed MM.out rfl HV.out (Nat.le_trans HSZ.out OO.out.size) HF.out (⟨e.act, e.ref, e.slot, e.name, 2, z, e.delay⟩ : Eff)
            dsimp only at hr
            refine step_append_run rfl (.tmp 94) (.tmp 109) 28 rfl _ _ rfl rfl _ _ hr ?_
            have hlt5 : ∀ g, RowOf va g → g < B5 := HL5.out
            have BQ := Lib.hid (bx_row BP.out MM.out o6 (by decide))
            have OB5 := Lib.hid (show B5 < w5.heap.size from lt_of_block E5.out)
            have CE := Lib.hid (show Bx v39 B5 [.int .i64 e.act, .string (bs e.ref), .string (bs e.slot), .string (bs e.name), .int .i64 e.val, .int .i64 e.n, .int .i64 e.delay] 50 from (o6.block B5 (Nat.lt_of_lt_of_le OB5.out OO.out.size) (fun h => absurd (hlt5 B5 h) (Nat.lt_irrefl _))).trans (E5.out.keep OO.out))
            have O6 := Lib.hid (show Only (At B4) w3 v39 from (OW.out.trans (OO.out.nilTo _)).then o6 (fun g hg hlt => by obtain ⟨y, rfl, rfl⟩ := hg; have := hNw.out y.block rfl; omega))
            clear hr o6 MM BP
            refine heK37.out _ _ ?em38 (fun hHeld => ?_)
            case em38 => exact ⟨CE.out.cell 0 rfl, CE.out.cell 1 rfl, CE.out.cell 2 rfl, CE.out.cell 3 rfl, CE.out.cell 4 rfl, CE.out.cell 5 rfl, CE.out.cell 6 rfl⟩
            clear heK37 eK37
            try simp only [Act.put, List.setIfInBounds_toArray, List.set_cons_zero, List.set_cons_succ]
            refine take_dst (some 111) (i := 18) (v := ?vep40) rfl (by as_aux_lemma => kernel_rfl) (by as_aux_lemma => kernel_rfl) (by as_aux_lemma => kernel_rfl) (by as_aux_lemma => kernel_rfl) (fun _ _ _ h => h) (Or.inl ⟨by kernel_rfl, ?hep40⟩) (by assumption) ?rep40
            case hep40 => (intro w hSw; (try dsimp only at hSw); first | (go_simp; done) | (go_simp; with_reducible rfl))
            try simp only [Act.put, List.setIfInBounds_toArray, List.set_cons_zero, List.set_cons_succ]
            refine wpAnyH_ready (rs := [19]) (by as_aux_lemma => kernel_rfl) (by simp) ?_
            refine AllReadyH.cons rfl (fun eK41 heK41 => ?_) AllReadyH.nil
            have ck := BQ.out.cell 1 (v := .slice va A.length vc) rfl
            have fk := BQ.out.free 1
            have oS := Lib.hid (O6.out.setCell (p := ⟨B4, 1, none⟩) rfl (.slice a6 (A.length + 1) c6))
            have oT := (Only.refl (At B4) v39).setCell (p := ⟨B4, 1, none⟩) rfl (.slice a6 (A.length + 1) c6)
            have bS := bx_set BQ.out 1 (.slice a6 (A.length + 1) c6)
            simp only [List.set_cons_succ, List.set_cons_zero] at bS
            have BS := Lib.hid bS
            have MS := Lib.hid (MEff.keep (t := 30) M6.out oT (ofT_at (show v39.heap[B4]? = _ from BQ.out)) (by decide))
            have CS := Lib.hid (CE.out.at_ oT (blk_ne CE.out BQ.out (by decide)))
            clear bS oT
            go_simp
            clear ck fk
            refine heK41.out _ _ ?em42 (fun hHeld => ?_)
            case em42 => exact ⟨CS.out.cell 0 rfl, CS.out.cell 1 rfl, CS.out.cell 2 rfl, CS.out.cell 3 rfl, CS.out.cell 4 rfl, CS.out.cell 5 rfl, CS.out.cell 6 rfl⟩
            clear heK41 eK41
            try simp only [Act.put, List.setIfInBounds_toArray, List.set_cons_zero, List.set_cons_succ]
            refine wpAnyH_done (by as_aux_lemma => kernel_rfl) ?_ _
            have hlA : (A ++ [(⟨e.act, e.ref, e.slot, e.name, 2, z, e.delay⟩ : Eff)]).length = A.length + 1 := by rw [List.length_append]; rfl
            have HlA := Lib.hid hlA
            clear hlA
            go_wp2
            go_roundw
            case rel => exact ⟨i + 1, A ++ [(⟨e.act, e.ref, e.slot, e.name, 2, z, e.delay⟩ : Eff)], st, false, a6, c6, HI.out, by go_num, Lib.hid (by rw [HlA.out]; exact BS.out), Lib.hid (by rw [HlA.out]; exact MS.out), Lib.hid (by rw [HlA.out]; exact N6.out), oS, Lib.hid (Or.inl ⟨rfl, HRq.out⟩), HA⟩
            case measure => have := HI.out; simp [intOf]; omega
          · skip
            go_simp
            refine heK33.out _ _ ?em43 (fun hHeld => ?_)
            case em43 => exact CC.out _ ((OO.out.alloc (.cells #[.int .i64 e.act, .string (bs e.ref), .string (bs e.slot), .string (bs e.name), .int .i64 2, .int .i64 z, .int .i64 e.delay] 50)).nilTo _)
            clear heK33 eK33
            try simp only [Act.put, List.setIfInBounds_toArray, List.set_cons_zero, List.set_cons_succ]
            refine wpAnyH_ready (rs := [1]) (by as_aux_lemma => kernel_rfl) (by simp) ?_
            refine AllReadyH.cons rfl (fun eK44 heK44 => ?_) AllReadyH.nil
            have ck := (BP.out.keep ((Only.refl Nil v30).alloc (.cells #[.int .i64 e.act, .string (bs e.ref), .string (bs e.slot), .string (bs e.name), .int .i64 2, .int .i64 z, .int .i64 e.delay] 50))).cell 1 (v := .slice va A.length vc) rfl
            go_simp
            clear ck
            refine heK44.out _ _ ?em45 (fun hHeld => ?_)
            case em45 => exact CC.out _ ((OO.out.alloc (.cells #[.int .i64 e.act, .string (bs e.ref), .string (bs e.slot), .string (bs e.name), .int .i64 2, .int .i64 z, .int .i64 e.delay] 50)).nilTo _)
            clear heK44 eK44
            try simp only [Act.put, List.setIfInBounds_toArray, List.set_cons_zero, List.set_cons_succ]
            refine wpAnyH_ready (rs := [17]) (by as_aux_lemma => kernel_rfl) (by simp) ?_
            refine AllReadyH.cons rfl (fun eK46 heK46 => ?_) AllReadyH.nil
            obtain ⟨a6, c6, v48, hr, M6, N6, o6⟩ := eff_pushed MM.out rfl HV.out (Nat.le_trans HSZ.out OO.out.size) HF.out (⟨e.act, e.ref, e.slot, e.name, 2, z, e.delay⟩ : Eff)
            dsimp only at hr
            refine step_append_run rfl (.tmp 94) (.tmp 109) 28 rfl _ _ rfl rfl _ _ hr ?_
            have hlt5 : ∀ g, RowOf va g → g < B5 := HL5.out
            have BQ := Lib.hid (bx_row BP.out MM.out o6 (by decide))
            have OB5 := Lib.hid (show B5 < w5.heap.size from lt_of_block E5.out)
            have CE := Lib.hid (show Bx v48 B5 [.int .i64 e.act, .string (bs e.ref), .string (bs e.slot), .string (bs e.name), .int .i64 e.val, .int .i64 e.n, .int .i64 e.delay] 50 from (o6.block B5 (Nat.lt_of_lt_of_le OB5.out OO.out.size) (fun h => absurd (hlt5 B5 h) (Nat.lt_irrefl _))).trans (E5.out.keep OO.out))
            have O6 := Lib.hid (show Only (At B4) w3 v48 from (OW.out.trans (OO.out.nilTo _)).then o6 (fun g hg hlt => by obtain ⟨y, rfl, rfl⟩ := hg; have := hNw.out y.block rfl; omega))
            clear hr o6 MM BP
            refine heK46.out _ _ ?em47 (fun hHeld => ?_)
            case em47 => exact ⟨CE.out.cell 0 rfl, CE.out.cell 1 rfl, CE.out.cell 2 rfl, CE.out.cell 3 rfl, CE.out.cell 4 rfl, CE.out.cell 5 rfl, CE.out.cell 6 rfl⟩
            clear heK46 eK46
            try simp only [Act.put, List.setIfInBounds_toArray, List.set_cons_zero, List.set_cons_succ]
            refine take_dst (some 111) (i := 18) (v := ?vep49) rfl (by as_aux_lemma => kernel_rfl) (by as_aux_lemma => kernel_rfl) (by as_aux_lemma => kernel_rfl) (by as_aux_lemma => kernel_rfl) (fun _ _ _ h => h) (Or.inl ⟨by kernel_rfl, ?hep49⟩) (by assumption) ?rep49
            case hep49 => (intro w hSw; (try dsimp only at hSw); first | (go_simp; done) | (go_simp; with_reducible rfl))
            try simp only [Act.put, List.setIfInBounds_toArray, List.set_cons_zero, List.set_cons_succ]
            refine wpAnyH_ready (rs := [19]) (by as_aux_lemma => kernel_rfl) (by simp) ?_
            refine AllReadyH.cons rfl (fun eK50 heK50 => ?_) AllReadyH.nil
            have ck := BQ.out.cell 1 (v := .slice va A.length vc) rfl
            have fk := BQ.out.free 1
            have oS := Lib.hid (O6.out.setCell (p := ⟨B4, 1, none⟩) rfl (.slice a6 (A.length + 1) c6))
            have oT := (Only.refl (At B4) v48).setCell (p := ⟨B4, 1, none⟩) rfl (.slice a6 (A.length + 1) c6)
            have bS := bx_set BQ.out 1 (.slice a6 (A.length + 1) c6)
            simp only [List.set_cons_succ, List.set_cons_zero] at bS
            have BS := Lib.hid bS
            have MS := Lib.hid (MEff.keep (t := 30) M6.out oT (ofT_at (show v48.heap[B4]? = _ from BQ.out)) (by decide))
            have CS := Lib.hid (CE.out.at_ oT (blk_ne CE.out BQ.out (by decide)))
            clear bS oT
            go_simp
            clear ck fk
            refine heK50.out _ _ ?em51 (fun hHeld => ?_)
            case em51 => exact ⟨CS.out.cell 0 rfl, CS.out.cell 1 rfl, CS.out.cell 2 rfl, CS.out.cell 3 rfl, CS.out.cell 4 rfl, CS.out.cell 5 rfl, CS.out.cell 6 rfl⟩
            clear heK50 eK50
            try simp only [Act.put, List.setIfInBounds_toArray, List.set_cons_zero, List.set_cons_succ]
            refine wpAnyH_done (by as_aux_lemma => kernel_rfl) ?_ _
            have hlA : (A ++ [(⟨e.act, e.ref, e.slot, e.name, 2, z, e.delay⟩ : Eff)]).length = A.length + 1 := by rw [List.length_append]; rfl
            have HlA := Lib.hid hlA
            clear hlA
            go_wp2
            go_roundw
            case rel => exact ⟨i + 1, A ++ [(⟨e.act, e.ref, e.slot, e.name, 2, z, e.delay⟩ : Eff)], st, false, a6, c6, HI.out, by go_num, Lib.hid (by rw [HlA.out]; exact BS.out), Lib.hid (by rw [HlA.out]; exact MS.out), Lib.hid (by rw [HlA.out]; exact N6.out), oS, Lib.hid (Or.inl ⟨rfl, HRq.out⟩), HA⟩
            case measure => have := HI.out; simp [intOf]; omega
    have h1 : ¬ e.act = 1 := fun h => h18 (Or.inl h)
    have h8 : ¬ e.act = 8 := fun h => h18 (Or.inr h)
    have g1 : (e.act == 1) = false := by simpa using h1
    have g8 : (e.act == 8) = false := by simpa using h8
    by_cases h4 : e.act = 4
    · have g4 : (e.act != 4) = false := by simpa using h4
      have HRq := Lib.hid (show runE n E [] s = runE n (E.drop (i + 1)) A st from by rw [HR.out]; simp only [runE]; rw [if_neg h11, if_neg h12, if_neg h3, if_pos h4])
      have HA := Lib.hid (show A.length ≤ i + 1 from Nat.le_succ_of_le hA.out)
      clear h11 h12 h3 h4 h1 h8 h18 him hi
      go_wp2
      go_roundw
      case rel => exact ⟨i + 1, A, st, false, va, vc, HI.out, by go_num, P5, M5, hNw, OW, Lib.hid (Or.inl ⟨rfl, HRq.out⟩), HA⟩
      case measure => have := HI.out; simp [intOf]; omega
    have g4 : (e.act != 4) = true := by simpa using h4
    have hst : settle e n = e := by unfold settle; rw [if_neg h18]
    have HRq := Lib.hid (show runE n E [] s = runE n (E.drop (i + 1)) (A ++ [e]) st from by rw [HR.out]; simp only [runE]; rw [if_neg h11, if_neg h12, if_neg h3, if_neg h4, hst])
    have HA := Lib.hid (show (A ++ [e]).length ≤ i + 1 from by rw [List.length_append]; exact Nat.succ_le_succ hA.out)
    have few : (A.length + 1) * 80 ≤ 140737488355328 := Nat.le_trans (Nat.mul_le_mul_right 80 (Nat.le_trans (Nat.succ_le_succ hA.out) HI.out)) HZ.out
    obtain ⟨a6, c6, w6, hr, M6, N6, o6⟩ := eff_pushed M5.out rfl hNw.out OW.out.size few e
    have P6 := bx_row P5.out M5.out o6 (by decide)
    have kp6 := P6.cell 1 (v := .slice va A.length vc) rfl
    have fp6 := P6.free 1
    have kp := P5.out.cell 1 (v := .slice va A.length vc) rfl
    have O6 := (OW.out).then o6 (fun g hg hlt => by obtain ⟨y, rfl, rfl⟩ := hg; have := hNw.out y.block rfl; omega)
    have oS := Lib.hid (O6.setCell (p := ⟨B4, 1, none⟩) rfl (.slice a6 (A.length + 1) c6))
    have oT := (Only.refl (At B4) w6).setCell (p := ⟨B4, 1, none⟩) rfl (.slice a6 (A.length + 1) c6)
    have bS := bx_set P6 1 (.slice a6 (A.length + 1) c6)
    simp only [List.set_cons_succ, List.set_cons_zero] at bS
    have BS := Lib.hid bS
    have MS := Lib.hid (MEff.keep (t := 30) M6.out oT (ofT_at (show w6.heap[B4]? = _ from P6)) (by decide))
    have hlA : (A ++ [e]).length = A.length + 1 := by rw [List.length_append]; rfl
    have HlA := Lib.hid hlA
    have hr' := Lib.hid hr
    clear hr hlA bS oT O6 o6 few hst h11 h12 h3 h4 h1 h8 h18 him hi
    have k0 := E5.out.cell 0 (v := .int .i64 e.act) rfl
    have k1 := E5.out.cell 1 (v := .string (bs e.ref)) rfl
    have k2 := E5.out.cell 2 (v := .string (bs e.slot)) rfl
    have k3 := E5.out.cell 3 (v := .string (bs e.name)) rfl
    have k4 := E5.out.cell 4 (v := .int .i64 e.val) rfl
    have k5 := E5.out.cell 5 (v := .int .i64 e.n) rfl
    have k6 := E5.out.cell 6 (v := .int .i64 e.delay) rfl
    go_wp2_with (at_builtin; refine Lib.wpList_append_run _ rfl (.tmp 116) (.tmp 118) 28 28 rfl _ _ rfl rfl _ _ hr'.out ?_)
    go_roundw
    case rel => exact ⟨i + 1, A ++ [e], st, false, a6, c6, HI.out, by go_num, Lib.hid (by rw [HlA.out]; exact BS.out), Lib.hid (by rw [HlA.out]; exact MS.out), Lib.hid (by rw [HlA.out]; exact N6.out), oS, Lib.hid (Or.inl ⟨rfl, HRq.out⟩), HA⟩
    case measure => have := HI.out; simp [intOf]; omega
end Go.Proofs.Ytimnaiahokafaaa.Ac
