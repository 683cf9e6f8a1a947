/- act: the document's Row, Kind, Do. -/
import Derived.Test.YtimnaiahokafaaaAcH
set_option linter.unusedVariables false
set_option linter.unusedSimpArgs false
namespace Go.Proofs.Ytimnaiahokafaaa.Ac
open Go Go.RowKit Go.Proofs.Ytimnaiahokafaaa Lx Ps Ch


set_option maxHeartbeats 1000000 in
theorem rfits_any (t : Wd) (n : Int) (x : Rw) (a1 : Option Addr) (n1 c1 : Nat) (w : World) :
    Calls Try.prog 35 #[.agg #[.string (bs x.tag), .bool x.only, .int .i64 x.n, .slice a1 n1 c1], .string (bs t), .int .i64 n] w fun e w' => e = .returned (.bool (fitsR t n x)) ∧ Only Nil w w' := by
  obtain ⟨tag, only, xn, E⟩ := x
  dsimp only
  have O1 := Lib.hid ((Only.refl Nil w).alloc (.cells #[.string (bs tag), .bool only, .int .i64 xn, .slice a1 n1 c1] 40))
  by_cases k0 : tag = []
  · have hz : fitsR t n ⟨tag, only, xn, E⟩ = true := by unfold fitsR; simp [k0]
    rw [hz]
    have e0 : (bs tag).toList.isEmpty = true := by rw [emp_bs]; exact decide_eq_true k0
    clear hz k0
    go_enter Try.func35, Try.ntmps35
    go_wp2
    go_ret
    exact ⟨rfl, O1.out⟩
  have e0 := emp_no k0
  by_cases k1 : tag = t
  · have e1 : ((bs tag).toList == (bs t).toList) = true := by rw [bs_beq]; exact decide_eq_true k1
    cases only with
    | false =>
      have hz : fitsR t n ⟨tag, false, xn, E⟩ = true := by unfold fitsR; simp [k1]
      rw [hz]
      clear hz k0 k1
      go_enter Try.func35, Try.ntmps35
      go_wp2
      go_ret
      exact ⟨rfl, O1.out⟩
    | true =>
      by_cases k2 : xn = n
      · subst k2
        have hz : fitsR t xn ⟨tag, true, xn, E⟩ = true := by unfold fitsR; simp [k1]
        rw [hz]
        clear hz k0 k1
        go_enter Try.func35, Try.ntmps35
        go_wp2
        go_ret
        exact ⟨rfl, O1.out⟩
      · have hz : fitsR t n ⟨tag, true, xn, E⟩ = false := by unfold fitsR; simp [k0, k2]
        have e2 : (xn == n) = false := by simpa using k2
        rw [hz]
        clear hz k0 k1 k2
        go_enter Try.func35, Try.ntmps35
        go_wp2
        go_ret
        exact ⟨rfl, O1.out⟩
  · have e1 := str_ne k1
    have hz : fitsR t n ⟨tag, only, xn, E⟩ = false := by unfold fitsR; simp [k0, k1]
    rw [hz]
    clear hz k0 k1
    go_enter Try.func35, Try.ntmps35
    go_wp2
    go_ret
    exact ⟨rfl, O1.out⟩

theorem rowO_some {S : List Sta} {s t : Wd} {n : Int} {st : Sta} {r : Rw} (h : S.find? (named s) = some st) (h2 : st.rows.find? (fitsR t n) = some r) : rowO S s t n = some r := by
  unfold rowO staOf; rw [h]; exact h2
theorem rowO_no {S : List Sta} {s t : Wd} {n : Int} {st : Sta} (h : S.find? (named s) = some st) (h2 : st.rows.find? (fitsR t n) = none) : rowO S s t n = none := by
  unfold rowO staOf; rw [h]; exact h2
theorem rowO_non {S : List Sta} {s t : Wd} {n : Int} (h : S.find? (named s) = none) : rowO S s t n = none := by
  unfold rowO staOf; rw [h]; rfl
set_option maxHeartbeats 4000000 in
set_option maxRecDepth 100000 in
theorem rrow_any {D : Nat} {w : World} {nm : Wd} {lim wi : Int} {S : List Sta} {a2 : Option Addr} {c2 n2 : Nat} {v1 : Value} (hS : SIn D w a2 n2 c2 S) (s t : Wd) (n : Int) :
    Calls Try.prog 19 #[.agg #[.string (bs nm), .int .i64 lim, .int .i64 wi, v1, .slice a2 n2 c2], .string (bs s), .string (bs t), .int .i64 n] w fun e w' => Hid ((∃ (i j : Nat) (st : Sta) (r : Rw), e = .returned (.tuple #[.int .i64 (i : Int), .int .i64 (j : Int)]) ∧ S[i]? = some st ∧ st.rows[j]? = some r ∧ rowO S s t n = some r) ∨ (rowO S s t n = none ∧ ∃ i : Int, e = .returned (.tuple #[.int .i64 i, .int .i64 (-1)]))) ∧ Only Nil w w' := by
  obtain ⟨W1, hW1⟩ : ∃ W, W = w.alloc (.cells #[.string (bs nm), .int .i64 lim, .int .i64 wi, v1, .slice a2 n2 c2] 25) := ⟨_, rfl⟩
  have s1 : W1.heap.size = w.heap.size + 1 := by rw [hW1]; simp
  have o1 : Only Nil w W1 := hW1 ▸ (Only.refl Nil w).alloc _
  have b1 : Bx W1 (w.heap.size) [.string (bs nm), .int .i64 lim, .int .i64 wi, v1, .slice a2 n2 c2] 25 := hW1 ▸ bx_new w _ _
  have X1 := Lib.hid b1
  have O := Lib.hid o1
  have SZ := Lib.hid s1
  have HS := Lib.hid (hS.keep O.out)
  have hb2 : (n2 : Int) ≤ 140737488355328 := by have := hS.hb; omega
  clear hS
  go_enter Try.func19, Try.ntmps19
  go_upto_region 1 with (fail)
  (try simp only [World.size_alloc])
  rw [← hW1]
  clear hW1 s1 o1 b1
  generalize hB1 : w.heap.size = B1 at *
  have HB1 := Lib.hid hB1
  clear hB1
  have HN := Lib.hid HS.out.hn
  go_wp2
  go_loopw [10] (fun s10 wr => ∃ (i : Nat), i ≤ n2 ∧ s10 = .int .i64 (i : Int) ∧ Hid (∀ j, j < i → ∀ y, S[j]? = some y → named s y = false) ∧ Hid (Only Nil W1 wr)) (fun s10 _ => n2 - (intOf s10).toNat)
  case atStart => exact ⟨0, Nat.zero_le _, rfl, Lib.hid (fun j hj => absurd hj (Nat.not_lt_zero j)), Lib.hid (Only.refl _ _)⟩
  case round =>
    obtain ⟨i, hi, rfl, hE, hO⟩ := hrel
    have k4 := (X1.out.keep hO.out).cell 4 (v := .slice a2 n2 c2) rfl
    by_cases hin : i < n2
    · obtain ⟨s1, ⟨q, off, rfl, hlt, hc⟩, g1⟩ := (HS.out.x.keep hO.out (nilS · D)).at_ HN.out i hin
      have hil : i < S.length := by rw [HN.out]; exact hin
      have HL := Lib.hid (List.getElem?_eq_getElem hil)
      have HM := Lib.hid (List.getElem_mem hil)
      have HI := Lib.hid hin
      generalize S[i] = y at *
      have c0 : wr.cell? ⟨q, off + i * 2, none⟩ = some (.string (bs y.name)) := hc 0 (by decide)
      obtain ⟨a1, c1, rfl⟩ := g1.slice
      have c1' : wr.cell? ⟨q, off + i * 2 + 1, none⟩ = some (.slice a1 y.rows.length c1) := hc 1 (by decide)
      clear hc
      have hin' : (i : Int) < (n2 : Int) := by omega
      have h0i : (0 : Int) ≤ (i : Int) := Int.natCast_nonneg i
      by_cases hnm : y.name = s
      · have HF := Lib.hid (find_at hE.out HL.out (show named s y = true from decide_eq_true hnm))
        have e0 : ((bs y.name).toList == (bs s).toList) = true := lit_eb hnm
        have hr := HS.out.bz y HM.out
        have hbr : y.rows.length ≤ 140737488355328 := by have := hr.1; omega
        have hbri : (y.rows.length : Int) ≤ 140737488355328 := by omega
        have HG := Lib.hid g1
        have HO := Lib.hid hO.out
        have HC0 := Lib.hid c0
        have HC1 := Lib.hid c1'
        have HK4 := Lib.hid k4
        have hmm : y.rows.length = y.rows.length := rfl
        generalize hm : y.rows.length = m at *
        have HM2 := Lib.hid hm
        clear hnm hr hm hin hi g1 hbr hmm
        go_wp2
        generalize wr = wo at *
        clear c0 c1' k4
        go_loopw [11] (fun s11 wr => ∃ (j : Nat), j ≤ m ∧ s11 = .int .i64 (j : Int) ∧ Hid (∀ j', j' < j → ∀ r, y.rows[j']? = some r → fitsR t n r = false) ∧ Hid (Only Nil wo wr)) (fun s11 _ => m - (intOf s11).toNat)
        case atStart => exact ⟨0, Nat.zero_le _, rfl, Lib.hid (fun j hj => absurd hj (Nat.not_lt_zero j)), Lib.hid (Only.refl _ _)⟩
        case round =>
          obtain ⟨j, hj, rfl, hEj, hOj⟩ := hrel
          have k4 := only_cell0 hOj.out HK4.out
          have c1' := only_cell0 hOj.out HC1.out
          by_cases hjm : j < m
          · obtain ⟨s2, ⟨q2, off2, rfl, hlt2, hc2⟩, g2⟩ := (HG.out.keep hOj.out (nilS · D)).at_ HM2.out j hjm
            have hjl : j < y.rows.length := by rw [HM2.out]; exact hjm
            have HLj := Lib.hid (List.getElem?_eq_getElem hjl)
            have HJ := Lib.hid hjm
            generalize y.rows[j] = r at *
            have d0 : wr.cell? ⟨q2, off2 + j * 4, none⟩ = some (.string (bs r.tag)) := hc2 0 (by decide)
            have d1 : wr.cell? ⟨q2, off2 + j * 4 + 1, none⟩ = some (.bool r.only) := hc2 1 (by decide)
            have d2 : wr.cell? ⟨q2, off2 + j * 4 + 2, none⟩ = some (.int .i64 r.n) := hc2 2 (by decide)
            obtain ⟨a3, c3, rfl⟩ := g2.slice
            have d3 : wr.cell? ⟨q2, off2 + j * 4 + 3, none⟩ = some (.slice a3 r.effs.length c3) := hc2 3 (by decide)
            have hjm' : (j : Int) < (m : Int) := by omega
            have h0j : (0 : Int) ≤ (j : Int) := Int.natCast_nonneg j
            have HFT := Lib.hid (rfits_any t n r a3 r.effs.length c3 wr)
            clear hc2 g2 hjm hj
            cases hft : fitsR t n r with
            | true =>
              rw [hft] at HFT
              have HT := Lib.hid hft
              clear hft
              go_wp2_with fail
              refine HFT.out.mono ?_
              rintro e w3 ⟨rfl, o3⟩
              have O3 := Lib.hid (O.out.trans (HO.out.trans (hOj.out.trans o3)))
              clear o3
              go_wp2
              go_ret2
              exact ⟨Lib.hid (Or.inl ⟨i, j, y, r, rfl, HL.out, HLj.out, rowO_some HF.out (find_at hEj.out HLj.out HT.out)⟩), O3.out⟩
            | false =>
              rw [hft] at HFT
              have HT := Lib.hid hft
              clear hft
              go_wp2_with fail
              refine HFT.out.mono ?_
              rintro e w3 ⟨rfl, o3⟩
              have O3 := Lib.hid (hOj.out.trans o3)
              clear o3 d0 d1 d2 d3 k4 c1'
              go_wp2
              go_roundw
              case rel => exact ⟨j + 1, HJ.out, by go_num, Lib.hid (fun j' hj' y' hy' => by
                rcases Nat.lt_or_ge j' j with h | h
                · exact hEj.out j' h y' hy'
                · obtain rfl : j' = j := by omega
                  rw [HLj.out] at hy'; rw [← Option.some.inj hy']; exact HT.out), O3⟩
              case measure => have := HJ.out; simp [intOf]; omega
          · obtain rfl : j = m := by omega
            have hk0 : ¬ (j : Int) < (j : Int) := by omega
            clear hjm
            go_wp2
            go_ret2
            exact ⟨Lib.hid (Or.inr ⟨rowO_no HF.out (find_no HM2.out hEj.out), (i : Int), rfl⟩), O.out.trans (HO.out.trans hOj.out)⟩
      · have e0 := str_ne hnm
        have HT := Lib.hid (show named s y = false from decide_eq_false hnm)
        clear hnm hin hi
        go_wp2
        go_roundw
        case rel => exact ⟨i + 1, HI.out, by go_num, Lib.hid (fun j' hj' y' hy' => by
            rcases Nat.lt_or_ge j' i with h | h
            · exact hE.out j' h y' hy'
            · obtain rfl : j' = i := by omega
              rw [HL.out] at hy'; rw [← Option.some.inj hy']; exact HT.out), hO⟩
        case measure => have := HI.out; simp [intOf]; omega
    · obtain rfl : i = n2 := by omega
      have hk0 : ¬ (i : Int) < (i : Int) := by omega
      clear hin
      go_wp2
      go_ret2
      exact ⟨Lib.hid (Or.inr ⟨rowO_non (find_no HN.out hE.out), (-1 : Int), rfl⟩), O.out.trans hO.out⟩

set_option maxHeartbeats 4000000 in
set_option maxRecDepth 100000 in
theorem rkind_any {D : Nat} {w : World} {a : Option Addr} {n c : Nat} {P : List Kd} (hx : XK D w (.slice a n c) P) (hn : P.length = n) (hb : n ≤ 140737488355328) (s : Wd) :
    Calls Try.prog 16 #[.agg #[.slice a n c], .string (bs s)] w fun e w' => Hid ((∃ (i : Nat) (x : Kd), e = .returned (.int .i64 (i : Int)) ∧ i < n ∧ P[i]? = some x ∧ Fd (called s) P x) ∨ (Fn (called s) P ∧ e = .returned (.int .i64 (-1)))) ∧ Only Nil w w' := by
  obtain ⟨W1, hW1⟩ : ∃ W, W = w.alloc (.cells #[.slice a n c] 35) := ⟨_, rfl⟩
  have s1 : W1.heap.size = w.heap.size + 1 := by rw [hW1]; simp
  have o1 : Only Nil w W1 := hW1 ▸ (Only.refl Nil w).alloc _
  have b1 : Bx W1 (w.heap.size) [.slice a n c] 35 := hW1 ▸ bx_new w _ _
  have X1 := Lib.hid b1
  have O := Lib.hid o1
  have SZ := Lib.hid s1
  have HX := Lib.hid (hx.keep O.out (nilS · D))
  have HN := Lib.hid hn
  have hbi : (n : Int) ≤ 140737488355328 := by omega
  clear hx hn
  go_enter Try.func16, Try.ntmps16
  go_upto_region 1 with (fail)
  (try simp only [World.size_alloc])
  rw [← hW1]
  clear hW1 s1 o1 b1
  generalize hB1 : w.heap.size = B1 at *
  have HB1 := Lib.hid hB1
  clear hB1
  go_wp2
  go_loopw [5] (fun s5 wr => ∃ (i : Nat), i ≤ n ∧ s5 = .int .i64 (i : Int) ∧ Hid (∀ j, j < i → ∀ y, P[j]? = some y → called s y = false) ∧ W1 = wr) (fun s5 _ => n - (intOf s5).toNat)
  case atStart => exact ⟨0, Nat.zero_le _, rfl, Lib.hid (fun j hj => absurd hj (Nat.not_lt_zero j)), rfl⟩
  case round =>
    obtain ⟨i, hi, rfl, hE, rfl⟩ := hrel
    have k0 := X1.out.cell 0 (v := .slice a n c) rfl
    by_cases hin : i < n
    · obtain ⟨s1, s2, ⟨q, off, rfl, hlt, hc⟩, g1, g2⟩ := HX.out.at_ HN.out i hin
      have hil : i < P.length := by rw [HN.out]; exact hin
      have HL := Lib.hid (List.getElem?_eq_getElem hil)
      have HI := Lib.hid hin
      generalize P[i] = y at *
      have c0 : W1.cell? ⟨q, off + i * 5, none⟩ = some (.string (bs y.name)) := hc 0 (by decide)
      have hin' : (i : Int) < (n : Int) := by omega
      have h0i : (0 : Int) ≤ (i : Int) := Int.natCast_nonneg i
      clear hc g1 g2
      by_cases hnm : y.name = s
      · have HT := Lib.hid (show called s y = true from decide_eq_true hnm)
        have e0 : ((bs y.name).toList == (bs s).toList) = true := lit_eb hnm
        clear hnm hin hi
        go_wp2
        go_ret
        exact ⟨Lib.hid (Or.inl ⟨i, y, rfl, HI.out, HL.out, find_at hE.out HL.out HT.out⟩), O.out⟩
      · have HT := Lib.hid (show called s y = false from decide_eq_false hnm)
        have e0 := str_ne hnm
        clear hnm hin hi
        go_wp2
        go_roundw
        case rel => exact ⟨i + 1, HI.out, by go_num, Lib.hid (fun j' hj' y' hy' => by
            rcases Nat.lt_or_ge j' i with h | h
            · exact hE.out j' h y' hy'
            · obtain rfl : j' = i := by omega
              rw [HL.out] at hy'; rw [← Option.some.inj hy']; exact HT.out), by first | rfl | trivial⟩
        case measure => have := HI.out; simp [intOf]; omega
    · obtain rfl : i = n := by omega
      have hk0 : ¬ (i : Int) < (i : Int) := by omega
      clear hin
      go_wp2
      go_ret
      exact ⟨Lib.hid (Or.inr ⟨find_no HN.out hE.out, rfl⟩), O.out⟩
end Go.Proofs.Ytimnaiahokafaaa.Ac
