/- tree: TreePaths' walk. -/
import Derived.Test.YtkeaenkkencmdaaTrM
set_option linter.unusedSimpArgs false
set_option linter.unusedVariables false
namespace Go.Proofs.Ytkeaenkkencmdaa.Tr
open Go.RowKit Go.Proofs.Ytkeaenkkencmdaa

def inTake (x : Int) (L : List Int) (k : Nat) : Bool := decide (x ∈ L.take k)
theorem inTake_zero (x : Int) (L : List Int) : inTake x L 0 = false := by simp [inTake]
theorem inTake_succ (x : Int) (L : List Int) {k : Nat} (h : k < L.length) : inTake x L (k + 1) = (inTake x L k || (L.getD k 0 == x)) := by
  unfold inTake
  rw [List.take_succ_eq_append_getElem h]
  have : L.getD k 0 = L[k] := by simp [List.getD, h]
  rw [this]
  by_cases h1 : x ∈ L.take k
  · rw [decide_eq_true (List.mem_append_left _ h1), decide_eq_true h1, Bool.true_or]
  · rw [decide_eq_false h1, Bool.false_or]
    by_cases h2 : L[k] = x
    · rw [decide_eq_true (List.mem_append_right _ (by rw [h2]; exact List.mem_cons_self)), beq_iff_eq.2 h2]
    · rw [beq_eq_false_iff_ne.2 h2, decide_eq_false]
      intro h3
      rcases List.mem_append.1 h3 with h3 | h3
      · exact h1 h3
      · simp at h3; exact h2 h3.symm
theorem inTake_all (x : Int) (L : List Int) {n : Nat} (h : L.length = n) : inTake x L n = decide (x ∈ L) := by
  unfold inTake
  rw [← h, List.take_length]

set_option maxRecDepth 100000 in
set_option maxHeartbeats 40000000 in
theorem paths_all (x : Int) (wx : (Lit.int .i64 x).wf = true) {W : World} {a : Option Addr} {cap : Nat} {S : List Op} (hS : OpsIn W a S) (hr : S.length * 24 ≤ 140737488351232) :
    Calls Try.prog 5 #[.slice a S.length cap, .int .i64 x] W fun e w' => e = .returned (.bool true) ∧ Below W.heap.size W w' := by
  have HA := Lib.hid (alive_any W)
  have HS := Lib.hid hS
  obtain ⟨l, hl⟩ : ∃ l, l = S.length := ⟨_, rfl⟩
  have l63 : (l : Int) ≤ 140737488351232 := by omega
  rw [← hl]
  have HG := Lib.hid (fun (w1 : World) (o1 : Only Nil W w1) => grown_any (cap := cap) HS (Lib.hid hl) l63 o1)
  clear hS hr hl
  go_enter Try.func5, Try.ntmps5
  go_upto_region 4 with (first
    | (go_at_call 7; (with_reducible refine HA.out.mono ?_); rintro e w1 ⟨rfl, o1⟩; have O1 := Lib.hid o1; clear o1 HA)
    | (go_at_call 15; (with_reducible refine (HG.out _ O1.out).mono ?_); rintro e w2 ⟨tb, ni, ci, ai, rfl, hni, h2⟩; have k2 := h2; clear h2 HG O1))
  obtain ⟨T, hT⟩ : ∃ T, Hid (T.length ≤ 100 ∧ Good T ∧ St W (OwnP (.slice ai ni ci)) w2 tb T ∧ ∃ L, IntsIn w2 ai L ∧ L.length = ni ∧ ∀ x ∈ L, (Lit.int .i64 x).wf = true) := by
    obtain ⟨T, L, g, hL, h, hw⟩ := k2.out
    have hrow := g.row.row
    exact ⟨T, Lib.hid ⟨h, g.st.good, g.st, L, own_ints hrow, hL, hw⟩⟩
  obtain ⟨I, hI⟩ : ∃ I, Hid (IntsIn w2 ai I ∧ I.length = ni ∧ ∀ x ∈ I, (Lit.int .i64 x).wf = true) := by
    obtain ⟨_, _, _, L, h⟩ := hT.out
    exact ⟨L, Lib.hid h⟩
  clear k2
  obtain ⟨K, hK⟩ : ∃ K, K = OwnP (.slice ai ni ci) := ⟨_, rfl⟩
  rw [← hK] at hT
  clear hK
  have G := Lib.hid hT.out.2.1
  have T100 := Lib.hid hT.out.1
  have S2 := Lib.hid hT.out.2.2.1
  have RI := Lib.hid hI.out.1
  have lI := Lib.hid hI.out.2.1
  have wI := Lib.hid hI.out.2.2
  clear hT hI
  have nile : (ni : Int) ≤ 100 := by omega
  have PT := Lib.hid (fun (w3 : World) (y : Int) (wy : (Lit.int .i64 y).wf = true) (o : Only Nil w2 w3) => st_path (S2.out.nil o) y wy (by have := T100.out; omega))
  have PR := Lib.hid (fun (w3 : World) (y : Int) (wy : (Lit.int .i64 y).wf = true) (o : Only Nil w2 w3) => st_parent (S2.out.nil o) y wy)
  have HH := Lib.hid (fun (w3 : World) (y : Int) (wy : (Lit.int .i64 y).wf = true) (o : Only Nil w2 w3) => st_has (S2.out.nil o) y wy)
  have BL := Lib.hid (fun (w3 : World) (o : Only Nil w2 w3) => st_below (S2.out.nil o) x wx (by have := T100.out; omega))
  go_wp2_with (fail)
  go_loopw [7, 8, 9, 10, 11, 12, 13, 14, 15, 16, 17] (fun s7 _ _ _ _ _ _ _ _ _ _ wr => ∃ (i : Nat), i ≤ ni ∧ s7 = .int .i64 (i : Int) ∧ Hid (Only Nil w2 wr))
    (fun s7 _ _ _ _ _ _ _ _ _ _ _ => ni - (intOf s7).toNat)
  case atStart => exact ⟨0, Nat.zero_le _, rfl, Lib.hid (Only.refl _ _)⟩
  case round =>
    obtain ⟨i, hi, rfl, HO⟩ := hrel
    by_cases hin : i < ni
    · have hin' : (i : Int) < (ni : Int) := by omega
      obtain ⟨gi, rfl, hgi, q1⟩ := RI.out i (by rw [lI.out]; exact hin)
      obtain ⟨y, hy⟩ : ∃ y, y = I.getD i 0 := ⟨_, rfl⟩
      have wy := Lib.hid (show (Lit.int .i64 y).wf = true from by
        have h1 : i < I.length := by rw [lI.out]; exact hin
        rw [hy, show I.getD i 0 = I[i] from by simp [List.getD, h1]]
        exact wI.out _ (List.getElem_mem h1))
      have CI := Lib.hid (fun (w' : World) (o : Only Nil w2 w') => show w'.cell? ⟨gi, i, none⟩ = some (.int .i64 y) from by
        have h1 := q1 i (by rw [lI.out]; exact hin)
        rw [← hy] at h1
        exact (World.cell?_of_block (a := ⟨gi, i, none⟩) (o.block gi hgi (fun h => h))).trans h1)
      have y1 := CI.out wr HO.out
      have P1 := Lib.hid (PT.out wr y wy.out HO.out)
      clear q1 hgi hy
      go_upto_region 8 with (go_at_call 18; (with_reducible refine P1.out.mono ?_); rintro e w3 ⟨a3, n3, c3, rfl, hn3, F3⟩)
      have l3 := Lib.hid hn3
      have O3 := Lib.hid (HO.out.trans F3.out.only)
      have R3 := Lib.hid (own_ints F3.out.row)
      have n3le : (n3 : Int) ≤ 100 := by have := path_len (T := T) (x := y); have := T100.out; omega
      clear P1 y1 F3 hn3
      have y3 := CI.out w3 O3.out
      have Q3 := Lib.hid (PR.out w3 y wy.out O3.out)
      have H3 := Lib.hid (HH.out w3 y wy.out O3.out)
      cases hh : has T y with
      | false =>
        rw [hh] at Q3 H3
        have e3 : n3 = 0 := by rw [← l3.out, path_none hh]; rfl
        subst e3
        clear hh
        go_wp2_with (first
          | (go_at_call 19; (with_reducible refine Q3.out.mono ?_); rintro e w4 ⟨rfl, rfl⟩)
          | (go_at_call 17; (with_reducible refine H3.out.mono ?_); rintro e w4 ⟨rfl, rfl⟩))
        go_roundw
        case rel => exact ⟨i + 1, by omega, by go_num, O3⟩
        case measure => simp [intOf]; omega
      | true =>
        rw [hh] at Q3 H3
        have hc := Lib.hid (path_cons G.out hh)
        have hp3 : 0 < n3 := by rw [← l3.out, hc.out]; simp
        have hp3' : (0 : Int) < (n3 : Int) := by omega
        have hup := Lib.hid (G.out.par hh)
        have hbp := Lib.hid (below_path G.out x y hh)
        obtain ⟨u, hu⟩ : ∃ u, u = par T y := ⟨_, rfl⟩
        rw [← hu] at Q3 hc hup
        have wu := Lib.hid (show (Lit.int .i64 u).wf = true from by
          rcases hup.out with e | e
          · rw [e]; decide
          · exact G.out.wf e.1)
        have P4 := Lib.hid (PT.out w3 u wu.out O3.out)
        clear hh hu
        go_upto_region 13 with (first
          | (go_at_call 19; (with_reducible refine Q3.out.mono ?_); rintro e w4 ⟨rfl, rfl⟩)
          | (go_at_call 17; (with_reducible refine H3.out.mono ?_); rintro e w4 ⟨rfl, rfl⟩)
          | (go_at_call 18; (with_reducible refine P4.out.mono ?_); rintro e w5 ⟨a5, n5, c5, rfl, hn5, F5⟩))
        have l5 := Lib.hid hn5
        have O5 := Lib.hid (O3.out.trans F5.out.only)
        have R5 := Lib.hid (own_ints F5.out.row)
        have R35 := Lib.hid (R3.out.nil F5.out.only)
        have hlen : n3 = n5 + 1 := by rw [← l3.out, hc.out, ← l5.out]; simp
        have HL := Lib.hid hlen
        have hl3 : (n3 : Int) = (n5 : Int) + 1 := by omega
        clear P4 R3 y3 Q3 H3 O3 F5 hn5 hlen
        have y5 := CI.out w5 O5.out
        have n5le : (n5 : Int) ≤ 100 := by omega
        obtain ⟨g3, rfl, _, q3⟩ := R35.out 0 (by rw [l3.out]; exact hp3)
        have z5 : w5.cell? ⟨g3, n5, none⟩ = some (.int .i64 y) := by
          rw [q3 n5 (by rw [l3.out]; have := HL.out; omega), hc.out, List.getD_eq_getElem?_getD, List.getElem?_append_right (by rw [l5.out]; omega), l5.out]
          simp
        have hcases : (((n5 : Int) == 0) = true ∧ (u != 0) = false) ∨ ((n5 : Int) == 0) = false := by
          by_cases h5 : n5 = 0
          · left
            refine ⟨by simp [h5], ?_⟩
            rcases hup.out with e | e
            · simp [e]
            · have := path_cons G.out e.1
              have h6 := l5.out
              rw [this] at h6
              simp at h6
              omega
          · right
            simp; exact h5
        have hsub : (n5 : Int) + 1 - 1 = (n5 : Int) := by omega
        have hlt1 : (n5 : Int) < (n5 : Int) + 1 := by omega
        clear q3
        rcases hcases with ⟨e0, e1⟩ | e0
        case' inl => (go_quiet (fail))
        case' inr => (go_quiet (fail))
        all_goals (
          try clear e1
          clear e0 hsub hlt1 z5 y5 hl3
          obtain ⟨W6, hW6⟩ : ∃ W6, W6 = w5.drewN nq := ⟨_, rfl⟩
          have oW6 : Only Nil w5 W6 := by rw [hW6]; exact (Only.refl Nil w5).drewN nq
          rw [← hW6]
          have O6 := Lib.hid (O5.out.trans oW6)
          have R56 := Lib.hid (R5.out.nil oW6)
          have R36 := Lib.hid (R35.out.nil oW6)
          clear hW6 oW6 O5 R5 R35
          go_wp2_with (fail)
          go_loopw [13] (fun s13 wr => ∃ (k : Nat), k ≤ n5 ∧ s13 = .int .i64 (k : Int) ∧ Hid (Only Nil W6 wr))
            (fun s13 _ => n5 - (intOf s13).toNat)
          case atStart => exact ⟨0, Nat.zero_le _, rfl, Lib.hid (Only.refl _ _)⟩
          case round =>
            obtain ⟨k, hk, rfl, HK⟩ := hrel
            by_cases hkn : k < n5
            · have hkn' : (k : Int) < (n5 : Int) := by omega
              have hkn1 : (k : Int) < (n3 : Int) := by have := HL.out; omega
              obtain ⟨h5, e5, _, q5⟩ := (R56.out.nil HK.out) k (by rw [l5.out]; exact hkn)
              subst e5
              obtain ⟨h3, e3, _, q3⟩ := (R36.out.nil HK.out) k (by rw [l3.out]; have := HL.out; omega)
              injection e3 with e3
              injection e3 with e3
              subst e3
              have y1 := q5 k (by rw [l5.out]; exact hkn)
              have y2 := q3 k (by rw [l3.out]; have := HL.out; omega)
              have hsame : (path T y).getD k 0 = (path T u).getD k 0 := by
                rw [hc.out, List.getD_eq_getElem?_getD, List.getD_eq_getElem?_getD, List.getElem?_append_left (by rw [l5.out]; exact hkn)]
              rw [hsame] at y2
              clear q5 q3 hsame
              generalize (path T u).getD k 0 = z at y1 y2
              go_wp2_with (fail)
              go_quiet (fail)
              go_wp2_with (fail)
              go_roundw
              case rel => exact ⟨k + 1, by omega, by go_num, Lib.hid (HK.out.drewN nq)⟩
              case measure => simp [intOf]; omega
            · obtain rfl : k = n5 := by omega
              have hk0 : ¬ (k : Int) < (k : Int) := by omega
              have O7 := Lib.hid (O6.out.trans HK.out)
              have R37 := Lib.hid (R36.out.nil HK.out)
              generalize hWW : wr = W7 at *
              clear hWW HK O6 R56 R36 hkn
              have y7 := CI.out W7 O7.out
              go_wp2_with (fail)
              go_loopw [12, 14] (fun s12 s14 wr => ∃ (m : Nat) (t : Bool), m ≤ n3 ∧ s14 = .int .i64 (m : Int) ∧ s12 = .bool t ∧ Hid (t = inTake x (path T y) m) ∧ wr = W7)
                (fun _ s14 _ => n3 - (intOf s14).toNat)
              case atStart => exact ⟨0, false, Nat.zero_le _, rfl, rfl, Lib.hid (inTake_zero _ _).symm, rfl⟩
              case round =>
                obtain ⟨m, t, hm, rfl, rfl, HT, rfl⟩ := hrel
                by_cases hmn : m < n3
                · have hmn' : (m : Int) < (n3 : Int) := by omega
                  have hsucc := Lib.hid (inTake_succ x (path T y) (k := m) (by rw [l3.out]; exact hmn))
                  obtain ⟨h3, e3, _, q3⟩ := R37.out m (by rw [l3.out]; exact hmn)
                  injection e3 with e3
                  injection e3 with e3
                  subst e3
                  have y2 := q3 m (by rw [l3.out]; exact hmn)
                  obtain ⟨z, hz⟩ : ∃ z, z = (path T y).getD m 0 := ⟨_, rfl⟩
                  rw [← hz] at y2
                  have HZ := Lib.hid hz
                  clear q3 hz
                  cases t with
                  | true =>
                    go_wp2_with (fail)
                    go_roundw
                    case rel => exact ⟨m + 1, true, by omega, by go_num, rfl, Lib.hid (by rw [hsucc.out, ← HT.out]; rfl), trivial⟩
                    case measure => simp [intOf]; omega
                  | false =>
                    go_wp2_with (fail)
                    go_roundw
                    case rel => exact ⟨m + 1, (z == x), by omega, by go_num, rfl, Lib.hid (by rw [hsucc.out, ← HT.out, ← HZ.out]; rfl), trivial⟩
                    case measure => simp [intOf]; omega
                · obtain rfl : m = n3 := by omega
                  have hm0 : ¬ (m : Int) < (m : Int) := by omega
                  have hon := Lib.hid (show t = decide (x ∈ path T y) from by rw [HT.out]; exact inTake_all _ _ l3.out)
                  have B8 := Lib.hid (BL.out wr O7.out)
                  clear HT hmn
                  go_upto_region 27 with (go_at_call 16; (with_reducible refine B8.out.mono ?_); rintro e w8 ⟨a8, n8, c8, rfl, hn8, F8⟩)
                  have l8 := Lib.hid hn8
                  have O8 := Lib.hid (O7.out.trans F8.out.only)
                  have R8 := Lib.hid (own_ints F8.out.row)
                  have n8le : (n8 : Int) ≤ 100 := by have := belT_len G.out x; have := T100.out; omega
                  clear B8 F8 hn8 y7 R37 O7
                  go_wp2_with (fail)
                  go_loopw [15, 17] (fun s15 s17 wr => ∃ (j : Nat) (s : Bool), j ≤ n8 ∧ s17 = .int .i64 (j : Int) ∧ s15 = .bool s ∧ Hid (s = inTake y (belT T x) j) ∧ Hid (Only Nil w8 wr))
                    (fun _ s17 _ => n8 - (intOf s17).toNat)
                  case atStart => exact ⟨0, false, Nat.zero_le _, rfl, rfl, Lib.hid (inTake_zero _ _).symm, Lib.hid (Only.refl _ _)⟩
                  case round =>
                    obtain ⟨j, s, hj, rfl, rfl, HS2, HO8⟩ := hrel
                    by_cases hjn : j < n8
                    · have hjn' : (j : Int) < (n8 : Int) := by omega
                      have hsucc := Lib.hid (inTake_succ y (belT T x) (k := j) (by rw [l8.out]; exact hjn))
                      obtain ⟨h8, rfl, _, q8⟩ := (R8.out.nil HO8.out) j (by rw [l8.out]; exact hjn)
                      have y2 := q8 j (by rw [l8.out]; exact hjn)
                      have y3 := CI.out wr (O8.out.trans HO8.out)
                      obtain ⟨z, hz⟩ : ∃ z, z = (belT T x).getD j 0 := ⟨_, rfl⟩
                      rw [← hz] at y2
                      have HZ := Lib.hid hz
                      clear q8 hz
                      cases s with
                      | true =>
                        go_wp2_with (fail)
                        go_quiet (fail)
                        go_wp2_with (fail)
                        go_roundw
                        case rel => exact ⟨j + 1, true, by omega, by go_num, rfl, Lib.hid (by rw [hsucc.out, ← HS2.out]; rfl), Lib.hid (HO8.out.drewN nq)⟩
                        case measure => simp [intOf]; omega
                      | false =>
                        go_wp2_with (fail)
                        go_quiet (fail)
                        go_wp2_with (fail)
                        go_roundw
                        case rel => exact ⟨j + 1, (z == y), by omega, by go_num, rfl, Lib.hid (by rw [hsucc.out, ← HS2.out, ← HZ.out]; rfl), Lib.hid (HO8.out.drewN nq)⟩
                        case measure => simp [intOf]; omega
                    · obtain rfl : j = n8 := by omega
                      have hj0 : ¬ (j : Int) < (j : Int) := by omega
                      have hst : s = t := by
                        rw [HS2.out, hon.out, inTake_all _ _ l8.out]
                        exact decide_eq_decide.2 hbp.out
                      subst hst
                      have O9 := Lib.hid (O8.out.trans HO8.out)
                      clear hjn
                      cases s with
                      | true =>
                        go_wp2_with (fail)
                        go_roundw
                        case rel => exact ⟨i + 1, by omega, by go_num, O9⟩
                        case measure => simp [intOf]; omega
                      | false =>
                        go_wp2_with (fail)
                        go_roundw
                        case rel => exact ⟨i + 1, by omega, by go_num, O9⟩
                        case measure => simp [intOf]; omega)
    · obtain rfl : i = ni := by omega
      have hk0 : ¬ (i : Int) < (i : Int) := by omega
      have OE := Lib.hid ((S2.out.nil HO.out).only)
      clear hin
      go_wp2_with (fail)
      go_ret
      exact ⟨rfl, OE.out.below (Nat.le_refl _) (fun _ h => h.elim)⟩
end Go.Proofs.Ytkeaenkkencmdaa.Tr
