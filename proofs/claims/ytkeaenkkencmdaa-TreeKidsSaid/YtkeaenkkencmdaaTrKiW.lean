/- tree: TreeKids' walk. -/
import Derived.Test.YtkeaenkkencmdaaTrM
set_option linter.unusedSimpArgs false
set_option linter.unusedVariables false
namespace Go.Proofs.Ytkeaenkkencmdaa.Tr
open Go.RowKit Go.Proofs.Ytkeaenkkencmdaa

theorem kidsT_zero {T : List Mb} (G : Good T) : kidsT T 0 = [] := by unfold kidsT; rw [if_neg (by rw [G.zero]; decide)]
/-- What is told of the parent behind an Add that was done. -/
theorem kids_done {T : List Mb} (G : Good T) {p x : Int} (h : addE T p x = 0) (hw : (Lit.int .i64 x).wf = true) : kidsT (addT T p x) p = kidsT T p ++ (if p = 0 then [] else [x]) := by
  obtain ⟨h1, h2, h3⟩ := addE_0.1 h
  have G' := G.add p hw
  have e : addT T p x = T ++ [(x, p)] := by unfold addT; rw [if_pos h]
  by_cases hp : p = 0
  · subst hp
    rw [kidsT_zero G', kidsT_zero G, if_pos rfl]; rfl
  · obtain ⟨_, h4⟩ : p ≠ 0 ∧ has T p = true := h3.resolve_left (fun h => hp h.1)
    rw [if_neg hp, e]
    unfold kidsT
    rw [has_append, h4, Bool.true_or, if_pos rfl, if_pos rfl, kids_snoc, if_pos rfl]
theorem par_done {T : List Mb} {p x : Int} (h : addE T p x = 0) : par (addT T p x) x = p ∧ has (addT T p x) x = true := by
  obtain ⟨h1, h2, h3⟩ := addE_0.1 h
  have e : addT T p x = T ++ [(x, p)] := by unfold addT; rw [if_pos h]
  rw [e, par_append' _ h2, has_append]
  simp [par, has]
theorem kid_of {T : List Mb} (G : Good T) {y z : Int} (h : z ∈ kidsT T y) : par T z = y := by
  unfold kidsT at h
  split at h
  · exact (G.kid.1 h).2
  · simp at h
/-- A row's cells from k on. -/
def From (w : World) (g m k : Nat) (L : List Int) : Prop := ∃ cur : Array Value, w.heap[g]? = some (.cells cur 3 (0, 0)) ∧ ∀ j, k ≤ j → j < m → cur[j]? = some (.int .i64 (L.getD j 0))
theorem From.cell {w : World} {g m k : Nat} {L : List Int} (h : From w g m k L) (hk : k < m) : w.cell? ⟨g, k, none⟩ = some (.int .i64 (L.getD k 0)) ∧ w.frozen? ⟨g, k, none⟩ = false ∧ From (w.setCell ⟨g, k, none⟩ (.int .i64 (-7))) g m (k + 1) L := by
  obtain ⟨cur, h1, h2⟩ := h
  refine ⟨by simp [World.cell?, h1, h2 k (Nat.le_refl _) hk], blk_free h1, _, at_same h1 _, fun j hj hjm => ?_⟩
  rw [Array.getElem?_setIfInBounds_ne (by omega)]
  exact h2 j (by omega) hjm
theorem from_own {w : World} {a : Option Addr} {m c : Nat} {L : List Int} (h : w.ownsRow 0 3 1 (.slice a m c) L.length (iv L)) (hm : 0 < m) : ∃ g, a = some ⟨g, 0, none⟩ ∧ From w g m 0 L := by
  rcases h.2 with ⟨e, _⟩ | ⟨g, c', cur, e, _, hg, _, _, _, ht⟩
  · simp only [Value.slice.injEq] at e; omega
  · simp only [Value.slice.injEq] at e
    obtain ⟨rfl, hn, rfl⟩ := e
    refine ⟨g, rfl, cur, hg, fun j _ hj => ?_⟩
    have h1 : (cur.toList.take (L.length * 1))[j]? = (iv L)[j]? := by rw [ht]
    rw [List.getElem?_take, if_pos (by omega)] at h1
    have h2 : (iv L)[j]? = some (.int .i64 (L.getD j 0)) := by simp [iv, List.getD, show j < L.length by omega]
    rw [h2] at h1
    simpa using h1

set_option maxRecDepth 100000 in
set_option maxHeartbeats 40000000 in
theorem kids_all (p x : Int) (wp : (Lit.int .i64 p).wf = true) (wx : (Lit.int .i64 x).wf = true) {W : World} {a : Option Addr} {cap : Nat} {S : List Op} (hS : OpsIn W a S) (hr : S.length * 24 ≤ 140737488351232) :
    Calls Try.prog 6 #[.slice a S.length cap, .int .i64 p, .int .i64 x] W fun e w' => e = .returned (.bool true) ∧ Below W.heap.size W w' := by
  have HA := Lib.hid (alive_any W)
  have HS := Lib.hid hS
  obtain ⟨l, hl⟩ : ∃ l, l = S.length := ⟨_, rfl⟩
  have l63 : (l : Int) ≤ 140737488351232 := by omega
  rw [← hl]
  have HG := Lib.hid (fun (w1 : World) (o1 : Only Nil W w1) => grown_any (cap := cap) HS (Lib.hid hl) l63 o1)
  clear hS hr hl
  go_enter Try.func6, Try.ntmps6
  go_upto_region 4 with (first
    | (go_at_call 7; (with_reducible refine HA.out.mono ?_); rintro e w1 ⟨rfl, o1⟩; have O1 := Lib.hid o1; clear o1 HA)
    | (go_at_call 15; (with_reducible refine (HG.out _ O1.out).mono ?_); rintro e w2 ⟨tb, ni, ci, ai, rfl, hni, h2⟩; have k2 := h2; clear h2 HG O1))
  obtain ⟨T, hT⟩ : ∃ T, Hid (T.length ≤ 100 ∧ Good T ∧ ∃ L, Gw W w2 tb T (.slice ai ni ci) L ∧ L.length = ni ∧ ∀ x ∈ L, (Lit.int .i64 x).wf = true) := by
    obtain ⟨T, L, g, hL, h, hw⟩ := k2.out
    exact ⟨T, Lib.hid ⟨h, g.st.good, L, g, hL, hw⟩⟩
  obtain ⟨I, hI⟩ : ∃ I, Hid (Gw W w2 tb T (.slice ai ni ci) I ∧ I.length = ni ∧ ∀ x ∈ I, (Lit.int .i64 x).wf = true) := by
    obtain ⟨_, _, L, h⟩ := hT.out
    exact ⟨L, Lib.hid h⟩
  clear k2
  have GT := Lib.hid hT.out.2.1
  have T100 := Lib.hid hT.out.1
  clear hT
  have KI := Lib.hid (st_kids hI.out.1.st p wp (by have := T100.out; omega))
  have AD := Lib.hid (fun (w3 : World) (K : Nat → Prop) (h : St W K w3 tb T) => st_add h p x wp wx (by have := T100.out; omega))
  obtain ⟨E, hE⟩ : ∃ E, E = addE T p x := ⟨_, rfl⟩
  obtain ⟨T', hT'⟩ : ∃ T', T' = addT T p x := ⟨_, rfl⟩
  rw [← hE, ← hT'] at AD
  have HE := Lib.hid (And.intro hE hT')
  clear hE hT'
  have GT' := Lib.hid (show Good T' from by rw [HE.out.2]; exact GT.out.add p wx)
  have T101 := Lib.hid (show T'.length ≤ 101 from by rw [HE.out.2]; have := addT_le T p x; have := T100.out; omega)
  have KN := Lib.hid (fun (w3 : World) (K : Nat → Prop) (y : Int) (wy : (Lit.int .i64 y).wf = true) (h : St W K w3 tb T') => st_kids h y wy (by have := T101.out; omega))
  have PA := Lib.hid (fun (w3 : World) (K : Nat → Prop) (h : St W K w3 tb T') => st_parent h x wx)
  go_upto_region 5 with (go_at_call 20; (with_reducible refine KI.out.mono ?_); rintro e w3 ⟨a1, n1, c1, rfl, hn1, F1⟩)
  -- the rows of the numbers and of the children ahead
  obtain ⟨K, hK⟩ : ∃ K : Nat → Prop, K = fun q => OwnP (.slice ai ni ci) q ∨ OwnP (.slice a1 n1 c1) q := ⟨_, rfl⟩
  have S3 : Hid (St W K w3 tb T) := by
    rw [hK]
    refine Lib.hid (hI.out.1.st.re (U := Nil) F1.out.only (fun q h => h.elim) (fun q h => h.elim) (fun q hq => ?_))
    rcases hq with hq | hq
    · exact ⟨.inl hq, Nat.lt_of_lt_of_le (hI.out.1.row.lt hq) F1.out.only.size⟩
    · exact ⟨.inr (F1.out.new q hq), F1.out.lt hq⟩
  have A3 := Lib.hid (AD.out w3 K S3.out)
  clear AD KI
  go_upto_region 6 with (go_at_call 12; (with_reducible refine A3.out.mono ?_); rintro e w4 ⟨rfl, h4, o4⟩; have S4 := Lib.hid h4; have O4 := Lib.hid o4; clear h4 o4 A3)
  have RI : Hid (IntsIn w4 ai I) := by
    have h1 := hI.out.1.row.row
    have h2 := own_keep (own_keep h1 F1.out.only (fun _ _ h => h)) O4.out (fun k hk hf => hf.2 (by rw [hK]; exact .inl hk))
    exact Lib.hid (own_ints h2)
  have R1 : Hid (IntsIn w4 a1 (kidsT T p)) := by
    have h2 := own_keep F1.out.row O4.out (fun k hk hf => hf.2 (by rw [hK]; exact .inr hk))
    exact Lib.hid (own_ints h2)
  clear hK
  have wI := Lib.hid hI.out.2.2
  have lI := Lib.hid hI.out.2.1
  have lL := Lib.hid hn1
  clear hI S3 F1 hn1
  have K4 := Lib.hid (KN.out w4 K p wp S4.out)
  go_upto_region 7 with (go_at_call 20; (with_reducible refine K4.out.mono ?_); rintro e w5 ⟨a2, n2, c2, rfl, hn2, F2⟩)
  have S5 := Lib.hid (S4.out.nil F2.out.only)
  have RI5 := Lib.hid (RI.out.nil F2.out.only)
  have R15 := Lib.hid (R1.out.nil F2.out.only)
  have R25 := Lib.hid (own_ints F2.out.row)
  have lN := Lib.hid hn2
  clear RI R1 S4 O4 K4 F2 hn2
  have n1le : (n1 : Int) ≤ 100 := by have := kidsT_len GT.out p; have := lL.out; have := T100.out; omega
  have n2le : (n2 : Int) ≤ 101 := by have := kidsT_len GT'.out p; have := lN.out; have := T101.out; omega
  have nile : (ni : Int) ≤ 100 := by omega
  by_cases hE0 : E = 0
  · have hD := Lib.hid (show kidsT T' p = kidsT T p ++ (if p = 0 then [] else [x]) from by rw [HE.out.2]; exact kids_done GT.out (by rw [← HE.out.1]; exact hE0) wx)
    have hP := Lib.hid (show par T' x = p ∧ has T' x = true from by rw [HE.out.2]; exact par_done (by rw [← HE.out.1]; exact hE0))
    subst hE0
    by_cases hp : p = 0
    · subst hp
      have e1 : n1 = 0 := by rw [← lL.out, kidsT_zero GT.out]; rfl
      have e2 : n2 = 0 := by rw [← lN.out, kidsT_zero GT'.out]; rfl
      have h12 : n1 ≤ n2 := by omega
      clear e1 e2
      go_wp2_with (fail)
      go_loopw [12] (fun s12 wr => ∃ (i m : Nat), i ≤ n1 ∧ s12 = .int .i64 (i : Int) ∧ wr = w5.drewN m)
        (fun s12 _ => n1 - (intOf s12).toNat)
      case atStart => exact ⟨0, 0, Nat.zero_le _, rfl, rfl⟩
      case round =>
        obtain ⟨i, m, hi, rfl, rfl⟩ := hrel
        by_cases hin : i < n1
        · have hin' : (i : Int) < (n1 : Int) := by omega
          have hin2 : (i : Int) < (n2 : Int) := by omega
          obtain ⟨g1, rfl, _, q1⟩ := R15.out i (by rw [lL.out]; exact hin)
          (first | (obtain ⟨g2, rfl, _, q2⟩ := R25.out i (by rw [lN.out]; omega)) | (obtain ⟨g2, e9, _, q2⟩ := R25.out i (by rw [lN.out]; omega); injection e9 with e9; injection e9 with e9; subst e9))
          have y1 := q1 i (by rw [lL.out]; exact hin)
          have y2 := q2 i (by rw [lN.out]; omega)
          have hsame : (kidsT T' 0).getD i 0 = (kidsT T 0).getD i 0 := by
            rw [hD.out, List.getD_eq_getElem?_getD, List.getD_eq_getElem?_getD, List.getElem?_append_left (by rw [lL.out]; exact hin)]
          rw [hsame] at y2
          clear q1 q2 hsame
          generalize (kidsT T 0).getD i 0 = z at y1 y2
          go_wp2_with (fail)
          go_quiet (fail)
          go_wp2_with (fail)
          go_roundw
          case rel => exact ⟨i + 1, _, by omega, by go_num, rfl⟩
          case measure => simp [intOf]; omega
        · obtain rfl : i = n1 := by omega
          have hk0 : ¬ (i : Int) < (i : Int) := by omega
          obtain ⟨W5, hW5⟩ : ∃ W5, W5 = w5.drewN m := ⟨_, rfl⟩
          have oW5 : Only Nil w5 W5 := by rw [hW5]; exact (Only.refl Nil w5).drewN m
          rw [← hW5]
          have S6 := Lib.hid (S5.out.nil oW5)
          have RI6 := Lib.hid (RI5.out.nil oW5)
          have R26 := Lib.hid (R25.out.nil oW5)
          clear hW5 oW5 S5 RI5 R15 R25 hin
          go_wp2_with (fail)
          go_loopw [13, 14, 15] (fun s13 s14 s15 wr => ∃ (j : Nat), j ≤ ni ∧ s13 = .int .i64 (j : Int) ∧ Hid (Only Nil W5 wr))
            (fun s13 _ _ _ => ni - (intOf s13).toNat)
          case atStart => exact ⟨0, Nat.zero_le _, rfl, Lib.hid (Only.refl _ _)⟩
          case round =>
            obtain ⟨j, hj, rfl, HO⟩ := hrel
            by_cases hjn : j < ni
            · have hjn' : (j : Int) < (ni : Int) := by omega
              obtain ⟨gi, rfl, hgi, q1⟩ := RI6.out j (by rw [lI.out]; exact hjn)
              obtain ⟨y, hy⟩ : ∃ y, y = I.getD j 0 := ⟨_, rfl⟩
              have hym : y ∈ I := by
                have h1 : j < I.length := by rw [lI.out]; exact hjn
                rw [hy, show I.getD j 0 = I[j] from by simp [List.getD, h1]]
                exact List.getElem_mem h1
              have CI := Lib.hid (fun (w' : World) (o : Only Nil W5 w') => show w'.cell? ⟨gi, j, none⟩ = some (.int .i64 y) from by
                have h1 := q1 j (by rw [lI.out]; exact hjn)
                rw [← hy] at h1
                exact (World.cell?_of_block (a := ⟨gi, j, none⟩) (o.block gi hgi (fun h => h))).trans h1)
              have y1 := CI.out wr HO.out
              have KY := Lib.hid (KN.out wr K y (wI.out y hym) (S6.out.nil HO.out))
              clear q1 hgi hy
              go_upto_region 20 with (go_at_call 20; (with_reducible refine KY.out.mono ?_); rintro e w6 ⟨a3, n3, c3, rfl, hn3, F3⟩)
              have l3 := Lib.hid hn3
              have n3le : (n3 : Int) ≤ 101 := by have := kidsT_len GT'.out y; have := T101.out; omega
              have O6 := Lib.hid (HO.out.trans F3.out.only)
              by_cases hm : n3 = 0
              · subst hm
                clear hn3 KY y1
                go_wp2_with (fail)
                refine wp_loop_rounds 1 ?_
                rw [rounds_succ]
                go_wp2_with (fail)
                go_roundw
                case rel => exact ⟨j + 1, by omega, by go_num, O6⟩
                case measure => simp [intOf]; omega
              · obtain ⟨g3, rfl, hfrom⟩ := from_own F3.out.row (by omega)
                have HFr := Lib.hid hfrom
                have hg3 := Lib.hid (show W5.heap.size ≤ g3 from Nat.le_trans HO.out.size (F3.out.new g3 rfl))
                clear hn3 KY y1 hfrom F3
                go_wp2_with (fail)
                go_loopw [15] (fun s15 wr => ∃ (k : Nat), k ≤ n3 ∧ s15 = .int .i64 (k : Int) ∧ Hid (From wr g3 n3 k (kidsT T' y) ∧ Only Nil W5 wr))
                  (fun s15 _ => n3 - (intOf s15).toNat)
                case atStart => exact ⟨0, Nat.zero_le _, rfl, Lib.hid ⟨HFr.out, O6.out⟩⟩
                case round =>
                  obtain ⟨k, hk, rfl, HK⟩ := hrel
                  by_cases hkn : k < n3
                  · have hkn' : (k : Int) < (n3 : Int) := by omega
                    obtain ⟨z1, z2, z3⟩ := HK.out.1.cell hkn
                    have y1 := CI.out wr HK.out.2
                    have HNX := Lib.hid (show From (wr.setCell ⟨g3, k, none⟩ (.int .i64 (-7))) g3 n3 (k + 1) (kidsT T' y) ∧ Only Nil W5 (wr.setCell ⟨g3, k, none⟩ (.int .i64 (-7))) from ⟨z3, HK.out.2.then ((Only.refl (fun q => q = g3) wr).setCell (p := ⟨g3, k, none⟩) rfl _) (fun i hi hlt => by have := hg3.out; omega)⟩)
                    obtain ⟨z, hz⟩ : ∃ z, z = (kidsT T' y).getD k 0 := ⟨_, rfl⟩
                    have hzp := Lib.hid (show par T' z = y from by
                      have h1 : k < (kidsT T' y).length := by rw [l3.out]; exact hkn
                      refine kid_of GT'.out ?_
                      rw [hz, show (kidsT T' y).getD k 0 = (kidsT T' y)[k] from by simp [List.getD, h1]]
                      exact List.getElem_mem h1)
                    rw [← hz] at z1
                    clear z3 hz
                    by_cases hzx : z = x
                    · have hyp : y = 0 := by have := hzp.out; rw [hzx, hP.out.1] at this; exact this.symm
                      have t1 : (z == x) = true := by simp [hzx]
                      have t2 : (y != 0) = false := by simp [hyp]
                      clear hzx hyp
                      go_wp2_with (fail)
                      go_roundw
                      case rel => exact ⟨k + 1, by omega, by go_num, HNX⟩
                      case measure => simp [intOf]; omega
                    · have t1 : (z == x) = false := by simp [hzx]
                      clear hzx
                      go_wp2_with (fail)
                      go_roundw
                      case rel => exact ⟨k + 1, by omega, by go_num, HNX⟩
                      case measure => simp [intOf]; omega
                  · obtain rfl : k = n3 := by omega
                    have hk1 : ¬ (k : Int) < (k : Int) := by omega
                    have OE := Lib.hid HK.out.2
                    clear HK
                    go_wp2_with (fail)
                    go_roundw
                    case rel => exact ⟨j + 1, by omega, by go_num, OE⟩
                    case measure => simp [intOf]; omega
            · obtain rfl : j = ni := by omega
              have hk1 : ¬ (j : Int) < (j : Int) := by omega
              have S7 := Lib.hid (S6.out.nil HO.out)
              have R27 := Lib.hid (R26.out.nil HO.out)
              have KY := Lib.hid (KN.out wr K 0 wp S7.out)
              clear hjn
              go_upto_region 27 with (go_at_call 20; (with_reducible refine KY.out.mono ?_); rintro e w7 ⟨a4, n4, c4, rfl, hn4, F4⟩)
              obtain rfl : n4 = n2 := by rw [← hn4, lN.out]
              have S8 := Lib.hid (S7.out.nil F4.out.only)
              have R28 := Lib.hid (R27.out.nil F4.out.only)
              have R48 := Lib.hid (own_ints F4.out.row)
              clear S7 R27 KY hn4 F4
              go_wp2_with (fail)
              go_loopw [17] (fun s17 wr => ∃ (k m : Nat), k ≤ n4 ∧ s17 = .int .i64 (k : Int) ∧ wr = w7.drewN m)
                (fun s17 _ => n4 - (intOf s17).toNat)
              case atStart => exact ⟨0, 0, Nat.zero_le _, rfl, rfl⟩
              case round =>
                obtain ⟨k, m, hk, rfl, rfl⟩ := hrel
                by_cases hkn : k < n4
                · have hkn' : (k : Int) < (n4 : Int) := by omega
                  (first | (obtain ⟨g1, rfl, _, q1⟩ := R28.out k (by rw [lN.out]; exact hkn)) | (obtain ⟨g1, e9, _, q1⟩ := R28.out k (by rw [lN.out]; exact hkn); injection e9 with e9; injection e9 with e9; subst e9))
                  obtain ⟨g2, rfl, _, q2⟩ := R48.out k (by rw [lN.out]; exact hkn)
                  have y1 := q1 k (by rw [lN.out]; exact hkn)
                  have y2 := q2 k (by rw [lN.out]; exact hkn)
                  clear q1 q2
                  generalize (kidsT T' 0).getD k 0 = z at y1 y2
                  go_wp2_with (fail)
                  go_quiet (fail)
                  go_wp2_with (fail)
                  go_roundw
                  case rel => exact ⟨k + 1, _, by omega, by go_num, rfl⟩
                  case measure => simp [intOf]; omega
                · obtain rfl : k = n4 := by omega
                  have hk2 : ¬ (k : Int) < (k : Int) := by omega
                  have S9 := Lib.hid (S8.out.nil ((Only.refl Nil w7).drewN m))
                  have PR := Lib.hid (show Calls Try.prog 19 #[.pointer (some ⟨tb, 0, none⟩), .int .i64 x] (w7.drewN m) fun e w' => e = .returned (.tuple #[.int .i64 0, .bool true]) ∧ w7.drewN m = w' from by
                    have := PA.out _ K S9.out
                    rw [hP.out.1, hP.out.2] at this
                    exact this)
                  clear hkn
                  go_wp2_with (go_at_call 19; go_loud ((with_reducible refine PR.out.mono ?_); rintro e w8 ⟨rfl, rfl⟩))
                  go_ret
                  exact ⟨rfl, S9.out.only.below (Nat.le_refl _) (fun _ h => h.elim)⟩
    · have e2 : n2 = n1 + 1 := by rw [← lN.out, hD.out, ← lL.out, if_neg hp]; simp
      have h12 : n1 ≤ n2 := by omega
      have e3 : (n2 : Int) = (n1 : Int) + 1 := by omega
      have E2 := Lib.hid e2
      have hlt : (n1 : Int) < (n2 : Int) := by omega
      obtain ⟨gn, hgn⟩ : ∃ gn, a2 = some ⟨gn, 0, none⟩ ∧ w5.cell? ⟨gn, n1, none⟩ = some (.int .i64 x) := by
        obtain ⟨g, e, _, q⟩ := R25.out n1 (by rw [lN.out]; omega)
        refine ⟨g, e, ?_⟩
        rw [q n1 (by rw [lN.out]; omega), hD.out, if_neg hp]
        have : n1 = (kidsT T p).length := lL.out.symm
        rw [List.getD_eq_getElem?_getD, List.getElem?_append_right (by omega), this]
        simp
      obtain ⟨rfl, cn⟩ := hgn
      clear e2
      go_upto_region 11 with (fail)
      clear cn e3 hlt
      go_wp2_with (fail)
      go_loopw [12] (fun s12 wr => ∃ (i m : Nat), i ≤ n1 ∧ s12 = .int .i64 (i : Int) ∧ wr = w5.drewN m)
        (fun s12 _ => n1 - (intOf s12).toNat)
      case atStart => exact ⟨0, 0, Nat.zero_le _, rfl, rfl⟩
      case round =>
        obtain ⟨i, m, hi, rfl, rfl⟩ := hrel
        by_cases hin : i < n1
        · have hin' : (i : Int) < (n1 : Int) := by omega
          have hin2 : (i : Int) < (n2 : Int) := by omega
          obtain ⟨g1, rfl, _, q1⟩ := R15.out i (by rw [lL.out]; exact hin)
          (first | (obtain ⟨g2, rfl, _, q2⟩ := R25.out i (by rw [lN.out]; omega)) | (obtain ⟨g2, e9, _, q2⟩ := R25.out i (by rw [lN.out]; omega); injection e9 with e9; injection e9 with e9; subst e9))
          have y1 := q1 i (by rw [lL.out]; exact hin)
          have y2 := q2 i (by rw [lN.out]; omega)
          have hsame : (kidsT T' p).getD i 0 = (kidsT T p).getD i 0 := by
            rw [hD.out, List.getD_eq_getElem?_getD, List.getD_eq_getElem?_getD, List.getElem?_append_left (by rw [lL.out]; exact hin)]
          rw [hsame] at y2
          clear q1 q2 hsame
          generalize (kidsT T p).getD i 0 = z at y1 y2
          go_wp2_with (fail)
          go_quiet (fail)
          go_wp2_with (fail)
          go_roundw
          case rel => exact ⟨i + 1, _, by omega, by go_num, rfl⟩
          case measure => simp [intOf]; omega
        · obtain rfl : i = n1 := by omega
          have hk0 : ¬ (i : Int) < (i : Int) := by omega
          obtain ⟨W5, hW5⟩ : ∃ W5, W5 = w5.drewN m := ⟨_, rfl⟩
          have oW5 : Only Nil w5 W5 := by rw [hW5]; exact (Only.refl Nil w5).drewN m
          rw [← hW5]
          have S6 := Lib.hid (S5.out.nil oW5)
          have RI6 := Lib.hid (RI5.out.nil oW5)
          have R26 := Lib.hid (R25.out.nil oW5)
          clear hW5 oW5 S5 RI5 R15 R25 hin
          go_wp2_with (fail)
          go_loopw [13, 14, 15] (fun s13 s14 s15 wr => ∃ (j : Nat), j ≤ ni ∧ s13 = .int .i64 (j : Int) ∧ Hid (Only Nil W5 wr))
            (fun s13 _ _ _ => ni - (intOf s13).toNat)
          case atStart => exact ⟨0, Nat.zero_le _, rfl, Lib.hid (Only.refl _ _)⟩
          case round =>
            obtain ⟨j, hj, rfl, HO⟩ := hrel
            by_cases hjn : j < ni
            · have hjn' : (j : Int) < (ni : Int) := by omega
              obtain ⟨gi, rfl, hgi, q1⟩ := RI6.out j (by rw [lI.out]; exact hjn)
              obtain ⟨y, hy⟩ : ∃ y, y = I.getD j 0 := ⟨_, rfl⟩
              have hym : y ∈ I := by
                have h1 : j < I.length := by rw [lI.out]; exact hjn
                rw [hy, show I.getD j 0 = I[j] from by simp [List.getD, h1]]
                exact List.getElem_mem h1
              have CI := Lib.hid (fun (w' : World) (o : Only Nil W5 w') => show w'.cell? ⟨gi, j, none⟩ = some (.int .i64 y) from by
                have h1 := q1 j (by rw [lI.out]; exact hjn)
                rw [← hy] at h1
                exact (World.cell?_of_block (a := ⟨gi, j, none⟩) (o.block gi hgi (fun h => h))).trans h1)
              have y1 := CI.out wr HO.out
              have KY := Lib.hid (KN.out wr K y (wI.out y hym) (S6.out.nil HO.out))
              clear q1 hgi hy
              go_upto_region 20 with (go_at_call 20; (with_reducible refine KY.out.mono ?_); rintro e w6 ⟨a3, n3, c3, rfl, hn3, F3⟩)
              have l3 := Lib.hid hn3
              have n3le : (n3 : Int) ≤ 101 := by have := kidsT_len GT'.out y; have := T101.out; omega
              have O6 := Lib.hid (HO.out.trans F3.out.only)
              by_cases hm : n3 = 0
              · subst hm
                clear hn3 KY y1
                go_wp2_with (fail)
                refine wp_loop_rounds 1 ?_
                rw [rounds_succ]
                go_wp2_with (fail)
                go_roundw
                case rel => exact ⟨j + 1, by omega, by go_num, O6⟩
                case measure => simp [intOf]; omega
              · obtain ⟨g3, rfl, hfrom⟩ := from_own F3.out.row (by omega)
                have HFr := Lib.hid hfrom
                have hg3 := Lib.hid (show W5.heap.size ≤ g3 from Nat.le_trans HO.out.size (F3.out.new g3 rfl))
                clear hn3 KY y1 hfrom F3
                go_wp2_with (fail)
                go_loopw [15] (fun s15 wr => ∃ (k : Nat), k ≤ n3 ∧ s15 = .int .i64 (k : Int) ∧ Hid (From wr g3 n3 k (kidsT T' y) ∧ Only Nil W5 wr))
                  (fun s15 _ => n3 - (intOf s15).toNat)
                case atStart => exact ⟨0, Nat.zero_le _, rfl, Lib.hid ⟨HFr.out, O6.out⟩⟩
                case round =>
                  obtain ⟨k, hk, rfl, HK⟩ := hrel
                  by_cases hkn : k < n3
                  · have hkn' : (k : Int) < (n3 : Int) := by omega
                    obtain ⟨z1, z2, z3⟩ := HK.out.1.cell hkn
                    have y1 := CI.out wr HK.out.2
                    have HNX := Lib.hid (show From (wr.setCell ⟨g3, k, none⟩ (.int .i64 (-7))) g3 n3 (k + 1) (kidsT T' y) ∧ Only Nil W5 (wr.setCell ⟨g3, k, none⟩ (.int .i64 (-7))) from ⟨z3, HK.out.2.then ((Only.refl (fun q => q = g3) wr).setCell (p := ⟨g3, k, none⟩) rfl _) (fun i hi hlt => by have := hg3.out; omega)⟩)
                    obtain ⟨z, hz⟩ : ∃ z, z = (kidsT T' y).getD k 0 := ⟨_, rfl⟩
                    have hzp := Lib.hid (show par T' z = y from by
                      have h1 : k < (kidsT T' y).length := by rw [l3.out]; exact hkn
                      refine kid_of GT'.out ?_
                      rw [hz, show (kidsT T' y).getD k 0 = (kidsT T' y)[k] from by simp [List.getD, h1]]
                      exact List.getElem_mem h1)
                    rw [← hz] at z1
                    clear z3 hz
                    by_cases hzx : z = x
                    · have hyp : y = p := by have := hzp.out; rw [hzx, hP.out.1] at this; exact this.symm
                      have t1 : (z == x) = true := by simp [hzx]
                      have t2 : (y != p) = false := by simp [hyp]
                      clear hzx hyp
                      go_wp2_with (fail)
                      go_roundw
                      case rel => exact ⟨k + 1, by omega, by go_num, HNX⟩
                      case measure => simp [intOf]; omega
                    · have t1 : (z == x) = false := by simp [hzx]
                      clear hzx
                      go_wp2_with (fail)
                      go_roundw
                      case rel => exact ⟨k + 1, by omega, by go_num, HNX⟩
                      case measure => simp [intOf]; omega
                  · obtain rfl : k = n3 := by omega
                    have hk1 : ¬ (k : Int) < (k : Int) := by omega
                    have OE := Lib.hid HK.out.2
                    clear HK
                    go_wp2_with (fail)
                    go_roundw
                    case rel => exact ⟨j + 1, by omega, by go_num, OE⟩
                    case measure => simp [intOf]; omega
            · obtain rfl : j = ni := by omega
              have hk1 : ¬ (j : Int) < (j : Int) := by omega
              have S7 := Lib.hid (S6.out.nil HO.out)
              have R27 := Lib.hid (R26.out.nil HO.out)
              have KY := Lib.hid (KN.out wr K p wp S7.out)
              clear hjn
              go_upto_region 27 with (go_at_call 20; (with_reducible refine KY.out.mono ?_); rintro e w7 ⟨a4, n4, c4, rfl, hn4, F4⟩)
              obtain rfl : n4 = n2 := by rw [← hn4, lN.out]
              have S8 := Lib.hid (S7.out.nil F4.out.only)
              have R28 := Lib.hid (R27.out.nil F4.out.only)
              have R48 := Lib.hid (own_ints F4.out.row)
              clear S7 R27 KY hn4 F4
              go_wp2_with (fail)
              go_loopw [17] (fun s17 wr => ∃ (k m : Nat), k ≤ n4 ∧ s17 = .int .i64 (k : Int) ∧ wr = w7.drewN m)
                (fun s17 _ => n4 - (intOf s17).toNat)
              case atStart => exact ⟨0, 0, Nat.zero_le _, rfl, rfl⟩
              case round =>
                obtain ⟨k, m, hk, rfl, rfl⟩ := hrel
                by_cases hkn : k < n4
                · have hkn' : (k : Int) < (n4 : Int) := by omega
                  (first | (obtain ⟨g1, rfl, _, q1⟩ := R28.out k (by rw [lN.out]; exact hkn)) | (obtain ⟨g1, e9, _, q1⟩ := R28.out k (by rw [lN.out]; exact hkn); injection e9 with e9; injection e9 with e9; subst e9))
                  obtain ⟨g2, rfl, _, q2⟩ := R48.out k (by rw [lN.out]; exact hkn)
                  have y1 := q1 k (by rw [lN.out]; exact hkn)
                  have y2 := q2 k (by rw [lN.out]; exact hkn)
                  clear q1 q2
                  generalize (kidsT T' p).getD k 0 = z at y1 y2
                  go_wp2_with (fail)
                  go_quiet (fail)
                  go_wp2_with (fail)
                  go_roundw
                  case rel => exact ⟨k + 1, _, by omega, by go_num, rfl⟩
                  case measure => simp [intOf]; omega
                · obtain rfl : k = n4 := by omega
                  have hk2 : ¬ (k : Int) < (k : Int) := by omega
                  have S9 := Lib.hid (S8.out.nil ((Only.refl Nil w7).drewN m))
                  have PR := Lib.hid (show Calls Try.prog 19 #[.pointer (some ⟨tb, 0, none⟩), .int .i64 x] (w7.drewN m) fun e w' => e = .returned (.tuple #[.int .i64 p, .bool true]) ∧ w7.drewN m = w' from by
                    have := PA.out _ K S9.out
                    rw [hP.out.1, hP.out.2] at this
                    exact this)
                  clear hkn
                  go_wp2_with (go_at_call 19; go_loud ((with_reducible refine PR.out.mono ?_); rintro e w8 ⟨rfl, rfl⟩))
                  go_ret
                  exact ⟨rfl, S9.out.only.below (Nat.le_refl _) (fun _ h => h.elim)⟩
  · have hn : n2 = n1 := by
      rw [← lN.out, ← lL.out, HE.out.2]
      unfold addT
      rw [if_neg (by rw [← HE.out.1]; exact hE0)]
    subst hn
    go_wp2_with (fail)
    go_ret
    exact ⟨rfl, S5.out.only.below (Nat.le_refl _) (fun _ h => h.elim)⟩
end Go.Proofs.Ytkeaenkkencmdaa.Tr
