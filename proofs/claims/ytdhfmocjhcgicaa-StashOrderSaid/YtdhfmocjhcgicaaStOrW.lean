/- StashOrder: the walk. -/
import Derived.Test.YtdhfmocjhcgicaaStRoW
namespace Go.Proofs.Ytdhfmocjhcgicaa.St
open Go.RowKit Go.Proofs.Ytdhfmocjhcgicaa

theorem take_one (X : List Int) (i : Nat) (h : i < X.length) : X.take (i + 1) = X.take i ++ [X.getD i 0] := by
  rw [List.take_add_one]
  simp [List.getD_eq_getElem?_getD, h]
theorem drop_one' (X : List Int) (i : Nat) (h : i < X.length) : X.drop i = X.getD i 0 :: X.drop (i + 1) := by
  rw [List.drop_eq_getElem_cons h]
  simp [List.getD_eq_getElem?_getD, h]

set_option maxRecDepth 100000 in
set_option maxHeartbeats 8000000 in
theorem order_all (a b : Option Addr) (ca cb : Nat) (X Y : List Int) (w : World) (hX : RowK .u64 w a X) (hY : RowK .u64 w b Y) (hx8 : X.length * 8 ≤ 140737488351232) (hy8 : Y.length * 8 ≤ 140737488351232) :
    Calls Try.prog 4 #[.slice a X.length ca, .slice b Y.length cb] w fun e w' => e = .returned (.bool true) ∧ Below w.heap.size w w' := by
  have cellX := Lib.hid (fun (wx : World) (o : Only Nil w wx) (i : Nat) (hi : i < X.length) => show ∃ g off, a = some ⟨g, off, none⟩ ∧ wx.cell? ⟨g, off + i, none⟩ = some (.int .u64 (X.getD i 0)) from by
    obtain ⟨g, off, ha, hg, hc⟩ := hX i hi
    exact ⟨g, off, ha, (World.cell?_of_block (a := ⟨g, off + i, none⟩) (o.block g hg (fun h => h))).trans (hc i hi)⟩)
  have cellY := Lib.hid (fun (wx : World) (o : Only Nil w wx) (i : Nat) (hi : i < Y.length) => show ∃ g off, b = some ⟨g, off, none⟩ ∧ wx.cell? ⟨g, off + i, none⟩ = some (.int .u64 (Y.getD i 0)) from by
    obtain ⟨g, off, ha, hg, hc⟩ := hY i hi
    exact ⟨g, off, ha, (World.cell?_of_block (a := ⟨g, off + i, none⟩) (o.block g hg (fun h => h))).trans (hc i hi)⟩)
  have nw := Lib.hid (fun w1 (o : Only Nil w w1) => show Calls Try.prog 9 #[.int .i64 64] w1 fun e w' => e = .returned (.pointer (some ⟨w1.heap.size, 0, none⟩)) ∧ Mine w w' w1.heap.size 64 [] [] from mine_new w w1 o 64)
  obtain ⟨n, hn⟩ : ∃ n, n = min X.length 60 := ⟨_, rfl⟩
  obtain ⟨k, hk⟩ : ∃ k, k = min Y.length 60 := ⟨_, rfl⟩
  have en : min (X.length : Int) 60 = (n : Int) := by omega
  have ek : min (Y.length : Int) 60 = (k : Int) := by omega
  have hn' := Lib.hid (show n ≤ X.length ∧ n ≤ 60 by omega)
  have hk' := Lib.hid (show k ≤ Y.length ∧ k ≤ 60 by omega)
  have n60 : (n : Int) ≤ 60 := by omega
  have k60 : (k : Int) ≤ 60 := by omega
  have lx : (X.length : Int) * 8 ≤ 140737488351232 := by omega
  have ly : (Y.length : Int) * 8 ≤ 140737488351232 := by omega
  obtain ⟨P, hP⟩ : ∃ P, P = X.take n := ⟨_, rfl⟩
  obtain ⟨Q, hQ⟩ : ∃ Q, Q = Y.take k := ⟨_, rfl⟩
  have hPl := Lib.hid (show P.length = n by rw [hP, List.length_take]; omega)
  have hQl := Lib.hid (show Q.length = k by rw [hQ, List.length_take]; omega)
  have hPg := Lib.hid (fun (i : Nat) (hi : i < n) => show P.getD i 0 = X.getD i 0 from by rw [hP]; simp [List.getD_eq_getElem?_getD, hi])
  have hQg := Lib.hid (fun (i : Nat) (hi : i < k) => show Q.getD i 0 = Y.getD i 0 from by rw [hQ]; simp [List.getD_eq_getElem?_getD, hi])
  have tk := Lib.hid take_one
  have dk := Lib.hid drop_one'
  have hxl := Lib.hid (show n ≤ X.length from hn'.out.1)
  have hyl := Lib.hid (show k ≤ Y.length from hk'.out.1)
  clear hn hk hP hQ hX hY hx8 hy8
  generalize hlx : X.length = lenx at *
  generalize hly : Y.length = leny at *
  have hlx' := Lib.hid hlx
  have hly' := Lib.hid hly
  clear hlx hly
  go_enter Try.func4, Try.ntmps4
  go_wp2_with (first
    | (go_at_call 8; (with_reducible refine (alive_any _).mono ?_); rintro e w1 ⟨rfl, h⟩; have o1 := Lib.hid h; clear h)
    | (go_at_call 9; (with_reducible refine (nw.out _ o1.out).mono ?_); rintro e w2 ⟨rfl, h⟩; have k2 := Lib.hid h; clear h; generalize w1.heap.size = hb at *))
  go_loopw [8] (fun s8 wr => ∃ (i : Nat), i ≤ n ∧ s8 = .int .i64 (i : Int) ∧ Hid (Mine w wr hb 64 (P.take i) []))
    (fun s8 _ => 100 - (intOf s8).toNat)
  case atStart => exact ⟨0, Nat.zero_le _, rfl, k2⟩
  case round =>
    obtain ⟨i, hi, rfl, hm⟩ := hrel
    by_cases hin : i < n
    · have hini : (i : Int) < (n : Int) := by omega
      obtain ⟨g, off, rfl, hc⟩ := cellX.out _ hm.out.only i (by have := hxl.out; omega)
      have hix : (i : Int) < (lenx : Int) := by have := hxl.out; omega
      obtain ⟨e1, e2⟩ := er_less (n := 64) (A := P.take i) (by rw [List.length_take]; have := hn'.out; omega) (X.getD i 0)
      have st := mine_stash hm.out (X.getD i 0)
      rw [e1, e2, ← hPg.out i hin, ← tk.out P i (by rw [hPl.out]; exact hin), hPg.out i hin] at st
      have st' := Lib.hid st
      have his := Lib.hid hin
      clear st e1 e2 hin hi
      generalize X.getD i 0 = x at *
      go_wp2_with (go_at_call 12; go_loud ((with_reducible refine st'.out.mono ?_); rintro e w3 ⟨rfl, h⟩; have k3 := Lib.hid h; clear h))
      go_roundw
      case rel => exact ⟨i + 1, his.out, by go_num, k3⟩
      case measure => have := his.out; have := hn'.out; simp [intOf]; omega
    · obtain rfl : i = n := by omega
      have hk0 : ¬ (i : Int) < (i : Int) := by omega
      have eP : P.take i = P := List.take_of_length_le (by rw [hPl.out]; exact Nat.le_refl _)
      rw [eP] at hm
      have un := mine_unstash hm.out (by simp)
      rw [List.append_nil, hPl.out] at un
      have un' := Lib.hid un
      clear un eP hm hi hin
      go_wp2_with (go_at_call 13; go_loud ((with_reducible refine un'.out.mono ?_); rintro e w4 ⟨rfl, h⟩; have k4 := Lib.hid h; clear h))
      go_loopw [9] (fun s9 wq => ∃ (j : Nat), j ≤ k ∧ s9 = .int .i64 (j : Int) ∧ Hid (Mine w wq hb 64 (Q.take j) P))
        (fun s9 _ => 100 - (intOf s9).toNat)
      case atStart => exact ⟨0, Nat.zero_le _, rfl, k4⟩
      case round =>
        obtain ⟨j, hj, rfl, hmj⟩ := hrel
        by_cases hjk : j < k
        · have hjki : (j : Int) < (k : Int) := by omega
          obtain ⟨g, off, rfl, hc⟩ := cellY.out _ hmj.out.only j (by have := hyl.out; omega)
          have hjy : (j : Int) < (leny : Int) := by have := hyl.out; omega
          obtain ⟨e1, e2⟩ := er_less (n := 64) (A := Q.take j) (by rw [List.length_take]; have := hk'.out; omega) (Y.getD j 0)
          have st := mine_stash hmj.out (Y.getD j 0)
          rw [e1, e2, ← hQg.out j hjk, ← tk.out Q j (by rw [hQl.out]; exact hjk), hQg.out j hjk] at st
          have st' := Lib.hid st
          have his := Lib.hid hjk
          clear st e1 e2 hjk hj
          generalize Y.getD j 0 = x at *
          go_wp2_with (go_at_call 12; go_loud ((with_reducible refine st'.out.mono ?_); rintro e w3 ⟨rfl, h⟩; have k3 := Lib.hid h; clear h))
          go_roundw
          case rel => exact ⟨j + 1, his.out, by go_num, k3⟩
          case measure => have := his.out; have := hk'.out; simp [intOf]; omega
        · obtain rfl : j = k := by omega
          have hj0 : ¬ (j : Int) < (j : Int) := by omega
          have eQ : Q.take j = Q := List.take_of_length_le (by rw [hQl.out]; exact Nat.le_refl _)
          rw [eQ] at hmj
          have un := mine_unstash hmj.out (by rw [hPl.out]; have := hn'.out; omega)
          rw [hQl.out] at un
          have un' := Lib.hid un
          obtain ⟨Z, hZ⟩ : ∃ Z, Z = Q ++ P := ⟨_, rfl⟩
          rw [← hZ] at un'
          have un2 := Lib.hid (fun (w5 : World) (h : Mine w w5 hb 64 [] Z) => show Calls Try.prog 13 #[.pointer (some ⟨hb, 0, none⟩)] w5 fun e w' => e = .returned (.int .i64 0) ∧ Mine w w' hb 64 [] Z from mine_unstash h (by rw [hZ, List.length_append, hQl.out, hPl.out]; have := hn'.out; have := hk'.out; omega))
          have hZl := Lib.hid (show Z.length = j + i by rw [hZ, List.length_append, hQl.out, hPl.out])
          have hZ1 := Lib.hid (fun (q : Nat) (hq : q < j) => show Z.getD q 0 = Y.getD q 0 from by
            rw [hZ, ← hQg.out q hq, List.getD_eq_getElem?_getD, List.getD_eq_getElem?_getD, List.getElem?_append_left (by rw [hQl.out]; exact hq)])
          have hZ2 := Lib.hid (fun (q : Nat) (hq : q < j + i) (hj : ¬ q < j) => show Z.getD q 0 = X.getD (q - j) 0 from by
            rw [hZ, ← hPg.out (q - j) (by omega), List.getD_eq_getElem?_getD, List.getD_eq_getElem?_getD, List.getElem?_append_right (by rw [hQl.out]; omega), hQl.out])
          clear un eQ hmj hj hjk hZ
          go_wp2_with (first
            | (go_at_call 13; go_loud ((with_reducible refine un'.out.mono ?_); rintro e w5 ⟨rfl, h⟩; have k5 := Lib.hid h; clear h un'))
            | (go_at_call 13; go_loud ((with_reducible refine (un2.out _ k5.out).mono ?_); rintro e w6 ⟨rfl, h⟩; have k6 := Lib.hid h; clear h un2)))
          go_loopw [10, 11, 12] (fun s10 _ _ wz => ∃ (q : Nat), q ≤ j + i ∧ s10 = .int .i64 (q : Int) ∧ Hid (Mine w wz hb 64 [] (Z.drop q)))
            (fun s10 _ _ _ => 200 - (intOf s10).toNat)
          case atStart => exact ⟨0, Nat.zero_le _, rfl, k6⟩
          case round =>
            obtain ⟨q, hq, rfl, hmq⟩ := hrel
            have hs : IntKind.i64.wrap ((j : Int) + (i : Int)) = (j : Int) + (i : Int) := by rw [IntKind.wrap_i64]; omega
            by_cases hqz : q < j + i
            · have hqi : (q : Int) < (j : Int) + (i : Int) := by omega
              rw [dk.out Z q (by rw [hZl.out]; exact hqz)] at hmq
              have ne := Lib.hid (mine_some hmq.out (by rw [List.length_drop, hZl.out]; have := hn'.out; have := hk'.out; omega))
              have only := hmq.out.only
              have hqs := Lib.hid hqz
              by_cases hqj : q < j
              · obtain ⟨g, off, rfl, hc⟩ := cellY.out _ only q (by have := hyl.out; omega)
                have hY := Lib.hid (fun (wx : World) (ox : Only Nil w wx) => cellY.out wx ox q (by have := hyl.out; omega))
                rw [hZ1.out q hqj] at ne
                have h1 : (q : Int) < (j : Int) := by omega
                have h2 : ¬ (j : Int) ≤ (q : Int) := by omega
                have hly : (q : Int) < (leny : Int) := by have := hyl.out; omega
                clear hqz hq hqj only hmq hc
                generalize Y.getD q 0 = x at *
                go_wp2_with (go_at_call 15; go_loud ((with_reducible refine ne.out.mono ?_); rintro e w7 ⟨rfl, h⟩; have k7 := Lib.hid h; clear h; obtain ⟨g', off', e0, hc⟩ := hY.out _ k7.out.only; injection e0 with e0; injection e0 with e0 e00; subst e0 e00; clear hY))
                refine ⟨?rel, ?measure⟩
                case rel => exact ⟨q + 1, hqs.out, by go_num, k7⟩
                case measure => have := hqs.out; have := hn'.out; have := hk'.out; simp [intOf]; omega
              · obtain ⟨g, off, rfl, hc⟩ := cellX.out _ only (q - j) (by have := hxl.out; omega)
                have hY := Lib.hid (fun (wx : World) (ox : Only Nil w wx) => cellX.out wx ox (q - j) (by have := hxl.out; omega))
                rw [hZ2.out q hqz hqj] at ne
                have h1 : ¬ (q : Int) < (j : Int) := by omega
                have h2 : (j : Int) ≤ (q : Int) := by omega
                obtain ⟨d, hd⟩ : ∃ d, d = q - j := ⟨_, rfl⟩
                rw [← hd] at ne hY hc
                have hs2 : IntKind.i64.wrap ((q : Int) - (j : Int)) = (d : Int) := by rw [IntKind.wrap_i64]; omega
                have hlx : (d : Int) < (lenx : Int) := by have := hxl.out; omega
                clear hqz hq hqj only hmq hc hd
                generalize X.getD d 0 = x at *
                go_wp2_with (go_at_call 15; go_loud ((with_reducible refine ne.out.mono ?_); rintro e w7 ⟨rfl, h⟩; have k7 := Lib.hid h; clear h; obtain ⟨g', off', e0, hc⟩ := hY.out _ k7.out.only; injection e0 with e0; injection e0 with e0 e00; subst e0 e00; clear hY))
                refine ⟨?rel, ?measure⟩
                case rel => exact ⟨q + 1, hqs.out, by go_num, k7⟩
                case measure => have := hqs.out; have := hn'.out; have := hk'.out; simp [intOf]; omega
            · obtain rfl : q = j + i := by omega
              have hq0 : ¬ (j : Int) + (i : Int) < (j : Int) + (i : Int) := by omega
              have eZ : Z.drop (j + i) = [] := List.drop_of_length_le (by rw [hZl.out]; exact Nat.le_refl _)
              rw [eZ] at hmq
              have ne := Lib.hid (mine_none hmq.out)
              have only := Lib.hid hmq.out.only
              clear eZ hmq hqz hq
              go_wp2_with (go_at_call 15; go_loud ((with_reducible refine ne.out.mono ?_); rintro e w7 ⟨rfl, rfl⟩))
              go_ret
              exact ⟨rfl, only.out.below (Nat.le_refl _) (fun _ h => h.elim)⟩
end Go.Proofs.Ytdhfmocjhcgicaa.St
