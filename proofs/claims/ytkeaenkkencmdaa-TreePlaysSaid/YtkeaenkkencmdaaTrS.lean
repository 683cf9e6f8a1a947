/- tree: the law's same: all that is told of a number is the document's. -/
import Derived.Test.YtkeaenkkencmdaaTrR
set_option linter.unusedSimpArgs false
set_option linter.unusedVariables false
namespace Go.Proofs.Ytkeaenkkencmdaa.Tr
open Go.RowKit Go.Proofs.Ytkeaenkkencmdaa

set_option maxRecDepth 100000 in
set_option maxHeartbeats 8000000 in
theorem same_any {W w : World} {K : Nat → Prop} {tb : Nat} {T : List Mb} {a : Option Addr} {n c : Nat} (hS : St W K w tb T) (hM : MIn w a T) (hn : T.length = n) (few : n ≤ 1000) (x : Int) (wx : (Lit.int .i64 x).wf = true) :
    Calls Try.prog 14 #[.pointer (some ⟨tb, 0, none⟩), .slice a n c, .int .i64 x] w fun e w' => e = .returned (.bool true) ∧ Only Nil w w' := by
  have G := hS.good
  have AT := Lib.hid (rat_any (c := c) hM hn few x)
  have PR := Lib.hid (st_parent hS x wx)
  have HH := Lib.hid (st_has hS x wx)
  have KT := Lib.hid (st_kids hS x wx (by omega))
  have KR := Lib.hid (fun (w' : World) (o : Only Nil w w') => rkids_any (c := c) (hM.nil o) hn few x)
  have PT := Lib.hid (fun (w' : World) (o : Only Nil w w') => st_path (hS.nil o) x wx (by omega))
  have RP := Lib.hid (fun (w' : World) (o : Only Nil w w') => rpath_any (c := c) G (hM.nil o) hn few x)
  have BT := Lib.hid (fun (w' : World) (o : Only Nil w w') => st_below (hS.nil o) x wx (by omega))
  have RB := Lib.hid (fun (w' : World) (o : Only Nil w w') => rbel_any (c := c) G (hM.nil o) hn few x)
  have lk := Lib.hid (kidsT_len G x)
  have lp := Lib.hid (path_len (T := T) (x := x))
  have lb := Lib.hid (belT_len G x)
  have HN := Lib.hid hn
  have few' : (n : Int) ≤ 1000 := by omega
  have IN := Lib.hid (fun (wa wb wc : World) (L : List Int) (a1 a2 : Option Addr) (n1 c1 c2 : Nat) (F1 : Fr wa wb (.slice a1 n1 c1) L) (F2 : Fr wb wc (.slice a2 n1 c2) L) (h : L.length = n1) (hl : L.length ≤ T.length) => show Calls Try.prog 21 #[.slice a1 n1 c1, .slice a2 n1 c2] wc fun e w' => e = .returned (.bool true) ∧ Only Nil wc w' from
    ints_yes ((own_ints F1.row).nil F2.only) (own_ints F2.row) h (by have := HN.out; omega))
  have hpl := pos_le T x
  have O0 := Lib.hid (Only.refl Nil w)
  cases hx : has T x with
  | true =>
    rw [hx] at PR HH
    rw [atI_ge hx] at AT
    have hp := pos_lt.1 hx
    obtain ⟨q, hq⟩ : ∃ q, q = pos T x := ⟨_, rfl⟩
    have hat := Lib.hid (at_pos hx)
    rw [← hq] at hp hat AT hpl
    obtain ⟨g, rfl, _, hc⟩ := hM q hp
    have y1 := (hc q hp).2
    rw [hat.out.2] at y1
    have hqn : (q : Int) < (n : Int) := by omega
    clear hS hM hn G hx hq hc hat hp
    go_enter Try.func14, Try.ntmps14
    go_upto_region 5 with (first
      | (go_at_call 22; (with_reducible refine AT.out.mono ?_); rintro e w' ⟨rfl, rfl⟩)
      | (go_at_call 19; (with_reducible refine PR.out.mono ?_); rintro e w' ⟨rfl, rfl⟩)
      | (go_at_call 17; (with_reducible refine HH.out.mono ?_); rintro e w' ⟨rfl, rfl⟩))
    clear AT PR HH y1
    go_wp2_with (first
      | (go_at_call 20; (with_reducible refine KT.out.mono ?_); rintro e w1 ⟨a1, n1, c1, rfl, hn1, F1⟩; have L1 := Lib.hid hn1; clear hn1 KT)
      | (go_at_call 23; (with_reducible refine (KR.out w1 F1.out.only).mono ?_); rintro e w2 ⟨a2, n2, c2, rfl, hn2, F2⟩; obtain rfl : n2 = n1 := hn2.symm.trans L1.out; have I1 := Lib.hid (IN.out _ _ _ _ a1 a2 _ c1 c2 F1.out F2.out L1.out lk.out); have O2 := Lib.hid (F1.out.only.trans F2.out.only); clear hn2 KR)
      | (go_at_call 21; (with_reducible refine I1.out.mono ?_); rintro e w3 ⟨rfl, o3⟩; have O3 := Lib.hid (O2.out.trans o3); have PT3 := Lib.hid (PT.out w3 O3.out); clear o3 I1)
      | (go_at_call 18; (with_reducible refine PT3.out.mono ?_); rintro e w4 ⟨a4, n4, c4, rfl, hn4, F4⟩; have L4 := Lib.hid hn4; clear hn4 PT3)
      | (go_at_call 26; (with_reducible refine (RP.out w4 (O3.out.trans F4.out.only)).mono ?_); rintro e w5 ⟨a5, n5, c5, rfl, hn5, F5⟩; obtain rfl : n5 = n4 := hn5.symm.trans L4.out; have I4 := Lib.hid (IN.out _ _ _ _ a4 a5 _ c4 c5 F4.out F5.out L4.out lp.out); have O5 := Lib.hid ((O3.out.trans F4.out.only).trans F5.out.only); clear hn5 RP)
      | (go_at_call 21; (with_reducible refine I4.out.mono ?_); rintro e w6 ⟨rfl, o6⟩; have O6 := Lib.hid (O5.out.trans o6); have BT6 := Lib.hid (BT.out w6 O6.out); clear o6 I4)
      | (go_at_call 16; (with_reducible refine BT6.out.mono ?_); rintro e w7 ⟨a7, n7, c7, rfl, hn7, F7⟩; have L7 := Lib.hid hn7; clear hn7 BT6)
      | (go_at_call 27; (with_reducible refine (RB.out w7 (O6.out.trans F7.out.only)).mono ?_); rintro e w8 ⟨a8, n8, c8, rfl, hn8, F8⟩; obtain rfl : n8 = n7 := hn8.symm.trans L7.out; have I7 := Lib.hid (IN.out _ _ _ _ a7 a8 _ c7 c8 F7.out F8.out L7.out lb.out); have O8 := Lib.hid ((O6.out.trans F7.out.only).trans F8.out.only); clear hn8 RB)
      | (go_at_call 21; (with_reducible refine I7.out.mono ?_); rintro e w9 ⟨rfl, o9⟩; have O9 := Lib.hid (O8.out.trans o9); clear o9 I7))
    go_ret
    exact ⟨rfl, O9.out⟩
  | false =>
    rw [hx, par_none hx] at PR
    rw [hx] at HH
    rw [atI_lt hx] at AT
    clear hS hM hn G hx hpl
    go_enter Try.func14, Try.ntmps14
    go_upto_region 5 with (first
      | (go_at_call 22; (with_reducible refine AT.out.mono ?_); rintro e w' ⟨rfl, rfl⟩)
      | (go_at_call 19; (with_reducible refine PR.out.mono ?_); rintro e w' ⟨rfl, rfl⟩)
      | (go_at_call 17; (with_reducible refine HH.out.mono ?_); rintro e w' ⟨rfl, rfl⟩))
    clear AT PR HH
    go_wp2_with (first
      | (go_at_call 20; (with_reducible refine KT.out.mono ?_); rintro e w1 ⟨a1, n1, c1, rfl, hn1, F1⟩; have L1 := Lib.hid hn1; clear hn1 KT)
      | (go_at_call 23; (with_reducible refine (KR.out w1 F1.out.only).mono ?_); rintro e w2 ⟨a2, n2, c2, rfl, hn2, F2⟩; obtain rfl : n2 = n1 := hn2.symm.trans L1.out; have I1 := Lib.hid (IN.out _ _ _ _ a1 a2 _ c1 c2 F1.out F2.out L1.out lk.out); have O2 := Lib.hid (F1.out.only.trans F2.out.only); clear hn2 KR)
      | (go_at_call 21; (with_reducible refine I1.out.mono ?_); rintro e w3 ⟨rfl, o3⟩; have O3 := Lib.hid (O2.out.trans o3); have PT3 := Lib.hid (PT.out w3 O3.out); clear o3 I1)
      | (go_at_call 18; (with_reducible refine PT3.out.mono ?_); rintro e w4 ⟨a4, n4, c4, rfl, hn4, F4⟩; have L4 := Lib.hid hn4; clear hn4 PT3)
      | (go_at_call 26; (with_reducible refine (RP.out w4 (O3.out.trans F4.out.only)).mono ?_); rintro e w5 ⟨a5, n5, c5, rfl, hn5, F5⟩; obtain rfl : n5 = n4 := hn5.symm.trans L4.out; have I4 := Lib.hid (IN.out _ _ _ _ a4 a5 _ c4 c5 F4.out F5.out L4.out lp.out); have O5 := Lib.hid ((O3.out.trans F4.out.only).trans F5.out.only); clear hn5 RP)
      | (go_at_call 21; (with_reducible refine I4.out.mono ?_); rintro e w6 ⟨rfl, o6⟩; have O6 := Lib.hid (O5.out.trans o6); have BT6 := Lib.hid (BT.out w6 O6.out); clear o6 I4)
      | (go_at_call 16; (with_reducible refine BT6.out.mono ?_); rintro e w7 ⟨a7, n7, c7, rfl, hn7, F7⟩; have L7 := Lib.hid hn7; clear hn7 BT6)
      | (go_at_call 27; (with_reducible refine (RB.out w7 (O6.out.trans F7.out.only)).mono ?_); rintro e w8 ⟨a8, n8, c8, rfl, hn8, F8⟩; obtain rfl : n8 = n7 := hn8.symm.trans L7.out; have I7 := Lib.hid (IN.out _ _ _ _ a7 a8 _ c7 c8 F7.out F8.out L7.out lb.out); have O8 := Lib.hid ((O6.out.trans F7.out.only).trans F8.out.only); clear hn8 RB)
      | (go_at_call 21; (with_reducible refine I7.out.mono ?_); rintro e w9 ⟨rfl, o9⟩; have O9 := Lib.hid (O8.out.trans o9); clear o9 I7))
    go_ret
    exact ⟨rfl, O9.out⟩
end Go.Proofs.Ytkeaenkkencmdaa.Tr
