/- LexNumbers' walk. -/
import Derived.Test.YthhnfliklegefaaDoorLxM
import Derived.Test.YthhnfliklegefaaDoorLxNuB
namespace Go.Proofs.YthhnfliklegefaaDoor.Lx
open Go.RowKit Go.Proofs.YthhnfliklegefaaDoor

theorem rep_snoc (i : Nat) (D : List UInt8) : 48 :: (List.replicate i 48 ++ D) = List.replicate (i + 1) 48 ++ D := by rw [List.replicate_succ, List.cons_append]

set_option maxRecDepth 100000 in
set_option maxHeartbeats 2000000 in
theorem numbers_neg (n : Int) (k : Int) (w : World) (E : Env w) (h : n < 0) : Calls Tryd.prog 7 #[.int .i64 n, .int .u8 k] w fun e w' => e = .returned (.bool true) ∧ Below w.heap.size w w' := by
  have HE := Lib.hid E
  clear E
  go_enter Tryd.func7, Tryd.ntmps7
  go_wp2_with fail
  refine (alive_any w HE.out).mono ?_
  rintro e w1 ⟨rfl, o1⟩
  go_wp2
  go_ret
  exact ⟨rfl, o1.below (Nat.le_refl _) (fun k h => h.elim)⟩

set_option maxRecDepth 100000 in
set_option maxHeartbeats 2000000 in
theorem numbers_pos (n k : Nat) (w : World) (E : Env w) (hn : n < 9223372036854775808) (hk : k ≤ 255) : Calls Tryd.prog 7 #[.int .i64 (n : Int), .int .u8 (k : Int)] w fun e w' => e = .returned (.bool true) ∧ Below w.heap.size w w' := by
  have HE := Lib.hid E
  have HN := Lib.hid hn
  clear E hn
  by_cases hb : n ≤ 65535
  · go_enter Tryd.func7, Tryd.ntmps7
    go_wp2_with fail
    refine (alive_any w HE.out).mono ?_
    rintro e w1 ⟨rfl, o1⟩
    go_wp2_with fail
    refine (decimal_any n HN.out w1).mono ?_
    rintro e w2 ⟨D, rfl, hD, hl, o2⟩
    have HD := Lib.hid hD
    have O2 := Lib.hid (o1.trans o2)
    clear hD
    go_wp2_with fail
    go_loopw [5, 6] (fun s5 s6 wr => ∃ i : Nat, i ≤ k ∧ s5 = .string (bs (List.replicate i 48 ++ D)) ∧ s6 = .int .i64 (i : Int) ∧ Only Nil w wr) (fun _ s6 _ => k - (intOf s6).toNat)
    case atStart => exact ⟨0, Nat.zero_le _, rfl, rfl, O2.out⟩
    case round =>
      obtain ⟨i, hi, rfl, rfl, o⟩ := hrel
      by_cases hlt : i < k
      · have hadd : ∀ w, (Op.stringOp .add ⟨#[48]⟩ (bs (List.replicate i 48 ++ D))).run Tryd.prog w = .ok (.string (bs (List.replicate (i + 1) 48 ++ D))) w := fun w => by
          have := str_add [48] (List.replicate i 48 ++ D) (by simp; omega) w
          rw [← rep_snoc]; exact this
        go_wp2
        go_roundw
        case rel => exact ⟨i + 1, hlt, rfl, by go_num, o⟩
        case measure => simp [intOf]; omega
      · obtain rfl : i = k := by omega
        have HY := Lib.hid (HD.out.more i)
        have hYl : (List.replicate i 48 ++ D).length ≤ 300 := by simp; omega
        generalize (List.replicate i 48 ++ D) = Y at *
        have ha1 : ∀ w, (Op.stringOp .add (bs Y) ⟨#[59]⟩).run Tryd.prog w = .ok (.string (bs (Y ++ [59]))) w := fun w => str_add Y [59] (by simp; omega) w
        have ha2 : ∀ w, (Op.stringOp .add (bs Y) ⟨#[95]⟩).run Tryd.prog w = .ok (.string (bs (Y ++ [95]))) w := fun w => str_add Y [95] (by simp; omega) w
        go_wp2_with fail
        refine (all_ok (Y ++ [59]) wr (by simp; omega) (HE.out.keep o) (by rw [whole_num HY.out hb (by omega)]) _ (by rw [whole_num HY.out hb (by omega)]) 2 rfl).mono ?_
        rintro e w3 ⟨a, c, rfl, R⟩
        have HR := Lib.hid R
        obtain ⟨g, ha, _, hc⟩ := (R.rin rfl) 0 (by simp)
        subst ha
        obtain ⟨d0, d1, d2, d3⟩ := hc 0 (by simp)
        have c1 : w3.cell? ⟨g, 1, none⟩ = some (.string (bs Y)) := d1
        have c2 : w3.cell? ⟨g, 2, none⟩ = some (.int .i64 (n : Int)) := d2
        clear hc d0 d1 d2 d3 R
        go_wp2_with fail
        refine (all_err (Y ++ [95]) w3 (by simp; omega) (HE.out.keep (o.trans HR.out.only)) 21 0 (whole_und HY.out (by omega)) (by decide)).mono ?_
        rintro e w4 ⟨b4, rfl, F4, o4⟩
        have c1' := only_cell o4 c1
        have c2' := only_cell o4 c2
        have F4' := Lib.hid F4
        clear F4 c1 c2
        go_wp2_with fail
        refine (code_fault b4 21 0 w4 F4'.out (HE.out.keep ((o.trans HR.out.only).trans o4))).mono ?_
        rintro e w5 ⟨rfl, o5⟩
        go_wp2
        go_ret
        exact ⟨rfl, (((o.trans HR.out.only).trans o4).trans o5).below (Nat.le_refl _) (fun k h => h.elim)⟩
  · go_enter Tryd.func7, Tryd.ntmps7
    go_wp2_with fail
    refine (alive_any w HE.out).mono ?_
    rintro e w1 ⟨rfl, o1⟩
    go_wp2_with fail
    refine (decimal_any n HN.out w1).mono ?_
    rintro e w2 ⟨D, rfl, hD, hl, o2⟩
    have HD := Lib.hid hD
    have O2 := Lib.hid (o1.trans o2)
    clear hD
    go_wp2_with fail
    go_loopw [5, 6] (fun s5 s6 wr => ∃ i : Nat, i ≤ k ∧ s5 = .string (bs (List.replicate i 48 ++ D)) ∧ s6 = .int .i64 (i : Int) ∧ Only Nil w wr) (fun _ s6 _ => k - (intOf s6).toNat)
    case atStart => exact ⟨0, Nat.zero_le _, rfl, rfl, O2.out⟩
    case round =>
      obtain ⟨i, hi, rfl, rfl, o⟩ := hrel
      by_cases hlt : i < k
      · have hadd : ∀ w, (Op.stringOp .add ⟨#[48]⟩ (bs (List.replicate i 48 ++ D))).run Tryd.prog w = .ok (.string (bs (List.replicate (i + 1) 48 ++ D))) w := fun w => by
          have := str_add [48] (List.replicate i 48 ++ D) (by simp; omega) w
          rw [← rep_snoc]; exact this
        go_wp2
        go_roundw
        case rel => exact ⟨i + 1, hlt, rfl, by go_num, o⟩
        case measure => simp [intOf]; omega
      · obtain rfl : i = k := by omega
        have HY := Lib.hid (HD.out.more i)
        have hYl : (List.replicate i 48 ++ D).length ≤ 300 := by simp; omega
        generalize (List.replicate i 48 ++ D) = Y at *
        have ha1 : ∀ w, (Op.stringOp .add (bs Y) ⟨#[59]⟩).run Tryd.prog w = .ok (.string (bs (Y ++ [59]))) w := fun w => str_add Y [59] (by simp; omega) w
        go_wp2_with fail
        refine (all_err (Y ++ [59]) wr (by simp; omega) (HE.out.keep o) 21 0 (whole_big HY.out hb (by omega)) (by decide)).mono ?_
        rintro e w3 ⟨b3, rfl, F3, o3⟩
        have F3' := Lib.hid F3
        clear F3
        go_wp2_with fail
        refine (code_fault b3 21 0 w3 F3'.out (HE.out.keep (o.trans o3))).mono ?_
        rintro e w4 ⟨rfl, o4⟩
        go_wp2_with fail
        refine (at_fault b3 21 0 w4 (F3'.out.keep o4) (HE.out.keep ((o.trans o3).trans o4))).mono ?_
        rintro e w5 ⟨rfl, o5⟩
        go_wp2
        go_ret
        exact ⟨rfl, (((o.trans o3).trans o4).trans o5).below (Nat.le_refl _) (fun k h => h.elim)⟩

theorem numbers_all (n k : Int) (w : World) (E : Env w) (hn : (Lit.int .i64 n).wf = true) (hk : (Lit.int .u8 k).wf = true) : Calls Tryd.prog 7 #[.int .i64 n, .int .u8 k] w fun e w' => e = .returned (.bool true) ∧ Below w.heap.size w w' := by
  by_cases h : n < 0
  · exact numbers_neg n k w E h
  · obtain ⟨m, rfl⟩ : ∃ m : Nat, n = m := ⟨n.toNat, by omega⟩
    have hk' : 0 ≤ k ∧ k ≤ 255 := by
      simp [Lit.wf, IntKind.min, IntKind.max, IntKind.signed, IntKind.bits] at hk
      omega
    obtain ⟨j, rfl⟩ : ∃ j : Nat, k = j := ⟨k.toNat, by omega⟩
    exact numbers_pos m j w E (by simp [Lit.wf, IntKind.min, IntKind.max, IntKind.signed, IntKind.bits] at hn; omega) (by omega)
end Go.Proofs.YthhnfliklegefaaDoor.Lx
