/- ParseEnds' walk. -/
import Derived.Test.YtdhokkmflccaaaaGreatDoorPsMc
set_option linter.unusedVariables false
namespace Go.Proofs.YtdhokkmflccaaaaGreatDoor.Ps
open Go.RowKit Go.Proofs.YtdhokkmflccaaaaGreatDoor Lx

set_option maxRecDepth 100000 in
set_option maxHeartbeats 2000000 in
theorem ends_bad (l : List UInt8) (at_ : Int) (w : World) (hl : l.length ≤ 140737488355328) (E : Env w) (T : Tab w) (z q : Nat) (h : prog l = .bad z q) :
    Calls Tryz.prog 9 #[.string (bs l), .int .i64 at_] w fun e w' => e = .returned (.bool true) ∧ Below w.heap.size w w' := by
  have HE := Lib.hid E
  have HA := Lib.hid (alive_any w E T)
  have HP := Lib.hid (fun w E => prog_bad_any l w hl E z q h)
  have hz : (bs l).size = l.length := bs_size l
  clear E T h
  go_enter Tryz.func9, Tryz.ntmps9
  go_wp2_with fail
  refine HA.out.mono ?_
  rintro e w1 ⟨rfl, o1⟩
  go_wp2_with fail
  refine (HP.out w1 (HE.out.keep o1)).mono ?_
  rintro e w2 ⟨b, rfl, F, o2⟩
  go_wp2
  go_ret
  exact ⟨rfl, below_nil ((o1.trans o2).trans ((Only.refl Nil w2).alloc _))⟩
set_option maxRecDepth 100000 in
set_option maxHeartbeats 2000000 in
theorem ends_out (l : List UInt8) (at_ : Int) (w : World) (hl : l.length ≤ 140737488355328) (E : Env w) (T : Tab w) (P : List Kd) (h : prog l = .ok P) (ho : at_ < 0 ∨ (0 ≤ at_ ∧ (l.length : Int) < at_)) :
    Calls Tryz.prog 9 #[.string (bs l), .int .i64 at_] w fun e w' => e = .returned (.bool true) ∧ Below w.heap.size w w' := by
  have HE := Lib.hid E
  have HA := Lib.hid (alive_any w E T)
  have HP := Lib.hid (fun w E => prog_ok_at l w hl E P h _ rfl)
  have hz : (bs l).size = l.length := bs_size l
  clear E T h
  rcases ho with ho | ⟨ho1, ho2⟩
  · go_enter Tryz.func9, Tryz.ntmps9
    go_wp2_with fail
    refine HA.out.mono ?_
    rintro e w1 ⟨rfl, o1⟩
    go_wp2_with fail
    refine (HP.out w1 (HE.out.keep o1)).mono ?_
    rintro e w2 ⟨a, c, rfl, F, o2⟩
    go_wp2
    go_ret
    exact ⟨rfl, below_nil ((o1.trans o2).trans ((Only.refl Nil w2).alloc _))⟩
  · have h3 : ¬ at_ < 0 := by omega
    go_enter Tryz.func9, Tryz.ntmps9
    go_wp2_with fail
    refine HA.out.mono ?_
    rintro e w1 ⟨rfl, o1⟩
    go_wp2_with fail
    refine (HP.out w1 (HE.out.keep o1)).mono ?_
    rintro e w2 ⟨a, c, rfl, F, o2⟩
    go_wp2
    go_ret
    exact ⟨rfl, below_nil ((o1.trans o2).trans ((Only.refl Nil w2).alloc _))⟩
set_option maxRecDepth 100000 in
set_option maxHeartbeats 4000000 in
theorem ends_in (l : List UInt8) (k : Nat) (w : World) (hl : l.length ≤ 140737488355328) (E : Env w) (T : Tab w) (P : List Kd) (h : prog l = .ok P) (hk : k ≤ l.length) :
    Calls Tryz.prog 9 #[.string (bs l), .int .i64 (k : Int)] w fun e w' => e = .returned (.bool true) ∧ Below w.heap.size w w' := by
  have HE := Lib.hid E
  have HA := Lib.hid (alive_any w E T)
  have HP := Lib.hid (fun w E => prog_ok_at l w hl E P h _ rfl)
  have hz : (bs l).size = l.length := bs_size l
  have hc := prog_cut h k hk
  have hml : (l.take k).length ≤ 140737488355328 := by rw [List.length_take]; omega
  have hsl : ∀ w, (Instr.slice 9 (.string (bs l)) none (some (.int .i64 (k : Int))) none).run Tryz.prog w = .ok (.string (bs (l.take k))) w := fun w => str_to l k hk w
  have k1 : ¬ (k : Int) < 0 := by omega
  have k2 : ¬ (l.length : Int) < (k : Int) := by omega
  clear E T h hk
  generalize l.take k = m at *
  generalize l.length = n at *
  go_enter Tryz.func9, Tryz.ntmps9
  go_wp2_with fail
  refine HA.out.mono ?_
  rintro e w1 ⟨rfl, o1⟩
  go_wp2_with fail
  refine (HP.out w1 (HE.out.keep o1)).mono ?_
  rintro e w2 ⟨a, c, rfl, F, o2⟩
  have O3 := Lib.hid ((o1.trans o2).trans ((Only.refl Nil w2).alloc (.cells #[.slice a P.length c] 25)))
  go_upto_region 6 with (fail)
  generalize w2.heap.size = B2 at *
  generalize w2.alloc (.cells #[.slice a P.length c] 25) = w3 at *
  clear F o1 o2
  rcases hc with ⟨P', hc⟩ | hc | ⟨X1, y, h0, hX, hc, hy⟩
  · have HC := Lib.hid (prog_ok_at m w3 hml (HE.out.keep O3.out) P' hc _ rfl)
    clear hc
    go_wp2_with fail
    refine HC.out.mono ?_
    rintro e w4 ⟨a4, c4, rfl, F, o4⟩
    go_wp2
    go_ret
    exact ⟨rfl, below_nil ((O3.out.trans o4).trans ((Only.refl Nil w4).alloc _))⟩
  · have HC := Lib.hid (prog_bad_any m w3 hml (HE.out.keep O3.out) 31 k hc)
    clear hc
    go_wp2_with fail
    refine HC.out.mono ?_
    rintro e w4 ⟨b4, rfl, F, o4⟩
    have o5 := (O3.out.trans o4).trans ((Only.refl Nil w4).alloc (.cells #[.slice none 0 0] 25))
    have F5 := F.keep ((Only.refl Nil w4).alloc (.cells #[.slice none 0 0] 25))
    go_upto_region 7 with (fail)
    generalize w4.alloc (.cells #[.slice none 0 0] 25) = w5 at *
    have H5 := Lib.hid o5
    have HF5 := Lib.hid F5
    have HE5 := Lib.hid (HE.out.keep o5)
    clear F F5 o4 o5
    go_wp2_with fail
    refine (code_fault b4 _ _ w5 HF5.out HE5.out).mono ?_
    rintro e w6 ⟨rfl, o6⟩
    go_wp2_with fail
    refine (at_fault b4 _ _ w6 (HF5.out.keep o6) (HE5.out.keep o6)).mono ?_
    rintro e w7 ⟨rfl, o7⟩
    go_wp2
    go_ret
    exact ⟨rfl, below_nil ((H5.out.trans o6).trans o7)⟩
  · have HC := Lib.hid (prog_bad_any m w3 hml (HE.out.keep O3.out) 30 y.2 hc)
    have HX := Lib.hid hX
    have HW := Lib.hid h0
    have HM := Lib.hid hml
    have HY := Lib.hid hy
    clear hc hX h0 hml hy
    obtain ⟨⟨yk, yw, yn⟩, yq⟩ := y
    go_wp2_with fail
    refine HC.out.mono ?_
    rintro e w4 ⟨b4, rfl, F, o4⟩
    have o5 := (O3.out.trans o4).trans ((Only.refl Nil w4).alloc (.cells #[.slice none 0 0] 25))
    have F5 := F.keep ((Only.refl Nil w4).alloc (.cells #[.slice none 0 0] 25))
    go_upto_region 7 with (fail)
    generalize w4.alloc (.cells #[.slice none 0 0] 25) = w5 at *
    have H5 := Lib.hid o5
    have HF5 := Lib.hid F5
    have HE5 := Lib.hid (HE.out.keep o5)
    clear F F5 o4 o5
    go_wp2_with fail
    refine (code_fault b4 _ _ w5 HF5.out HE5.out).mono ?_
    rintro e w6 ⟨rfl, o6⟩
    go_wp2_with fail
    refine (all_ok m w6 HM.out (HE5.out.keep o6) HW.out _ HX.out (X1.length + 1) (by simp)).mono ?_
    rintro e w7 ⟨a7, c7, rfl, R7⟩
    have HF7 := Lib.hid (HF5.out.keep (o6.trans R7.only))
    have HE7 := Lib.hid (HE5.out.keep (o6.trans R7.only))
    have O7 := Lib.hid ((H5.out.trans o6).trans R7.only)
    obtain ⟨g, rfl, hg, hcs⟩ := (R7.rin (by simp)) X1.length (by simp)
    obtain ⟨c0, c1, c2, c3⟩ := hcs X1.length (by simp)
    rw [snoc_at] at c0 c1 c2 c3
    clear hcs R7 o6
    have hsz : (bs yw).size = yw.length := bs_size yw
    have hy : (yq : Int) + (yw.length : Int) = (k : Int) := by have := HY.out; omega
    go_upto_region 12 with (fail)
    have few : (X1.length : Int) ≤ 20000 := by
      have := whole_len m
      rw [HX.out] at this
      simp at this; omega
    generalize X1.length = n1 at *
    have b0 : (0 : Int) ≤ (n1 : Int) := by omega
    have b1 : (n1 : Int) < (n1 : Int) + 1 := by omega
    have b2 : (n1 : Int) + 1 - 1 = (n1 : Int) := by omega
    have b3 : n1 < n1 + 1 := by omega
    have wk : IntKind.i64.wrap ((n1 : Int) + 1 - 1) = (n1 : Int) := by rw [b2]; exact IntWalk.i64_in _ (by omega)
    have wk2 : IntKind.i64.wrap (n1 : Int) = (n1 : Int) := IntWalk.i64_in _ (by omega)
    have wk3 : (IntKind.i64.wrap (k : Int) == (k : Int)) = true := by rw [IntWalk.i64_in (k : Int) (by omega)]; simp
    have b4' : (0 : Int) < (n1 : Int) + 1 := by omega
    have b5' : decide ((0 : Int) < (n1 : Int) + 1) = true := by simp
    go_region_held3 (fun w' => w'.cell? ⟨g, n1 * 4 + 1, none⟩ = some (.string (bs yw)) ∧ w'.cell? ⟨g, n1 * 4 + 3, none⟩ = some (.int .i64 (yq : Int)))
      (first | exact ⟨c1, c3⟩ | exact ⟨d1, d3⟩ | go_keep)
      ((go_at_call 20; refine (at_fault b4 _ _ w7.drew (HF7.out.keep (Only.refl Nil w7).drew) (HE7.out.keep (Only.refl Nil w7).drew)).mono ?_; rintro e w8 ⟨rfl, o8⟩; have d1 := only_cell0 (w := w7.drew) o8 c1; have d3 := only_cell0 (w := w7.drew) o8 c3))
    go_wp2
    go_ret
    exact ⟨by show Ending.returned (.bool _) = _; first | rw [wk3] | rfl, below_nil (O7.out.trans ((Only.refl Nil w7).drew.trans o8))⟩
theorem ends_all (l : List UInt8) (at_ : Int) (w : World) (hl : l.length ≤ 140737488355328) (E : Env w ∧ Tab w) :
    Calls Tryz.prog 9 #[.string (bs l), .int .i64 at_] w fun e w' => e = .returned (.bool true) ∧ Below w.heap.size w w' := by
  cases h : prog l with
  | bad z q => exact ends_bad l at_ w hl E.1 E.2 z q h
  | ok P =>
    by_cases h0 : at_ < 0
    · exact ends_out l at_ w hl E.1 E.2 P h (Or.inl h0)
    · by_cases h1 : (l.length : Int) < at_
      · exact ends_out l at_ w hl E.1 E.2 P h (Or.inr ⟨by omega, h1⟩)
      · obtain ⟨k, rfl⟩ : ∃ k : Nat, at_ = (k : Int) := ⟨at_.toNat, by omega⟩
        exact ends_in l k w hl E.1 E.2 P h (by omega)
end Go.Proofs.YtdhokkmflccaaaaGreatDoor.Ps
