/- ParsePrograms' walk. -/
import Derived.Test.YtnkokonkbklelaaGreatDoorPpI
import Derived.Test.YtnkokonkbklelaaGreatDoorPsMc
import Derived.Test.YtnkokonkbklelaaGreatDoorPsSm
set_option linter.unusedSimpArgs false
set_option linter.unusedVariables false
namespace Go.Proofs.YtnkokonkbklelaaGreatDoor.Ps
open Go.RowKit Go.Proofs.YtnkokonkbklelaaGreatDoor Lx

theorem prog_code {l : Wd} {z q : Nat} (h : prog l = .bad z q) : z ≠ 0 := by
  unfold prog at h
  split at h
  · cases hp : pProg (whole l).1 with
    | ok P r => rw [hp] at h; cases h
    | bad r =>
      rw [hp] at h
      cases r with
      | nil => cases h; exact (by decide : (31 : Nat) ≠ 0)
      | cons x r => cases h; exact (by decide : (30 : Nat) ≠ 0)
  · rename_i h0
    cases h
    exact h0

set_option maxRecDepth 100000 in
set_option maxHeartbeats 8000000 in
theorem programs_bad (l : List UInt8) (w : World) (hl : l.length ≤ 140737488355328) (E : Env w) (T : Tab w) (z q : Nat) (h : prog l = .bad z q) :
    Calls Tryz.prog 3 #[.string (bs l)] w fun e w' => e = .returned (.bool true) ∧ Below w.heap.size w w' := by
  have HE := Lib.hid E
  have HA := Lib.hid (alive_any w E T)
  have HP := Lib.hid (fun w E => prog_bad_any l w hl E z q h)
  have HR := Lib.hid (fun w => rprogram_any l w hl)
  have HH := Lib.hid h
  have hz0 := prog_code h
  have hz1 : ¬ (z : Int) = 0 := by omega
  have hzz : ((z : Int) == (z : Int)) = true := by simp
  have hqq : ((q : Int) == (q : Int)) = true := by simp
  clear E T h
  go_enter Tryz.func3, Tryz.ntmps3
  go_wp2_with fail
  refine HA.out.mono ?_
  rintro e w1 ⟨rfl, o1⟩
  go_wp2_with fail
  refine (HP.out w1 (HE.out.keep o1)).mono ?_
  rintro e w2 ⟨b, rfl, F, o2⟩
  have o3 : Only Nil w2 (w2.alloc (.cells #[.slice none 0 0] 25)) := (Only.refl Nil w2).alloc _
  have F3 := Lib.hid (F.keep o3)
  have O3 := Lib.hid ((o1.trans o2).trans o3)
  have C3 := Lib.hid (cell_of_row _ w2.heap.size 0 _ _ _ (heap_new w2 (.cells #[.slice none 0 0] 25)))
  clear F o1 o2 o3
  go_upto_region 4 with (fail)
  generalize w2.alloc (.cells #[.slice none 0 0] 25) = w3 at *
  generalize w2.heap.size = B3 at *
  go_wp2_with fail
  refine (HR.out w3).mono ?_
  rintro e w4 ⟨hc, o4⟩
  rcases hc with ⟨P, b', m, d, h1, _⟩ | ⟨z', q', h1, rfl⟩
  · rw [HH.out] at h1; cases h1
  · obtain ⟨rfl, rfl⟩ : z = z' ∧ q = q' := by rw [HH.out] at h1; cases h1; exact ⟨rfl, rfl⟩
    have o5 : Only Nil w3 (w4.alloc (.cells #[.slice none 0 0] 25)) := o4.alloc _
    have F5 := Lib.hid (F3.out.keep o5)
    have O5 := Lib.hid (O3.out.trans o5)
    have c5 := only_cell0 o5 C3.out
    clear F3 O3 C3 o4 o5 h1
    go_upto_region 5 with (fail)
    generalize w4.alloc (.cells #[.slice none 0 0] 25) = w5 at *
    have HE5 := Lib.hid (HE.out.keep O5.out)
    go_wp2_with fail
    refine (code_fault b _ _ w5 F5.out HE5.out).mono ?_
    rintro e w6 ⟨rfl, o6⟩
    go_wp2_with fail
    refine (at_fault b _ _ w6 (F5.out.keep o6) (HE5.out.keep o6)).mono ?_
    rintro e w7 ⟨rfl, o7⟩
    go_wp2
    go_ret
    exact ⟨by first | rfl | (simp; done), below_nil ((O5.out.trans o6).trans o7)⟩
set_option maxRecDepth 100000 in
set_option maxHeartbeats 8000000 in
theorem programs_ok (l : List UInt8) (w : World) (hl : l.length ≤ 140737488355328) (E : Env w) (T : Tab w) (P : List Kd) (h : prog l = .ok P) :
    Calls Tryz.prog 3 #[.string (bs l)] w fun e w' => e = .returned (.bool true) ∧ Below w.heap.size w w' := by
  have HE := Lib.hid E
  have HA := Lib.hid (alive_any w E T)
  have HP := Lib.hid (fun w E => prog_ok_at l w hl E P h _ rfl)
  have HR := Lib.hid (fun w => rprogram_any l w hl)
  have HH := Lib.hid h
  have HS := Lib.hid (prog_write h).2.2.1
  clear E T h
  go_enter Tryz.func3, Tryz.ntmps3
  go_wp2_with fail
  refine HA.out.mono ?_
  rintro e w1 ⟨rfl, o1⟩
  go_wp2_with fail
  refine (HP.out w1 (HE.out.keep o1)).mono ?_
  rintro e w2 ⟨a, c, rfl, X2, o2⟩
  generalize hn : P.length = n at *
  have HN := Lib.hid hn
  clear hn
  have o3 : Only Nil w2 (w2.alloc (.cells #[.slice a n c] 25)) := (Only.refl Nil w2).alloc _
  have X3 := Lib.hid (X2.keep o3 (fun _ _ q => q.elim))
  have O3 := Lib.hid ((o1.trans o2).trans o3)
  have C3 := Lib.hid (cell_of_row _ w2.heap.size 0 _ _ _ (heap_new w2 (.cells #[.slice a n c] 25)))
  have L3 := Lib.hid (show w2.heap.size < (w2.alloc (.cells #[.slice a n c] 25)).heap.size from by simp)
  clear X2 o1 o2 o3
  go_upto_region 4 with (fail)
  generalize w2.alloc (.cells #[.slice a n c] 25) = w3 at *
  generalize w2.heap.size = B3 at *
  go_wp2_with fail
  refine (HR.out w3).mono ?_
  rintro e w4 ⟨hc, o4⟩
  rcases hc with ⟨P', b', m, d, h1, rfl, M⟩ | ⟨z', q', h1, _⟩
  · obtain rfl : P = P' := by rw [HH.out] at h1; cases h1; rfl
    have oA : Only Nil w4 (w4.alloc (.cells #[.slice b' m d] 25)) := (Only.refl Nil w4).alloc _
    have X4 := Lib.hid (X3.out.keep (o4.trans oA) (fun _ _ q => q.elim))
    have Y4 := Lib.hid (M.x.keep oA (fun _ _ q => q.elim))
    have c5 := only_cell0 (o4.trans oA) C3.out
    have d5 := cell_of_row _ w4.heap.size 0 _ _ _ (heap_new w4 (.cells #[.slice b' m d] 25))
    have O5 := Lib.hid (O3.out.trans (o4.trans oA))
    clear X3 M C3 L3 o4 oA h1 O3
    go_upto_region 5 with (fail)
    generalize w4.alloc (.cells #[.slice b' m d] 25) = w5 at *
    generalize w4.heap.size = B5 at *
    have KS := Lib.hid (show Calls Tryz.prog 9 #[.agg #[.slice a n c], .agg #[.slice b' m d]] w5 fun e w' => e = .returned (.bool true) ∧ Only Nil w5 w' from by
      have := rsame_any X4.out Y4.out HS.out
      rw [show decide (P = P) = true from decide_eq_true rfl] at this
      exact this)
    go_wp2_with fail
    refine KS.out.mono ?_
    rintro e w6 ⟨rfl, o6⟩
    go_wp2
    go_ret
    exact ⟨by first | rfl | (simp; done), below_nil (O5.out.trans o6)⟩
  · rw [HH.out] at h1; cases h1
theorem programs_all (l : List UInt8) (w : World) (hl : l.length ≤ 140737488355328) (E : Env w ∧ Tab w) :
    Calls Tryz.prog 3 #[.string (bs l)] w fun e w' => e = .returned (.bool true) ∧ Below w.heap.size w w' := by
  cases h : prog l with
  | bad z q => exact programs_bad l w hl E.1 E.2 z q h
  | ok P => exact programs_ok l w hl E.1 E.2 P h
end Go.Proofs.YtnkokonkbklelaaGreatDoor.Ps
