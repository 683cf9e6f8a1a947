/- lex: Name, the document's Name; LexNames' walk. -/
import Derived.Test.YtbicanlipgpioaaGreatDoorLxRfB
import Derived.Test.YtbicanlipgpioaaGreatDoorLxNaA
import Derived.Test.YtbicanlipgpioaaGreatDoorLxM
namespace Go.Proofs.YtbicanlipgpioaaGreatDoor.Lx
open Go.RowKit Go.Proofs.YtbicanlipgpioaaGreatDoor

theorem bs_toList' (l : List UInt8) : (bs l).toList = l := by rw [ByteArray.toList_eq, bs_list]
set_option maxHeartbeats 1000000 in
theorem name_far (l : List UInt8) (w : World) (h : 16 < l.length) (hne : (!(bs l).toList.isEmpty) = true) : Calls Tryz.prog 11 #[.string (bs l)] w fun e w' => e = .returned (.bool false) ∧ Only Nil w w' := by
  have hz : (bs l).size = l.length := bs_size l
  go_enter Tryz.func11, Tryz.ntmps11
  go_wp2
  go_ret
  exact ⟨rfl, Only.refl _ _⟩
set_option maxRecDepth 100000 in
set_option maxHeartbeats 2000000 in
theorem name_any (l : List UInt8) (w : World) (hl : l.length ≤ 140737488355328) : Calls Tryz.prog 11 #[.string (bs l)] w fun e w' => e = .returned (.bool (isNm l)) ∧ Only Nil w w' := by
  have hz : (bs l).size = l.length := bs_size l
  cases l with
  | nil =>
    have hne : (!(bs []).toList.isEmpty) = false := by rw [bs_toList']; rfl
    go_enter Tryz.func11, Tryz.ntmps11
    go_wp2
    go_ret
    exact ⟨rfl, Only.refl _ _⟩
  | cons c r =>
    have hne : (!(bs (c :: r)).toList.isEmpty) = true := by rw [bs_toList']; rfl
    have hl' : (r.length : Int) + 1 ≤ 140737488355328 := by simp at hl; omega
    rw [nm_c]
    by_cases h16 : r.length + 1 ≤ 16
    · have h16' : (r.length : Int) + 1 ≤ 16 := by omega
      have hpos : 0 < (bs (c :: r)).size := by rw [bs_size]; simp
      cases h1 : isLe c with
      | true =>
        have H1 := Lib.hid h1
        by_cases ha : (c :: r).all isWd = true
        · have htw := Lib.hid (all_take ha)
          rw [ha, show decide (r.length + 1 ≤ 16) = true by simpa using h16]
          clear h1 ha h16 hl
          go_enter Tryz.func11, Tryz.ntmps11
          go_wp2_with fail
          simp only [first_byte]
          go_wp2_with (first
            | (go_at_call 17; refine (isLetter_c c _).mono ?_; rintro e w1 ⟨rfl, rfl⟩; rw [H1.out])
            | (go_at_call 18; refine (word_any (c :: r) _).mono ?_; rintro e w2 ⟨rfl, o2⟩; rw [htw.out]))
          go_ret
          exact ⟨rfl, o2⟩
        · have hlt := len_take ha
          have hle := (List.takeWhile_prefix (l := c :: r) isWd).length_le
          have hz2 : (bs ((c :: r).takeWhile isWd)).size = ((c :: r).takeWhile isWd).length := bs_size _
          rw [show (c :: r).all isWd = false from not_of ha, Bool.and_false]
          have WA : Hid (∀ w, Calls Tryz.prog 18 #[.string (bs (c :: r))] w fun e w' => e = .returned (.string (bs ((c :: r).takeWhile isWd))) ∧ Only Nil w w') := Lib.hid fun w => word_any (c :: r) w
          generalize (c :: r).takeWhile isWd = ws at *
          generalize hws : ws.length = m at *
          have hq : ((m : Int) == (r.length : Int) + 1) = false := by
            rw [beq_eq_false_iff_ne]; simp at hlt; omega
          have WS := Lib.hid hws
          clear h1 ha h16 hl hlt hle hws
          go_enter Tryz.func11, Tryz.ntmps11
          go_wp2_with fail
          simp only [first_byte]
          go_wp2_with (first
            | (go_at_call 17; refine (isLetter_c c _).mono ?_; rintro e w1 ⟨rfl, rfl⟩; rw [H1.out])
            | (go_at_call 18; refine (WA.out _).mono ?_; rintro e w2 ⟨rfl, o2⟩))
          go_ret
          exact ⟨rfl, o2⟩
      | false =>
        have H1 := Lib.hid h1
        clear h1 h16 hl
        go_enter Tryz.func11, Tryz.ntmps11
        go_wp2_with fail
        simp only [first_byte]
        go_wp2_with (go_at_call 17; refine (isLetter_c c _).mono ?_; rintro e w1 ⟨rfl, rfl⟩; rw [H1.out])
        go_ret
        exact ⟨rfl, Only.refl _ _⟩
    · rw [show decide (r.length + 1 ≤ 16) = false by simpa using h16, Bool.and_false, Bool.false_and]
      exact name_far (c :: r) w (by simp; omega) hne
end Go.Proofs.YtbicanlipgpioaaGreatDoor.Lx
