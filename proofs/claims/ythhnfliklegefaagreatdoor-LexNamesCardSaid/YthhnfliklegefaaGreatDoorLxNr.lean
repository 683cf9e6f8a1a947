/- lex: the document's Name. -/
import Derived.Test.YthhnfliklegefaaGreatDoorLxM5
namespace Go.Proofs.YthhnfliklegefaaGreatDoor.Lx
open Go.RowKit Go.Proofs.YthhnfliklegefaaGreatDoor

theorem ix_zero (c : UInt8) (r : List UInt8) (w : World) : (Instr.index 9 (.string (bs (c :: r))) (.int .i64 0)).run Tryz.prog w = .ok (.int .u8 (c.toNat : Int)) w := ix_any (c :: r) 0 (by simp) w
set_option maxRecDepth 100000 in
set_option maxHeartbeats 2000000 in
theorem rname_any (l : List UInt8) (w : World) (hl : l.length ≤ 140737488355328) : Calls Tryz.prog 16 #[.string (bs l)] w fun e w' => e = .returned (.bool (isNm l)) ∧ Only Nil w w' := by
  have hz : (bs l).size = l.length := bs_size l
  by_cases h16 : 16 < l.length
  · have e : isNm l = false := by
      cases l with
      | nil => rfl
      | cons c r => rw [nm_c, show decide (r.length + 1 ≤ 16) = false from by rw [decide_eq_false_iff_not]; simp at h16; omega, Bool.and_false, Bool.false_and]
    rw [e]
    clear e
    go_enter Tryz.func16, Tryz.ntmps16
    go_wp2
    go_ret
    exact ⟨rfl, Only.refl _ _⟩
  · obtain rfl | ⟨c, r, hcr⟩ : l = [] ∨ ∃ c r, l = c :: r := by cases l <;> simp
    · go_enter Tryz.func16, Tryz.ntmps16
      go_wp2
      go_ret
      exact ⟨rfl, Only.refl _ _⟩
    · have hix0 : ∀ w, (Instr.index 9 (.string (bs l)) (.int .i64 0)).run Tryz.prog w = .ok (.int .u8 (c.toNat : Int)) w := fun w => by rw [hcr]; exact ix_zero c r w
      have HC := Lib.hid hcr
      have h1 : 1 ≤ l.length := by rw [hcr]; simp
      clear hcr hl
      by_cases hk : kN c.toNat = 2
      · have IS := Lib.hid (fun w => is_k c 2 hk w)
        have HK := Lib.hid hk
        clear hk
        generalize hb : isNm l = b
        have HB := Lib.hid hb
        clear hb
        go_enter Tryz.func16, Tryz.ntmps16
        go_wp2_with (go_at_call 34; refine (IS.out _).mono ?_; rintro e w1 ⟨rfl, rfl⟩)
        clear hix0
        go_loop [3] (fun s3 => ∃ i : Nat, i ≤ l.length ∧ s3 = .int .i64 (i : Int) ∧ Hid ((l.take i).all isWd = true)) (fun s3 => l.length - (intOf s3).toNat)
        case atStart => exact ⟨0, Nat.zero_le _, rfl, Lib.hid (by simp)⟩
        case round =>
          obtain ⟨i, hi, rfl, hall⟩ := hrel
          by_cases hlt : i < l.length
          · have hix := fun w => ix_any l i hlt w
            have HS := Lib.hid (List.take_succ_eq_append_getElem hlt)
            have HM : Hid (l[i]'hlt ∈ l) := Lib.hid (List.getElem_mem hlt)
            generalize l[i]'hlt = d at *
            by_cases hw : isWd d = true
            · have hk2 := (wd_iff d).1 hw
              have HW := Lib.hid hw
              generalize hkd : kN d.toNat = kd at *
              have ISJ := Lib.hid (fun w => is_k d kd hkd w)
              clear hkd hw
              rcases hk2 with rfl | rfl | rfl
              all_goals
                go_wp2_with (go_at_call 34; refine (ISJ.out _).mono ?_; rintro e w1 ⟨rfl, rfl⟩)
                go_round
                case rel => exact ⟨i + 1, hlt, by go_num, Lib.hid (by rw [HS.out, List.all_append, hall.out, List.all_cons, HW.out]; rfl)⟩
                case measure => simp [intOf]; omega
            · have e : isNm l = false := by
                refine not_of fun hn => hw ?_
                rw [HC.out] at hn
                have := ((nm_iff c r).1 hn).2.2
                rw [← HC.out] at this
                exact List.all_eq_true.1 this d HM.out
              have EE := Lib.hid e
              have hk2 : ¬ (kN d.toNat = 2 ∨ kN d.toNat = 3 ∨ kN d.toNat = 4) := fun h => hw ((wd_iff d).2 h)
              generalize hkd : kN d.toNat = kd at *
              have ISJ := Lib.hid (fun w => is_k d kd hkd w)
              have k2 : ((kd : Int) != 2) = true := by rw [bne_iff_ne]; omega
              have k3 : ((kd : Int) != 3) = true := by rw [bne_iff_ne]; omega
              have k4 : ((kd : Int) != 4) = true := by rw [bne_iff_ne]; omega
              clear hkd hw hk2 e
              go_wp2_with (go_at_call 34; refine (ISJ.out _).mono ?_; rintro e w1 ⟨rfl, rfl⟩)
              go_ret
              exact ⟨by rw [← HB.out, EE.out]; rfl, Only.refl _ _⟩
          · have hfull : l.take i = l := List.take_of_length_le (by omega)
            have hA := hall.out
            rw [hfull] at hA
            have e : isNm l = true := by
              rw [HC.out] at hA ⊢
              refine (nm_iff c r).2 ⟨kN_2 HK.out, ?_, hA⟩
              have := congrArg List.length HC.out
              simp at this; omega
            have EE := Lib.hid e
            clear e hA hfull
            go_wp2
            go_ret
            exact ⟨by rw [← HB.out, EE.out]; rfl, Only.refl _ _⟩
      · have e : isNm l = false := by
          refine not_of fun hn => hk ?_
          rw [HC.out] at hn
          have h2 := (le_iff c).1 ((nm_iff c r).1 hn).1
          unfold kN; (repeat' split) <;> omega
        rw [e]
        generalize hkd : kN c.toNat = kd at *
        have IS := Lib.hid (fun w => is_k c kd hkd w)
        have k2 : ((kd : Int) != 2) = true := by rw [bne_iff_ne]; omega
        clear hkd hk e
        go_enter Tryz.func16, Tryz.ntmps16
        go_wp2_with (go_at_call 34; refine (IS.out _).mono ?_; rintro e w1 ⟨rfl, rfl⟩)
        go_ret
        exact ⟨rfl, Only.refl _ _⟩

end Go.Proofs.YthhnfliklegefaaGreatDoor.Lx
