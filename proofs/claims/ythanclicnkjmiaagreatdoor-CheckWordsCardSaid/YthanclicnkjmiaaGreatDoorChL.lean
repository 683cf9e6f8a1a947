/- check: the cases of a kind. -/
import Derived.Test.YthanclicnkjmiaaGreatDoorChK
set_option linter.unusedVariables false
namespace Go.Proofs.YthanclicnkjmiaaGreatDoor.Ch
open Go.RowKit Go.Proofs.YthanclicnkjmiaaGreatDoor Lx Ps

set_option maxHeartbeats 2000000 in
set_option maxRecDepth 100000 in
theorem cases_any {D : Nat} {w : World} {a0 : Option Addr} {nP c0 : Nat} {x : Kd} {a1 a2 : Option Addr} {nC c1 nS c2 : Nat} (hX : VX D w x a1 nC c1 a2 nS c2) :
    Calls Tryz.prog 104 #[.agg #[.slice a0 nP c0, .string (bs x.name), .int .i64 x.limit, .int .i64 x.within, .slice a1 nC c1, .slice a2 nS c2, .string (bs []), .slice none 0 0, .string (bs []), .bool false, .int .i64 0, .slice none 0 0]] w fun e w' => e = .returned (.bool (x.cases.all caseIn)) ∧ Only Nil w w' := by
  obtain ⟨W, hW⟩ : ∃ W, W = w.alloc (.cells #[.slice a0 nP c0, .string (bs x.name), .int .i64 x.limit, .int .i64 x.within, .slice a1 nC c1, .slice a2 nS c2, .string (bs []), .slice none 0 0, .string (bs []), .bool false, .int .i64 0, .slice none 0 0] 93) := ⟨_, rfl⟩
  have b1 : Bx W w.heap.size [.slice a0 nP c0, .string (bs x.name), .int .i64 x.limit, .int .i64 x.within, .slice a1 nC c1, .slice a2 nS c2, .string (bs []), .slice none 0 0, .string (bs []), .bool false, .int .i64 0, .slice none 0 0] 93 := hW ▸ bx_new w _ _
  have o : Only Nil w W := hW ▸ (Only.refl Nil w).alloc _
  have c4_ := b1.cell 4 (v := .slice a1 nC c1) rfl
  have HC := Lib.hid (hX.keep o).c
  have HN0 := Lib.hid hX.cn
  have HWf := Lib.hid hX.wf.cases
  have hb : (nC : Int) ≤ 140737488355328 := by have := hX.cb; omega
  have HO0 := Lib.hid o
  clear hX b1 o
  go_enter Tryz.func104, Tryz.ntmps104
  go_upto_region 1 with (fail)
  rw [← hW]; clear hW
  go_wp2
  go_loopw [9] (fun s9 wr => ∃ (i : Nat), i ≤ nC ∧ s9 = .int .i64 (i : Int) ∧ Hid (∀ j, j < i → ∀ y, x.cases[j]? = some y → caseIn y = true) ∧ Hid (Only Nil W wr))
    (fun s9 _ => nC - (intOf s9).toNat)
  case atStart => exact ⟨0, Nat.zero_le _, rfl, Lib.hid (fun j hj => absurd hj (Nat.not_lt_zero j)), Lib.hid (Only.refl _ _)⟩
  case round =>
    obtain ⟨i, hi, rfl, hE, hO⟩ := hrel
    by_cases hin : i < nC
    · obtain ⟨q, off, rfl, hlt, hc⟩ := (HC.out.keep hO.out (nilS · D)).at_ HN0.out i hin
      have hil : i < x.cases.length := by rw [HN0.out]; exact hin
      have HL0 := Lib.hid (List.getElem?_eq_getElem hil)
      have HMm := Lib.hid (List.getElem_mem hil)
      have hnm := (HWf.out _ (List.getElem_mem hil)).reason
      generalize x.cases[i] = y at *
      have e0 : wr.cell? ⟨q, off + i * 2, none⟩ = some (.string (bs y.reason)) := hc 0 (by decide)
      have e1 : wr.cell? ⟨q, off + i * 2 + 1, none⟩ = some (.int .i64 y.act) := hc 1 (by decide)
      clear hc
      have hin' : (i : Int) < (nC : Int) := by omega
      have he := emp_bs y.reason
      have HN := Lib.hid (fun w' => name_any y.reason w' hnm)
      have HL := Lib.hid (fun w' => within_any y.act 1 4 w')
      clear hnm
      have HBn := Lib.hid (bx_new wr [.string (bs y.reason), .int .i64 y.act] 89)
      have hr : caseIn y = ((decide (y.reason = []) || isNm y.reason) && wn y.act 1 4) := rfl
      have OO := Lib.hid (hO.out.trans ((Only.refl Nil wr).alloc (.cells #[.string (bs y.reason), .int .i64 y.act] 89)))
      go_upto_region 4 with (fail)
      change Hid (Bx (wr.alloc (.cells #[.string (bs y.reason), .int .i64 y.act] 89)) wr.heap.size _ _) at HBn
      generalize wr.alloc (.cells #[.string (bs y.reason), .int .i64 y.act] 89) = w1 at *
      generalize wr.heap.size = B at *
      have CC := Lib.hid (show ∀ w', Only Nil w1 w' → w'.cell? ⟨B, 0, none⟩ = some (.string (bs y.reason)) ∧ w'.cell? ⟨B, 1, none⟩ = some (.int .i64 y.act) from fun w' o => ⟨only_cell0 o (HBn.out.cell 0 rfl), only_cell0 o (HBn.out.cell 1 rfl)⟩)
      obtain ⟨d0, d1⟩ := CC.out w1 (Only.refl _ _)
      clear e0 e1 HBn
      cases ht : decide (y.reason = []) with
      | true =>
        rw [ht] at he hr
        clear ht
        cases hw : wn y.act 1 4 with
        | true =>
          rw [hw] at HL hr
          have HX := Lib.hid hr
          clear hw hr
          go_wp2_with ((go_at_call 61; refine (HL.out _).mono ?_; rintro e wm ⟨rfl, rfl⟩))
          go_roundw
          case rel => exact ⟨i + 1, by omega, by go_num, Lib.hid (fun j hj y hy => by
            rcases Nat.lt_or_ge j i with h | h
            · exact hE.out j h y hy
            · obtain rfl : j = i := by omega
              rw [HL0.out] at hy; rw [← Option.some.inj hy]; exact HX.out), Lib.hid (OO.out)⟩
          case measure => simp [intOf]; omega
        | false =>
          rw [hw] at HL hr
          have HX := Lib.hid hr
          clear hw hr
          go_wp2_with ((go_at_call 61; refine (HL.out _).mono ?_; rintro e wm ⟨rfl, rfl⟩))
          go_ret
          exact ⟨by rw [List.all_eq_false.2 ⟨_, HMm.out, by rw [HX.out]; exact Bool.false_ne_true⟩]; rfl, HO0.out.trans (OO.out)⟩
      | false =>
        rw [ht] at he hr
        clear ht
        cases hn : isNm y.reason with
        | false =>
          rw [hn] at HN hr
          have HX := Lib.hid hr
          clear hn hr
          go_wp2_with ((go_at_call 139; refine (HN.out _).mono ?_; rintro e wn ⟨rfl, on⟩; have ON := Lib.hid on; obtain ⟨k0, k1⟩ := CC.out _ on; clear on))
          go_ret
          exact ⟨by rw [List.all_eq_false.2 ⟨_, HMm.out, by rw [HX.out]; exact Bool.false_ne_true⟩]; rfl, HO0.out.trans (OO.out.trans ON.out)⟩
        | true =>
          rw [hn] at HN hr
          clear hn
          cases hw : wn y.act 1 4 with
          | true =>
            rw [hw] at HL hr
            have HX := Lib.hid hr
            clear hw hr
            go_wp2_with (first
              | (go_at_call 139; refine (HN.out _).mono ?_; rintro e wn ⟨rfl, on⟩; have ON := Lib.hid on; obtain ⟨k0, k1⟩ := CC.out _ on; clear on)
              | (go_at_call 61; refine (HL.out _).mono ?_; rintro e wm ⟨rfl, rfl⟩))
            go_roundw
            case rel => exact ⟨i + 1, by omega, by go_num, Lib.hid (fun j hj y hy => by
              rcases Nat.lt_or_ge j i with h | h
              · exact hE.out j h y hy
              · obtain rfl : j = i := by omega
                rw [HL0.out] at hy; rw [← Option.some.inj hy]; exact HX.out), Lib.hid (OO.out.trans ON.out)⟩
            case measure => simp [intOf]; omega
          | false =>
            rw [hw] at HL hr
            have HX := Lib.hid hr
            clear hw hr
            go_wp2_with (first
              | (go_at_call 139; refine (HN.out _).mono ?_; rintro e wn ⟨rfl, on⟩; have ON := Lib.hid on; obtain ⟨k0, k1⟩ := CC.out _ on; clear on)
              | (go_at_call 61; refine (HL.out _).mono ?_; rintro e wm ⟨rfl, rfl⟩))
            go_ret
            exact ⟨by rw [List.all_eq_false.2 ⟨_, HMm.out, by rw [HX.out]; exact Bool.false_ne_true⟩]; rfl, HO0.out.trans (OO.out.trans ON.out)⟩
    · obtain rfl : i = nC := by omega
      have hk0 : ¬ (i : Int) < (i : Int) := by omega
      have HX := Lib.hid (show x.cases.all caseIn = true from by
        rw [List.all_eq_true]
        intro y hy
        obtain ⟨j, hj, rfl⟩ := List.mem_iff_getElem.1 hy
        exact hE.out j (by rw [← HN0.out]; exact hj) _ (List.getElem?_eq_getElem hj))
      clear hin
      go_wp2
      go_ret
      exact ⟨by rw [HX.out]; rfl, HO0.out.trans hO.out⟩
set_option maxHeartbeats 2000000 in
set_option maxRecDepth 100000 in
theorem once_any {D : Nat} {w : World} {a0 : Option Addr} {nP c0 : Nat} {x : Kd} {a1 a2 : Option Addr} {nC c1 nS c2 : Nat} (hX : VX D w x a1 nC c1 a2 nS c2) :
    Calls Tryz.prog 105 #[.agg #[.slice a0 nP c0, .string (bs x.name), .int .i64 x.limit, .int .i64 x.within, .slice a1 nC c1, .slice a2 nS c2, .string (bs []), .slice none 0 0, .string (bs []), .bool false, .int .i64 0, .slice none 0 0]] w fun e w' => e = .returned (.bool (once (x.cases.map Cs.reason))) ∧ Only Nil w w' := by
  obtain ⟨W, hW⟩ : ∃ W, W = w.alloc (.cells #[.slice a0 nP c0, .string (bs x.name), .int .i64 x.limit, .int .i64 x.within, .slice a1 nC c1, .slice a2 nS c2, .string (bs []), .slice none 0 0, .string (bs []), .bool false, .int .i64 0, .slice none 0 0] 93) := ⟨_, rfl⟩
  have b1 : Bx W w.heap.size [.slice a0 nP c0, .string (bs x.name), .int .i64 x.limit, .int .i64 x.within, .slice a1 nC c1, .slice a2 nS c2, .string (bs []), .slice none 0 0, .string (bs []), .bool false, .int .i64 0, .slice none 0 0] 93 := hW ▸ bx_new w _ _
  have o : Only Nil w W := hW ▸ (Only.refl Nil w).alloc _
  have c4_ := b1.cell 4 (v := .slice a1 nC c1) rfl
  have CC := Lib.hid (show ∀ w', Only Nil W w' → w'.cell? ⟨w.heap.size, 4, none⟩ = some (.slice a1 nC c1) from fun w' o => only_cell0 o c4_)
  have KX := Lib.hid (hX.keep o)
  have hlen : (x.cases.map Cs.reason).length = nC := by rw [List.length_map, hX.cn]
  have HLn := Lib.hid hlen
  have hb : (nC : Int) ≤ 140737488355328 := by have := hX.cb; omega
  have HO0 := Lib.hid o
  clear hX b1 o hlen
  go_enter Tryz.func105, Tryz.ntmps105
  go_upto_region 1 with (fail)
  rw [← hW]; clear hW
  generalize w.heap.size = B at *
  go_wp2
  go_loopw [8] (fun s8 wr => ∃ (i : Nat), i ≤ nC ∧ s8 = .int .i64 (i : Int) ∧ Hid (∀ j, j < i → isNew (x.cases.map Cs.reason) j = true) ∧ Hid (Only Nil W wr))
    (fun s8 _ => nC - (intOf s8).toNat)
  case atStart => exact ⟨0, Nat.zero_le _, rfl, Lib.hid (fun j hj => absurd hj (Nat.not_lt_zero j)), Lib.hid (Only.refl _ _)⟩
  case round =>
    obtain ⟨i, hi, rfl, hE, hO⟩ := hrel
    by_cases hin : i < nC
    · have k4_ := CC.out _ hO.out
      clear c4_
      have HI := Lib.hid (isNew_cs (KX.out.keep hO.out).c KX.out.cn KX.out.cb i hin)
      have hin' : (i : Int) < (nC : Int) := by omega
      cases hn : isNew (x.cases.map Cs.reason) i with
      | true =>
        rw [hn] at HI
        have HX := Lib.hid hn
        clear hn
        go_wp2_with (go_at_call 141; refine HI.out.mono ?_; rintro e wn ⟨rfl, on⟩; have ON := Lib.hid (hO.out.trans on); clear on)
        go_roundw
        case rel => exact ⟨i + 1, by omega, by go_num, Lib.hid (fun j hj => by
          rcases Nat.lt_or_ge j i with h | h
          · exact hE.out j h
          · obtain rfl : j = i := by omega
            exact HX.out), ON⟩
        case measure => simp [intOf]; omega
      | false =>
        rw [hn] at HI
        have HX := Lib.hid (show once (x.cases.map Cs.reason) = false from by
          unfold once
          rw [List.all_eq_false]
          exact ⟨i, List.mem_range.2 (by rw [HLn.out]; exact hin), by rw [hn]; exact Bool.false_ne_true⟩)
        clear hn
        go_wp2_with (go_at_call 141; refine HI.out.mono ?_; rintro e wn ⟨rfl, on⟩; have ON := Lib.hid (hO.out.trans on); clear on)
        go_ret
        exact ⟨by rw [HX.out]; rfl, HO0.out.trans ON.out⟩
    · obtain rfl : i = nC := by omega
      have hk0 : ¬ (i : Int) < (i : Int) := by omega
      have HX := Lib.hid (show once (x.cases.map Cs.reason) = true from by
        unfold once
        rw [List.all_eq_true]
        intro j hj
        exact hE.out j (by rw [← HLn.out]; exact List.mem_range.1 hj))
      clear hin
      go_wp2
      go_ret
      exact ⟨by rw [HX.out]; rfl, HO0.out.trans hO.out⟩
end Go.Proofs.YthanclicnkjmiaaGreatDoor.Ch
