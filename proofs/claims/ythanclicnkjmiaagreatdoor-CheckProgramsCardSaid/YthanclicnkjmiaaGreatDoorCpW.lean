/- check: CheckPrograms' walk. -/
import Derived.Test.YthanclicnkjmiaaGreatDoorCpG
import Derived.Test.YthanclicnkjmiaaGreatDoorChS
import Derived.Deep.RegionHeld3
import Derived.Deep.QuietTactic
set_option linter.unusedVariables false
set_option linter.unusedSimpArgs false
namespace Go.Proofs.YthanclicnkjmiaaGreatDoor.Ch
open Go.RowKit Go.Proofs.YthanclicnkjmiaaGreatDoor Lx Ps

theorem eff_nz {PN SN : List Wd} {L : List Eff} {i : Nat} {x : Nat × List Nat} (h : ofEff PN SN L i = some x) : x.1 ≠ 0 := (oeff_some h).2
theorem eachO_nz {f : Nat → Fau} {n : Nat} (hf : ∀ j x, f j = some x → x.1 ≠ 0) {x : Nat × List Nat} (h : eachO n f = some x) : x.1 ≠ 0 := by
  obtain ⟨j, y, _, h2, rfl⟩ := eachO_inv h
  exact hf j y h2
theorem row_nz {PN SN : List Wd} {R : List Rw} {i : Nat} {x : Nat × List Nat} (h : ofRow PN SN R i = some x) : x.1 ≠ 0 := by
  have := first_some h
  simp only [List.mem_cons, List.not_mem_nil, or_false] at this
  rcases this with h | h | h | h | h
  · rw [un_some h.symm]; simp
  · rw [un_some h.symm]; simp
  · rw [un_some h.symm]; simp
  · rw [un_some h.symm]; simp
  · exact eachO_nz (fun j y hy => eff_nz hy) h.symm
theorem sta_nz {PN : List Wd} {S : List Sta} {i : Nat} {x : Nat × List Nat} (h : ofSta PN S i = some x) : x.1 ≠ 0 := by
  have := first_some h
  simp only [List.mem_cons, List.not_mem_nil, or_false] at this
  rcases this with h | h | h | h
  · rw [un_some h.symm]; simp
  · rw [un_some h.symm]; simp
  · rw [un_some h.symm]; simp
  · exact eachO_nz (fun j y hy => row_nz hy) h.symm
theorem kd_nz {P : List Kd} {i : Nat} {x : Nat × List Nat} (h : ofKd P i = some x) : x.1 ≠ 0 := by
  have := first_some h
  simp only [List.mem_cons, List.not_mem_nil, or_false] at this
  rcases this with h | h | h | h | h | h
  · rw [un_some h.symm]; simp
  · rw [un_some h.symm]; simp
  · rw [un_some h.symm]; simp
  · rw [un_some h.symm]; simp
  · rw [un_some h.symm]; simp
  · exact eachO_nz (fun j y hy => sta_nz hy) h.symm
theorem whole_nz {P : List Kd} {x : Nat × List Nat} (h : whole P = some x) : x.1 ≠ 0 := by
  have := first_some h
  simp only [List.mem_cons, List.not_mem_nil, or_false] at this
  rcases this with h | h
  · rw [un_some h.symm]; simp
  · exact eachO_nz (fun j y hy => kd_nz hy) h.symm
theorem place_len' {P : List Kd} : (whereF (whole P)).length ≤ 100 := by
  cases h : whole P with
  | none => exact Nat.zero_le _
  | some x =>
    have hp := whole_place h
    show x.2.length ≤ 100
    rcases hp with h | ⟨i, _, h | ⟨j, _, h | ⟨n, _, h | ⟨m, _, h⟩⟩⟩⟩ <;> rw [h] <;> simp
set_option maxRecDepth 100000 in
set_option maxHeartbeats 16000000 in
theorem programs_all (P : List Kd) (sl : Value) (w : World) (hx : XK w.heap.size w sl P) (wf : wfP P) (bz : bzP P) (E : EnvE w) :
    Calls Tryz.prog 4 #[.agg #[sl]] w fun e w' => e = .returned (.bool true) ∧ Below w.heap.size w w' := by
  have sz : szP P := bz.sz
  obtain ⟨sa, sc, rfl⟩ := hx.slice
  obtain ⟨w1, hw1⟩ : ∃ w1, w1 = w.alloc (.cells #[.slice sa P.length sc] 25) := ⟨_, rfl⟩
  have o1 : Only Nil w w1 := hw1 ▸ (Only.refl Nil w).alloc _
  have HB := Lib.hid (show Bx w1 w.heap.size [.slice sa P.length sc] 25 from hw1 ▸ bx_new w _ _)
  have HE := Lib.hid (E.keep o1)
  have HA := Lib.hid (alive_any w1 HE.out)
  have HV := Lib.hid (show VK w.heap.size w1 P sa P.length sc from ⟨hx.keep o1 (nilS · _), rfl, sz.1, sz, wf⟩)
  have O1 := Lib.hid o1
  clear hx wf sz bz E o1
  go_enter Tryz.func4, Tryz.ntmps4
  go_upto_region 1 with (fail)
  rw [← hw1]; clear hw1
  have HLe := Lib.hid (show w.heap.size ≤ w1.heap.size from O1.out.size)
  generalize hD : w.heap.size = D at *
  go_wp2_with fail
  refine HA.out.mono ?_
  rintro e w2 ⟨rfl, o2⟩
  have O2 := Lib.hid o2
  have c2 := (HB.out.keep o2).cell 0 (v := .slice sa P.length sc) rfl
  have HP := Lib.hid (prog_err (HV.out.keep o2) (Lib.hid (Nat.le_trans HLe.out o2.size)))
  clear o2 HA
  go_wp2_with fail
  refine HP.out.mono ?_
  rintro e w3 ⟨v, rfl, hv, o3⟩
  have O3 := Lib.hid (O2.out.trans o3)
  have ERR := Lib.hid hv
  clear o3 c2 hv HP
  have c3 := (HB.out.keep O3.out).cell 0 (v := .slice sa P.length sc) rfl
  have HR := Lib.hid (rprog_any (HV.out.keep O3.out))
  have hcase : (v = .nilIface ∧ codeF (whole P) = 0) ∨ ((∃ b, v = .iface 46 (.pointer (some ⟨b, 0, none⟩))) ∧ codeF (whole P) ≠ 0) := by
    have h := ERR.out
    cases hw : whole P with
    | none => rw [hw] at h; exact Or.inl ⟨h, rfl⟩
    | some x => rw [hw] at h; obtain ⟨b, hb, _⟩ := h; exact Or.inr ⟨⟨b, hb⟩, whole_nz hw⟩
  go_upto_region 5 with (go_at_call 15; (with_reducible refine HR.out.mono ?_); rintro e w4 ⟨u, rfl, hown, o4⟩; obtain ⟨ua, uc, rfl⟩ := own_slice_n hown; have OW := Lib.hid hown; have O4 := Lib.hid (O3.out.trans o4); have O34 := Lib.hid o4; clear hown o4)
  have B5 := Lib.hid (bx_new w4 [.int .i64 (codeF (whole P) : Int), .slice ua (whereF (whole P)).length uc] 40)
  change Hid (Bx (w4.alloc (.cells #[.int .i64 (codeF (whole P) : Int), .slice ua (whereF (whole P)).length uc] 40)) w4.heap.size [.int .i64 (codeF (whole P) : Int), .slice ua (whereF (whole P)).length uc] 40) at B5
  have O45 := Lib.hid ((Only.refl Nil w4).alloc (.cells #[.int .i64 (codeF (whole P) : Int), .slice ua (whereF (whole P)).length uc] 40))
  generalize w4.alloc (.cells #[.int .i64 (codeF (whole P) : Int), .slice ua (whereF (whole P)).length uc] 40) = w5 at *
  generalize w4.heap.size = F at *
  have KC := Lib.hid (fun w' (o : Only Nil w5 w') => code_any (ERR.out.keep (O34.out.trans (O45.out.trans o))) (HE.out.keep (O4.out.trans (O45.out.trans o))))
  have KW := Lib.hid (fun w' (o : Only Nil w5 w') => where_any (ERR.out.keep (O34.out.trans (O45.out.trans o))) (HE.out.keep (O4.out.trans (O45.out.trans o))) (place_len' (P := P)))
  have HPl := Lib.hid (place_len' (P := P))
  have O5 := Lib.hid (O4.out.trans O45.out)
  have OW5 := Lib.hid (own_keep OW.out O45.out (fun _ _ h => h))
  clear OW ERR HR HV c3 HB O3 O4 O34 O45
  generalize codeF (whole P) = c at *
  generalize whereF (whole P) = W at *
  have KI := Lib.hid (fun (w6 w' : World) (lo : Nat) (a : Option Addr) (k : Nat) (h : w6.ownsRow lo 3 1 (.slice a W.length k) W.length (intsC W)) (o6 : Only Nil w5 w6) (o : Only Nil w6 w') => ints_any (w := w') (X := W) (Y := W) (a1 := a) (a2 := ua) (c1 := k) (c2 := uc) rfl rfl (own_ints (own_keep h o (fun _ _ h => h))) (own_ints (own_keep OW5.out (o6.trans o) (fun _ _ h => h))) (by have := HPl.out; omega))
  have CF := Lib.hid (show ∀ w', Only Nil w5 w' → (w'.cell? ⟨F, 0, none⟩ = some (.int .i64 (c : Int)) ∧ w'.cell? ⟨F, 1, none⟩ = some (.slice ua W.length uc)) from fun w' o => ⟨(B5.out.keep o).cell 0 rfl, (B5.out.keep o).cell 1 rfl⟩)
  obtain ⟨f0, f1⟩ := CF.out w5 (Only.refl _ _)
  rcases hcase with ⟨rfl, rfl⟩ | ⟨⟨b, rfl⟩, hc0⟩
  · go_wp2
    go_ret
    exact ⟨rfl, by first | exact below_nil (O1.out.trans O5.out) | (rw [← hD]; exact below_nil (O1.out.trans O5.out))⟩
  · have hz : ((c : Int) == 0) = false := by simp; omega
    have hz' : (c == 0) = false := by simp; omega
    have OO := Lib.hid (show Only Nil w5 w5.drew from (Only.refl Nil w5).drew)
    go_upto_region 7 with (fail)
    go_region_held3 (fun w' => w'.cell? ⟨F, 0, none⟩ = some (.int .i64 (c : Int)) ∧ w'.cell? ⟨F, 1, none⟩ = some (.slice ua W.length uc))
      (first | exact ⟨f0, f1⟩ | exact fI | exact fW | exact fC | go_keep)
      (first
        | (go_at_call 16; (with_reducible refine (KC.out _ OO.out).mono ?_); rintro e wn ⟨rfl, on⟩; have O9 := Lib.hid (OO.out.trans on); have fC := CF.out _ O9.out; clear OO; have OO := O9; clear O9; first | (have OX9 := Lib.hid (OX.out.trans on); clear OX on; have OX := OX9; clear OX9) | clear on)
        | (go_at_call 18; (with_reducible refine (KW.out _ OO.out).mono ?_); rintro e wn ⟨xa, xc, rfl, hxo, on⟩; have O9 := Lib.hid (OO.out.trans on); have fW := CF.out _ O9.out; have HX := Lib.hid hxo; have O6 := Lib.hid (OO.out.trans on); have OX := Lib.hid (Only.refl Nil wn); clear OO on hxo; have OO := O9; clear O9)
        | (go_at_call 17; (with_reducible refine (KI.out _ _ _ _ _ HX.out O6.out OX.out).mono ?_); rintro e wn ⟨rfl, on⟩; have O9 := Lib.hid (OO.out.trans on); have fI := CF.out _ O9.out; clear OO on; have OO := O9; clear O9))
    all_goals
      go_wp2
      go_ret
      exact ⟨by first | rfl | (simp; done), by first | exact below_nil ((O1.out.trans O5.out).trans OO.out) | (rw [← hD]; exact below_nil ((O1.out.trans O5.out).trans OO.out))⟩
end Go.Proofs.YthanclicnkjmiaaGreatDoor.Ch
