/- check: CheckWords' walk. -/
import Derived.Test.YthanclicnkjmiaaGreatDoorCwD
import Derived.Test.YthanclicnkjmiaaGreatDoorRowA
import Derived.StillTailTactics
set_option linter.unusedVariables false
set_option linter.unusedSimpArgs false
namespace Go.Proofs.YthanclicnkjmiaaGreatDoor.Ch
open Go.RowKit Go.Proofs.YthanclicnkjmiaaGreatDoor Lx Ps

/-- A place under way: a row of numbers of one's own. -/
structure Wr (w0 w : World) (a : Option Addr) (c : Nat) (X : List Nat) : Prop where
  row : w.ownsRow 0 3 1 (.slice a X.length c) X.length (intsC X)
  new : ∀ x, a = some x → w0.heap.size ≤ x.block
  nil : X = [] → a = none ∧ c = 0
  only : Only Nil w0 w
theorem Wr.keep {w0 w w' : World} {a : Option Addr} {c : Nat} {X : List Nat} (h : Wr w0 w a c X) (o : Only Nil w w') : Wr w0 w' a c X :=
  ⟨own_keep h.row o (fun _ _ h => h), h.new, h.nil, h.only.trans o⟩
theorem intsC_snoc (X : List Nat) (t : Nat) : intsC (X ++ [t]) = intsC X ++ [.int .i64 (t : Int)] := by unfold intsC; simp
theorem push_n {w0 w : World} {a : Option Addr} {c : Nat} {X : List Nat} (h : Wr w0 w a c X) (few : X.length ≤ 65536) (t : Nat) :
    ∃ a' c' w6, Hid ((Builtin.append_ #[38, 38] 38 #[.slice a X.length c, .slice (some ⟨w.heap.size, 0, none⟩) 1 1]).run Tryz.prog (w.alloc (.cells #[.int .i64 (t : Int)] 3)) = .ok (.slice a' (X.length + 1) c') w6) ∧ Hid (Wr w0 w6 a' c' (X ++ [t])) := by
  have o : Only Nil w (w.alloc (.cells #[.int .i64 (t : Int)] 3)) := (Only.refl Nil w).alloc _
  have h' := own_keep h.row o (fun _ _ h => h)
  obtain ⟨a', c', w6, hr, ho, hon, hsn⟩ := run_append_end (P := Tryz.prog) (t := 38) (ty := 38) (e := 3) (size := 1) (bytes := 8) Tryz.underlying38 Tryz.infoN rfl h' ⟨w.heap.size, 0, none⟩ [.int .i64 (t : Int)] rfl (by intro v hv; simp at hv; subst hv; rfl)
    (fun j u hj => by
        rw [add_lit0, cell_of_row _ w.heap.size _ _ _ _ (heap_new w _), Nat.zero_add]
        simpa using hj) few (by decide)
  refine ⟨a', c', w6, Lib.hid hr, Lib.hid ⟨by rw [intsC_snoc, List.length_append]; exact ho, fun x hx => ?_, fun e => by simp at e, (h.only.trans o).then hon (fun q hq hlt => ?_)⟩⟩
  · rcases hsn x hx with ⟨y, hy, e2⟩ | e2
    · have := h.new y hy; omega
    · have := h.only.size; have := o.size; omega
  · obtain ⟨y, hy, e2⟩ := hq
    have := h.new y hy; omega
theorem i64_of_wf {x : Int} (h : (Lit.int .i64 x).wf = true) : inW x := by
  simp [Lit.wf, IntKind.min, IntKind.max, IntKind.signed, IntKind.bits] at h
  exact ⟨by omega, by omega⟩
theorem and_nat (x : Int) : ∃ t : Nat, bits .and .i64 x 65535 = (t : Int) ∧ t ≤ 65535 := by
  have hle : (BitVec.ofInt 64 x).toNat &&& 65535 ≤ 65535 := Nat.and_le_right
  refine ⟨(BitVec.ofInt 64 x).toNat &&& 65535, ?_, hle⟩
  show IntKind.i64.wrap ((BitVec.ofInt 64 x &&& BitVec.ofInt 64 65535).toNat : Int) = _
  rw [BitVec.toNat_and, show (BitVec.ofInt 64 65535).toNat = 65535 from by decide]
  exact IntWalk.i64_in _ (by omega)
set_option maxRecDepth 100000 in
set_option maxHeartbeats 16000000 in
theorem words_all (z : Int) (hz : inW z) {w : World} {a0 : Option Addr} {L : List Int} {c0 : Nat} (hV : RowK .i64 w a0 L) (hr : L.length * 8 ≤ 140737488351232) (E : EnvE w) (T : Tab w) :
    Calls Tryz.prog 5 #[.int .i64 z, .slice a0 L.length c0] w fun e w' => e = .returned (.bool true) ∧ Below w.heap.size w w' := by
  have HE := Lib.hid E
  have HT := Lib.hid T
  have HA := Lib.hid (alive_any w E)
  have HV := Lib.hid hV
  have HZ := Lib.hid hz
  obtain ⟨m, hm⟩ : ∃ m, m = L.length := ⟨_, rfl⟩
  have HM := Lib.hid hm
  rw [← hm]
  have m63 : (m : Int) ≤ 140737488351232 := by omega
  clear E T hV hz hr hm
  go_enter Tryz.func5, Tryz.ntmps5
  go_wp2_with fail
  refine HA.out.mono ?_
  rintro e w1 ⟨rfl, o1⟩
  have O1 := Lib.hid o1
  clear o1 HA
  go_wp2
  go_loopw [5, 6, 7] (fun s5 s6 s7 wr => ∃ (i : Nat) (X : List Nat) (a : Option Addr) (c : Nat), i ≤ m ∧ i ≤ 20 ∧ s7 = .int .i64 (i : Int) ∧ s6 = .string (bs (dots X)) ∧ s5 = .slice a i c ∧ Hid (X.length = i ∧ ∀ x ∈ X, x ≤ 65535) ∧ Hid (Wr w1 wr a c X))
    (fun _ _ s7 _ => m - (intOf s7).toNat)
  case atStart => exact ⟨0, [], none, 0, Nat.zero_le _, by decide, rfl, rfl, rfl, Lib.hid ⟨rfl, by simp⟩, Lib.hid ⟨World.ownsRow_nil _ _ _ _, fun x hx => (by cases hx), fun _ => ⟨rfl, rfl⟩, Only.refl _ _⟩⟩
  case round =>
    obtain ⟨i, X, a, c, hi, h20, rfl, rfl, rfl, hX, hW⟩ := hrel
    by_cases hin : i < m
    · have hin' : (i : Int) < (m : Int) := by omega
      by_cases h2 : i < 20
      · have h2' : (i : Int) < 20 := by omega
        obtain ⟨b, off, rfl, hbl, hcell⟩ := HV.out i (by rw [← HM.out]; exact hin)
        have x0 := only_cell0 (O1.out.trans hW.out.only) (hcell i (by rw [← HM.out]; exact hin))
        obtain ⟨xi, hxi⟩ : ∃ xi, xi = L.getD i 0 := ⟨_, rfl⟩
        rw [← hxi] at x0
        clear hxi hcell hbl
        obtain ⟨t, ht, ht2⟩ := and_nat xi
        have PU := push_n hW.out (by have := hX.out.1; omega) t
        rw [hX.out.1] at PU
        obtain ⟨a', c', w6, hrun, hW6⟩ := PU
        have DE := Lib.hid (decimal_itoa t (by omega) w6)
        have X' := Lib.hid (show (X ++ [t]).length = i + 1 ∧ ∀ x ∈ X ++ [t], x ≤ 65535 from ⟨by rw [List.length_append, hX.out.1]; rfl, fun x hx => by
          rcases List.mem_append.1 hx with h | h
          · exact hX.out.2 x h
          · obtain rfl := List.mem_singleton.1 h; exact ht2⟩)
        have hdl := dots_len hX.out.2 (by have := hX.out.1; omega)
        have htl := txt_len ht2
        obtain ⟨D', hD'⟩ : ∃ D', D' = dots (X ++ [t]) := ⟨_, rfl⟩
        have HD' := Lib.hid hD'
        by_cases h0 : i = 0
        · subst h0
          rw [Nat.add_zero] at x0
          have hX0 : X = [] := List.length_eq_zero_iff.1 hX.out.1
          have a2 := fun w => str_add (dots X) (Lib.itoa (t : Int)) (by have : (txt t) = Lib.itoa (t : Int) := rfl; rw [← this]; omega) w
          have e : dots X ++ Lib.itoa (t : Int) = D' := by rw [hD', hX0]; exact (dots_one t).symm
          rw [e] at a2
          generalize dots X = Dx at *
          clear hX0 hD' hdl htl e
          go_wp2_with (first
            | (go_at_call 19; refine DE.out.mono ?_; rintro e w7 ⟨rfl, o7⟩; have O7 := Lib.hid o7; clear o7)
            | (at_builtin; refine Lib.wpList_append_run _ rfl (.tmp 28) (.tmp 30) 38 38 rfl _ _ rfl rfl _ _ hrun.out ?_))
          go_roundw
          case rel => exact ⟨0 + 1, X ++ [t], a', c', by omega, by omega, by go_num, by rw [HD'.out], rfl, X', Lib.hid (hW6.out.keep O7.out)⟩
          case measure => simp [intOf]; omega
        · have h0' : (0 : Int) < (i : Int) := by omega
          have hX0 : X ≠ [] := fun e => h0 (by rw [← hX.out.1, e]; rfl)
          have a1 := fun w => str_add (dots X) [46] (by simp; omega) w
          have a2 := fun w => str_add (dots X ++ [46]) (Lib.itoa (t : Int)) (by have : (txt t) = Lib.itoa (t : Int) := rfl; rw [← this]; simp; omega) w
          have e : dots X ++ [46] ++ Lib.itoa (t : Int) = D' := by rw [hD']; exact (dots_snoc hX0 t).symm
          have hdot : bs [46] = ⟨#[46]⟩ := rfl
          rw [e] at a2
          rw [hdot] at a1
          generalize dots X ++ [46] = Dp at *
          generalize dots X = Dx at *
          clear hX0 hD' hdl htl e hdot
          go_wp2_with (first
            | (go_at_call 19; refine DE.out.mono ?_; rintro e w7 ⟨rfl, o7⟩; have O7 := Lib.hid o7; clear o7)
            | (at_builtin; refine Lib.wpList_append_run _ rfl (.tmp 28) (.tmp 30) 38 38 rfl _ _ rfl rfl _ _ hrun.out ?_))
          go_roundw
          case rel => exact ⟨i + 1, X ++ [t], a', c', by omega, by omega, by go_num, by rw [HD'.out], rfl, X', Lib.hid (hW6.out.keep O7.out)⟩
          case measure => simp [intOf]; omega
      · have h2' : ¬ (i : Int) < 20 := by omega
        go_upto_region 14 with (fail)
        have o2 : Only Nil wr (wr.alloc (.cells #[.int .i64 z, .slice a i c] 48)) := (Only.refl Nil wr).alloc _
        have b2 : Bx (wr.alloc (.cells #[.int .i64 z, .slice a i c] 48)) wr.heap.size [.int .i64 z, .slice a i c] 48 := bx_new wr _ _
        generalize wr.alloc (.cells #[.int .i64 z, .slice a i c] 48) = w2 at *
        generalize wr.heap.size = q at *
        have B2 := Lib.hid b2
        have W2 := hW.out.keep o2
        have O2 := Lib.hid (O1.out.trans W2.only)
        have row2 := W2.row
        have nil2 := W2.nil
        rw [hX.out.1] at row2
        have R2 := Lib.hid row2
        have N2 := Lib.hid nil2
        have HL := Lib.hid hX.out.1
        have L20 := Lib.hid h20
        have HXS := Lib.hid hX.out.2
        clear o2 b2 W2 row2 nil2 hW hX
        have KE := Lib.hid (fun w' (o : Only Nil w2 w') => errno_text z HZ.out w' (HT.out.keep (O2.out.trans o)))
        have KB := Lib.hid (fun w' (o : Only Nil w2 w') => bad_text q z X HZ.out (B2.out.keep o) (show w'.ownsRow 0 3 1 (.slice a i c) X.length (intsC X) from by rw [HL.out]; exact own_keep R2.out o (fun _ _ h => h)) HXS.out (by rw [HL.out]; exact L20.out) (HT.out.keep (O2.out.trans o)))
        have KU := Lib.hid (fun w' (o : Only Nil w2 w') => bunwrap_any q z w' ((B2.out.keep o).cell 0 rfl))
        have KI := Lib.hid (fun w' (o : Only Nil w2 w') => is_bad q z w' ((B2.out.keep o).cell 0 rfl))
        have KC := Lib.hid (fun w' (o : Only Nil w2 w') => code_bad q z ((B2.out.keep o).cell 0 rfl) (HE.out.keep (O2.out.trans o)))
        have NI := Lib.hid (show X = [] → Value.slice a i c = .slice none 0 0 from fun e => by
          obtain ⟨r1, r2⟩ := N2.out e
          have h0 : i = 0 := by rw [← HL.out, e]; rfl
          rw [r1, r2, h0])
        have KW := Lib.hid (show ∀ w', Only Nil w2 w' → Calls Tryz.prog 18 #[.iface 46 (.pointer (some ⟨q, 0, none⟩))] w' fun e w'' => ∃ a' c', e = .returned (.slice a' i c') ∧ w''.ownsRow w'.heap.size 3 1 (.slice a' i c') i (intsC X) ∧ Only Nil w' w'' from fun w' o => by
          have h := where_bad q (W := X) (lo := 0) (u := .slice a i c) ((B2.out.keep o).cell 1 rfl) (by rw [HL.out]; exact own_keep R2.out o (fun _ _ h => h)) NI.out (HE.out.keep (O2.out.trans o)) (by rw [HL.out]; have := L20.out; omega)
          rw [HL.out] at h
          exact h)
        have KF := Lib.hid (fun w' (o : Only Nil w2 w') => code_errno 4 w' (HE.out.keep (O2.out.trans o)))
        have KG := Lib.hid (fun w' (o : Only Nil w2 w') => where_errno 4 w' (HE.out.keep (O2.out.trans o)))
        have KN := Lib.hid (fun (w6 w' : World) (lo k : Nat) {xa : Option Addr} (o6 : Only Nil w6 w') (h : w6.ownsRow lo 3 1 (.slice xa i k) i (intsC X)) (o : Only Nil w2 w') => ints_any (w := w') (X := X) (Y := X) (a1 := xa) (a2 := a) (c1 := k) (c2 := c) HL.out HL.out
          (fun j hj => own_ints (show w'.ownsRow lo 3 1 (.slice xa X.length k) X.length (intsC X) from by rw [HL.out]; exact own_keep h o6 (fun _ _ h => h)) j (by rw [HL.out]; exact hj))
          (fun j hj => own_ints (show w'.ownsRow 0 3 1 (.slice a X.length c) X.length (intsC X) from by rw [HL.out]; exact own_keep R2.out o (fun _ _ h => h)) j (by rw [HL.out]; exact hj)) (by have := L20.out; omega))
        have AL := Lib.hid (show (wErr ++ Lib.itoa z).length ≤ 40 from by have := itoa_le HZ.out; simp [wErr]; omega)
        have DL := Lib.hid (dots_len HXS.out (by rw [HL.out]; exact L20.out))
        have WD := Lib.hid (show words z X = (if X = [] then wErr ++ Lib.itoa z else (wErr ++ Lib.itoa z ++ wIn) ++ dots X) from rfl)
        generalize words z X = Y at *
        generalize wErr ++ Lib.itoa z = A at *
        by_cases h0 : i = 0
        · subst h0
          have hY : Y = A := by rw [WD.out, if_pos (List.length_eq_zero_iff.1 HL.out)]
          subst hY
          go_wp2_with (first
              | (go_at_call 20; (with_reducible refine (KE.out _ (Only.refl _ _)).mono ?_); rintro e w3 ⟨rfl, o3⟩; have OO := Lib.hid o3; clear o3)
              | (go_at_call 21; (with_reducible refine (KB.out _ OO.out).mono ?_); rintro e wn ⟨rfl, on⟩; have O9 := Lib.hid (OO.out.trans on); clear OO on; have OO := O9; clear O9)
              | (go_at_call 22; (with_reducible refine (KU.out _ OO.out).mono ?_); rintro e wn ⟨rfl, rfl⟩)
              | (go_at_call 23; (with_reducible refine (KI.out _ OO.out).mono ?_); rintro e wn ⟨rfl, rfl⟩)
              | (go_at_call 16; (first | (with_reducible refine (KC.out _ OO.out).mono ?_) | (with_reducible refine (KF.out _ OO.out).mono ?_)); rintro e wn ⟨rfl, on⟩; have O9 := Lib.hid (OO.out.trans on); clear OO on; have OO := O9; clear O9)
              | (go_at_call 18; first
                | ((with_reducible refine (KW.out _ OO.out).mono ?_); rintro e wn ⟨xa, xc, rfl, hxo, on⟩; have O9 := Lib.hid (OO.out.trans on); have HX := Lib.hid (KN.out _ _ _ _ (Only.refl _ _) hxo O9.out); clear OO on hxo; have OO := O9; clear O9)
                | ((with_reducible refine (KG.out _ OO.out).mono ?_); rintro e wn ⟨rfl, on⟩; have O9 := Lib.hid (OO.out.trans on); clear OO on; have OO := O9; clear O9))
              | (go_at_call 17; (with_reducible refine HX.out.mono ?_); rintro e wn ⟨rfl, on⟩; have O9 := Lib.hid (OO.out.trans on); clear OO on; have OO := O9; clear O9))
          go_ret
          exact ⟨by first | rfl | (simp; done), below_nil (O2.out.trans OO.out)⟩
        · have h0' : (0 : Int) < (i : Int) := by omega
          have hY : A ++ wIn ++ dots X = Y := by rw [WD.out, if_neg (fun e => h0 (by rw [← HL.out, e]; rfl))]
          have a1 := fun w => str_add A wIn (by have := AL.out; simp [wIn]; omega) w
          have a2 := fun w => str_add (A ++ wIn) (dots X) (by have := AL.out; have := DL.out; simp [wIn]; omega) w
          have hlit : bs wIn = ⟨#[32, 105, 110, 32]⟩ := rfl
          rw [hlit] at a1
          rw [hY] at a2
          generalize A ++ wIn = AI at *
          generalize dots X = Dx at *
          clear hlit hY
          go_wp2_with (first
              | (go_at_call 20; (with_reducible refine (KE.out _ (Only.refl _ _)).mono ?_); rintro e w3 ⟨rfl, o3⟩; have OO := Lib.hid o3; clear o3)
              | (go_at_call 21; (with_reducible refine (KB.out _ OO.out).mono ?_); rintro e wn ⟨rfl, on⟩; have O9 := Lib.hid (OO.out.trans on); clear OO on; have OO := O9; clear O9)
              | (go_at_call 22; (with_reducible refine (KU.out _ OO.out).mono ?_); rintro e wn ⟨rfl, rfl⟩)
              | (go_at_call 23; (with_reducible refine (KI.out _ OO.out).mono ?_); rintro e wn ⟨rfl, rfl⟩)
              | (go_at_call 16; (first | (with_reducible refine (KC.out _ OO.out).mono ?_) | (with_reducible refine (KF.out _ OO.out).mono ?_)); rintro e wn ⟨rfl, on⟩; have O9 := Lib.hid (OO.out.trans on); clear OO on; have OO := O9; clear O9)
              | (go_at_call 18; first
                | ((with_reducible refine (KW.out _ OO.out).mono ?_); rintro e wn ⟨xa, xc, rfl, hxo, on⟩; have O9 := Lib.hid (OO.out.trans on); have HX := Lib.hid (KN.out _ _ _ _ (Only.refl _ _) hxo O9.out); clear OO on hxo; have OO := O9; clear O9)
                | ((with_reducible refine (KG.out _ OO.out).mono ?_); rintro e wn ⟨rfl, on⟩; have O9 := Lib.hid (OO.out.trans on); clear OO on; have OO := O9; clear O9))
              | (go_at_call 17; (with_reducible refine HX.out.mono ?_); rintro e wn ⟨rfl, on⟩; have O9 := Lib.hid (OO.out.trans on); clear OO on; have OO := O9; clear O9))
          go_ret
          exact ⟨by first | rfl | (simp; done), below_nil (O2.out.trans OO.out)⟩
    · have hin' : ¬ (i : Int) < (m : Int) := by omega
      go_upto_region 14 with (fail)
      have o2 : Only Nil wr (wr.alloc (.cells #[.int .i64 z, .slice a i c] 48)) := (Only.refl Nil wr).alloc _
      have b2 : Bx (wr.alloc (.cells #[.int .i64 z, .slice a i c] 48)) wr.heap.size [.int .i64 z, .slice a i c] 48 := bx_new wr _ _
      generalize wr.alloc (.cells #[.int .i64 z, .slice a i c] 48) = w2 at *
      generalize wr.heap.size = q at *
      have B2 := Lib.hid b2
      have W2 := hW.out.keep o2
      have O2 := Lib.hid (O1.out.trans W2.only)
      have row2 := W2.row
      have nil2 := W2.nil
      rw [hX.out.1] at row2
      have R2 := Lib.hid row2
      have N2 := Lib.hid nil2
      have HL := Lib.hid hX.out.1
      have L20 := Lib.hid h20
      have HXS := Lib.hid hX.out.2
      clear o2 b2 W2 row2 nil2 hW hX
      have KE := Lib.hid (fun w' (o : Only Nil w2 w') => errno_text z HZ.out w' (HT.out.keep (O2.out.trans o)))
      have KB := Lib.hid (fun w' (o : Only Nil w2 w') => bad_text q z X HZ.out (B2.out.keep o) (show w'.ownsRow 0 3 1 (.slice a i c) X.length (intsC X) from by rw [HL.out]; exact own_keep R2.out o (fun _ _ h => h)) HXS.out (by rw [HL.out]; exact L20.out) (HT.out.keep (O2.out.trans o)))
      have KU := Lib.hid (fun w' (o : Only Nil w2 w') => bunwrap_any q z w' ((B2.out.keep o).cell 0 rfl))
      have KI := Lib.hid (fun w' (o : Only Nil w2 w') => is_bad q z w' ((B2.out.keep o).cell 0 rfl))
      have KC := Lib.hid (fun w' (o : Only Nil w2 w') => code_bad q z ((B2.out.keep o).cell 0 rfl) (HE.out.keep (O2.out.trans o)))
      have NI := Lib.hid (show X = [] → Value.slice a i c = .slice none 0 0 from fun e => by
        obtain ⟨r1, r2⟩ := N2.out e
        have h0 : i = 0 := by rw [← HL.out, e]; rfl
        rw [r1, r2, h0])
      have KW := Lib.hid (show ∀ w', Only Nil w2 w' → Calls Tryz.prog 18 #[.iface 46 (.pointer (some ⟨q, 0, none⟩))] w' fun e w'' => ∃ a' c', e = .returned (.slice a' i c') ∧ w''.ownsRow w'.heap.size 3 1 (.slice a' i c') i (intsC X) ∧ Only Nil w' w'' from fun w' o => by
        have h := where_bad q (W := X) (lo := 0) (u := .slice a i c) ((B2.out.keep o).cell 1 rfl) (by rw [HL.out]; exact own_keep R2.out o (fun _ _ h => h)) NI.out (HE.out.keep (O2.out.trans o)) (by rw [HL.out]; have := L20.out; omega)
        rw [HL.out] at h
        exact h)
      have KF := Lib.hid (fun w' (o : Only Nil w2 w') => code_errno 4 w' (HE.out.keep (O2.out.trans o)))
      have KG := Lib.hid (fun w' (o : Only Nil w2 w') => where_errno 4 w' (HE.out.keep (O2.out.trans o)))
      have KN := Lib.hid (fun (w6 w' : World) (lo k : Nat) {xa : Option Addr} (o6 : Only Nil w6 w') (h : w6.ownsRow lo 3 1 (.slice xa i k) i (intsC X)) (o : Only Nil w2 w') => ints_any (w := w') (X := X) (Y := X) (a1 := xa) (a2 := a) (c1 := k) (c2 := c) HL.out HL.out
        (fun j hj => own_ints (show w'.ownsRow lo 3 1 (.slice xa X.length k) X.length (intsC X) from by rw [HL.out]; exact own_keep h o6 (fun _ _ h => h)) j (by rw [HL.out]; exact hj))
        (fun j hj => own_ints (show w'.ownsRow 0 3 1 (.slice a X.length c) X.length (intsC X) from by rw [HL.out]; exact own_keep R2.out o (fun _ _ h => h)) j (by rw [HL.out]; exact hj)) (by have := L20.out; omega))
      have AL := Lib.hid (show (wErr ++ Lib.itoa z).length ≤ 40 from by have := itoa_le HZ.out; simp [wErr]; omega)
      have DL := Lib.hid (dots_len HXS.out (by rw [HL.out]; exact L20.out))
      have WD := Lib.hid (show words z X = (if X = [] then wErr ++ Lib.itoa z else (wErr ++ Lib.itoa z ++ wIn) ++ dots X) from rfl)
      generalize words z X = Y at *
      generalize wErr ++ Lib.itoa z = A at *
      by_cases h0 : i = 0
      · subst h0
        have hY : Y = A := by rw [WD.out, if_pos (List.length_eq_zero_iff.1 HL.out)]
        subst hY
        go_wp2_with (first
            | (go_at_call 20; (with_reducible refine (KE.out _ (Only.refl _ _)).mono ?_); rintro e w3 ⟨rfl, o3⟩; have OO := Lib.hid o3; clear o3)
            | (go_at_call 21; (with_reducible refine (KB.out _ OO.out).mono ?_); rintro e wn ⟨rfl, on⟩; have O9 := Lib.hid (OO.out.trans on); clear OO on; have OO := O9; clear O9)
            | (go_at_call 22; (with_reducible refine (KU.out _ OO.out).mono ?_); rintro e wn ⟨rfl, rfl⟩)
            | (go_at_call 23; (with_reducible refine (KI.out _ OO.out).mono ?_); rintro e wn ⟨rfl, rfl⟩)
            | (go_at_call 16; (first | (with_reducible refine (KC.out _ OO.out).mono ?_) | (with_reducible refine (KF.out _ OO.out).mono ?_)); rintro e wn ⟨rfl, on⟩; have O9 := Lib.hid (OO.out.trans on); clear OO on; have OO := O9; clear O9)
            | (go_at_call 18; first
              | ((with_reducible refine (KW.out _ OO.out).mono ?_); rintro e wn ⟨xa, xc, rfl, hxo, on⟩; have O9 := Lib.hid (OO.out.trans on); have HX := Lib.hid (KN.out _ _ _ _ (Only.refl _ _) hxo O9.out); clear OO on hxo; have OO := O9; clear O9)
              | ((with_reducible refine (KG.out _ OO.out).mono ?_); rintro e wn ⟨rfl, on⟩; have O9 := Lib.hid (OO.out.trans on); clear OO on; have OO := O9; clear O9))
            | (go_at_call 17; (with_reducible refine HX.out.mono ?_); rintro e wn ⟨rfl, on⟩; have O9 := Lib.hid (OO.out.trans on); clear OO on; have OO := O9; clear O9))
        go_ret
        exact ⟨by first | rfl | (simp; done), below_nil (O2.out.trans OO.out)⟩
      · have h0' : (0 : Int) < (i : Int) := by omega
        have hY : A ++ wIn ++ dots X = Y := by rw [WD.out, if_neg (fun e => h0 (by rw [← HL.out, e]; rfl))]
        have a1 := fun w => str_add A wIn (by have := AL.out; simp [wIn]; omega) w
        have a2 := fun w => str_add (A ++ wIn) (dots X) (by have := AL.out; have := DL.out; simp [wIn]; omega) w
        have hlit : bs wIn = ⟨#[32, 105, 110, 32]⟩ := rfl
        rw [hlit] at a1
        rw [hY] at a2
        generalize A ++ wIn = AI at *
        generalize dots X = Dx at *
        clear hlit hY
        go_wp2_with (first
            | (go_at_call 20; (with_reducible refine (KE.out _ (Only.refl _ _)).mono ?_); rintro e w3 ⟨rfl, o3⟩; have OO := Lib.hid o3; clear o3)
            | (go_at_call 21; (with_reducible refine (KB.out _ OO.out).mono ?_); rintro e wn ⟨rfl, on⟩; have O9 := Lib.hid (OO.out.trans on); clear OO on; have OO := O9; clear O9)
            | (go_at_call 22; (with_reducible refine (KU.out _ OO.out).mono ?_); rintro e wn ⟨rfl, rfl⟩)
            | (go_at_call 23; (with_reducible refine (KI.out _ OO.out).mono ?_); rintro e wn ⟨rfl, rfl⟩)
            | (go_at_call 16; (first | (with_reducible refine (KC.out _ OO.out).mono ?_) | (with_reducible refine (KF.out _ OO.out).mono ?_)); rintro e wn ⟨rfl, on⟩; have O9 := Lib.hid (OO.out.trans on); clear OO on; have OO := O9; clear O9)
            | (go_at_call 18; first
              | ((with_reducible refine (KW.out _ OO.out).mono ?_); rintro e wn ⟨xa, xc, rfl, hxo, on⟩; have O9 := Lib.hid (OO.out.trans on); have HX := Lib.hid (KN.out _ _ _ _ (Only.refl _ _) hxo O9.out); clear OO on hxo; have OO := O9; clear O9)
              | ((with_reducible refine (KG.out _ OO.out).mono ?_); rintro e wn ⟨rfl, on⟩; have O9 := Lib.hid (OO.out.trans on); clear OO on; have OO := O9; clear O9))
            | (go_at_call 17; (with_reducible refine HX.out.mono ?_); rintro e wn ⟨rfl, on⟩; have O9 := Lib.hid (OO.out.trans on); clear OO on; have OO := O9; clear O9))
        go_ret
        exact ⟨by first | rfl | (simp; done), below_nil (O2.out.trans OO.out)⟩
end Go.Proofs.YthanclicnkjmiaaGreatDoor.Ch
