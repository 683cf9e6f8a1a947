/- check: the tests of rows, states and kinds. -/
import Derived.Test.YthanclicnkjmiaaGreatDoorChJ
set_option linter.unusedVariables false
namespace Go.Proofs.YthanclicnkjmiaaGreatDoor.Ch
open Go.RowKit Go.Proofs.YthanclicnkjmiaaGreatDoor Lx Ps

theorem rowIn_any {w : World} {x : Kd} {y : Sta} {a0 a1 a2 a3 : Option Addr} {nP c0 nC c1 nS c2 nR c3 : Nat} {z : Rw} {a4 : Option Addr} {nE c4 : Nat} (ht : z.tag.length ≤ 140737488355328) :
    Calls Tryz.prog 176 #[.agg #[.slice a0 nP c0, .string (bs x.name), .int .i64 x.limit, .int .i64 x.within, .slice a1 nC c1, .slice a2 nS c2, .string (bs y.name), .slice a3 nR c3, .string (bs z.tag), .bool z.only, .int .i64 z.n, .slice a4 nE c4]] w fun e w' => e = .returned (.bool (rowIn z)) ∧ Only Nil w w' := by
  obtain ⟨W, hW⟩ : ∃ W, W = (w.alloc (.cells #[.slice a0 nP c0, .string (bs x.name), .int .i64 x.limit, .int .i64 x.within, .slice a1 nC c1, .slice a2 nS c2, .string (bs y.name), .slice a3 nR c3, .string (bs z.tag), .bool z.only, .int .i64 z.n, .slice a4 nE c4] 93)).alloc (.cells #[.string (bs z.tag), .bool z.only, .int .i64 z.n, .slice a4 nE c4] 62) := ⟨_, rfl⟩
  obtain ⟨o, b1, b2⟩ : Only Nil w W ∧ Bx W w.heap.size [.slice a0 nP c0, .string (bs x.name), .int .i64 x.limit, .int .i64 x.within, .slice a1 nC c1, .slice a2 nS c2, .string (bs y.name), .slice a3 nR c3, .string (bs z.tag), .bool z.only, .int .i64 z.n, .slice a4 nE c4] 93 ∧ Bx W (w.heap.size + 1) [.string (bs z.tag), .bool z.only, .int .i64 z.n, .slice a4 nE c4] 62 := two_box hW
  have hr : rowIn z = ((isNm z.tag || decide (z.tag = []) && !z.only) && isNum z.n z.only) := rfl
  rw [hr]
  have he := emp_bs z.tag
  have HN := Lib.hid (fun w' => name_any z.tag w' ht)
  have HM := Lib.hid (fun w' => num_any z.n z.only w')
  have CC := Lib.hid (show ∀ w', Only Nil W w' → w'.cell? ⟨w.heap.size + 1, 0, none⟩ = some (.string (bs z.tag)) ∧ w'.cell? ⟨w.heap.size + 1, 1, none⟩ = some (.bool z.only) ∧ w'.cell? ⟨w.heap.size + 1, 2, none⟩ = some (.int .i64 z.n) from fun w' o => ⟨only_cell0 o (b2.cell 0 rfl), only_cell0 o (b2.cell 1 rfl), only_cell0 o (b2.cell 2 rfl)⟩)
  obtain ⟨d0, d1, d2⟩ := CC.out W (Only.refl _ _)
  have O := Lib.hid o
  clear o b1 b2 hr ht
  generalize isNum z.n z.only = r at *
  cases hn : isNm z.tag with
  | true =>
    rw [hn] at HN
    clear hn he
    rw [Bool.true_or, Bool.true_and]
    go_enter Tryz.func176, Tryz.ntmps176
    go_upto_region 2 with (fail)
    (try simp only [World.size_alloc]); rw [← hW]; clear hW
    go_wp2_with (first
            | (go_at_call 139; refine (HN.out _).mono ?_; rintro e wn ⟨rfl, on⟩; have ON := Lib.hid on; obtain ⟨k0, k1, k2⟩ := CC.out _ on; clear on)
            | (go_at_call 211; refine (HM.out _).mono ?_; rintro e wm ⟨rfl, rfl⟩))
    go_ret
    exact ⟨rfl, O.out.trans ON.out⟩
  | false =>
    rw [hn] at HN
    clear hn
    rw [Bool.false_or]
    cases ht : decide (z.tag = []) with
    | false =>
      rw [ht] at he
      clear ht
      rw [Bool.false_and, Bool.false_and]
      go_enter Tryz.func176, Tryz.ntmps176
      go_upto_region 2 with (fail)
      (try simp only [World.size_alloc]); rw [← hW]; clear hW
      go_wp2_with ((go_at_call 139; refine (HN.out _).mono ?_; rintro e wn ⟨rfl, on⟩; have ON := Lib.hid on; obtain ⟨k0, k1, k2⟩ := CC.out _ on; clear on))
      go_ret
      exact ⟨rfl, O.out.trans ON.out⟩
    | true =>
      rw [ht] at he
      clear ht
      rw [Bool.true_and]
      rcases Bool.eq_false_or_eq_true z.only with ho | ho
      · have e2 : (!z.only && r) = false := by rw [ho]; rfl
        rw [e2]
        rw [ho] at HM CC d1
        clear e2 ho
        go_enter Tryz.func176, Tryz.ntmps176
        go_upto_region 2 with (fail)
        (try simp only [World.size_alloc]); rw [← hW]; clear hW
        go_wp2_with ((go_at_call 139; refine (HN.out _).mono ?_; rintro e wn ⟨rfl, on⟩; have ON := Lib.hid on; obtain ⟨k0, k1, k2⟩ := CC.out _ on; clear on))
        go_ret
        exact ⟨rfl, O.out.trans ON.out⟩
      · have e2 : (!z.only && r) = r := by rw [ho]; rfl
        rw [e2]
        rw [ho] at HM CC d1
        clear e2 ho
        go_enter Tryz.func176, Tryz.ntmps176
        go_upto_region 2 with (fail)
        (try simp only [World.size_alloc]); rw [← hW]; clear hW
        go_wp2_with (first
                  | (go_at_call 139; refine (HN.out _).mono ?_; rintro e wn ⟨rfl, on⟩; have ON := Lib.hid on; obtain ⟨k0, k1, k2⟩ := CC.out _ on; clear on)
                  | (go_at_call 211; refine (HM.out _).mono ?_; rintro e wm ⟨rfl, rfl⟩))
        go_ret
        exact ⟨rfl, O.out.trans ON.out⟩
theorem stash1_any (f : Eff) (w : World) : Calls Tryz.prog 213 #[.agg #[.int .i64 f.act, .string (bs f.ref), .string (bs f.slot), .string (bs f.name), .int .i64 f.val, .int .i64 f.n, .int .i64 f.delay]] w fun e w' => e = .returned (.bool (decide (f.act = 4))) ∧ Only Nil w w' := by
  have o : Only Nil w (w.alloc (.cells #[.int .i64 f.act, .string (bs f.ref), .string (bs f.slot), .string (bs f.name), .int .i64 f.val, .int .i64 f.n, .int .i64 f.delay] 67)) := (Only.refl Nil w).alloc _
  by_cases h : f.act = 4
  · have g : (f.act == 4) = true := by simpa using h
    have HX := Lib.hid (decide_eq_true h)
    clear h
    go_enter Tryz.func213, Tryz.ntmps213
    go_wp2
    go_ret
    exact ⟨by rw [HX.out]; rfl, o⟩
  · have g : (f.act == 4) = false := by simpa using h
    have HX := Lib.hid (decide_eq_false h)
    clear h
    go_enter Tryz.func213, Tryz.ntmps213
    go_wp2
    go_ret
    exact ⟨by rw [HX.out]; rfl, o⟩
theorem alone_any {D : Nat} {w : World} {x : Kd} {y : Sta} {a0 a1 a2 a3 : Option Addr} {nP c0 nC c1 nS c2 nR c3 : Nat} {z : Rw} {a4 : Option Addr} {nE c4 : Nat} (hZ : VZ D w z a4 nE c4) :
    Calls Tryz.prog 181 #[.agg #[.slice a0 nP c0, .string (bs x.name), .int .i64 x.limit, .int .i64 x.within, .slice a1 nC c1, .slice a2 nS c2, .string (bs y.name), .slice a3 nR c3, .string (bs z.tag), .bool z.only, .int .i64 z.n, .slice a4 nE c4]] w fun e w' => e = .returned (.bool (alone z.effs)) ∧ Only Nil w w' := by
  have b1 := bx_new w [.slice a0 nP c0, .string (bs x.name), .int .i64 x.limit, .int .i64 x.within, .slice a1 nC c1, .slice a2 nS c2, .string (bs y.name), .slice a3 nR c3, .string (bs z.tag), .bool z.only, .int .i64 z.n, .slice a4 nE c4] 93
  have o : Only Nil w (w.alloc (.cells #[.slice a0 nP c0, .string (bs x.name), .int .i64 x.limit, .int .i64 x.within, .slice a1 nC c1, .slice a2 nS c2, .string (bs y.name), .slice a3 nR c3, .string (bs z.tag), .bool z.only, .int .i64 z.n, .slice a4 nE c4] 93)) := (Only.refl Nil w).alloc _
  have HC := Lib.hid (con_eff (hZ.keep o).e hZ.n hZ.b (p := fun f => decide (f.act = 4)) ⟨213, #[], #[], rfl, enters_of Tryz.func213 (by kernel_rfl) rfl, fun w' f o' => stash1_any f w'⟩)
  have c11 := b1.cell 11 (v := .slice a4 nE c4) rfl
  have hn := hZ.n
  have O := Lib.hid o
  have ha : alone z.effs = (decide (nE = 1) || !(z.effs.any fun e => decide (e.act = 4))) := by unfold alone; rw [hn]
  rw [ha]
  generalize (z.effs.any fun e => decide (e.act = 4)) = r at *
  have hb := hZ.b
  clear ha hZ o b1 hn
  change World.cell? (w.alloc (.cells #[.slice a0 nP c0, .string (bs x.name), .int .i64 x.limit, .int .i64 x.within, .slice a1 nC c1, .slice a2 nS c2, .string (bs y.name), .slice a3 nR c3, .string (bs z.tag), .bool z.only, .int .i64 z.n, .slice a4 nE c4] 93)) _ = _ at c11
  by_cases h : nE = 1
  · have g : ((nE : Int) == 1) = true := by simp [h]
    rw [decide_eq_true h, Bool.true_or]
    clear h HC hb
    go_enter Tryz.func181, Tryz.ntmps181
    go_wp2
    go_ret
    exact ⟨rfl, O.out⟩
  · have g : ((nE : Int) == 1) = false := by rw [beq_eq_false_iff_ne]; omega
    rw [decide_eq_false h, Bool.false_or]
    clear h hb
    go_enter Tryz.func181, Tryz.ntmps181
    go_wp2_with (go_at_call 214; refine HC.out.mono ?_; rintro e wn ⟨rfl, on⟩)
    go_ret
    exact ⟨rfl, O.out.trans on⟩
theorem or1_any {D : Nat} {w : World} {x : Kd} {a0 a1 a2 : Option Addr} {nP c0 nC c1 nS c2 : Nat} {y : Sta} {a3 : Option Addr} {nR c3 : Nat} {z : Rw} {a4 : Option Addr} {nE c4 : Nat} (hY : VY D w y a3 nR c3) (q : Nat) (h : Bx w q [.slice a0 nP c0, .string (bs x.name), .int .i64 x.limit, .int .i64 x.within, .slice a1 nC c1, .slice a2 nS c2, .string (bs y.name), .slice a3 nR c3, .string (bs z.tag), .bool z.only, .int .i64 z.n, .slice a4 nE c4] 93) (i qa : Nat) (hi : i < nR) (ha : w.cell? ⟨qa, 0, none⟩ = some (.int .i64 (i : Int))) :
    Calls Tryz.prog 177 #[.pointer (some ⟨q, 0, none⟩), .pointer (some ⟨qa, 0, none⟩)] w fun e w' => e = .returned (.bool (isNew (y.rows.map headR) i)) ∧ Only Nil w w' := by
  have c7 := h.cell 7 (v := .slice a3 nR c3) rfl
  have HC := Lib.hid (isNew_rw hY.r hY.n hY.b i hi)
  generalize isNew (y.rows.map headR) i = r at *
  clear h hY hi
  go_enter Tryz.func177, Tryz.ntmps177
  go_wp2_with (go_at_call 178; refine HC.out.mono ?_; rintro e wn ⟨rfl, on⟩)
  go_ret
  exact ⟨rfl, on⟩
theorem os2_any {D : Nat} {w : World} {a0 : Option Addr} {nP c0 : Nat} {x : Kd} {a1 a2 : Option Addr} {nC c1 nS c2 : Nat} {y : Sta} {a3 : Option Addr} {nR c3 : Nat} (hX : VX D w x a1 nC c1 a2 nS c2) (q : Nat) (h : Bx w q [.slice a0 nP c0, .string (bs x.name), .int .i64 x.limit, .int .i64 x.within, .slice a1 nC c1, .slice a2 nS c2, .string (bs y.name), .slice a3 nR c3, .string (bs []), .bool false, .int .i64 0, .slice none 0 0] 93) (i qa : Nat) (hi : i < nS) (ha : w.cell? ⟨qa, 0, none⟩ = some (.int .i64 (i : Int))) :
    Calls Tryz.prog 144 #[.pointer (some ⟨q, 0, none⟩), .pointer (some ⟨qa, 0, none⟩)] w fun e w' => e = .returned (.bool (isNew (x.states.map Sta.name) i)) ∧ Only Nil w w' := by
  have c5 := h.cell 5 (v := .slice a2 nS c2) rfl
  have HC := Lib.hid (isNew_sta hX.s hX.sn hX.sb i hi)
  generalize isNew (x.states.map Sta.name) i = r at *
  clear h hX hi
  go_enter Tryz.func144, Tryz.ntmps144
  go_wp2_with (go_at_call 145; refine HC.out.mono ?_; rintro e wn ⟨rfl, on⟩)
  go_ret
  exact ⟨rfl, on⟩
theorem ok1_any {D : Nat} {w : World} {P : List Kd} {a0 : Option Addr} {nP c0 : Nat} {x : Kd} {a1 a2 : Option Addr} {nC c1 nS c2 : Nat} (hP : VK D w P a0 nP c0) (q : Nat) (h : Bx w q [.slice a0 nP c0, .string (bs x.name), .int .i64 x.limit, .int .i64 x.within, .slice a1 nC c1, .slice a2 nS c2, .string (bs []), .slice none 0 0, .string (bs []), .bool false, .int .i64 0, .slice none 0 0] 93) (i qa : Nat) (hi : i < nP) (ha : w.cell? ⟨qa, 0, none⟩ = some (.int .i64 (i : Int))) :
    Calls Tryz.prog 100 #[.pointer (some ⟨q, 0, none⟩), .pointer (some ⟨qa, 0, none⟩)] w fun e w' => e = .returned (.bool (isNew (P.map Kd.name) i)) ∧ Only Nil w w' := by
  have c0_ := h.cell 0 (v := .slice a0 nP c0) rfl
  have HC := Lib.hid (isNew_kd hP.x hP.n hP.b i hi)
  generalize isNew (P.map Kd.name) i = r at *
  clear h hP hi
  go_enter Tryz.func100, Tryz.ntmps100
  go_wp2_with (go_at_call 101; refine HC.out.mono ?_; rintro e wn ⟨rfl, on⟩)
  go_ret
  exact ⟨rfl, on⟩
theorem os1_any {D : Nat} {w : World} {x : Kd} {a0 a1 a2 : Option Addr} {nP c0 nC c1 nS c2 : Nat} {y : Sta} {a3 : Option Addr} {nR c3 : Nat} (q : Nat) (h : Bx w q [.slice a0 nP c0, .string (bs x.name), .int .i64 x.limit, .int .i64 x.within, .slice a1 nC c1, .slice a2 nS c2, .string (bs y.name), .slice a3 nR c3, .string (bs []), .bool false, .int .i64 0, .slice none 0 0] 93) (hn : y.name.length ≤ 140737488355328) :
    Calls Tryz.prog 143 #[.pointer (some ⟨q, 0, none⟩)] w fun e w' => e = .returned (.bool (isNm y.name)) ∧ Only Nil w w' := by
  have c6 := h.cell 6 (v := .string (bs y.name)) rfl
  have HC := Lib.hid (name_any y.name w hn)
  generalize isNm y.name = r at *
  clear h hn
  go_enter Tryz.func143, Tryz.ntmps143
  go_wp2_with (go_at_call 139; refine HC.out.mono ?_; rintro e wn ⟨rfl, on⟩)
  go_ret
  exact ⟨rfl, on⟩
theorem or2_any {w : World} {x : Kd} {y : Sta} {a0 a1 a2 a3 : Option Addr} {nP c0 nC c1 nS c2 nR c3 : Nat} {z : Rw} {a4 : Option Addr} {nE c4 : Nat} (q : Nat) (h : Bx w q [.slice a0 nP c0, .string (bs x.name), .int .i64 x.limit, .int .i64 x.within, .slice a1 nC c1, .slice a2 nS c2, .string (bs y.name), .slice a3 nR c3, .string (bs z.tag), .bool z.only, .int .i64 z.n, .slice a4 nE c4] 93) :
    Calls Tryz.prog 180 #[.pointer (some ⟨q, 0, none⟩)] w fun e w' => e = .returned (.bool (decide (nE ≤ 8))) ∧ w = w' := by
  have c_ := h.cell 11 (v := .slice a4 nE c4) rfl
  clear h
  by_cases hl : nE ≤ 8
  · have g : (nE : Int) ≤ 8 := by omega
    rw [decide_eq_true hl]
    clear hl
    go_enter Tryz.func180, Tryz.ntmps180
    go_wp2
    go_ret
    exact ⟨rfl, rfl⟩
  · have g : ¬ (nE : Int) ≤ 8 := by omega
    rw [decide_eq_false hl]
    clear hl
    go_enter Tryz.func180, Tryz.ntmps180
    go_wp2
    go_ret
    exact ⟨rfl, rfl⟩
theorem os3_any {w : World} {x : Kd} {a0 a1 a2 : Option Addr} {nP c0 nC c1 nS c2 : Nat} {y : Sta} {a3 : Option Addr} {nR c3 : Nat} (q : Nat) (h : Bx w q [.slice a0 nP c0, .string (bs x.name), .int .i64 x.limit, .int .i64 x.within, .slice a1 nC c1, .slice a2 nS c2, .string (bs y.name), .slice a3 nR c3, .string (bs []), .bool false, .int .i64 0, .slice none 0 0] 93) :
    Calls Tryz.prog 147 #[.pointer (some ⟨q, 0, none⟩)] w fun e w' => e = .returned (.bool (decide (nR ≤ 16))) ∧ w = w' := by
  have c_ := h.cell 7 (v := .slice a3 nR c3) rfl
  clear h
  by_cases hl : nR ≤ 16
  · have g : (nR : Int) ≤ 16 := by omega
    rw [decide_eq_true hl]
    clear hl
    go_enter Tryz.func147, Tryz.ntmps147
    go_wp2
    go_ret
    exact ⟨rfl, rfl⟩
  · have g : ¬ (nR : Int) ≤ 16 := by omega
    rw [decide_eq_false hl]
    clear hl
    go_enter Tryz.func147, Tryz.ntmps147
    go_wp2
    go_ret
    exact ⟨rfl, rfl⟩
theorem wn_nat (n a b : Nat) : wn (n : Int) (a : Int) (b : Int) = (decide (a ≤ n) && decide (n ≤ b)) := by
  unfold wn; rw [Bool.eq_iff_iff]; simp
theorem ok2_any {w : World} {a0 : Option Addr} {nP c0 : Nat} {x : Kd} {a1 a2 : Option Addr} {nC c1 nS c2 : Nat} (q : Nat) (h : Bx w q [.slice a0 nP c0, .string (bs x.name), .int .i64 x.limit, .int .i64 x.within, .slice a1 nC c1, .slice a2 nS c2, .string (bs []), .slice none 0 0, .string (bs []), .bool false, .int .i64 0, .slice none 0 0] 93) :
    Calls Tryz.prog 103 #[.pointer (some ⟨q, 0, none⟩)] w fun e w' => e = .returned (.bool (decide (nC ≤ 8) && (decide (1 ≤ nS) && decide (nS ≤ 8)))) ∧ w = w' := by
  have c4_ := h.cell 4 (v := .slice a1 nC c1) rfl
  have c5_ := h.cell 5 (v := .slice a2 nS c2) rfl
  have HC := Lib.hid (within_any (nS : Int) 1 8 w)
  have e : wn (nS : Int) 1 8 = (decide (1 ≤ nS) && decide (nS ≤ 8)) := wn_nat nS 1 8
  rw [e] at HC
  generalize (decide (1 ≤ nS) && decide (nS ≤ 8)) = r at *
  clear h e
  by_cases hl : nC ≤ 8
  · have g : (nC : Int) ≤ 8 := by omega
    rw [decide_eq_true hl, Bool.true_and]
    clear hl
    go_enter Tryz.func103, Tryz.ntmps103
    go_wp2_with (go_at_call 61; refine HC.out.mono ?_; rintro e wn ⟨rfl, rfl⟩)
    go_ret
    exact ⟨rfl, rfl⟩
  · have g : ¬ (nC : Int) ≤ 8 := by omega
    rw [decide_eq_false hl, Bool.false_and]
    clear hl HC
    go_enter Tryz.func103, Tryz.ntmps103
    go_wp2
    go_ret
    exact ⟨rfl, rfl⟩
theorem wh1_any {w : World} {a0 : Option Addr} {nP c0 : Nat} (q : Nat) (h : Bx w q [.slice a0 nP c0, .string (bs []), .int .i64 0, .int .i64 0, .slice none 0 0, .slice none 0 0, .string (bs []), .slice none 0 0, .string (bs []), .bool false, .int .i64 0, .slice none 0 0] 93) :
    Calls Tryz.prog 60 #[.pointer (some ⟨q, 0, none⟩)] w fun e w' => e = .returned (.bool (decide (1 ≤ nP) && decide (nP ≤ 8))) ∧ w = w' := by
  have c0_ := h.cell 0 (v := .slice a0 nP c0) rfl
  have HC := Lib.hid (within_any (nP : Int) 1 8 w)
  have e : wn (nP : Int) 1 8 = (decide (1 ≤ nP) && decide (nP ≤ 8)) := wn_nat nP 1 8
  rw [e] at HC
  generalize (decide (1 ≤ nP) && decide (nP ≤ 8)) = r at *
  clear h e
  go_enter Tryz.func60, Tryz.ntmps60
  go_wp2_with (go_at_call 61; refine HC.out.mono ?_; rintro e wn ⟨rfl, rfl⟩)
  go_ret
  exact ⟨rfl, rfl⟩
theorem kdIn_any {w : World} {a0 : Option Addr} {nP c0 : Nat} {x : Kd} {a1 a2 : Option Addr} {nC c1 nS c2 : Nat} (ht : x.name.length ≤ 140737488355328) :
    Calls Tryz.prog 99 #[.agg #[.slice a0 nP c0, .string (bs x.name), .int .i64 x.limit, .int .i64 x.within, .slice a1 nC c1, .slice a2 nS c2, .string (bs []), .slice none 0 0, .string (bs []), .bool false, .int .i64 0, .slice none 0 0]] w fun e w' => e = .returned (.bool (kdIn x)) ∧ Only Nil w w' := by
  obtain ⟨W, hW⟩ : ∃ W, W = (w.alloc (.cells #[.slice a0 nP c0, .string (bs x.name), .int .i64 x.limit, .int .i64 x.within, .slice a1 nC c1, .slice a2 nS c2, .string (bs []), .slice none 0 0, .string (bs []), .bool false, .int .i64 0, .slice none 0 0] 93)).alloc (.cells #[.string (bs x.name), .int .i64 x.limit, .int .i64 x.within, .slice a1 nC c1, .slice a2 nS c2] 56) := ⟨_, rfl⟩
  obtain ⟨o, b1, b2⟩ : Only Nil w W ∧ Bx W w.heap.size [.slice a0 nP c0, .string (bs x.name), .int .i64 x.limit, .int .i64 x.within, .slice a1 nC c1, .slice a2 nS c2, .string (bs []), .slice none 0 0, .string (bs []), .bool false, .int .i64 0, .slice none 0 0] 93 ∧ Bx W (w.heap.size + 1) [.string (bs x.name), .int .i64 x.limit, .int .i64 x.within, .slice a1 nC c1, .slice a2 nS c2] 56 := two_box hW
  have hr : kdIn x = (isNm x.name && wn x.limit 0 100 && wn x.within 1 4095) := rfl
  rw [hr]
  have HN := Lib.hid (fun w' => name_any x.name w' ht)
  have HL := Lib.hid (fun w' => within_any x.limit 0 100 w')
  have HV := Lib.hid (fun w' => within_any x.within 1 4095 w')
  have CC := Lib.hid (show ∀ w', Only Nil W w' → w'.cell? ⟨w.heap.size + 1, 0, none⟩ = some (.string (bs x.name)) ∧ w'.cell? ⟨w.heap.size + 1, 1, none⟩ = some (.int .i64 x.limit) ∧ w'.cell? ⟨w.heap.size + 1, 2, none⟩ = some (.int .i64 x.within) from fun w' o => ⟨only_cell0 o (b2.cell 0 rfl), only_cell0 o (b2.cell 1 rfl), only_cell0 o (b2.cell 2 rfl)⟩)
  obtain ⟨d0, d1, d2⟩ := CC.out W (Only.refl _ _)
  have O := Lib.hid o
  clear o b1 b2 hr ht
  cases hn : isNm x.name with
  | false =>
    rw [hn] at HN
    rw [Bool.false_and, Bool.false_and]
    clear hn
    go_enter Tryz.func99, Tryz.ntmps99
    go_upto_region 2 with (fail)
    (try simp only [World.size_alloc]); rw [← hW]; clear hW
    go_wp2_with ((go_at_call 139; refine (HN.out _).mono ?_; rintro e wn ⟨rfl, on⟩; have ON := Lib.hid on; obtain ⟨k0, k1, k2⟩ := CC.out _ on; clear on))
    go_ret
    exact ⟨rfl, O.out.trans ON.out⟩
  | true =>
    rw [hn] at HN
    rw [Bool.true_and]
    clear hn
    cases hl : wn x.limit 0 100 with
    | false =>
      rw [hl] at HL
      rw [Bool.false_and]
      clear hl
      go_enter Tryz.func99, Tryz.ntmps99
      go_upto_region 2 with (fail)
      (try simp only [World.size_alloc]); rw [← hW]; clear hW
      go_wp2_with (first
              | (go_at_call 139; refine (HN.out _).mono ?_; rintro e wn ⟨rfl, on⟩; have ON := Lib.hid on; obtain ⟨k0, k1, k2⟩ := CC.out _ on; clear on)
              | (go_at_call 61; (with_reducible refine (HL.out _).mono ?_); rintro e wm ⟨rfl, rfl⟩))
      go_ret
      exact ⟨rfl, O.out.trans ON.out⟩
    | true =>
      rw [hl] at HL
      rw [Bool.true_and]
      clear hl
      generalize wn x.within 1 4095 = r at *
      go_enter Tryz.func99, Tryz.ntmps99
      go_upto_region 2 with (fail)
      (try simp only [World.size_alloc]); rw [← hW]; clear hW
      go_wp2_with (first
              | (go_at_call 139; refine (HN.out _).mono ?_; rintro e wn ⟨rfl, on⟩; have ON := Lib.hid on; obtain ⟨k0, k1, k2⟩ := CC.out _ on; clear on)
              | (go_at_call 61; (with_reducible refine (HL.out _).mono ?_); rintro e wm ⟨rfl, rfl⟩)
              | (go_at_call 61; (with_reducible refine (HV.out _).mono ?_); rintro e wm ⟨rfl, rfl⟩))
      go_ret
      exact ⟨rfl, O.out.trans ON.out⟩
end Go.Proofs.YthanclicnkjmiaaGreatDoor.Ch
