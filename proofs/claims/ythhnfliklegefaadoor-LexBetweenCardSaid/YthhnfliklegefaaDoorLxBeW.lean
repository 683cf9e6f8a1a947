/- LexBetween's walk. -/
import Derived.Test.YthhnfliklegefaaDoorLxAlW
import Derived.Test.YthhnfliklegefaaDoorLxM4
namespace Go.Proofs.YthhnfliklegefaaDoor.Lx
open Go.RowKit Go.Proofs.YthhnfliklegefaaDoor

theorem join_eq (a rm b : List UInt8) : (((a ++ [10, 9, 35]) ++ rm) ++ [10, 32]) ++ b = join a rm b := by simp [join, btw]
theorem join_bs (a rm b : List UInt8) : bs (a ++ 10 :: 9 :: 35 :: rm) ++ ⟨#[10, 32]⟩ ++ bs b = bs (join a rm b) := by
  have e : (⟨#[10, 32]⟩ : ByteArray) = bs [10, 32] := rfl
  rw [e, bs_append, bs_append, ← join_eq]
  simp
theorem str_index (l : List UInt8) (i : Nat) (h : i < l.length) (w : World) : (Instr.index 9 (.string (bs l)) (.int .i64 (i : Int))).run Tryd.prog w = .ok (.int .u8 ((l[i]'h).toNat : Int)) w := by
  have hs : i < (bs l).size := by rw [bs_size]; exact h
  have e : (bs l)[i]'hs = l[i]'h := bs_get l i hs
  rw [← e]
  simp [go_sem, Tryd.underlying9]
  rw [dif_pos h]

set_option maxRecDepth 100000 in
set_option maxHeartbeats 2000000 in
theorem between_long (a b rm : List UInt8) (w : World) (E : Env w) (ha : a.length ≤ 140737488355328) (hb : b.length ≤ 140737488355328) (hr : rm.length ≤ 140737488355328) (h : 8000 < a.length + b.length + rm.length) :
    Calls Tryd.prog 6 #[.string (bs a), .string (bs b), .string (bs rm)] w fun e w' => e = .returned (.bool true) ∧ Below w.heap.size w w' := by
  have HE := Lib.hid E
  clear E
  have z1 : (bs a).size = a.length := bs_size a
  have z2 : (bs b).size = b.length := bs_size b
  have z3 : (bs rm).size = rm.length := bs_size rm
  go_enter Tryd.func6, Tryd.ntmps6
  go_wp2_with fail
  refine (alive_any w HE.out).mono ?_
  rintro e w1 ⟨rfl, o1⟩
  go_wp2
  go_ret
  exact ⟨rfl, o1.below (Nat.le_refl _) (fun k h => h.elim)⟩

set_option maxRecDepth 100000 in
set_option maxHeartbeats 8000000 in
theorem between_short (a b rm : List UInt8) (w : World) (E : Env w) (h : a.length + b.length + rm.length ≤ 8000) :
    Calls Tryd.prog 6 #[.string (bs a), .string (bs b), .string (bs rm)] w fun e w' => e = .returned (.bool true) ∧ Below w.heap.size w w' := by
  have HE := Lib.hid E
  clear E
  have z1 : (bs a).size = a.length := bs_size a
  have z2 : (bs b).size = b.length := bs_size b
  have z3 : (bs rm).size = rm.length := bs_size rm
  go_enter Tryd.func6, Tryd.ntmps6
  go_wp2_with fail
  refine (alive_any w HE.out).mono ?_
  rintro e w1 ⟨rfl, o1⟩
  go_wp2_with fail
  go_loopw [7] (fun s7 wr => ∃ i : Nat, i ≤ rm.length ∧ s7 = .int .i64 (i : Int) ∧ Hid (∀ x ∈ rm.take i, (x == 10) = false) ∧ Only Nil w wr) (fun s7 _ => rm.length - (intOf s7).toNat)
  case atStart => exact ⟨0, Nat.zero_le _, rfl, Lib.hid (fun x hx => by simp at hx), o1⟩
  case round =>
    obtain ⟨i, hi, rfl, hno, o⟩ := hrel
    by_cases hlt : i < rm.length
    · have hix := fun w => str_index rm i hlt w
      have hsnoc : rm.take (i + 1) = rm.take i ++ [rm[i]] := List.take_succ_eq_append_getElem hlt
      have HS := Lib.hid hsnoc
      generalize rm[i]'hlt = c at *
      clear hsnoc
      cases hc : (c == 10) with
      | true =>
        obtain rfl : c = 10 := eq_of_beq hc
        have hc' : (((10 : UInt8).toNat : Int) == 10) = true := by decide
        clear hc
        go_wp2
        go_ret
        exact ⟨rfl, o.below (Nat.le_refl _) (fun k h => h.elim)⟩
      | false =>
        have hne : ¬ (c.toNat : Int) = 10 := fun he => by
          have : c = 10 := UInt8.toNat_inj.1 (by show c.toNat = 10; omega)
          rw [this] at hc; cases hc
        have hc' : ((c.toNat : Int) == 10) = false := by rw [beq_eq_false_iff_ne]; exact hne
        have HC := Lib.hid hc
        clear hc hne
        go_wp2
        go_roundw
        case rel =>
          refine ⟨i + 1, hlt, by go_num, Lib.hid ?_, o⟩
          rw [HS.out]
          intro x hx
          rcases List.mem_append.1 hx with hx | hx
          · exact hno.out x hx
          · rw [List.mem_singleton.1 hx]; exact HC.out
        case measure => simp [intOf]; omega
    · have hfull : rm.take i = rm := List.take_of_length_le (by omega)
      have hnr := hno.out
      rw [hfull] at hnr
      have hW := whole_join a rm b hnr (by omega)
      have hjl := join_len a rm b
      have s1 : ∀ w, (Op.stringOp .add (bs a) ⟨#[10, 9, 35]⟩).run Tryd.prog w = .ok (.string (bs (a ++ [10, 9, 35]))) w := fun w => str_add a [10, 9, 35] (by simp; omega) w
      have s2 : ∀ w, (Op.stringOp .add (bs (a ++ [10, 9, 35])) (bs rm)).run Tryd.prog w = .ok (.string (bs ((a ++ [10, 9, 35]) ++ rm))) w := fun w => str_add _ rm (by simp; omega) w
      have s3 : ∀ w, (Op.stringOp .add (bs ((a ++ [10, 9, 35]) ++ rm)) ⟨#[10, 32]⟩).run Tryd.prog w = .ok (.string (bs (((a ++ [10, 9, 35]) ++ rm) ++ [10, 32]))) w := fun w => str_add _ [10, 32] (by simp; omega) w
      have s4 : ∀ w, (Op.stringOp .add (bs (((a ++ [10, 9, 35]) ++ rm) ++ [10, 32])) (bs b)).run Tryd.prog w = .ok (.string (bs (join a rm b))) w := fun w => by
        rw [← join_eq]; exact str_add _ b (by simp; omega) w
      have hal : a.length ≤ 140737488355328 := by omega
      have hbl : b.length ≤ 140737488355328 := by omega
      have hzl : (join a rm b).length ≤ 140737488355328 := by omega
      have S := Lib.hid (And.intro s1 (And.intro s2 (And.intro s3 s4)))
      have HW := Lib.hid hW
      clear s1 s2 s3 s4 hnr hfull hW hjl
      generalize wr = wo at *
      by_cases ha0 : (whole a).2.1 = 0
      · by_cases hb0 : (whole b).2.1 = 0
        · skip
          have hz0 : (whole (join a rm b)).2.1 = 0 := by rw [HW.out.2, if_pos ha0]; exact hb0
          have hZ : (whole (join a rm b)).1 = (whole a).1 ++ (whole b).1.map (fun x => (x.1, x.2 + (a.length + rm.length + 5))) := by rw [HW.out.1, if_pos ha0]
          have hXa : (whole a).1.length ≤ 8000 := by rw [(whole_ok ha0).2]; have := LX_count a.length a.length a (Nat.le_refl _); omega
          have hXb : (whole b).1.length ≤ 8000 := by rw [(whole_ok hb0).2]; have := LX_count b.length b.length b (Nat.le_refl _); omega
          have hQ : Hid (∀ p, p < (whole b).1.length → ((whole b).1.getD p default).2 ≤ 8000) := Lib.hid fun p hp => by
            have hch : Chain b 0 (whole b).1 := by
              rw [(whole_ok hb0).2]; exact chain_le (chain_LX b b.length b (Nat.le_refl _) (List.suffix_refl _)) (Nat.zero_le _)
            have := (chain_at hch p hp).2.2.1
            omega
          have HzC := Lib.hid (fun (w : World) (E : Env w) => all_ok (join a rm b) w hzl E hz0 _ hZ ((whole a).1.length + (whole b).1.length) (by simp))
          have HaC := Lib.hid (fun (w : World) (E : Env w) => all_ok a w hal E ha0 _ rfl _ rfl)
          have HbC := Lib.hid (fun (w : World) (E : Env w) => all_ok b w hbl E hb0 _ rfl _ rfl)
          clear HW hz0 hZ ha0 hb0
          generalize (whole a).1 = Xa at *
          generalize (whole b).1 = Xb at *
          generalize hnz : Xa ++ Xb.map (fun x => (x.1, x.2 + (a.length + rm.length + 5))) = Z at *
          have HZ := Lib.hid hnz
          clear hnz
          generalize hna : Xa.length = na at *
          generalize hnb : Xb.length = nb at *
          have HNa := Lib.hid hna
          have HNb := Lib.hid hnb
          clear hna hnb
          have HNz : Hid (Z.length = na + nb) := Lib.hid (by rw [← HZ.out, List.length_append, List.length_map, HNa.out, HNb.out])
          go_wp2_with fail
          refine (HaC.out wo (HE.out.keep o)).mono ?_
          rintro e wa ⟨aa, ca, rfl, Ra⟩
          have HRa := Lib.hid Ra
          have oa := Lib.hid Ra.only
          clear Ra
          go_wp2_with fail
          refine (HbC.out wa (HE.out.keep (o.trans oa.out))).mono ?_
          rintro e wb ⟨ab, cb, rfl, Rb⟩
          have HRb := Lib.hid Rb
          have ob := Lib.hid Rb.only
          clear Rb
          obtain ⟨s1, s2, s3, s4⟩ := S.out
          go_wp2_with fail
          rw [join_bs]
          refine (HzC.out wb (HE.out.keep ((o.trans oa.out).trans ob.out))).mono ?_
          rintro e wz ⟨az, cz, rfl, Rz⟩
          have HRz := Lib.hid Rz
          clear Rz s1 s2 s3 s4
          have oz := Lib.hid (((o.trans oa.out).trans ob.out).trans HRz.out.only)
          have Ia := Lib.hid (((HRa.out.rin HNa.out).keep ob.out).keep HRz.out.only)
          have Ib := Lib.hid ((HRb.out.rin HNb.out).keep HRz.out.only)
          have Iz := Lib.hid (HRz.out.rin HNz.out)
          go_wp2_with fail
          go_loopw [14] (fun s14 wr => ∃ j : Nat, j ≤ na + nb ∧ s14 = .int .i64 (j : Int) ∧ Only Nil w wr ∧ RIn wr aa Xa ∧ RIn wr ab Xb ∧ RIn wr az Z)
            (fun s14 _ => na + nb - (intOf s14).toNat)
          case atStart => exact ⟨0, Nat.zero_le _, rfl, oz.out, Ia.out, Ib.out, Iz.out⟩
          case round =>
            obtain ⟨j, hj, rfl, oj, ia, ib, iz⟩ := hrel
            have JA := Lib.hid ia
            have JB := Lib.hid ib
            have JZ := Lib.hid iz
            clear ia ib iz
            by_cases hlt : j < na + nb
            · obtain ⟨bz, hbz, _, hcz⟩ := JZ.out j (by rw [HNz.out]; exact hlt)
              subst hbz
              obtain ⟨c0, c1, c2, c3⟩ := hcz j (by rw [HNz.out]; exact hlt)
              by_cases hja : j < na
              · have hl : Z.getD j default = Xa.getD j default := by
                  rw [← HZ.out]; simp [List.getD, List.getElem?_append_left (show j < Xa.length by rw [HNa.out]; exact hja)]
                obtain ⟨ba, hba, _, hca⟩ := JA.out j (by rw [HNa.out]; exact hja)
                subst hba
                obtain ⟨d0, d1, d2, d3⟩ := hca j (by rw [HNa.out]; exact hja)
                rw [hl] at c0 c1 c2 c3
                generalize (Xa.getD j default).1.k = k at *
                generalize (Xa.getD j default).1.w = ws at *
                generalize (Xa.getD j default).1.n = m at *
                generalize (Xa.getD j default).2 = q at *
                clear hl hcz hca
                go_upto_region 20 with (fail)
                go_quiet (fail)
                clear c0 c1 c2 c3 d0 d1 d2 d3
                have hge : decide (na ≤ j) = false := by simp; omega
                go_wp2
                go_roundw
                case rel => exact ⟨j + 1, by omega, by go_num, oj.drewN _, JA.out.keep ((Only.refl Nil _).drewN _), JB.out.keep ((Only.refl Nil _).drewN _), JZ.out.keep ((Only.refl Nil _).drewN _)⟩
                case measure => simp [intOf]; omega
              · obtain ⟨p, hp⟩ : ∃ p, j = na + p := ⟨j - na, by omega⟩
                have hpb : p < nb := by omega
                have hl : Z.getD j default = ((Xb.getD p default).1, (Xb.getD p default).2 + (a.length + rm.length + 5)) := by
                  rw [← HZ.out, hp]
                  have h1 : ¬ na + p < Xa.length := by rw [HNa.out]; omega
                  have h2 : p < Xb.length := by rw [HNb.out]; exact hpb
                  simp [List.getD, HNa.out, h2]
                obtain ⟨bb, hbb, _, hcb⟩ := JB.out p (by rw [HNb.out]; exact hpb)
                subst hbb
                obtain ⟨d0, d1, d2, d3⟩ := hcb p (by rw [HNb.out]; exact hpb)
                rw [hl] at c0 c1 c2 c3
                have hq8 := hQ.out p hpb
                generalize (Xb.getD p default).1.k = k at *
                generalize (Xb.getD p default).1.w = ws at *
                generalize (Xb.getD p default).1.n = m at *
                generalize (Xb.getD p default).2 = q at *
                clear hl hcz hcb
                have hqe : ((q + (a.length + rm.length + 5) : Nat) : Int) = (q : Int) + (a.length : Int) + (rm.length : Int) + 5 := by omega
                have c3' : wr.cell? ⟨bz, j * 4 + 3, none⟩ = some (.int .i64 ((q : Int) + (a.length : Int) + (rm.length : Int) + 5)) := by rw [← hqe]; exact c3
                have HP := Lib.hid hp
                clear c3 hqe hp
                have g1 : decide (j < na) = false := by simp; omega
                go_upto_region 20 with (fail)
                go_quiet (fail)
                have hge : decide (na ≤ j) = true := by simp; omega
                have hsub : (j : Int) - (na : Int) = (p : Int) := by have := HP.out; omega
                have e0 : (wr.drewN nq).cell? ⟨bz, j * 4, none⟩ = some (.int .i64 k) := c0
                have e1 : (wr.drewN nq).cell? ⟨bz, j * 4 + 1, none⟩ = some (.string (bs ws)) := c1
                have e2 : (wr.drewN nq).cell? ⟨bz, j * 4 + 2, none⟩ = some (.int .i64 m) := c2
                have e3 : (wr.drewN nq).cell? ⟨bz, j * 4 + 3, none⟩ = some (.int .i64 ((q : Int) + (a.length : Int) + (rm.length : Int) + 5)) := c3'
                have f0 : (wr.drewN nq).cell? ⟨bb, p * 4, none⟩ = some (.int .i64 k) := d0
                have f1 : (wr.drewN nq).cell? ⟨bb, p * 4 + 1, none⟩ = some (.string (bs ws)) := d1
                have f2 : (wr.drewN nq).cell? ⟨bb, p * 4 + 2, none⟩ = some (.int .i64 m) := d2
                have f3 : (wr.drewN nq).cell? ⟨bb, p * 4 + 3, none⟩ = some (.int .i64 q) := d3
                have KA := Lib.hid (JA.out.keep ((Only.refl Nil _).drewN nq))
                have KB := Lib.hid (JB.out.keep ((Only.refl Nil _).drewN nq))
                have KZ := Lib.hid (JZ.out.keep ((Only.refl Nil _).drewN nq))
                have ok := Lib.hid (oj.drewN nq)
                clear c0 c1 c2 c3' d0 d1 d2 d3
                generalize wr.drewN nq = w5 at *
                go_upto_region 25 with (fail)
                have hT := heap_new w5 (.cells #[.int .i64 k, .string (bs ws), .int .i64 m, .int .i64 ((q : Int) + (a.length : Int) + (rm.length : Int) + 5)] 38)
                have oT := Lib.hid ((Only.refl Nil w5).alloc (.cells #[.int .i64 k, .string (bs ws), .int .i64 m, .int .i64 ((q : Int) + (a.length : Int) + (rm.length : Int) + 5)] 38))
                obtain ⟨wT, hwT⟩ : ∃ wT, wT = w5.alloc (.cells #[.int .i64 k, .string (bs ws), .int .i64 m, .int .i64 ((q : Int) + (a.length : Int) + (rm.length : Int) + 5)] 38) := ⟨_, rfl⟩
                rw [← hwT] at hT oT
                rw [← hwT]
                generalize hO : w5.heap.size = O at *
                have i0 := only_cell oT.out e0
                have i1 := only_cell oT.out e1
                have i2 := only_cell oT.out e2
                have i3 := only_cell oT.out e3
                obtain ⟨t0, t1, t2, t3, _, _, _, _⟩ := four_cells hT
                clear hwT hO e0 e1 e2 e3 f0 f1 f2 f3 hge hsub g1
                go_quiet (fail)
                clear i0 i1 i2 i3 t0 t1 t2 t3
                go_wp2
                go_roundw
                case rel => exact ⟨j + 1, by omega, by go_num, (ok.out.trans oT.out).drewN _, (KA.out.keep oT.out).keep ((Only.refl Nil _).drewN _), (KB.out.keep oT.out).keep ((Only.refl Nil _).drewN _), (KZ.out.keep oT.out).keep ((Only.refl Nil _).drewN _)⟩
                case measure => simp [intOf]; omega
            · go_wp2
              go_ret
              exact ⟨rfl, oj.below (Nat.le_refl _) (fun k h => h.elim)⟩
        · skip
          have hz0 : (whole (join a rm b)).2.1 ≠ 0 := by
            rw [HW.out.2]
            rw [if_pos ha0]; exact hb0
          clear HW
          have HzC := Lib.hid (fun (w : World) (E : Env w) => all_err (join a rm b) w hzl E (whole (join a rm b)).2.1 (whole (join a rm b)).2.2 rfl hz0)
          clear hz0
          generalize (whole (join a rm b)).2.1 = zz at *
          generalize (whole (join a rm b)).2.2 = qz at *
          have HaC := Lib.hid (fun (w : World) (E : Env w) => all_ok a w hal E ha0 _ rfl _ rfl)
          clear ha0
          generalize (whole a).1 = Xa at *
          generalize hna : Xa.length = na at *
          have HNa := Lib.hid hna
          clear hna
          have HbC := Lib.hid (fun (w : World) (E : Env w) => all_err b w hbl E (whole b).2.1 (whole b).2.2 rfl hb0)
          clear hb0
          generalize (whole b).2.1 = zb at *
          generalize (whole b).2.2 = qb at *
          go_wp2_with fail
          refine (HaC.out wo (HE.out.keep o)).mono ?_
          rintro e wa ⟨aa, ca, rfl, Ra⟩
          have oa := Lib.hid Ra.only
          clear Ra
          go_wp2_with fail
          refine (HbC.out wa (HE.out.keep (o.trans oa.out))).mono ?_
          rintro e wb ⟨bb, rfl, _, oob⟩
          have ob := Lib.hid oob
          clear oob
          obtain ⟨s1, s2, s3, s4⟩ := S.out
          go_wp2_with fail
          rw [join_bs]
          refine (HzC.out wb (HE.out.keep ((o.trans oa.out).trans ob.out))).mono ?_
          rintro e wz ⟨bz, rfl, _, ooz⟩
          have oz := Lib.hid ooz
          clear ooz
          go_wp2
          go_ret
          exact ⟨rfl, (((o.trans oa.out).trans ob.out).trans oz.out).below (Nat.le_refl _) (fun k h => h.elim)⟩
      · by_cases hb0 : (whole b).2.1 = 0
        · skip
          have hz0 : (whole (join a rm b)).2.1 ≠ 0 := by
            rw [HW.out.2]
            rw [if_neg ha0]; exact ha0
          clear HW
          have HzC := Lib.hid (fun (w : World) (E : Env w) => all_err (join a rm b) w hzl E (whole (join a rm b)).2.1 (whole (join a rm b)).2.2 rfl hz0)
          clear hz0
          generalize (whole (join a rm b)).2.1 = zz at *
          generalize (whole (join a rm b)).2.2 = qz at *
          have HaC := Lib.hid (fun (w : World) (E : Env w) => all_err a w hal E (whole a).2.1 (whole a).2.2 rfl ha0)
          clear ha0
          generalize (whole a).2.1 = za at *
          generalize (whole a).2.2 = qa at *
          have HbC := Lib.hid (fun (w : World) (E : Env w) => all_ok b w hbl E hb0 _ rfl _ rfl)
          clear hb0
          generalize (whole b).1 = Xb at *
          generalize hnb : Xb.length = nb at *
          have HNb := Lib.hid hnb
          clear hnb
          go_wp2_with fail
          refine (HaC.out wo (HE.out.keep o)).mono ?_
          rintro e wa ⟨ba, rfl, _, ooa⟩
          have oa := Lib.hid ooa
          clear ooa
          go_wp2_with fail
          refine (HbC.out wa (HE.out.keep (o.trans oa.out))).mono ?_
          rintro e wb ⟨ab, cb, rfl, Rb⟩
          have ob := Lib.hid Rb.only
          clear Rb
          obtain ⟨s1, s2, s3, s4⟩ := S.out
          go_wp2_with fail
          rw [join_bs]
          refine (HzC.out wb (HE.out.keep ((o.trans oa.out).trans ob.out))).mono ?_
          rintro e wz ⟨bz, rfl, _, ooz⟩
          have oz := Lib.hid ooz
          clear ooz
          go_wp2
          go_ret
          exact ⟨rfl, (((o.trans oa.out).trans ob.out).trans oz.out).below (Nat.le_refl _) (fun k h => h.elim)⟩
        · skip
          have hz0 : (whole (join a rm b)).2.1 ≠ 0 := by
            rw [HW.out.2]
            rw [if_neg ha0]; exact ha0
          clear HW
          have HzC := Lib.hid (fun (w : World) (E : Env w) => all_err (join a rm b) w hzl E (whole (join a rm b)).2.1 (whole (join a rm b)).2.2 rfl hz0)
          clear hz0
          generalize (whole (join a rm b)).2.1 = zz at *
          generalize (whole (join a rm b)).2.2 = qz at *
          have HaC := Lib.hid (fun (w : World) (E : Env w) => all_err a w hal E (whole a).2.1 (whole a).2.2 rfl ha0)
          clear ha0
          generalize (whole a).2.1 = za at *
          generalize (whole a).2.2 = qa at *
          have HbC := Lib.hid (fun (w : World) (E : Env w) => all_err b w hbl E (whole b).2.1 (whole b).2.2 rfl hb0)
          clear hb0
          generalize (whole b).2.1 = zb at *
          generalize (whole b).2.2 = qb at *
          go_wp2_with fail
          refine (HaC.out wo (HE.out.keep o)).mono ?_
          rintro e wa ⟨ba, rfl, _, ooa⟩
          have oa := Lib.hid ooa
          clear ooa
          go_wp2_with fail
          refine (HbC.out wa (HE.out.keep (o.trans oa.out))).mono ?_
          rintro e wb ⟨bb, rfl, _, oob⟩
          have ob := Lib.hid oob
          clear oob
          obtain ⟨s1, s2, s3, s4⟩ := S.out
          go_wp2_with fail
          rw [join_bs]
          refine (HzC.out wb (HE.out.keep ((o.trans oa.out).trans ob.out))).mono ?_
          rintro e wz ⟨bz, rfl, _, ooz⟩
          have oz := Lib.hid ooz
          clear ooz
          go_wp2
          go_ret
          exact ⟨rfl, (((o.trans oa.out).trans ob.out).trans oz.out).below (Nat.le_refl _) (fun k h => h.elim)⟩
theorem between_all (a b rm : List UInt8) (w : World) (E : Env w) (ha : a.length ≤ 140737488355328) (hb : b.length ≤ 140737488355328) (hr : rm.length ≤ 140737488355328) :
    Calls Tryd.prog 6 #[.string (bs a), .string (bs b), .string (bs rm)] w fun e w' => e = .returned (.bool true) ∧ Below w.heap.size w w' := by
  by_cases h : a.length + b.length + rm.length ≤ 8000
  · exact between_short a b rm w E h
  · exact between_long a b rm w E ha hb hr (by omega)
end Go.Proofs.YthhnfliklegefaaDoor.Lx
