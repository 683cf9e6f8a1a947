/- parse: the document's Text. -/
import Derived.Test.YtdhokkmflccaaaaGreatDoorPsTy
import Derived.Test.YtdhokkmflccaaaaGreatDoorPsG2
import Derived.Laws.IdiomStrings
set_option linter.unusedVariables false
namespace Go.Proofs.YtdhokkmflccaaaaGreatDoor.Ps
open Go.RowKit Go.Proofs.YtdhokkmflccaaaaGreatDoor Lx

theorem sum_take_le {α : Type} (f : α → Nat) (L : List α) (k : Nat) : ((L.take k).map f).sum ≤ (L.map f).sum := by
  have h : (L.map f).sum = ((L.take k).map f).sum + ((L.drop k).map f).sum := by
    rw [← List.sum_append, ← List.map_append, List.take_append_drop]
  omega
theorem Ws.three {u v x : Wd} (h : u.length ≤ 100) (k : v.length ≤ 100) (l : x.length ≤ 100) : Ws [u, v, x] 3 := (Ws.one h).app (Ws.two k l)
theorem conv_tx {base : Nat} {w : World} {a : Option Addr} {n c : Nat} {t : Wd} (h : Tx base w (.slice a n c) t) : (convert 97 9 (.slice a n c)).run Tryz.prog w = .ok (.string (bs t)) w := by
  rcases h.2.2 with ⟨hv, h0⟩ | ⟨g, c', cur, hv, _, hg, _, _, hcs, ht⟩
  · simp only [Value.slice.injEq] at hv
    obtain ⟨rfl, rfl, rfl⟩ := hv
    obtain rfl : t = [] := List.eq_nil_of_length_eq_zero h0
    rw [run_convert_bytes_string w _ _ 5 _ _ _ Tryz.underlying97 Tryz.underlying5 Tryz.underlying9]
    rfl
  · simp only [Value.slice.injEq] at hv
    obtain ⟨rfl, rfl, rfl⟩ := hv
    refine run_convert_bytes_back (P := Tryz.prog) w _ _ 5 ⟨g, 0, none⟩ c t Tryz.underlying97 Tryz.underlying5 Tryz.underlying9 (fun j hj => ?_)
    have hcell : w.cell? ⟨g, j, none⟩ = cur.toList[j]? := by simp [World.cell?, hg]
    have ha : (⟨g, 0, none⟩ : Addr).add j = ⟨g, j, none⟩ := by unfold Addr.add; split <;> simp_all
    rw [ha, hcell]
    have e : (Lib.byteCells t)[j]? = some (Value.int .u8 (t[j].toNat : Int)) := by simp [Lib.byteCells, hj]
    rw [← ht, List.getElem?_take, if_pos (by omega)] at e
    simpa using e
set_option maxRecDepth 100000 in
set_option maxHeartbeats 8000000 in
theorem rtext_any {D : Nat} {w : World} (P : List Kd) (sl : Value) (hx : XK D w sl P) (hD : D ≤ w.heap.size) (ok : P.all okK = true) (sm : smP P) (hc : cP P ≤ 20000) :
    Calls Tryz.prog 25 #[.agg #[sl]] w fun e w' => e = .returned (.string (bs (joinW (P.flatMap wordsK)))) ∧ Only Nil w w' := by
  obtain ⟨sa, sc, rfl⟩ := hx.slice
  obtain ⟨w1, hw1⟩ : ∃ w1, w1 = w.alloc (.cells #[.slice sa P.length sc] 25) := ⟨_, rfl⟩
  have o1 : Only Nil w w1 := hw1 ▸ (Only.refl Nil w).alloc _
  have O1 := Lib.hid o1
  have BX := Lib.hid (show Bx w1 w.heap.size [.slice sa P.length sc] 25 from hw1 ▸ bx_new w _ _)
  have HX := Lib.hid (hx.keep o1 (nilS · D))
  have HDB := Lib.hid hD
  have HOK := Lib.hid (List.all_eq_true.1 ok)
  have HSM := Lib.hid sm.2
  have HC := Lib.hid (show (P.map cK).sum ≤ 20000 from hc)
  have hb : (P.length : Int) ≤ 65000 := by have := sm.1; omega
  have eW := hw1.symm
  have T00 := Lib.hid (Tx.none w.heap.size w1 o1.size)
  have HSZ := Lib.hid (Nat.le_refl w.heap.size)
  clear hx hD ok sm hc hw1 o1
  generalize hn : P.length = N at *
  have HN := Lib.hid hn
  clear hn
  obtain ⟨base, hbase⟩ : ∃ b, b = w.heap.size := ⟨_, rfl⟩
  have HBS := Lib.hid (show w.heap.size ≤ base from by omega)
  have T0 : Hid (Tx base w1 (.slice none 0 0) []) := hbase ▸ T00
  have HDB2 : Hid (D ≤ base) := hbase ▸ HDB
  have HCL := Lib.hid (show ∀ wr, Wb base w1 wr → Only Nil w wr from fun wr o => ⟨o.os.trans O1.out.os, o.tape.trans O1.out.tape, o.output.trans O1.out.output, Nat.le_trans O1.out.size o.size, fun j hj _ => (o.block j (Nat.lt_of_lt_of_le hj O1.out.size) (fun s => by have := s.1; omega)).trans (O1.out.block j hj (fun q => q.elim))⟩)
  clear hbase T00 HDB HSZ
  go_enter Tryz.func25, Tryz.ntmps25
  go_upto_region 1 with (fail)
  (try rw [eW]); clear eW
  have hbw := HBS.out
  generalize w.heap.size = B at *
  go_wp2
  go_loopw [3, 4, 5, 6, 7, 8, 9] (fun s3 s4 _ _ _ _ _ wr => ∃ (i : Nat) (a' : Option Addr) (n' c' : Nat), s3 = .slice a' n' c' ∧ s4 = .int .i64 (i : Int) ∧ i ≤ N ∧ Hid (Tx base wr (.slice a' n' c') (((P.take i).flatMap wordsK).foldl jn [])) ∧ Hid (Ws ((P.take i).flatMap wordsK) (9 * ((P.take i).map cK).sum)) ∧ Hid (Wb base w1 wr))
    (fun _ s4 _ _ _ _ _ _ => N - (intOf s4).toNat)
  case atStart => exact ⟨0, _, _, _, rfl, rfl, Nat.zero_le _, by rw [List.take_zero]; exact T0, Lib.hid ⟨by simp, fun u hu => by simp at hu⟩, Lib.hid (Wb.refl _ _)⟩
  case round =>
    obtain ⟨i, b1, b2, b3, rfl, rfl, hi, TN, WN, OQ⟩ := hrel
    have c0 := (BX.out.wb OQ.out (by decide)).cell 0 (v := .slice sa N sc) rfl
    by_cases hiN : i < N
    · obtain ⟨s1, s2, ⟨q, off, rfl, hlt, hc⟩, gC, gS⟩ := (HX.out.keep OQ.out (Wb.old HDB2.out)).at_ HN.out i hiN
      have hkl : i < P.length := by rw [HN.out]; exact hiN
      have hok := HOK.out _ (List.getElem_mem hkl)
      have HSK := Lib.hid (HSM.out _ (List.getElem_mem hkl))
      have HFL := Lib.hid (flat_snoc wordsK hkl)
      have HSC := Lib.hid (sum_snoc cK hkl)
      have HBD := Lib.hid (show ((P.take i).map cK).sum + cK P[i] ≤ 20000 from by rw [← HSC.out]; exact Nat.le_trans (sum_take_le cK P (i + 1)) HC.out)
      generalize P[i] = x at *
      have e0 : wr.cell? ⟨q, off + i * 5, none⟩ = some (.string (bs x.name)) := hc 0 (by decide)
      have e1 : wr.cell? ⟨q, off + i * 5 + 1, none⟩ = some (.int .i64 x.limit) := hc 1 (by decide)
      have e2 : wr.cell? ⟨q, off + i * 5 + 2, none⟩ = some (.int .i64 x.within) := hc 2 (by decide)
      have e3 : wr.cell? ⟨q, off + i * 5 + 3, none⟩ = some s1 := hc 3 (by decide)
      have e4 : wr.cell? ⟨q, off + i * 5 + 4, none⟩ = some s2 := hc 4 (by decide)
      obtain ⟨a1, c1, rfl⟩ := gC.slice
      obtain ⟨a2, c2, rfl⟩ := gS.slice
      have oK : Only Nil wr (wr.alloc (.cells #[.string (bs x.name), .int .i64 x.limit, .int .i64 x.within, .slice a1 x.cases.length c1, .slice a2 x.states.length c2] 66)) := (Only.refl Nil wr).alloc _
      have OK := Lib.hid (OQ.out.trans (Wb.ofNil oK))
      have TK := Lib.hid (TN.out.keep oK)
      have GC := Lib.hid (gC.keep oK (nilS · D))
      have GS := Lib.hid (gS.keep oK (nilS · D))
      have BK := Lib.hid (show Bx (wr.alloc (.cells #[.string (bs x.name), .int .i64 x.limit, .int .i64 x.within, .slice a1 x.cases.length c1, .slice a2 x.states.length c2] 66)) wr.heap.size [.string (bs x.name), .int .i64 x.limit, .int .i64 x.within, .slice a1 x.cases.length c1, .slice a2 x.states.length c2] 66 from bx_new wr _ _)
      unfold okK at hok
      simp only [Bool.and_eq_true] at hok
      obtain ⟨⟨hnm, hli, hwi⟩, hca, hst⟩ := hok
      have HCA := Lib.hid (List.all_eq_true.1 hca)
      have HST := Lib.hid (List.all_eq_true.1 hst)
      have HU8 := Lib.hid (show Ws [w_kind, x.name, w_open, w_limit, Lib.itoa x.limit, w_in, Lib.itoa x.within, w_semi] 8 from (Ws.three (by decide) (nm100 hnm) (by decide)).app ((Ws.three (by decide) (itoa100 hli) (by decide)).app (Ws.two (itoa100 hwi) (by decide))))
      have HD1 := Lib.hid (fun w => rdec_any hli w)
      have HD2 := Lib.hid (fun w => rdec_any hwi w)
      have HCK := Lib.hid (show cK x = 1 + x.cases.length + (x.states.map cS).sum from rfl)
      have HWK := Lib.hid (show wordsK x = [w_kind, x.name, w_open, w_limit, Lib.itoa x.limit, w_in, Lib.itoa x.within, w_semi] ++ (x.cases.flatMap wordsC ++ (x.states.flatMap wordsS ++ [w_close])) from rfl)
      clear hc gC gS hkl oK hnm hli hwi hca hst TN OQ
      go_upto_region 6 with (fail)
      generalize wr.alloc (.cells #[.string (bs x.name), .int .i64 x.limit, .int .i64 x.within, .slice a1 x.cases.length c1, .slice a2 x.states.length c2] 66) = wk at *
      generalize wr.heap.size = K at *
      clear e0 e1 e2 e3 e4 c0 hlt
      have k0 := BK.out.cell 0 (v := .string (bs x.name)) rfl
      have k1 := BK.out.cell 1 (v := .int .i64 x.limit) rfl
      have k2 := BK.out.cell 2 (v := .int .i64 x.within) rfl
      have KK := Lib.hid (show ∀ w', Only Nil wk w' → w'.cell? ⟨K, 0, none⟩ = some (.string (bs x.name)) ∧ w'.cell? ⟨K, 1, none⟩ = some (.int .i64 x.limit) ∧ w'.cell? ⟨K, 2, none⟩ = some (.int .i64 x.within) from fun w' o => ⟨only_cell0 o (BK.out.cell 0 rfl), only_cell0 o (BK.out.cell 1 rfl), only_cell0 o (BK.out.cell 2 rfl)⟩)
      have OO := Lib.hid (show Only Nil wk wk.drew from (Only.refl Nil wk).drew)
      generalize hF : (P.take i).flatMap wordsK = F at *
      generalize hS : ((P.take i).map cK).sum = S at *
      clear hF hS
      go_cut [3] (fun s3 wx => ∃ (a' : Option Addr) (n' c' : Nat), s3 = .slice a' n' c' ∧ Hid (Tx base wx (.slice a' n' c') ((F ++ [w_kind, x.name, w_open, w_limit, Lib.itoa x.limit, w_in, Lib.itoa x.within, w_semi]).foldl jn [])) ∧ Hid (Ws (F ++ [w_kind, x.name, w_open, w_limit, Lib.itoa x.limit, w_in, Lib.itoa x.within, w_semi]) (9 * S + 8)) ∧ Hid (Wb base wk wx))
      case first =>
        go_region_held3 (fun w' => w'.cell? ⟨K, 0, none⟩ = some (.string (bs x.name)) ∧ w'.cell? ⟨K, 1, none⟩ = some (.int .i64 x.limit) ∧ w'.cell? ⟨K, 2, none⟩ = some (.int .i64 x.within))
          (first | exact ⟨k0, k1, k2⟩ | exact KK.out _ OO.out | exact ⟨y0, y1, y2⟩ | go_keep)
          (first
            | (go_at_call 34; (with_reducible refine (HD1.out _).mono ?_); rintro e wd ⟨rfl, od⟩; have O9 := Lib.hid (OO.out.trans od); clear OO od; have OO := O9; clear O9)
            | (go_at_call 34; (with_reducible refine (HD2.out _).mono ?_); rintro e wd ⟨rfl, od⟩; have O9 := Lib.hid (OO.out.trans od); clear OO od; have OO := O9; clear O9)
            | (go_at_call 52; refine (rput_w [w_kind, x.name, w_open, w_limit, Lib.itoa x.limit, w_in, Lib.itoa x.within, w_semi] ((TK.out.keep OO.out).keep ((Only.refl Nil _).alloc _)) WN.out HU8.out (sb_new _ _) rfl (by simp) (by have := HBD.out; simp only [List.length_nil]; omega)).mono ?_; rintro e wm ⟨d1, d2, d3, rfl, TM, WM, ON⟩; have ow := (Wb.ofNil (OO.out.trans ((Only.refl Nil _).alloc _))).trans ON.out; have OP := Lib.hid ow; have y0 := (BK.out.wb ow (by decide)).cell 0 (v := .string (bs x.name)) rfl; have y1 := (BK.out.wb ow (by decide)).cell 1 (v := .int .i64 x.limit) rfl; have y2 := (BK.out.wb ow (by decide)).cell 2 (v := .int .i64 x.within) rfl; clear ON ow))
        all_goals
          go_wp2_with (fail)
          go_meet
          exact ⟨d1, d2, d3, rfl, TM, WM, OP⟩
      case rest =>
        obtain ⟨b1, b2, b3, rfl, T1, W1, P1⟩ := hcut
        clear k0 k1 k2 KK OO TK WN HU8 HD1 HD2
        have BK2 := Lib.hid (show ∀ w', Wb base wc w' → w'.cell? ⟨K, 3, none⟩ = some (.slice a1 x.cases.length c1) ∧ w'.cell? ⟨K, 4, none⟩ = some (.slice a2 x.states.length c2) from fun w' o => ⟨(BK.out.wb (P1.out.trans o) (by decide)).cell 3 rfl, (BK.out.wb (P1.out.trans o) (by decide)).cell 4 rfl⟩)
        have GC2 := Lib.hid (GC.out.keep P1.out (Wb.old HDB2.out))
        have GS2 := Lib.hid (GS.out.keep P1.out (Wb.old HDB2.out))
        have OK2 := Lib.hid (OK.out.trans P1.out)
        clear GC GS BK OK P1
        generalize wc = wo at *
        have hbc : (x.cases.length : Int) ≤ 65000 := by have := HSK.out.1; omega
        have hbs : (x.states.length : Int) ≤ 65000 := by have := HSK.out.2.1; omega
        generalize hG : F ++ [w_kind, x.name, w_open, w_limit, Lib.itoa x.limit, w_in, Lib.itoa x.within, w_semi] = G at *
        have HG := Lib.hid hG
        clear hG
        generalize hnC : x.cases.length = nC at *
        generalize hnS : x.states.length = nS at *
        have HNC := Lib.hid hnC
        have HNS := Lib.hid hnS
        clear hnC hnS
        go_wp2
        go_loopw [3, 6, 7] (fun s3 s6 _ wr => ∃ (j : Nat) (a' : Option Addr) (n' c' : Nat), s3 = .slice a' n' c' ∧ s6 = .int .i64 (j : Int) ∧ j ≤ nC ∧ Hid (Tx base wr (.slice a' n' c') ((G ++ (x.cases.take j).flatMap wordsC).foldl jn [])) ∧ Hid (Ws (G ++ (x.cases.take j).flatMap wordsC) (9 * S + 8 + 4 * j)) ∧ Hid (Wb base wo wr))
          (fun _ s6 _ _ => nC - (intOf s6).toNat)
        case atStart => exact ⟨0, b1, b2, b3, rfl, rfl, Nat.zero_le _, by rw [List.take_zero, List.flatMap_nil, List.append_nil]; exact T1, by rw [List.take_zero, List.flatMap_nil, List.append_nil]; exact W1, Lib.hid (Wb.refl _ _)⟩
        case round =>
          obtain ⟨j, e1, e2, e3, rfl, rfl, hj, TN, WN, OQ⟩ := hrel
          have k3 := (BK2.out _ OQ.out).1
          by_cases hjn : j < nC
          · obtain ⟨q', off', rfl, hlt', hc'⟩ := (GC2.out.keep OQ.out (Wb.old HDB2.out)).at_ HNC.out j hjn
            have hjl : j < x.cases.length := by rw [HNC.out]; exact hjn
            have hoc := HCA.out _ (List.getElem_mem hjl)
            have HFC := Lib.hid (flat_snoc wordsC hjl)
            generalize x.cases[j] = y at *
            have g0 : wr.cell? ⟨q', off' + j * 2, none⟩ = some (.string (bs y.reason)) := hc' 0 (by decide)
            have g1 : wr.cell? ⟨q', off' + j * 2 + 1, none⟩ = some (.int .i64 y.act) := hc' 1 (by decide)
            have HBJ := Lib.hid (show S + j + 1 ≤ 20000 from by have h1 := HBD.out; rw [HCK.out] at h1; omega)
            obtain ⟨hrs, _⟩ := okC_parts hoc
            have oC : Only Nil wr (wr.alloc (.cells #[.string (bs y.reason), .int .i64 y.act] 93)) := (Only.refl Nil wr).alloc _
            have OC := Lib.hid (OQ.out.trans (Wb.ofNil oC))
            have TQ := Lib.hid (TN.out.keep oC)
            have BC := Lib.hid (show Bx (wr.alloc (.cells #[.string (bs y.reason), .int .i64 y.act] 93)) wr.heap.size [.string (bs y.reason), .int .i64 y.act] 93 from bx_new wr _ _)
            have HWD := Lib.hid (fun w => rword_any y.act w)
            have hpl : (pickW dirs (y.act - 1)).length ≤ 100 := pickW_len dirs_len _
            clear hc' hjl hoc oC TN OQ
            go_upto_region 11 with (fail)
            generalize wr.alloc (.cells #[.string (bs y.reason), .int .i64 y.act] 93) = wq at *
            generalize wr.heap.size = R at *
            clear g0 g1 k3 hlt'
            have r0 := BC.out.cell 0 (v := .string (bs y.reason)) rfl
            have r1 := BC.out.cell 1 (v := .int .i64 y.act) rfl
            have OZ := Lib.hid (Wb.refl base wq)
            by_cases hre : y.reason = []
            · have he : (bs y.reason).toList.isEmpty = true := (emp_bs _).trans (decide_eq_true hre)
              have HWC := Lib.hid (show wordsC y = [w_else, pickW dirs (y.act - 1), w_semi] from by unfold wordsC; rw [if_pos hre]; rfl)
              have HU3 := Lib.hid (show Ws [w_else, pickW dirs (y.act - 1), w_semi] 3 from Ws.three (by decide) hpl (by decide))
              clear hre hrs hpl
              go_wp2_with (first
                | (go_at_call 50; refine (HWD.out _).mono ?_; rintro e wn ⟨rfl, rfl⟩)
                | (go_at_call 52; refine (rput_w [w_else, pickW dirs (y.act - 1), w_semi] (TQ.out.keep ((Only.refl Nil _).alloc _)) WN.out HU3.out (sb_new _ _) rfl (by simp) (by have := HBJ.out; simp only [List.length_nil]; omega)).mono ?_; rintro e wm ⟨d1, d2, d3, rfl, TM, WM, ON⟩; have OP := Lib.hid (OZ.out.trans ((Wb.ofNil ((Only.refl Nil _).alloc _)).trans ON.out)); clear ON))
              have OPF := Lib.hid (OC.out.trans OP.out)
              go_roundw
              case rel => exact ⟨j + 1, d1, d2, d3, rfl, by go_num, by omega, by rw [← HFC.out, HWC.out, ← List.append_assoc]; exact TM, by rw [← HFC.out, HWC.out, ← List.append_assoc]; exact ⟨by have := WM.out.1; omega, WM.out.2⟩, OPF⟩
              case measure => simp [intOf]; omega
            · have he : (bs y.reason).toList.isEmpty = false := (emp_bs _).trans (decide_eq_false hre)
              have HWC := Lib.hid (show wordsC y = [w_case, y.reason, pickW dirs (y.act - 1), w_semi] from by unfold wordsC; rw [if_neg hre]; rfl)
              have HU4 := Lib.hid (show Ws [w_case, y.reason, pickW dirs (y.act - 1), w_semi] 4 from (Ws.two (by decide) (nm100 (hrs.resolve_left hre))).app (Ws.two hpl (by decide)))
              clear hre hrs hpl
              go_upto_region 13 with (fail)
              go_region_held3 (fun w' => w'.cell? ⟨R, 0, none⟩ = some (.string (bs y.reason)) ∧ w'.cell? ⟨R, 1, none⟩ = some (.int .i64 y.act))
                (first | exact ⟨r0, r1⟩ | exact ⟨y0, y1⟩ | go_keep)
                (first
                  | (go_at_call 50; refine (HWD.out _).mono ?_; rintro e wn ⟨rfl, rfl⟩)
                  | (go_at_call 52; refine (rput_w [w_case, y.reason, pickW dirs (y.act - 1), w_semi] ((TQ.out.keep (Only.refl Nil wq).drew).keep ((Only.refl Nil _).alloc _)) WN.out HU4.out (sb_new _ _) rfl (by simp) (by have := HBJ.out; simp only [List.length_nil]; omega)).mono ?_; rintro e wm ⟨d1, d2, d3, rfl, TM, WM, ON⟩; have ow := (Wb.ofNil ((Only.refl Nil wq).drew.trans ((Only.refl Nil _).alloc _))).trans ON.out; have OP := Lib.hid ow; have y0 := (BC.out.wb ow (by decide)).cell 0 (v := .string (bs y.reason)) rfl; have y1 := (BC.out.wb ow (by decide)).cell 1 (v := .int .i64 y.act) rfl; clear ON ow))
              all_goals
                go_wp2
                have OPF := Lib.hid (OC.out.trans OP.out)
                go_roundw
                case rel => exact ⟨j + 1, d1, d2, d3, rfl, by go_num, by omega, by rw [← HFC.out, HWC.out, ← List.append_assoc]; exact TM, by rw [← HFC.out, HWC.out, ← List.append_assoc]; exact ⟨by have := WM.out.1; omega, WM.out.2⟩, OPF⟩
                case measure => simp [intOf]; omega
          · obtain rfl : nC = j := by omega
            have ee : x.cases.take nC = x.cases := List.take_of_length_le (by rw [HNC.out]; exact Nat.le_refl _)
            rw [ee] at TN WN
            have BK3 := Lib.hid (fun w' (o : Wb base wr w') => (BK2.out w' (OQ.out.trans o)).2)
            have GS3 := Lib.hid (GS2.out.keep OQ.out (Wb.old HDB2.out))
            have OK3 := Lib.hid (OK2.out.trans OQ.out)
            generalize hG2 : G ++ x.cases.flatMap wordsC = G2 at *
            have HG2 := Lib.hid hG2
            clear hG2 ee hjn T1 W1 GS2 OK2 GC2 BK2 OQ
            generalize wr = wp at *
            go_wp2
            go_loopw [3, 8, 9] (fun s3 s8 _ wr => ∃ (j : Nat) (a' : Option Addr) (n' c' : Nat), s3 = .slice a' n' c' ∧ s8 = .int .i64 (j : Int) ∧ j ≤ nS ∧ Hid (Tx base wr (.slice a' n' c') ((G2 ++ (x.states.take j).flatMap wordsS).foldl jn [])) ∧ Hid (Ws (G2 ++ (x.states.take j).flatMap wordsS) (9 * S + 8 + 4 * nC + 9 * ((x.states.take j).map cS).sum)) ∧ Hid (Wb base wp wr))
              (fun _ s8 _ _ => nS - (intOf s8).toNat)
            case atStart => exact ⟨0, e1, e2, e3, rfl, rfl, Nat.zero_le _, by rw [List.take_zero, List.flatMap_nil, List.append_nil]; exact TN, by rw [List.take_zero, List.flatMap_nil, List.append_nil]; exact WN, Lib.hid (Wb.refl _ _)⟩
            case round =>
              clear TN WN k3
              obtain ⟨j, e1, e2, e3, rfl, rfl, hj, TN, WN, OQ⟩ := hrel
              have k4 := BK3.out _ OQ.out
              by_cases hjn : j < nS
              · obtain ⟨u, ⟨q', off', rfl, hlt', hc'⟩, gx⟩ := (GS3.out.keep OQ.out (Wb.old HDB2.out)).at_ HNS.out j hjn
                have hjl : j < x.states.length := by rw [HNS.out]; exact hjn
                have hos := HST.out _ (List.getElem_mem hjl)
                have HSS := Lib.hid (HSK.out.2.2 _ (List.getElem_mem hjl))
                have HFS := Lib.hid (flat_snoc wordsS hjl)
                have HSSM := Lib.hid (sum_snoc cS hjl)
                have HBT := Lib.hid (show ((x.states.take j).map cS).sum + cS x.states[j] ≤ (x.states.map cS).sum from by rw [← HSSM.out]; exact sum_take_le cS x.states (j + 1))
                have HYX0 : ∀ h : j < x.states.length, x.states[j] = x.states[j]'hjl := fun _ => rfl
                obtain ⟨y, hy⟩ : ∃ y, x.states[j]'hjl = y := ⟨_, rfl⟩
                have HYX := Lib.hid (show ∀ h : j < x.states.length, x.states[j] = y from fun _ => hy)
                rw [hy] at hos HSS HFS HSSM HBT hc' gx
                clear hy HYX0
                have g0 : wr.cell? ⟨q', off' + j * 2, none⟩ = some (.string (bs y.name)) := hc' 0 (by decide)
                have g1 : wr.cell? ⟨q', off' + j * 2 + 1, none⟩ = some u := hc' 1 (by decide)
                obtain ⟨ua, uc, rfl⟩ := gx.slice
                unfold okS at hos
                rw [Bool.and_eq_true] at hos
                have HOR := Lib.hid (List.all_eq_true.1 hos.2)
                have HU3 := Lib.hid (show Ws [w_state, y.name, w_open] 3 from Ws.three (by decide) (nm100 hos.1) (by decide))
                have HWS := Lib.hid (show wordsS y = [w_state, y.name, w_open] ++ (y.rows.flatMap wordsR ++ [w_close]) from rfl)
                have hbr : (y.rows.length : Int) ≤ 65000 := by have := HSS.out.1; omega
                generalize hZ : ((x.states.take j).map cS).sum = Z at *
                have HBJ := Lib.hid (show S + (1 + nC + (Z + cS y)) ≤ 20000 from by have h1 := HBD.out; have h2 := HBT.out; rw [HCK.out] at h1; omega)
                clear hc' hjl hos gx hZ
                generalize hnR : y.rows.length = nR at *
                have HNR := Lib.hid hnR
                clear hnR
                go_upto_region 18 with (go_at_call 52; refine (rput_w [w_state, y.name, w_open] (TN.out.keep ((Only.refl Nil _).alloc _)) WN.out HU3.out (sb_new _ _) rfl (by simp) (by have := HBJ.out; simp only [List.length_nil]; omega)).mono ?_; rintro e wm ⟨d1, d2, d3, rfl, TM, WM, ON⟩; have OP := Lib.hid (OQ.out.trans ((Wb.ofNil ((Only.refl Nil _).alloc _)).trans ON.out)); clear ON)
                clear TN WN OQ g0 g1 k4 hlt'
                go_wp2
                go_loopw [3, 9] (fun s3 s9 wr => ∃ (m : Nat) (a' : Option Addr) (n' c' : Nat), s3 = .slice a' n' c' ∧ s9 = .int .i64 (m : Int) ∧ m ≤ nR ∧ Hid (Tx base wr (.slice a' n' c') ((G2 ++ (x.states.take j).flatMap wordsS ++ [w_state, y.name, w_open] ++ (y.rows.take m).flatMap wordsR).foldl jn [])) ∧ Hid (Ws (G2 ++ (x.states.take j).flatMap wordsS ++ [w_state, y.name, w_open] ++ (y.rows.take m).flatMap wordsR) (9 * S + 8 + 4 * nC + 9 * Z + 3 + 9 * ((y.rows.take m).map cR).sum)) ∧ Hid (Wb base wp wr))
                  (fun _ s9 _ => nR - (intOf s9).toNat)
                case atStart => exact ⟨0, d1, d2, d3, rfl, rfl, Nat.zero_le _, by rw [List.take_zero, List.flatMap_nil, List.append_nil]; exact TM, by rw [List.take_zero, List.flatMap_nil, List.append_nil]; exact WM, OP⟩
                case round =>
                  obtain ⟨m, e1, e2, e3, rfl, rfl, hm, TN, WN, OQ⟩ := hrel
                  have k4 := BK3.out _ OQ.out
                  obtain ⟨u', ⟨q2, off2, ha2, hlt2, hc2⟩, gx'⟩ := (GS3.out.keep OQ.out (Wb.old HDB2.out)).at_ HNS.out j hjn
                  have hjl : j < x.states.length := by rw [HNS.out]; exact hjn
                  rw [show x.states[j] = y from HYX.out hjl] at hc2 gx'
                  cases ha2
                  obtain ⟨va, vc, rfl⟩ := gx'.slice
                  rw [HNR.out] at hc2 gx'
                  have g1 : wr.cell? ⟨q', off' + j * 2 + 1, none⟩ = some (.slice va nR vc) := hc2 1 (by decide)
                  clear hc2 hlt2 hjl
                  by_cases hmn : m < nR
                  · obtain ⟨v2, ⟨q3, off3, rfl, hlt3, hc3⟩, gE⟩ := gx'.at_ HNR.out m hmn
                    have hml : m < y.rows.length := by rw [HNR.out]; exact hmn
                    have hokr := HOR.out _ (List.getElem_mem hml)
                    have hsr := HSS.out.2 _ (List.getElem_mem hml)
                    have HFR := Lib.hid (flat_snoc wordsR hml)
                    have HSR := Lib.hid (sum_snoc cR hml)
                    have HBR := Lib.hid (show ((y.rows.take m).map cR).sum + cR y.rows[m] ≤ (y.rows.map cR).sum from by rw [← HSR.out]; exact sum_take_le cR y.rows (m + 1))
                    generalize y.rows[m] = z at *
                    obtain ⟨v3, v4, rfl⟩ := gE.slice
                    have h0 : wr.cell? ⟨q3, off3 + m * 4, none⟩ = some (.string (bs z.tag)) := hc3 0 (by decide)
                    have h1 : wr.cell? ⟨q3, off3 + m * 4 + 1, none⟩ = some (.bool z.only) := hc3 1 (by decide)
                    have h2 : wr.cell? ⟨q3, off3 + m * 4 + 2, none⟩ = some (.int .i64 z.n) := hc3 2 (by decide)
                    have h3 : wr.cell? ⟨q3, off3 + m * 4 + 3, none⟩ = some (.slice v3 z.effs.length v4) := hc3 3 (by decide)
                    have HRW := Lib.hid (rrow_any TN.out WN.out z _ gE HDB2.out hokr hsr (by have q1 := HBR.out; have q2 := HBJ.out; have q3 : cR z = 1 + z.effs.length := rfl; have q4 : cS y = 1 + (y.rows.map cR).sum := rfl; simp only [List.length_nil]; omega))
                    have HCR := Lib.hid (show cR z = 1 + z.effs.length from rfl)
                    clear hc3 gE hokr hsr hml TN WN
                    go_wp2_with (go_at_call 53; refine HRW.out.mono ?_; rintro e wm ⟨d1, d2, d3, rfl, TM, WM, ON⟩; have OP := Lib.hid (OQ.out.trans ON.out); clear ON)
                    go_roundw
                    case rel => exact ⟨m + 1, d1, d2, d3, rfl, by go_num, by omega, by rw [← HFR.out, ← List.append_assoc]; exact TM, by rw [← HFR.out, ← List.append_assoc]; exact ⟨by have := WM.out.1; rw [HSR.out]; have := HCR.out; omega, WM.out.2⟩, OP⟩
                    case measure => simp [intOf]; omega
                  · obtain rfl : m = nR := by omega
                    have ee : y.rows.take m = y.rows := List.take_of_length_le (by rw [HNR.out]; exact Nat.le_refl _)
                    rw [ee] at TN WN
                    have HU1 := Lib.hid (show Ws [w_close] 1 from Ws.one (by decide))
                    have HCS := Lib.hid (show cS y = 1 + (y.rows.map cR).sum from rfl)
                    clear hmn ee gx'
                    go_wp2_with (go_at_call 52; refine (rput_w [w_close] (TN.out.keep ((Only.refl Nil _).alloc _)) WN.out HU1.out (sb_new _ _) rfl (by simp) (by have := HBJ.out; have := HCS.out; simp only [List.length_nil]; omega)).mono ?_; rintro e wm ⟨d1, d2, d3, rfl, TM, WM, ON⟩; have OP := Lib.hid (OQ.out.trans ((Wb.ofNil ((Only.refl Nil _).alloc _)).trans ON.out)); clear ON)
                    go_roundw
                    case rel => exact ⟨j + 1, d1, d2, d3, rfl, by go_num, by omega, by rw [← HFS.out, HWS.out, ← List.append_assoc, ← List.append_assoc, ← List.append_assoc]; exact TM, by rw [← HFS.out, HWS.out, ← List.append_assoc, ← List.append_assoc, ← List.append_assoc]; exact ⟨by have := WM.out.1; rw [HSSM.out]; have := HCS.out; omega, WM.out.2⟩, OP⟩
                    case measure => simp [intOf]; omega
              · obtain rfl : j = nS := by omega
                have ee : x.states.take j = x.states := List.take_of_length_le (by rw [HNS.out]; exact Nat.le_refl _)
                rw [ee] at TN WN
                have HU1 := Lib.hid (show Ws [w_close] 1 from Ws.one (by decide))
                have HEND := Lib.hid (show (P.take (i + 1)).flatMap wordsK = G2 ++ x.states.flatMap wordsS ++ [w_close] from by rw [← HFL.out, HWK.out, ← HG2.out, ← HG.out]; simp)
                have HBJ := Lib.hid (show S + (1 + nC + (x.states.map cS).sum) ≤ 20000 from by have h1 := HBD.out; rw [HCK.out] at h1; exact h1)
                clear hjn ee
                go_wp2_with (go_at_call 52; refine (rput_w [w_close] (TN.out.keep ((Only.refl Nil _).alloc _)) WN.out HU1.out (sb_new _ _) rfl (by simp) (by have := HBJ.out; simp only [List.length_nil]; omega)).mono ?_; rintro e wm ⟨d1, d2, d3, rfl, TM, WM, ON⟩; have OP := Lib.hid (OQ.out.trans ((Wb.ofNil ((Only.refl Nil _).alloc _)).trans ON.out)); clear ON)
                have OPF := Lib.hid (OK3.out.trans OP.out)
                go_roundw
                case rel => exact ⟨i + 1, d1, d2, d3, rfl, by go_num, by omega, by rw [HEND.out]; exact TM, by rw [HEND.out, HSC.out, HCK.out]; exact ⟨by have := WM.out.1; omega, WM.out.2⟩, OPF⟩
                case measure => simp [intOf]; omega
    · obtain rfl : i = N := by omega
      have ee : P.take i = P := List.take_of_length_le (by rw [HN.out]; exact Nat.le_refl _)
      rw [ee] at TN
      have hcv := conv_tx TN.out
      have OF := Lib.hid (HCL.out wr OQ.out)
      clear hiN ee
      go_wp2
      go_ret
      exact ⟨rfl, OF.out⟩
end Go.Proofs.YtdhokkmflccaaaaGreatDoor.Ps
