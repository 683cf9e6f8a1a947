/- StashPlays: the walk. -/
import Derived.Test.YtdhfmocjhcgicaaStPlA
namespace Go.Proofs.Ytdhfmocjhcgicaa.St
open Go.RowKit Go.Proofs.Ytdhfmocjhcgicaa

set_option maxRecDepth 100000 in
set_option maxHeartbeats 16000000 in
theorem plays_all (r : Int) (a : Option Addr) (cap : Nat) (X : List Op) (w : World) (hX : OpsIn w a X) (hr : X.length * 16 ≤ 140737488351232) :
    Calls Try.prog 3 #[.int .i64 r, .slice a X.length cap] w fun e w' => e = .returned (.bool true) ∧ Below w.heap.size w w' := by
  have hX' := Lib.hid hX
  clear hX
  generalize hlen : X.length = len at hr ⊢
  have hlen' := Lib.hid hlen
  clear hlen
  have len8 : (len : Int) * 16 ≤ 140737488351232 := by omega
  clear hr
  have nw := Lib.hid (fun w1 (o : Only Nil w w1) => mine_new w w1 o r)
  have rn := Lib.hid (fun w1 => rnew_any r w1)
  generalize rm r = k at *
  go_enter Try.func3, Try.ntmps3
  go_wp2_with (first
    | (go_at_call 8; (with_reducible refine (alive_any _).mono ?_); rintro e w1 ⟨rfl, h⟩; have o1 := Lib.hid h; clear h)
    | (go_at_call 9; (with_reducible refine (nw.out _ o1.out).mono ?_); rintro e w2 ⟨rfl, h⟩; have k2 := Lib.hid h; clear h; generalize w1.heap.size = hb at *)
    | (go_at_call 10; (with_reducible refine (rn.out _).mono ?_); rintro e w3 ⟨rfl, o⟩; have k3 := Lib.hid (k2.out.nil o); clear o))
  have P0 : Hid (∃ S, Two w (w3.alloc (.cells #[.int .i64 (k : Int), .slice none 0 0, .slice none 0 0] 28)) S hb w3.heap.size k (.slice none 0 0) (.slice none 0 0) [] [] [] []) := Lib.hid (by
    obtain ⟨S, hA, hS, hO⟩ := k3.out
    exact ⟨S, hA.nil ((Only.refl Nil w3).alloc _), hS, hO.alloc _, heap_new w3 _, fun s => by have := hA.lt _ s; omega, hO.size, Row.none _, fun g hg => by simp [Value.ownBlock] at hg, Row.none _, fun g hg => by simp [Value.ownBlock] at hg⟩)
  clear k2 k3
  generalize hW0 : (w3.alloc (.cells #[.int .i64 (k : Int), .slice none 0 0, .slice none 0 0] 28)) = W0 at P0 ⊢
  clear hW0
  generalize w3.heap.size = rb at *
  go_loopw [7] (fun s7 wr => ∃ (i : Nat) (A F : List Int), i ≤ len ∧ i ≤ 400 ∧ s7 = .int .i64 (i : Int) ∧ Hid (A.length + F.length ≤ i) ∧ Hid (∃ S va vf, Two w wr S hb rb k va vf A F A F))
    (fun s7 _ => 1000 - (intOf s7).toNat)
  case atStart =>
    obtain ⟨S, h⟩ := P0.out
    exact ⟨0, [], [], Nat.zero_le _, Nat.zero_le _, rfl, Lib.hid (Nat.le_refl _), Lib.hid ⟨S, _, _, h⟩⟩
  case round =>
    obtain ⟨i, A, F, hil, hi1, rfl, hn, T0⟩ := hrel
    obtain ⟨S, va, vf, T1⟩ := T0.out
    by_cases hin : i < len ∧ i < 400
    · have hli : (i : Int) < (len : Int) := by omega
      have hl3 : (i : Int) < 400 := by omega
      obtain ⟨bS, off, rfl, hb1, hb2⟩ := hX'.out i (by rw [hlen'.out]; exact hin.1)
      obtain ⟨x5, x6⟩ := hb2 i (by rw [hlen'.out]; exact hin.1)
      clear hb2
      generalize X.getD i default = o at x5 x6
      have cells := Lib.hid (fun (wx : World) (ox : Only Nil w wx) => show wx.cell? ⟨bS, off + i * 2, none⟩ = some (.int .u8 o.k) ∧ wx.cell? ⟨bS, off + i * 2 + 1, none⟩ = some (.int .u64 o.id) from
        ⟨(World.cell?_of_block (a := ⟨bS, off + i * 2, none⟩) (ox.block bS hb1 (fun z => z))).trans x5, (World.cell?_of_block (a := ⟨bS, off + i * 2 + 1, none⟩) (ox.block bS hb1 (fun z => z))).trans x6⟩)
      obtain ⟨y5, y6⟩ := cells.out _ T1.only
      have nums := Lib.hid hin
      have few := Lib.hid (show A.length + F.length ≤ 400 by have := hn.out; omega)
      have hbw : bS < wr.heap.size := Nat.lt_of_lt_of_le hb1 T1.only.size
      clear x5 x6 hb1 hin hil hi1
      obtain ⟨K, hK⟩ := Int.eq_ofNat_of_zero_le o.k0.1
      have hK8 := o.k0.2
      rw [hK] at y5 hK8
      have mk1 : Int.tmod (K : Int) 4 = ((K % 4 : Nat) : Int) := rfl
      have mk2 : (K : Int) % 4 = ((K % 4 : Nat) : Int) := rfl
      have hk4 := Nat.mod_lt K (show 0 < 4 by decide)
      clear hK
      obtain ⟨⟨xa, ca, rfl⟩, ⟨xf, cf, rfl⟩⟩ := T1.forms
      have T := Lib.hid T1
      obtain ⟨c0, c1, c2⟩ := T1.bc
      obtain ⟨f0, f1, f2, frb⟩ := T1.fz
      obtain ⟨la, hla⟩ : ∃ la, la = A.length := ⟨_, rfl⟩
      obtain ⟨lf, hlf⟩ : ∃ lf, lf = F.length := ⟨_, rfl⟩
      rw [← hla] at c1 T
      rw [← hlf] at c2 T
      have hla' := Lib.hid hla
      have hlf' := Lib.hid hlf
      have la4 : (la : Int) ≤ 400 := by have := few.out; omega
      clear T0 T1 hla hlf
      obtain ⟨id, hid⟩ : ∃ id, id = o.id := ⟨_, rfl⟩
      rw [← hid] at y6 cells
      clear hid
      generalize K % 4 = kk at mk1 mk2 hk4
      go_upto_block 2 with (fail)
      go_cut [6] (fun s6 wx => s6 = .pointer (some ⟨rb, 0, none⟩) ∧ ∃ (A' F' : List Int), Hid (A'.length + F'.length ≤ i + 1) ∧ Hid (∃ S va vf, Two w wx S hb rb k va vf A' F' A' F'))
      case first =>
        obtain rfl | rfl | rfl | rfl : kk = 0 ∨ kk = 1 ∨ kk = 2 ∨ kk = 3 := by omega
        · obtain ⟨m, hm⟩ : ∃ m, m = (nx k A id).length := ⟨_, rfl⟩
          have nle := Lib.hid (nx_le k A id)
          have rs := Lib.hid (fun (W : World) (oW : Only Nil wr W) => two_stash T.out id (by have := few.out; omega) hm oW)
          have rsB := Lib.hid (rs.out wr.drew (Only.refl Nil wr).drew)
          have rsA := Lib.hid (show Calls Try.prog 11 #[.agg #[.int .i64 (k : Int), .slice xa la ca, .slice xf lf cf], .int .u64 id] (wr.alloc (.cells #[.int .i64 0, .slice none 0 0, .slice none 0 0] 28)).drew fun e w' => ∃ x c, e = .returned (.tuple #[.agg #[.int .i64 (k : Int), .slice x m c, .slice xf lf cf], .int .i64 (er k A)]) ∧
              Hid (Row w' (.slice x m c) (nx k A id) ∧ (∀ g, some g = (Value.slice x m c).ownBlock → ¬ S g) ∧ Only Nil (wr.alloc (.cells #[.int .i64 0, .slice none 0 0, .slice none 0 0] 28)).drew w') ∧ OC wr.heap.size w' from by
            refine (rs.out _ ((Only.refl Nil wr).alloc _).drew).mono ?_
            rintro e w' ⟨x, c, rfl, hk⟩
            exact ⟨x, c, rfl, hk, oc_alloc (W := wr) ((Only.refl Nil _).drew.trans hk.out.2.2)⟩)
          clear hm
          have op := Lib.hid (fun (wx : World) (S' : Nat → Prop) (va' vf' : Value) (C' D' : List Int) (h : Two w wx S' hb rb k va' vf' A F C' D') => two_op_stash h id)
          generalize er k A = ev at *
          generalize nx k A id = A' at *
          go_upto_region 12 with (fail)
          go_cut [8, 9] (fun s8 s9 wx => s9 = .int .i64 ev ∧ ∃ (nb : Nat) (x : Option Addr) (c : Nat), s8 = .pointer (some ⟨nb, 0, none⟩) ∧ Hid (Mid w wx S hb rb nb k (.slice xa la ca) (.slice xf lf cf) (.slice x m c) (.slice xf lf cf) A F A F A' F))
          case first =>
            go_region_with (first
              | (go_at_call 11; ((with_reducible refine rsA.out.mono ?_); rintro e w5 ⟨x, c, rfl, h5, ⟨z0, z1, z2, z3, z4, z5, z6⟩⟩; have mid := Lib.hid (mid_set T.out ((Only.refl Nil _).drew.trans h5.out.2.2) h5.out.1 h5.out.2.1 (T.out.rf.nil (((Only.refl Nil _).alloc _).drew.trans h5.out.2.2)) T.out.nf)))
              | (go_at_call 11; ((with_reducible refine rsB.out.mono ?_); rintro e w5 ⟨x, c, rfl, h5⟩; have mid := Lib.hid (mid_alloc T.out ((Only.refl Nil _).drew.trans h5.out.2.2) h5.out.1 h5.out.2.1 (T.out.rf.nil ((Only.refl Nil _).drew.trans h5.out.2.2)) T.out.nf))))
            all_goals (
              go_wp2_with (fail)
              go_meet
              exact ⟨rfl, _, x, c, rfl, mid⟩)
          case rest =>
            obtain ⟨rfl, nb, x, c, rfl, M⟩ := hcut
            obtain ⟨n0, n1, n2⟩ := M.out.nc
            obtain ⟨d0, d1, d2⟩ := M.out.two.bc
            obtain ⟨g0, g1, g2, g3⟩ := M.out.two.fz
            have P := Lib.hid M.out.put
            have st := Lib.hid (op.out _ _ _ _ _ _ P.out)
            have yz := (cells.out _ P.out.only).2
            unfold set3 at P st yz
            clear rs rsA rsB op M c0 c1 c2 f0 f1 f2 y5 y6 mk1 mk2
            go_upto_region 14 with (fail)
            generalize hW5 : (((wc.setCell ⟨rb, 0, none⟩ (.int .i64 (k : Int))).setCell ⟨rb, 1, none⟩ (.slice x m c)).setCell ⟨rb, 2, none⟩ (.slice xf lf cf)) = W5 at *
            clear hW5 d0 d1 d2 n0 n1 n2 g0 g1 g2 g3
            go_wp2_with (go_at_call 12; go_loud ((with_reducible refine st.out.mono ?_); rintro e w6 ⟨rfl, h6⟩))
            go_meet
            obtain ⟨S', h6'⟩ := h6.out
            exact ⟨rfl, A', F, Lib.hid (by have := nle.out; have := hn.out; omega), Lib.hid ⟨S', _, _, h6'⟩⟩
        · have un := Lib.hid (fun (W : World) (oW : Only Nil wr W) => show Calls Try.prog 13 #[.pointer (some ⟨hb, 0, none⟩)] W fun e w' => e = .returned (.int .i64 (la : Int)) ∧ (w'.cell? ⟨rb, 1, none⟩ = some (.slice xa la ca)) ∧ Hid (∃ S', Two w w' S' hb rb k (.slice xa la ca) (.slice xf lf cf) [] (A ++ F) A F) from by
            refine (two_op_unstash (T.out.nil oW) (by have := few.out; omega)).mono ?_
            rintro e w' ⟨rfl, hk⟩
            obtain ⟨S', h⟩ := hk.out
            exact ⟨by rw [hla'.out], h.bc.2.1, hk⟩)
          go_upto_region 17 with (fail)
          go_cut [68] (fun s68 wx => s68 = .bool false ∧ Hid (∃ S', Two w wx S' hb rb k (.slice xa la ca) (.slice xf lf cf) [] (A ++ F) A F))
          case first =>
            go_region_held3 (fun w' => w'.cell? ⟨rb, 1, none⟩ = some (.slice xa la ca))
              (first | exact c1 | exact ks | go_keep)
              ((go_at_call 13; go_loud (refine (un.out _ ((Only.refl Nil wr).drewN _)).mono ?_; rintro e w4 ⟨rfl, ks, h4⟩)))
            all_goals (
              go_wp2_with (fail)
              go_meet
              exact ⟨rfl, h4⟩)
          case rest =>
            obtain ⟨rfl, h4⟩ := hcut
            obtain ⟨S', T4⟩ := h4.out
            obtain ⟨d0, d1, d2⟩ := T4.bc
            have ru := Lib.hid (two_unstash T4 (by have := few.out; omega))
            clear un c0 c1 c2 f0 f1 f2 y5 y6 mk1 mk2 T4 h4
            go_wp2_with (go_at_call 14; go_loud ((with_reducible refine ru.out.mono ?_); rintro e w5 ⟨x, l, c, rfl, ⟨e0, e1, e2⟩, ⟨g0, g1, g2, g3⟩, h5⟩))
            go_meet
            exact ⟨rfl, [], A ++ F, Lib.hid (by have := hn.out; rw [List.length_append, List.length_nil]; omega), Lib.hid ⟨S', _, _, h5.out⟩⟩
        · cases F with
          | nil =>
            have ne := Lib.hid (next_none T.out.line)
            have rx := Lib.hid (two_none T.out)
            clear y5 y6 mk1 mk2 f0 f1 f2
            go_upto_region 23 with (first
              | (go_at_call 15; go_loud ((with_reducible refine ne.out.mono ?_); rintro e w4 ⟨rfl, rfl⟩))
              | (go_at_call 16; go_loud ((with_reducible refine rx.out.mono ?_); rintro e w5 ⟨rfl, M⟩)))
            obtain ⟨n0, n1, n2⟩ := M.out.nc
            obtain ⟨d0, d1, d2⟩ := M.out.two.bc
            obtain ⟨g0, g1, g2, g3⟩ := M.out.two.fz
            have P := Lib.hid M.out.put
            clear M c0 c1 c2 ne rx
            generalize hW5 : w5.alloc (.cells #[.int .i64 (k : Int), .slice xa la ca, .slice xf lf cf] 28) = W5 at *
            clear hW5
            generalize w5.heap.size = nb at *
            go_wp2_with (fail)
            go_meet
            exact ⟨rfl, A, [], Lib.hid (by have := hn.out; omega), Lib.hid ⟨S, _, _, P.out⟩⟩
          | cons x F =>
            have ne := Lib.hid (two_op_some T.out (by have := few.out; rw [List.length_cons] at this; omega))
            clear y5 y6 mk1 mk2 f0 f1 f2
            go_upto_region 22 with (go_at_call 15; go_loud ((with_reducible refine ne.out.mono ?_); rintro e w4 ⟨rfl, h4⟩))
            obtain ⟨S', T4⟩ := h4.out
            have rx := Lib.hid (two_some T4 (by have := few.out; rw [List.length_cons] at this; omega))
            obtain ⟨d0, d1, d2⟩ := T4.bc
            clear T4 h4 c0 c1 c2 ne
            go_upto_region 23 with (go_at_call 16; go_loud ((with_reducible refine rx.out.mono ?_); rintro e w5 ⟨y, l, c, rfl, M⟩))
            obtain ⟨n0, n1, n2⟩ := M.out.nc
            obtain ⟨e0, e1, e2⟩ := M.out.two.bc
            obtain ⟨g0, g1, g2, g3⟩ := M.out.two.fz
            have P := Lib.hid M.out.put
            clear M rx d0 d1 d2
            generalize hW5 : w5.alloc (.cells #[.int .i64 (k : Int), .slice xa la ca, .slice y l c] 28) = W5 at *
            clear hW5
            generalize w5.heap.size = nb at *
            go_wp2_with (fail)
            go_meet
            exact ⟨rfl, A, F, Lib.hid (by have := hn.out; rw [List.length_cons] at this; omega), Lib.hid ⟨S', _, _, P.out⟩⟩
        · have cl := Lib.hid (fun (W : World) (oW : Only Nil wr W) => show Calls Try.prog 18 #[.pointer (some ⟨hb, 0, none⟩)] W fun e w' => ∃ v', e = .returned v' ∧ BC rb (.int .i64 (k : Int)) (.slice xa la ca) (.slice xf lf cf) w' ∧ Hid (Row w' v' (F ++ A) ∧ (∀ g, some g = v'.ownBlock → ¬ S g) ∧ Two w w' S hb rb k (.slice xa la ca) (.slice xf lf cf) [] [] A F) from by
            refine (two_op_clear (T.out.nil oW) (by have := few.out; omega)).mono ?_
            rintro e w' ⟨v', rfl, hk⟩
            exact ⟨v', rfl, hk.out.2.2.bc, hk⟩)
          have al := Lib.hid (fun (w1 W : World) (h : Two w w1 S hb rb k (.slice xa la ca) (.slice xf lf cf) [] [] A F) (oW : Only Nil w1 W) => show Calls Try.prog 19 #[.agg #[.int .i64 (k : Int), .slice xa la ca, .slice xf lf cf]] W fun e w' => ∃ v', e = .returned v' ∧ BC rb (.int .i64 (k : Int)) (.slice xa la ca) (.slice xf lf cf) w' ∧ Hid (Row w' v' (F ++ A) ∧ Only Nil w1 w') from by
            have h1 := h.nil oW
            refine (rall_any h1.ra h1.rf (by have := few.out; omega)).mono ?_
            rintro e w' ⟨v', rfl, hk⟩
            exact ⟨v', rfl, (h1.nil hk.out.2).bc, Lib.hid ⟨hk.out.1.row, oW.trans hk.out.2⟩⟩)
          have sm := Lib.hid (fun (w1 W : World) (u v : Value) (h : Two w w1 S hb rb k (.slice xa la ca) (.slice xf lf cf) [] [] A F) (oW : Only Nil w1 W) (h1 : Row W u (F ++ A)) (h2 : Row W v (F ++ A)) => show Calls Try.prog 17 #[u, v] W fun e w' => e = .returned (.bool true) ∧ BC rb (.int .i64 (k : Int)) (.slice xa la ca) (.slice xf lf cf) w' ∧ Hid (Two w w' S hb rb k (.slice xa la ca) (.slice xf lf cf) [] [] A F) from by
            refine (rsame_any h1 h2 (by rw [List.length_append]; have := few.out; omega)).mono ?_
            rintro e w' ⟨rfl, o⟩
            exact ⟨rfl, ((h.nil oW).nil o).bc, Lib.hid ((h.nil oW).nil o)⟩)
          go_upto_region 27 with (fail)
          go_cut [100] (fun s100 wx => s100 = .bool false ∧ Hid (Two w wx S hb rb k (.slice xa la ca) (.slice xf lf cf) [] [] A F))
          case first =>
            go_region_held3 (fun w' => w'.cell? ⟨rb, 0, none⟩ = some (.int .i64 (k : Int)) ∧ w'.cell? ⟨rb, 1, none⟩ = some (.slice xa la ca) ∧ w'.cell? ⟨rb, 2, none⟩ = some (.slice xf lf cf))
              (first | exact ⟨c0, c1, c2⟩ | exact ks | exact kt | exact ku | go_keep)
              (first
                | (go_at_call 18; go_loud (refine (cl.out _ ((Only.refl Nil wr).drewN _)).mono ?_; rintro e w4 ⟨v4, rfl, ks, h4⟩))
                | (go_at_call 19; go_loud (refine (al.out _ _ h4.out.2.2 (Only.refl _ _)).mono ?_; rintro e w5 ⟨v5, rfl, kt, h5⟩))
                | (go_at_call 17; go_loud (refine (sm.out _ _ _ _ h4.out.2.2 h5.out.2 (h4.out.1.nil h5.out.2) h5.out.1).mono ?_; rintro e w6 ⟨rfl, ku, h6⟩)))
            all_goals (
              go_wp2_with (fail)
              go_meet
              exact ⟨rfl, h6⟩)
          case rest =>
            obtain ⟨rfl, h6⟩ := hcut
            have rnw := Lib.hid (show Calls Try.prog 10 #[.int .i64 r] wc fun e w' => e = .returned (.agg #[.int .i64 (k : Int), .slice none 0 0, .slice none 0 0]) ∧ BC rb (.int .i64 (k : Int)) (.slice xa la ca) (.slice xf lf cf) w' ∧ (w'.frozen? ⟨rb, 0, none⟩ = false ∧ w'.frozen? ⟨rb, 1, none⟩ = false ∧ w'.frozen? ⟨rb, 2, none⟩ = false ∧ rb < w'.heap.size) ∧
                Hid (Two w (set3 w' rb (.int .i64 (k : Int)) (.slice none 0 0) (.slice none 0 0)) S hb rb k (.slice none 0 0) (.slice none 0 0) [] [] [] []) from by
              refine (rn.out wc).mono ?_
              rintro e w' ⟨rfl, o⟩
              exact ⟨rfl, (h6.out.nil o).bc, (h6.out.nil o).fz, Lib.hid (two_new h6.out o)⟩)
            clear cl al sm c0 c1 c2 f0 f1 f2 y5 y6 mk1 mk2 h6
            go_wp2_with (go_at_call 10; go_loud ((with_reducible refine rnw.out.mono ?_); rintro e w7 ⟨rfl, ⟨e0, e1, e2⟩, ⟨g0, g1, g2, g3⟩, h7⟩))
            go_meet
            exact ⟨rfl, [], [], Lib.hid (by simp), Lib.hid ⟨S, _, _, h7.out⟩⟩
      case rest =>
        obtain ⟨rfl, A', F', hl', T0⟩ := hcut
        obtain ⟨S1, va, vf, T1⟩ := T0.out
        obtain ⟨⟨x1, q1, rfl⟩, ⟨x2, q2, rfl⟩⟩ := T1.forms
        have few' := Lib.hid (show A'.length + F'.length ≤ 401 by have := hl'.out; have := nums.out; omega)
        have T2 := Lib.hid T1
        clear T T0 T1 c0 c1 c2 f0 f1 f2 y5 y6 mk1 mk2 hk4
        obtain ⟨W1, rfl⟩ : ∃ W1, W1 = wc := ⟨_, rfl⟩
        have hd := Lib.hid (fun (w' : World) (o : Only Nil W1 w') => show w'.cell? ⟨rb, 1, none⟩ = some (.slice x1 A'.length q1) ∧ w'.cell? ⟨rb, 2, none⟩ = some (.slice x2 F'.length q2) from (T2.out.nil o).bc.2)
        have sA := Lib.hid (fun (w' : World) (o : Only Nil W1 w') => stashed_any (T2.out.line.nil o))
        have sF := Lib.hid (fun (w' : World) (o : Only Nil W1 w') => front_any (T2.out.line.nil o) (by have := few'.out; omega))
        have mA := Lib.hid (fun (w' : World) (o : Only Nil W1 w') (u : Value) (h : Row w' u A') => rsame_any h (T2.out.ra.nil o) (by have := few'.out; omega))
        have mF := Lib.hid (fun (w' : World) (o : Only Nil W1 w') (u : Value) (h : Row w' u F') => rsame_any h (T2.out.rf.nil o) (by have := few'.out; omega))
        obtain ⟨s1, s2⟩ := hd.out W1 (Only.refl Nil W1)
        generalize hA1 : A'.length = la1 at *
        generalize hF1 : F'.length = lf1 at *
        have e1 := Lib.hid hA1
        have e2 := Lib.hid hF1
        clear hA1 hF1
        go_upto_region 30 with (fail)
        go_cut [116] (fun s116 wx => s116 = .bool false ∧ Hid (Only Nil W1 wx))
        case first =>
          go_region_held3 (fun w' => w'.cell? ⟨rb, 1, none⟩ = some (.slice x1 la1 q1) ∧ w'.cell? ⟨rb, 2, none⟩ = some (.slice x2 lf1 q2))
            (first | exact ⟨s1, s2⟩ | exact ks | exact kt | exact ku | exact kv | go_keep)
            (first
              | (go_at_call 20; go_loud (refine (sA.out _ ((Only.refl Nil W1).drewN _)).mono ?_; rintro e w7 ⟨v7, rfl, h7⟩; have o7 := ((Only.refl Nil W1).drewN _).trans h7.out.2; have ks := hd.out _ o7))
              | (go_at_call 17; go_loud ((with_reducible refine (mA.out _ o7 _ h7.out.1.row).mono ?_); rintro e w8 ⟨rfl, o8_⟩; have o8 := o7.trans o8_; have kt := hd.out _ o8))
              | (go_at_call 21; go_loud (refine (sF.out _ o8).mono ?_; rintro e w9 ⟨v9, rfl, h9⟩; have o9 := o8.trans h9.out.2; have ku := hd.out _ o9))
              | (go_at_call 17; go_loud ((with_reducible refine (mF.out _ o9 _ h9.out.1.row).mono ?_); rintro e w10 ⟨rfl, o10_⟩; have o10 := o9.trans o10_; have kv := hd.out _ o10)))
          all_goals (
            go_wp2_with (fail)
            go_meet
            exact ⟨rfl, Lib.hid (by first | exact o10 | exact o10.drew | exact o10.drewN _)⟩)
        case rest =>
          clear sA sF mA mF s1 s2 hd
          obtain ⟨rfl, o30⟩ := hcut
          go_wp2_with (fail)
          go_roundw
          case rel => exact ⟨i + 1, A', F', by have := nums.out; omega, by have := nums.out; omega, by go_num, Lib.hid (by rw [e1.out, e2.out]; exact hl'.out), Lib.hid ⟨S1, _, _, T2.out.nil o30.out⟩⟩
          case measure => have := nums.out; simp [intOf]; omega
    · have only := Lib.hid T1.only
      clear T0 T1
      by_cases hl : i < len
      · have hl3 : ¬ (i : Int) < 400 := by omega
        have hli : (i : Int) < (len : Int) := by omega
        go_wp2_with (fail)
        go_ret
        exact ⟨rfl, only.out.below (Nat.le_refl _) (fun _ h => h.elim)⟩
      · have hli : ¬ (i : Int) < (len : Int) := by omega
        go_wp2_with (fail)
        go_ret
        exact ⟨rfl, only.out.below (Nat.le_refl _) (fun _ h => h.elim)⟩
end Go.Proofs.Ytdhfmocjhcgicaa.St
