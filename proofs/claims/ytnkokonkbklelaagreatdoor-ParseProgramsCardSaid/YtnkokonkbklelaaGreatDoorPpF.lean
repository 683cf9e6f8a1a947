/- parse, the document's reader: row. -/
import Derived.Test.YtnkokonkbklelaaGreatDoorPpE
set_option linter.unusedSimpArgs false
set_option linter.unusedVariables false
namespace Go.Proofs.YtnkokonkbklelaaGreatDoor.Ps
open Go.RowKit Go.Proofs.YtnkokonkbklelaaGreatDoor Lx

theorem one_l {w : World} {R : Nat} {X : Tks} {st : DSt} (h : Tx w R X st) (k : Nat) (z : Int) (hz : z = (k : Int)) :
    Calls Tryz.prog 27 #[.pointer (some ⟨R, 0, none⟩), .int .i64 z] w fun e w' => (∃ q : Nat, e = .returned (.agg #[.int .i64 ((dT k st).k : Nat), .string (bs (dT k st).w), .int .i64 ((dT k st).n : Nat), .int .i64 (q : Nat)])) ∧ Tx w' R X (lift (tk k) st) ∧ Only (At R) w w' := by
  subst hz
  exact one_lit h k
theorem nd_any : NoDg w_any := noDg_of (by decide)
theorem nd_on : NoDg w_on := noDg_of (by decide)
theorem nd_open : NoDg w_open := noDg_of (by decide)
theorem nd_close : NoDg w_close := noDg_of (by decide)
/-- A row's boxes, and the reader. -/
def RowBx (w : World) (R : Nat) (X : Tks) (O L : Nat) (tag : Wd) (only : Bool) (n : Int) (sl : Value) (st1 : DSt) (wx : World) : Prop :=
  Own w R O (rowL [] false 0 (.slice none 0 0)) 46 wx ∧ Own w R L (rowL tag only n sl) 46 wx ∧ Tx wx R X st1
theorem RowBx.keep {w : World} {R : Nat} {X : Tks} {O L : Nat} {tag : Wd} {only : Bool} {n : Int} {sl : Value} {st1 st2 : DSt} {wx wy : World} (h : RowBx w R X O L tag only n sl st1 wx) (o : Only (At R) wx wy) (k : Tx wy R X st2) : RowBx w R X O L tag only n sl st2 wy :=
  ⟨h.1.keep o, h.2.1.keep o, k⟩
theorem RowBx.drew {w : World} {R : Nat} {X : Tks} {O L : Nat} {tag : Wd} {only : Bool} {n : Int} {sl : Value} {st1 : DSt} {wx : World} (h : RowBx w R X O L tag only n sl st1 wx) (m : Nat) : RowBx w R X O L tag only n sl st1 (wx.drewN m) :=
  h.keep (((Only.refl Nil wx).drewN m).nilTo _) (h.2.2.keep ((Only.refl Nil wx).drewN m))
theorem RowBx.put {w : World} {R : Nat} {X : Tks} {O L : Nat} {tag : Wd} {only : Bool} {n : Int} {sl : Value} {st1 : DSt} {wx : World} (h : RowBx w R X O L tag only n sl st1 wx) (hOL : O ≠ L) (k : Nat) (v : Value) {tag' : Wd} {only' : Bool} {n' : Int} {sl' : Value} (e : (rowL tag only n sl).set k v = rowL tag' only' n' sl') : RowBx w R X O L tag' only' n' sl' st1 (wx.setCell ⟨L, k, none⟩ v) :=
  ⟨h.1.other (at_only wx L k _) (Ne.symm hOL) h.2.1.new, e ▸ h.2.1.put k v, h.2.1.tx k v h.2.2⟩

set_option maxRecDepth 100000 in
set_option maxHeartbeats 40000000 in
theorem drow_any {w : World} {R : Nat} {X : Tks} {st : DSt} (h : Tx w R X st) :
    Calls Tryz.prog 29 #[.pointer (some ⟨R, 0, none⟩)] w (DRowP w R X st) := by
  obtain ⟨wA, hwA, HA, oA⟩ := box2 (Only.refl (At R) w) h.lt (rowL [] false 0 (.slice none 0 0)) 46
  obtain ⟨wB, hwB, HB, oB⟩ := box2 HA.only HA.low (rowL [] false 0 (.slice none 0 0)) 46
  have hwB' : wB = (w.alloc (.cells #[.string ⟨#[]⟩, .bool false, .int .i64 0, .slice none 0 0] 46)).alloc (.cells #[.string ⟨#[]⟩, .bool false, .int .i64 0, .slice none 0 0] 46) := by rw [hwB, hwA]; rfl
  have hszA : wA.heap.size = w.heap.size + 1 := by rw [hwA]; simp
  have hOL : w.heap.size ≠ wA.heap.size := by rw [hszA]; omega
  have HK := Lib.hid (show RowBx w R X w.heap.size wA.heap.size [] false 0 (.slice none 0 0) st wB from ⟨HA.keep (oB.nilTo _), HB, h.keep (oA.trans oB)⟩)
  have hlow := Lib.hid h.lt
  have hfew := Lib.hid h.few
  rw [hszA] at HK hOL
  have HOL := Lib.hid hOL
  clear hwA hwB HA HB h hszA oA oB hOL
  have htw := tok_w
  have htn := tok_n
  go_enter Tryz.func29, Tryz.ntmps29
  go_upto_region 2 with (fail)
  rw [← hwB']; clear hwB'
  generalize hLL : w.heap.size + 1 = L at *
  generalize hOO : w.heap.size = O at *
  have HOO := Lib.hid hOO
  clear hLL hOO
  have WA := Lib.hid (Ps.word_any HK.out.2.2 w_any nd_any (by decide))
  obtain ⟨b7, hb7⟩ : ∃ b, b = dW w_any st := ⟨_, rfl⟩
  rw [← hb7] at WA
  have HB7 := Lib.hid hb7
  clear hb7
  go_upto_if 7 with (go_at_call 26; refine WA.out.mono ?_; rintro e w1 ⟨rfl, h1, o1⟩; have K1 := Lib.hid (HK.out.keep o1 h1); clear h1 o1)
  clear WA HK
  go_cut [] (fun wx => ∃ (tag : Wd) (only : Bool) (n : Int) (st1 : DSt), Hid (RowBx w R X O L tag only n (.slice none 0 0) st1 wx) ∧ Hid (Gw pRow st (rowTl tag only n) st1))
  case first =>
    cases b7 with
    | true =>
      have G1 := Lib.hid (row_way1 HB7.out.symm)
      have K2 := Lib.hid (show RowBx w R X O L [] false 0 (.slice none 0 0) (false, st.2.tail) w1 from by
        have := K1.out
        rw [show dWs w_any st = (false, st.2.tail) from by unfold dWs; rw [if_pos HB7.out.symm]] at this
        exact this)
      clear K1 HB7
      go_wp2_with fail
      go_meet
      exact ⟨[], false, 0, _, K2, G1⟩
    | false =>
      have G1 := Lib.hid (row_way2 HB7.out.symm)
      have K2 := Lib.hid (show RowBx w R X O L [] false 0 (.slice none 0 0) st w1 from by
        have := K1.out
        rw [show dWs w_any st = st from by unfold dWs; rw [if_neg (by rw [HB7.out.symm]; decide)]] at this
        exact this)
      clear K1 HB7
      have MO := Lib.hid (Ps.must_any K2.out.2.2 w_on nd_on (by decide))
      go_upto_region 4 with (go_at_call 15; refine MO.out.mono ?_; rintro e w2 ⟨rfl, h2, o2⟩; have K3 := Lib.hid (K2.out.keep o2 h2); clear h2 o2)
      clear MO K2
      generalize lift (pass w_on) st = st2 at *
      have ON := Lib.hid (one_l K3.out.2.2 1 1 rfl)
      have G2 := Lib.hid (G1.out.bind (p := tk 1) (q := rowNm) (fun _ => rfl) (dT_val 1 st2))
      clear G1
      go_upto_region 5 with (go_at_call 27; refine ON.out.mono ?_; rintro e w3 ⟨⟨q, rfl⟩, h3, o3⟩; have K4 := Lib.hid (K3.out.keep o3 h3); clear h3 o3; have c0 := K4.out.2.1.cell 0 (v := .string (bs [])) rfl; have f0 := K4.out.2.1.free 0; have K5 := Lib.hid (K4.out.put HOL.out 0 (.string (bs (dT 1 st2).w)) (tag' := (dT 1 st2).w) (only' := false) (n' := 0) (sl' := .slice none 0 0) rfl); clear K4)
      clear ON K3 c0 f0
      generalize lift (tk 1) st2 = st3 at *
      generalize dT 1 st2 = t1 at *
      obtain ⟨W5, hW5⟩ : ∃ W5, W5 = w3.setCell ⟨L, 0, none⟩ (.string (bs t1.w)) := ⟨_, rfl⟩
      rw [← hW5] at K5 ⊢
      clear hW5
      cases hd : dO 2 st3 with
      | true =>
        have G3 := Lib.hid (G2.out.bind (row_num hd) (dT_val 2 st3))
        obtain ⟨hb, x, r, hx, hk2⟩ := dO_yes hd
        have hT : Tx W5 R X (false, x :: r) := by
          have := K5.out.2.2
          obtain ⟨b, T⟩ := st3
          simp only at hb hx
          subst hb hx
          exact this
        have c2 := hT.c2
        obtain ⟨g, off, n, c, q1, c0, c1, hqn, hn, hg, _, hq, hq1, x0, _, _, _⟩ := hT.head
        have hqn' : (q1 : Int) < (n : Int) := by omega
        have hge : ¬ (n : Int) ≤ (q1 : Int) := by omega
        have hge3 : ¬ n ≤ q1 := by omega
        have hn' : (n : Int) ≤ 20000 := by omega
        have hk' : (((x.1.k : Nat) : Int) == 2) = true := by rw [hk2]; rfl
        simp only at c2
        clear G2 hx hq hq1 hqn hn hT hb hd hk2
        go_quiet (fail)
        have K6 := Lib.hid (K5.out.drew nq)
        clear c0 c1 c2 x0 K5 hge hge3 hqn' hn' hk' hg
        generalize W5.drewN nq = W6 at *
        have d1 := K6.out.2.1.cell 1 (v := .bool false) rfl
        have f1 := K6.out.2.1.free 1
        have K7 := Lib.hid (K6.out.put HOL.out 1 (.bool true) (tag' := t1.w) (only' := true) (n' := 0) (sl' := .slice none 0 0) rfl)
        have ON := Lib.hid (one_l K7.out.2.2 2 2 rfl)
        clear K6
        go_wp2_with fail
        refine ON.out.mono ?_
        rintro e w8 ⟨⟨q, rfl⟩, h8, o8⟩
        have K8 := Lib.hid (K7.out.keep o8 h8)
        have d2 := K8.out.2.1.cell 2 (v := .int .i64 0) rfl
        have f2 := K8.out.2.1.free 2
        have K9 := Lib.hid (K8.out.put HOL.out 2 (.int .i64 ((dT 2 st3).n : Int)) (tag' := t1.w) (only' := true) (n' := ((dT 2 st3).n : Int)) (sl' := .slice none 0 0) rfl)
        clear h8 o8 K8 K7 ON d1 f1
        go_wp2_with fail
        go_meet
        exact ⟨_, _, _, _, K9, G3⟩
      | false =>
        have G3 := Lib.hid (G2.out.congr (row_nonum hd))
        clear G2
        cases hb : st3.1 with
        | true =>
          have c2 := K5.out.2.2.c2
          rw [hb] at c2
          clear hd hb
          go_quiet (fail)
          have K6 := Lib.hid (K5.out.drew nq)
          clear c2 K5
          go_wp2_with fail
          go_meet
          exact ⟨_, _, _, _, K6, G3⟩
        | false =>
          cases hx : st3.2 with
          | nil =>
            have hT : Tx W5 R X (false, []) := by
              have := K5.out.2.2
              obtain ⟨b, T⟩ := st3
              simp only at hb hx
              subst hb hx
              exact this
            have c2 := hT.c2
            obtain ⟨a, n, c, c0, c1, hn⟩ := hT.none
            have hn' : (n : Int) ≤ 20000 := by omega
            simp only at c2
            clear hd hb hT hx hn
            go_quiet (fail)
            have K6 := Lib.hid (K5.out.drew nq)
            clear c0 c1 c2 K5
            go_wp2_with fail
            go_meet
            exact ⟨_, _, _, _, K6, G3⟩
          | cons x r =>
            have hT : Tx W5 R X (false, x :: r) := by
              have := K5.out.2.2
              obtain ⟨b, T⟩ := st3
              simp only at hb hx
              subst hb hx
              exact this
            have c2 := hT.c2
            obtain ⟨g, off, n, c, q1, c0, c1, hqn, hn, hg, _, hq, hq1, x0, _, _, _⟩ := hT.head
            have hqn' : (q1 : Int) < (n : Int) := by omega
            have hge : ¬ (n : Int) ≤ (q1 : Int) := by omega
            have hge3 : ¬ n ≤ q1 := by omega
            have hn' : (n : Int) ≤ 20000 := by omega
            have hk2 : x.1.k ≠ 2 := fun e => by
              unfold dO at hd
              rw [hb, hx] at hd
              simp [hk, e] at hd
            have hk' : (((x.1.k : Nat) : Int) == 2) = false := by simp; omega
            simp only at c2
            clear hx hq hq1 hqn hn hT hb hd hk2
            go_quiet (fail)
            have K6 := Lib.hid (K5.out.drew nq)
            clear c0 c1 c2 x0 K5 hge hge3 hqn' hn' hk' hg
            go_wp2_with fail
            go_meet
            exact ⟨_, _, _, _, K6, G3⟩
  case rest =>
    obtain ⟨tag, only, num, st3, K3, G3⟩ := hcut
    generalize wc = w3 at *
    clear K1 HB7
    have MO := Lib.hid (Ps.must_any K3.out.2.2 w_open nd_open (by decide))
    have G4 := Lib.hid (G3.out.bind (fun _ => row_tl _ _ _ _) (pass_val w_open st3))
    clear G3
    go_wp2_with fail
    refine MO.out.mono ?_
    rintro e w4 ⟨rfl, h4, o4⟩
    have K4 := Lib.hid (K3.out.keep o4 h4)
    clear h4 o4 MO K3
    generalize lift (pass w_open) st3 = st4 at *
    have S0 := Lib.hid (Lp.start (blkF pEff) st4)
    go_wp2_with fail
    go_loopw [] (fun wr => ∃ (E : List Eff) (st5 : DSt) (a : Option Addr) (n c : Nat), E.length = n ∧ Hid (RowBx w R X O L tag only num (.slice a n c) st5 wr) ∧ Hid (MEff wr (.slice a n c) E) ∧ Hid (New w (.slice a n c)) ∧ Hid (Lp (blkF pEff) st4 st5 E) ∧ Hid (n + meas st5 ≤ 20001))
      (fun wr => leftD R wr)
    case atStart => exact ⟨[], st4, none, 0, 0, rfl, K4, Lib.hid ⟨rfl, .inl ⟨rfl, rfl⟩⟩, Lib.hid (new_none w), S0, Lib.hid (by have := K4.out.2.2.suf.length_le; have := hfew.out; unfold meas; split <;> omega)⟩
    case round =>
      obtain ⟨E, st5, a, n, c, hn, K5, M5, HF, HLP, HBd⟩ := hrel
      have HN := Lib.hid hn
      have HLF := Lib.hid K5.out.2.2.leftD
      have c2 := K5.out.2.2.c2
      clear hn K4 S0
      cases hb : st5.1 with
      | true =>
        rw [hb] at c2
        have HE := Lib.hid (drow_bad G4.out HLP.out hb)
        obtain ⟨K6, M6⟩ : Hid (RowBx w R X O L tag only num (.slice a n c) st5 wr) ∧ Hid (MEff wr (.slice a n c) E) := ⟨K5, M5⟩
        clear hb K5 M5 HLP HBd HF
        have l0 := K6.out.2.1.cell 0 (v := .string (bs tag)) rfl
        have l1 := K6.out.2.1.cell 1 (v := .bool only) rfl
        have l2 := K6.out.2.1.cell 2 (v := .int .i64 num) rfl
        have l3 := K6.out.2.1.cell 3 (v := .slice a n c) rfl
        have y0 := K6.out.1.cell 0 (v := .string (bs [])) rfl
        have d0 := K6.out.1.free 0
        have y1 := K6.out.1.cell 1 (v := .bool false) rfl
        have d1 := K6.out.1.free 1
        have y2 := K6.out.1.cell 2 (v := .int .i64 0) rfl
        have d2 := K6.out.1.free 2
        have y3 := K6.out.1.cell 3 (v := .slice none 0 0) rfl
        have d3 := K6.out.1.free 3
        have nLO : L ≠ O := Ne.symm HOL.out
        go_wp2_with fail
        have H7 := K6.out.1.set (rowL tag only num (.slice a n c)) rfl
        refine bodyPost_ret (results_agg rfl _ _ O (rowL tag only num (.slice a n c)) Tryz.isAgg46 Tryz.sizeOf46 rfl H7.heap) rfl ?_
        exact ⟨⟨tag, only, num, E⟩, .slice a n c, rfl, HE.out.2, M6.out.keep (sets_only O 0 (rowL tag only num (.slice a n c)) _) (ofT_at K6.out.1.heap) (by decide), by rw [HE.out.1]; exact K6.out.1.txs 0 (rowL tag only num (.slice a n c)) K6.out.2.2, H7.only⟩
      | false =>
        rw [hb] at c2
        have WC := Lib.hid (Ps.word_any K5.out.2.2 w_close nd_close (by decide))
        cases hd : dW w_close st5 with
        | true =>
          rw [hd, show dWs w_close st5 = (false, st5.2.tail) from by unfold dWs; rw [if_pos hd]] at WC
          have HE := Lib.hid (drow_close G4.out HLP.out hd)
          clear hb hd HLP HBd HF
          go_wp2_with fail
          refine WC.out.mono ?_
          rintro e w6 ⟨rfl, h6, o6⟩
          have K6 := Lib.hid (K5.out.keep o6 h6)
          have M6 := Lib.hid (M5.out.keep o6 K5.out.2.2.ofT (by decide))
          clear h6 o6 WC K5 M5
          have l0 := K6.out.2.1.cell 0 (v := .string (bs tag)) rfl
          have l1 := K6.out.2.1.cell 1 (v := .bool only) rfl
          have l2 := K6.out.2.1.cell 2 (v := .int .i64 num) rfl
          have l3 := K6.out.2.1.cell 3 (v := .slice a n c) rfl
          have y0 := K6.out.1.cell 0 (v := .string (bs [])) rfl
          have d0 := K6.out.1.free 0
          have y1 := K6.out.1.cell 1 (v := .bool false) rfl
          have d1 := K6.out.1.free 1
          have y2 := K6.out.1.cell 2 (v := .int .i64 0) rfl
          have d2 := K6.out.1.free 2
          have y3 := K6.out.1.cell 3 (v := .slice none 0 0) rfl
          have d3 := K6.out.1.free 3
          have nLO : L ≠ O := Ne.symm HOL.out
          go_wp2_with fail
          have H7 := K6.out.1.set (rowL tag only num (.slice a n c)) rfl
          refine bodyPost_ret (results_agg rfl _ _ O (rowL tag only num (.slice a n c)) Tryz.isAgg46 Tryz.sizeOf46 rfl H7.heap) rfl ?_
          exact ⟨⟨tag, only, num, E⟩, .slice a n c, rfl, HE.out.2, M6.out.keep (sets_only O 0 (rowL tag only num (.slice a n c)) _) (ofT_at K6.out.1.heap) (by decide), by rw [HE.out.1]; exact K6.out.1.txs 0 (rowL tag only num (.slice a n c)) K6.out.2.2, H7.only⟩
        | false =>
          rw [hd, show dWs w_close st5 = st5 from by unfold dWs; rw [if_neg (by rw [hd]; decide)]] at WC
          have HDW := Lib.hid hd
          have HMS := Lib.hid (fun (x : Eff) (hv : Val pEffB st5 x) => show meas (lift (pass w_semi) (lift pEffB st5)) + 1 ≤ meas st5 from (eff_lift hv).1 ▸ meas_lift pEff_suf pEff_eats hb)
          clear hb hd
          go_upto_region 10 with (go_at_call 26; refine WC.out.mono ?_; rintro e w5 ⟨rfl, h5, o5⟩; have K6 := Lib.hid (K5.out.keep o5 h5); have M6a := Lib.hid (M5.out.keep o5 K5.out.2.2.ofT (by decide)); clear h5 o5)
          clear WC K5 M5 c2
          have od : Only Nil w5 w5.drew := (Only.refl Nil w5).drew
          have l3 := K6.out.2.1.cell 3 (v := .slice a n c) rfl
          have ld := only_cell0 od l3
          have T6 := Lib.hid (K6.out.2.2.keep od)
          have O6 := Lib.hid (K6.out.1.keep (od.nilTo _))
          have L6 := Lib.hid (K6.out.2.1.keep (od.nilTo _))
          have M6 := Lib.hid (M6a.out.keep od (ofT_nil 63 _) (by decide))
          have KD := Lib.hid (show Calls Tryz.prog 50 #[.pointer (some ⟨R, 0, none⟩)] w5.drew (fun e w7 => ∃ x : Eff, e = .returned (.agg #[.int .i64 x.act, .string (bs x.ref), .string (bs x.slot), .string (bs x.name), .int .i64 x.val, .int .i64 x.n, .int .i64 x.delay]) ∧ Val pEffB st5 x ∧ Tx w7 R X (lift pEffB st5) ∧ Only (At R) w5.drew w7) from reffect_any T6.out)
          clear od K6 M6a l3
          refine wp_region_held_drew (S := fun _ => True) (by kernel_rfl) True.intro (fun hHeld => ?_)
          refine wpAnyH_take (i := 0) (v := ?vt0) rfl (by kernel_rfl) (by kernel_rfl) (by kernel_rfl) (fun _ _ _ h => h) (Or.inl ⟨by kernel_rfl, ?ht0⟩) (by assumption) ?rt0
          case ht0 => (intro w hSw; (try dsimp only at hSw); first | (go_simp; done) | (go_simp; with_reducible rfl))
          try simp only [Act.put, List.setIfInBounds_toArray, List.set_cons_zero, List.set_cons_succ]
          refine wpAnyH_take (i := 2) (v := ?vt2) rfl (by kernel_rfl) (by kernel_rfl) (by kernel_rfl) (fun _ _ _ h => h) (Or.inl ⟨by kernel_rfl, ?ht2⟩) (by assumption) ?rt2
          case ht2 => (intro w hSw; (try dsimp only at hSw); first | (go_simp; done) | (go_simp; with_reducible rfl))
          try simp only [Act.put, List.setIfInBounds_toArray, List.set_cons_zero, List.set_cons_succ]
          refine wpAnyH_ready (rs := [1, 3]) (by kernel_rfl) (by simp) ?_
          refine (AllReadyH.cons rfl (fun K1 hK1 => ?_) (AllReadyH.cons rfl (fun K3 hK3 => ?_) AllReadyH.nil))
          · skip
            go_simp
            refine hK1.out _ _ ?sz1 (fun hHeldz1 => ?_)
            case sz1 => exact True.intro
            clear hK1 K1
            try simp only [Act.put, List.setIfInBounds_toArray, List.set_cons_zero, List.set_cons_succ]
            refine wpAnyH_ready (rs := [3]) (by kernel_rfl) (by simp) ?_
            refine (AllReadyH.cons rfl (fun K3 hK3 => ?_) AllReadyH.nil)
            (go_simp; go_at_call 50; refine KD.out.mono ?_; rintro e w7 ⟨x, rfl, hv, T7, o7⟩; have M7 := M6.out.keep o7 T6.out.ofT (by decide); obtain ⟨a', c', w8, hr, hM8, hN8, o8⟩ := eff_pushed M7 HN.out HF.out (O6.out.only.trans o7).size (by have := HBd.out; omega) x; have hrw := ofT_row M7; have L7 := L6.out.keep o7; have c3 := L7.cell 3 (v := .slice a n c) rfl; have c4 := only_cell0 ((Only.refl Nil w7).alloc (.cells #[.int .i64 x.act, .string (bs x.ref), .string (bs x.slot), .string (bs x.name), .int .i64 x.val, .int .i64 x.n, .int .i64 x.delay] 50)) c3; have nr : ¬ RowOf a L := not_rowOf hrw L7.heap (by decide); have nrO : ¬ RowOf a O := not_rowOf hrw (O6.out.keep o7).heap (by decide); have L8 := L7.keepRow HF.out nr o8; have O8 := (O6.out.keep o7).keepRow HF.out nrO o8; have T8 := T7.keepRow (by rw [HOO.out]; exact hlow.out) HF.out o8; have f8 := L8.free 3; have c8 := L8.cell 3 (v := .slice a n c) rfl; have K9 := Lib.hid (RowBx.put (show RowBx w R X O L tag only num (.slice a n c) (lift pEffB st5) w8 from ⟨O8, L8, T8⟩) HOL.out 3 (.slice a' (n + 1) c') (tag' := tag) (only' := only) (n' := num) (sl' := .slice a' (n + 1) c') rfl); have M9 := Lib.hid (hM8.out.keep (at_only w8 L 3 (.slice a' (n + 1) c')) (ofT_at L8.heap) (by decide)); have LPN := Lib.hid (drow_more HLP.out HDW.out hv); have HV := Lib.hid hv; have hr' := Lib.hid hr; clear hr L7 L8 T7 o7 o8 hM8 T8 O8 M7 hrw hv; go_wp2_with fail)
            refine hK3.out _ _ ?sz2 (fun hHeldz2 => ?_)
            case sz2 => exact True.intro
            clear hK3 K3
            try simp only [Act.put, List.setIfInBounds_toArray, List.set_cons_zero, List.set_cons_succ]
            refine wpAnyH_ready (rs := [4]) (by kernel_rfl) (by simp) ?_
            refine (AllReadyH.cons rfl (fun K4 hK4 => ?_) AllReadyH.nil)
            go_simp
            refine hK4.out _ _ ?sz3 (fun hHeldz3 => ?_)
            case sz3 => exact True.intro
            clear hK4 K4
            try simp only [Act.put, List.setIfInBounds_toArray, List.set_cons_zero, List.set_cons_succ]
            refine wpAnyH_ready (rs := [5]) (by kernel_rfl) (by simp) ?_
            refine (AllReadyH.cons rfl (fun K5 hK5 => ?_) AllReadyH.nil)
            (refine step_append_run rfl (.tmp 63) (.tmp 66) 44 rfl _ _ rfl rfl _ _ hr'.out ?_)
            refine hK5.out _ _ ?sz4 (fun hHeldz4 => ?_)
            case sz4 => exact True.intro
            clear hK5 K5
            try simp only [Act.put, List.setIfInBounds_toArray, List.set_cons_zero, List.set_cons_succ]
            refine wpAnyH_ready (rs := [6]) (by kernel_rfl) (by simp) ?_
            refine (AllReadyH.cons rfl (fun K6 hK6 => ?_) AllReadyH.nil)
            go_simp
            refine hK6.out _ _ ?sz5 (fun hHeldz5 => ?_)
            case sz5 => exact True.intro
            clear hK6 K6
            try simp only [Act.put, List.setIfInBounds_toArray, List.set_cons_zero, List.set_cons_succ]
            refine wpAnyH_ready (rs := [7]) (by kernel_rfl) (by simp) ?_
            refine (AllReadyH.cons rfl (fun K7 hK7 => ?_) AllReadyH.nil)
            go_simp
            refine hK7.out _ _ ?sz6 (fun hHeldz6 => ?_)
            case sz6 => exact True.intro
            clear hK7 K7
            try simp only [Act.put, List.setIfInBounds_toArray, List.set_cons_zero, List.set_cons_succ]
            refine wpAnyH_done (by kernel_rfl) ?_ _
            have MS := Lib.hid (Ps.must_any K9.out.2.2 w_semi nd_semi (by decide))
            go_wp2_with fail
            refine MS.out.mono ?_
            rintro e wz ⟨rfl, hz, oz⟩
            have KZ := Lib.hid (K9.out.keep oz hz)
            have MZ := Lib.hid (M9.out.keep oz K9.out.2.2.ofT (by decide))
            clear hz oz MS
            go_wp2_with fail
            go_roundw
            case rel => exact ⟨E ++ [x], _, a', n + 1, c', by rw [List.length_append, HN.out]; rfl, KZ, MZ, hN8, LPN, Lib.hid (by have := HBd.out; have := HMS.out x HV.out; omega)⟩
            case measure => rw [KZ.out.2.2.leftD, HLF.out]; have := HMS.out x HV.out; omega
          · skip
            (go_simp; go_at_call 50; refine KD.out.mono ?_; rintro e w7 ⟨x, rfl, hv, T7, o7⟩; have M7 := M6.out.keep o7 T6.out.ofT (by decide); obtain ⟨a', c', w8, hr, hM8, hN8, o8⟩ := eff_pushed M7 HN.out HF.out (O6.out.only.trans o7).size (by have := HBd.out; omega) x; have hrw := ofT_row M7; have L7 := L6.out.keep o7; have c3 := L7.cell 3 (v := .slice a n c) rfl; have c4 := only_cell0 ((Only.refl Nil w7).alloc (.cells #[.int .i64 x.act, .string (bs x.ref), .string (bs x.slot), .string (bs x.name), .int .i64 x.val, .int .i64 x.n, .int .i64 x.delay] 50)) c3; have nr : ¬ RowOf a L := not_rowOf hrw L7.heap (by decide); have nrO : ¬ RowOf a O := not_rowOf hrw (O6.out.keep o7).heap (by decide); have L8 := L7.keepRow HF.out nr o8; have O8 := (O6.out.keep o7).keepRow HF.out nrO o8; have T8 := T7.keepRow (by rw [HOO.out]; exact hlow.out) HF.out o8; have f8 := L8.free 3; have c8 := L8.cell 3 (v := .slice a n c) rfl; have K9 := Lib.hid (RowBx.put (show RowBx w R X O L tag only num (.slice a n c) (lift pEffB st5) w8 from ⟨O8, L8, T8⟩) HOL.out 3 (.slice a' (n + 1) c') (tag' := tag) (only' := only) (n' := num) (sl' := .slice a' (n + 1) c') rfl); have M9 := Lib.hid (hM8.out.keep (at_only w8 L 3 (.slice a' (n + 1) c')) (ofT_at L8.heap) (by decide)); have LPN := Lib.hid (drow_more HLP.out HDW.out hv); have HV := Lib.hid hv; have hr' := Lib.hid hr; clear hr L7 L8 T7 o7 o8 hM8 T8 O8 M7 hrw hv; go_wp2_with fail)
            refine hK3.out _ _ ?sz7 (fun hHeldz7 => ?_)
            case sz7 => exact True.intro
            clear hK3 K3
            try simp only [Act.put, List.setIfInBounds_toArray, List.set_cons_zero, List.set_cons_succ]
            refine wpAnyH_ready (rs := [1, 4]) (by kernel_rfl) (by simp) ?_
            refine (AllReadyH.cons rfl (fun K1 hK1 => ?_) (AllReadyH.cons rfl (fun K4 hK4 => ?_) AllReadyH.nil))
            · skip
              go_simp
              refine hK1.out _ _ ?sz8 (fun hHeldz8 => ?_)
              case sz8 => exact True.intro
              clear hK1 K1
              try simp only [Act.put, List.setIfInBounds_toArray, List.set_cons_zero, List.set_cons_succ]
              refine wpAnyH_ready (rs := [4]) (by kernel_rfl) (by simp) ?_
              refine (AllReadyH.cons rfl (fun K4 hK4 => ?_) AllReadyH.nil)
              go_simp
              refine hK4.out _ _ ?sz9 (fun hHeldz9 => ?_)
              case sz9 => exact True.intro
              clear hK4 K4
              try simp only [Act.put, List.setIfInBounds_toArray, List.set_cons_zero, List.set_cons_succ]
              refine wpAnyH_ready (rs := [5]) (by kernel_rfl) (by simp) ?_
              refine (AllReadyH.cons rfl (fun K5 hK5 => ?_) AllReadyH.nil)
              (refine step_append_run rfl (.tmp 63) (.tmp 66) 44 rfl _ _ rfl rfl _ _ hr'.out ?_)
              refine hK5.out _ _ ?sz10 (fun hHeldz10 => ?_)
              case sz10 => exact True.intro
              clear hK5 K5
              try simp only [Act.put, List.setIfInBounds_toArray, List.set_cons_zero, List.set_cons_succ]
              refine wpAnyH_ready (rs := [6]) (by kernel_rfl) (by simp) ?_
              refine (AllReadyH.cons rfl (fun K6 hK6 => ?_) AllReadyH.nil)
              go_simp
              refine hK6.out _ _ ?sz11 (fun hHeldz11 => ?_)
              case sz11 => exact True.intro
              clear hK6 K6
              try simp only [Act.put, List.setIfInBounds_toArray, List.set_cons_zero, List.set_cons_succ]
              refine wpAnyH_ready (rs := [7]) (by kernel_rfl) (by simp) ?_
              refine (AllReadyH.cons rfl (fun K7 hK7 => ?_) AllReadyH.nil)
              go_simp
              refine hK7.out _ _ ?sz12 (fun hHeldz12 => ?_)
              case sz12 => exact True.intro
              clear hK7 K7
              try simp only [Act.put, List.setIfInBounds_toArray, List.set_cons_zero, List.set_cons_succ]
              refine wpAnyH_done (by kernel_rfl) ?_ _
              have MS := Lib.hid (Ps.must_any K9.out.2.2 w_semi nd_semi (by decide))
              go_wp2_with fail
              refine MS.out.mono ?_
              rintro e wz ⟨rfl, hz, oz⟩
              have KZ := Lib.hid (K9.out.keep oz hz)
              have MZ := Lib.hid (M9.out.keep oz K9.out.2.2.ofT (by decide))
              clear hz oz MS
              go_wp2_with fail
              go_roundw
              case rel => exact ⟨E ++ [x], _, a', n + 1, c', by rw [List.length_append, HN.out]; rfl, KZ, MZ, hN8, LPN, Lib.hid (by have := HBd.out; have := HMS.out x HV.out; omega)⟩
              case measure => rw [KZ.out.2.2.leftD, HLF.out]; have := HMS.out x HV.out; omega
            · skip
              go_simp
              refine hK4.out _ _ ?sz13 (fun hHeldz13 => ?_)
              case sz13 => exact True.intro
              clear hK4 K4
              try simp only [Act.put, List.setIfInBounds_toArray, List.set_cons_zero, List.set_cons_succ]
              refine wpAnyH_ready (rs := [1]) (by kernel_rfl) (by simp) ?_
              refine (AllReadyH.cons rfl (fun K1 hK1 => ?_) AllReadyH.nil)
              go_simp
              refine hK1.out _ _ ?sz14 (fun hHeldz14 => ?_)
              case sz14 => exact True.intro
              clear hK1 K1
              try simp only [Act.put, List.setIfInBounds_toArray, List.set_cons_zero, List.set_cons_succ]
              refine wpAnyH_ready (rs := [5]) (by kernel_rfl) (by simp) ?_
              refine (AllReadyH.cons rfl (fun K5 hK5 => ?_) AllReadyH.nil)
              (refine step_append_run rfl (.tmp 63) (.tmp 66) 44 rfl _ _ rfl rfl _ _ hr'.out ?_)
              refine hK5.out _ _ ?sz15 (fun hHeldz15 => ?_)
              case sz15 => exact True.intro
              clear hK5 K5
              try simp only [Act.put, List.setIfInBounds_toArray, List.set_cons_zero, List.set_cons_succ]
              refine wpAnyH_ready (rs := [6]) (by kernel_rfl) (by simp) ?_
              refine (AllReadyH.cons rfl (fun K6 hK6 => ?_) AllReadyH.nil)
              go_simp
              refine hK6.out _ _ ?sz16 (fun hHeldz16 => ?_)
              case sz16 => exact True.intro
              clear hK6 K6
              try simp only [Act.put, List.setIfInBounds_toArray, List.set_cons_zero, List.set_cons_succ]
              refine wpAnyH_ready (rs := [7]) (by kernel_rfl) (by simp) ?_
              refine (AllReadyH.cons rfl (fun K7 hK7 => ?_) AllReadyH.nil)
              go_simp
              refine hK7.out _ _ ?sz17 (fun hHeldz17 => ?_)
              case sz17 => exact True.intro
              clear hK7 K7
              try simp only [Act.put, List.setIfInBounds_toArray, List.set_cons_zero, List.set_cons_succ]
              refine wpAnyH_done (by kernel_rfl) ?_ _
              have MS := Lib.hid (Ps.must_any K9.out.2.2 w_semi nd_semi (by decide))
              go_wp2_with fail
              refine MS.out.mono ?_
              rintro e wz ⟨rfl, hz, oz⟩
              have KZ := Lib.hid (K9.out.keep oz hz)
              have MZ := Lib.hid (M9.out.keep oz K9.out.2.2.ofT (by decide))
              clear hz oz MS
              go_wp2_with fail
              go_roundw
              case rel => exact ⟨E ++ [x], _, a', n + 1, c', by rw [List.length_append, HN.out]; rfl, KZ, MZ, hN8, LPN, Lib.hid (by have := HBd.out; have := HMS.out x HV.out; omega)⟩
              case measure => rw [KZ.out.2.2.leftD, HLF.out]; have := HMS.out x HV.out; omega
end Go.Proofs.YtnkokonkbklelaaGreatDoor.Ps
