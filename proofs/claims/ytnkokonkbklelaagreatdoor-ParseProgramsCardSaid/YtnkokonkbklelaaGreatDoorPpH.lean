/- parse, the document's reader: kind. -/
import Derived.Test.YtnkokonkbklelaaGreatDoorPpF
import Derived.Test.YtnkokonkbklelaaGreatDoorPpG
import Derived.Deep.CutBlock
import Derived.Lib.AppendZerosOnto
set_option linter.unusedSimpArgs false
set_option linter.unusedVariables false
namespace Go.Proofs.YtnkokonkbklelaaGreatDoor.Ps
open Go.RowKit Go.Proofs.YtnkokonkbklelaaGreatDoor Lx

/-- A kind's boxes, and the reader. -/
def KdBx (w : World) (R : Nat) (X : Tks) (O L : Nat) (nm : Wd) (la lb : Int) (s1 s2 : Value) (st1 : DSt) (wx : World) : Prop :=
  Own w R O (kdL [] 0 0 (.slice none 0 0) (.slice none 0 0)) 40 wx ∧ Own w R L (kdL nm la lb s1 s2) 40 wx ∧ Tx wx R X st1
section
variable {w : World} {R : Nat} {X : Tks} {O L : Nat} {nm : Wd} {la lb : Int} {s1 s2 : Value} {st1 st2 : DSt} {wx wy : World}
theorem KdBx.keep (h : KdBx w R X O L nm la lb s1 s2 st1 wx) (o : Only (At R) wx wy) (k : Tx wy R X st2) : KdBx w R X O L nm la lb s1 s2 st2 wy := ⟨h.1.keep o, h.2.1.keep o, k⟩
theorem KdBx.put (h : KdBx w R X O L nm la lb s1 s2 st1 wx) (hOL : O ≠ L) (k : Nat) (v : Value) {nm' : Wd} {la' lb' : Int} {s1' s2' : Value} (e : (kdL nm la lb s1 s2).set k v = kdL nm' la' lb' s1' s2') : KdBx w R X O L nm' la' lb' s1' s2' st1 (wx.setCell ⟨L, k, none⟩ v) :=
  ⟨h.1.other (at_only wx L k _) (Ne.symm hOL) h.2.1.new, e ▸ h.2.1.put k v, h.2.1.tx k v h.2.2⟩
theorem KdBx.bad (h : KdBx w R X O L nm la lb s1 s2 st1 wx) (b : Bool) : KdBx w R X O L nm la lb s1 s2 (b, st1.2) (wx.setCell ⟨R, 2, none⟩ (.bool b)) :=
  h.keep (at_only wx R 2 _) (h.2.2.set2 b)
end
theorem nd_limit : NoDg w_limit := noDg_of (by decide)
theorem nd_in : NoDg w_in := noDg_of (by decide)
theorem nd_case : NoDg w_case := noDg_of (by decide)
theorem nd_else : NoDg w_else := noDg_of (by decide)
theorem nd_state : NoDg w_state := noDg_of (by decide)
theorem dWs_yes {s : Wd} {st : DSt} (h : dW s st = true) : dWs s st = (false, st.2.tail) := if_pos h
theorem dWs_no {s : Wd} {st : DSt} (h : dW s st = false) : dWs s st = st := if_neg (by rw [h]; decide)
/-- Where the search for a direction stands behind d words. -/
def DirI (st7 st8 : DSt) (d : Nat) (z : Int) : Prop :=
  (z = 0 ∧ st8 = st7 ∧ (st7.1 = true ∨ d ≤ dirs.idxOf (hw st7.2))) ∨ (0 < z ∧ st8.1 = false ∧ lift chD st7 = st8 ∧ Val chD st7 z)
/-- What kind comes to. -/
def DKindP (w : World) (R : Nat) (X : Tks) (st : DSt) (e : Ending) (w' : World) : Prop :=
  ∃ (x : Kd) (sl1 sl2 : Value), e = .returned (.agg #[.string (bs x.name), .int .i64 x.limit, .int .i64 x.within, sl1, sl2]) ∧ Val kdB st x ∧ MCs w' sl1 x.cases ∧ MStas w' sl2 x.states ∧ Tx w' R X (lift kdB st) ∧ Only (At R) w w'

set_option maxRecDepth 100000 in
set_option maxHeartbeats 40000000 in
theorem dkind_any {w : World} {R : Nat} {X : Tks} {st : DSt} (h : Tx w R X st) :
    Calls Tryz.prog 16 #[.pointer (some ⟨R, 0, none⟩)] w (DKindP w R X st) := by
  obtain ⟨wA, hwA, HA, oA⟩ := box2 (Only.refl (At R) w) h.lt (kdL [] 0 0 (.slice none 0 0) (.slice none 0 0)) 40
  have hwA' : wA = w.alloc (.cells #[.string ⟨#[]⟩, .int .i64 0, .int .i64 0, .slice none 0 0, .slice none 0 0] 40) := hwA
  have HO := Lib.hid HA
  have HT := Lib.hid (h.keep oA)
  have hlow := Lib.hid h.lt
  have hfew := Lib.hid h.few
  have ON := Lib.hid (one_l HT.out 1 1 rfl)
  have hlt := Lib.hid HA.lt
  clear hwA HA h oA
  have htw := tok_w
  have htn := tok_n
  go_enter Tryz.func16, Tryz.ntmps16
  go_upto_region 1 with (fail)
  rw [← hwA']; clear hwA'
  generalize hOO : w.heap.size = O at *
  have HOO := Lib.hid hOO
  clear hOO
  go_upto_region 2 with (go_at_call 27; refine ON.out.mono ?_; rintro e w1 ⟨⟨q, rfl⟩, h1, o1⟩; have KO := Lib.hid (HO.out.keep o1); have KT := Lib.hid h1; clear h1 o1)
  clear ON HO HT
  have G1 := Lib.hid ((Gw.start kdB st).bind (p := tk 1) (q := fun t r => kdO t.w r) (fun _ => rfl) (dT_val 1 st))
  generalize lift (tk 1) st = st1 at *
  generalize dT 1 st = t1 at *
  obtain ⟨W2, hW2, H2, o2⟩ := box2 KO.out.only KO.out.low (kdL t1.w 0 1 (.slice none 0 0) (.slice none 0 0)) 40
  have hW2' : W2 = w1.alloc (.cells #[.string (bs t1.w), .int .i64 0, .int .i64 1, .slice none 0 0, .slice none 0 0] 40) := hW2
  rw [← hW2']
  have HOL := Lib.hid (show O ≠ w1.heap.size by have := KO.out.lt; omega)
  have K2 := Lib.hid (show KdBx w R X O w1.heap.size t1.w 0 1 (.slice none 0 0) (.slice none 0 0) st1 W2 from ⟨KO.out.keep (o2.nilTo _), H2, KT.out.keep o2⟩)
  clear hW2 hW2' H2 o2 KO KT hlt
  generalize w1.heap.size = L at *
  generalize t1.w = nm at *
  have MO := Lib.hid (Ps.must_any K2.out.2.2 w_open nd_open (by decide))
  go_upto_region 3 with (go_at_call 15; refine MO.out.mono ?_; rintro e w3 ⟨rfl, h3, o3⟩; have K3 := Lib.hid (K2.out.keep o3 h3); clear h3 o3)
  have G2 := Lib.hid (G1.out.bind (p := pass w_open) (q := fun _ => kdL4 nm) (fun _ => rfl) (pass_val w_open st1))
  clear MO K2 G1
  generalize lift (pass w_open) st1 = st2 at *
  have WL := Lib.hid (Ps.word_any K3.out.2.2 w_limit nd_limit (by decide))
  obtain ⟨bl, hbl⟩ : ∃ b, b = dW w_limit st2 := ⟨_, rfl⟩
  rw [← hbl] at WL
  have HBL := Lib.hid hbl
  clear hbl
  go_upto_if 15 with (go_at_call 26; refine WL.out.mono ?_; rintro e w4 ⟨rfl, h4, o4⟩; have K4 := Lib.hid (K3.out.keep o4 h4); clear h4 o4)
  clear WL K3
  go_cut [] (fun wx => ∃ (la lb : Int) (st5 : DSt), Hid (KdBx w R X O L nm la lb (.slice none 0 0) (.slice none 0 0) st5 wx) ∧ Hid (Gw kdB st (kdC nm la lb) st5))
  case first =>
    cases bl with
    | true =>
      rw [dWs_yes HBL.out.symm] at K4
      have G3 := Lib.hid (lim_way1 G2.out HBL.out.symm)
      clear G2 HBL
      generalize (false, st2.2.tail) = st3 at *
      have ON := Lib.hid (one_l K4.out.2.2 2 2 rfl)
      have G4 := Lib.hid (G3.out.bind (p := tk 2) (q := fun a r1 => (pass w_in r1).bind fun _ r2 => (tk 2 r2).bind fun b r3 => (pass w_semi r3).bind fun _ r4 => kdC nm (a.n : Int) (b.n : Int) r4) (fun _ => rfl) (dT_val 2 st3))
      clear G3
      go_upto_region 5 with (go_at_call 27; refine ON.out.mono ?_; rintro e w5 ⟨⟨q, rfl⟩, h5, o5⟩; have K5 := Lib.hid (K4.out.keep o5 h5); clear h5 o5; have c1 := K5.out.2.1.cell 1 (v := .int .i64 0) rfl; have f1 := K5.out.2.1.free 1; have K6 := Lib.hid (K5.out.put HOL.out 1 (.int .i64 ((dT 2 st3).n : Int)) (nm' := nm) (la' := ((dT 2 st3).n : Int)) (lb' := 1) (s1' := .slice none 0 0) (s2' := .slice none 0 0) rfl); clear K5)
      clear ON K4 c1 f1
      generalize lift (tk 2) st3 = st4 at *
      generalize ((dT 2 st3).n : Int) = la at *
      generalize w5.setCell ⟨L, 1, none⟩ (.int .i64 la) = w6 at *
      have MI := Lib.hid (Ps.must_any K6.out.2.2 w_in nd_in (by decide))
      have G5 := Lib.hid (G4.out.bind (p := pass w_in) (q := fun _ r2 => (tk 2 r2).bind fun b r3 => (pass w_semi r3).bind fun _ r4 => kdC nm la (b.n : Int) r4) (fun _ => rfl) (pass_val w_in st4))
      clear G4
      go_upto_region 6 with (go_at_call 15; refine MI.out.mono ?_; rintro e w7 ⟨rfl, h7, o7⟩; have K7 := Lib.hid (K6.out.keep o7 h7); clear h7 o7)
      clear MI K6
      generalize lift (pass w_in) st4 = st5 at *
      have ON := Lib.hid (one_l K7.out.2.2 2 2 rfl)
      have G6 := Lib.hid (G5.out.bind (p := tk 2) (q := fun b r3 => (pass w_semi r3).bind fun _ r4 => kdC nm la (b.n : Int) r4) (fun _ => rfl) (dT_val 2 st5))
      clear G5
      go_upto_region 7 with (go_at_call 27; refine ON.out.mono ?_; rintro e w8 ⟨⟨q, rfl⟩, h8, o8⟩; have K8 := Lib.hid (K7.out.keep o8 h8); clear h8 o8; have c2 := K8.out.2.1.cell 2 (v := .int .i64 1) rfl; have f2 := K8.out.2.1.free 2; have K9 := Lib.hid (K8.out.put HOL.out 2 (.int .i64 ((dT 2 st5).n : Int)) (nm' := nm) (la' := la) (lb' := ((dT 2 st5).n : Int)) (s1' := .slice none 0 0) (s2' := .slice none 0 0) rfl); clear K8)
      clear ON K7 c2 f2
      generalize lift (tk 2) st5 = st6 at *
      generalize ((dT 2 st5).n : Int) = lb at *
      generalize w8.setCell ⟨L, 2, none⟩ (.int .i64 lb) = w9 at *
      have MS := Lib.hid (Ps.must_any K9.out.2.2 w_semi nd_semi (by decide))
      have G7 := Lib.hid (G6.out.bind (p := pass w_semi) (q := fun _ r4 => kdC nm la lb r4) (fun _ => rfl) (pass_val w_semi st6))
      clear G6
      go_wp2_with fail
      refine MS.out.mono ?_
      rintro e wz ⟨rfl, hz, oz⟩
      have KZ := Lib.hid (K9.out.keep oz hz)
      clear hz oz MS K9
      go_wp2_with fail
      go_meet
      exact ⟨la, lb, _, KZ, G7⟩
    | false =>
      rw [dWs_no HBL.out.symm] at K4
      have G3 := Lib.hid (lim_way2 G2.out HBL.out.symm)
      clear G2 HBL
      go_wp2_with fail
      go_meet
      exact ⟨0, 1, _, K4, G3⟩
  case rest =>
    obtain ⟨la, lb, st5, K5, G5⟩ := hcut
    generalize wc = w5 at *
    clear K4 G2 HBL
    clear bl
    go_upto_block 0 with (fail)
    go_cut [] (fun wx => ∃ (C : List Cs) (a : Option Addr) (n c : Nat) (st6 : DSt), C.length = n ∧ Hid (KdBx w R X O L nm la lb (.slice a n c) (.slice none 0 0) st6 wx) ∧ Hid (MCs wx (.slice a n c) C) ∧ Hid (New w (.slice a n c)) ∧ Hid (Gw kdB st (kdS nm la lb C) st6))
    case first =>
      have S0 := Lib.hid (Lp.start caseF st5)
      go_wp2_with fail
      go_loopw [] (fun wr => ∃ (C : List Cs) (st6 : DSt) (a : Option Addr) (n c : Nat), C.length = n ∧ Hid (KdBx w R X O L nm la lb (.slice a n c) (.slice none 0 0) st6 wr) ∧ Hid (MCs wr (.slice a n c) C) ∧ Hid (New w (.slice a n c)) ∧ Hid (Lp caseF st5 st6 C) ∧ Hid (n + meas st6 ≤ 20001))
        (fun wr => leftD R wr)
      case atStart => exact ⟨[], st5, none, 0, 0, rfl, K5, Lib.hid ⟨rfl, .inl ⟨rfl, rfl⟩⟩, Lib.hid (new_none w), S0, Lib.hid (by have := K5.out.2.2.suf.length_le; have := hfew.out; unfold meas; split <;> omega)⟩
      case round =>
        obtain ⟨C, st6, a, n, c, hn, K6, M6, HF, HLP, HBd⟩ := hrel
        have HN := Lib.hid hn
        have HLF := Lib.hid K6.out.2.2.leftD
        have c2 := K6.out.2.2.c2
        clear hn K5 S0
        cases hb : st6.1 with
        | true =>
          rw [hb] at c2
          have G6 := Lib.hid (show Gw kdB st (kdS nm la lb C) st6 from by
            obtain ⟨e, v⟩ := HLP.out.endBad hb
            have := G5.out.bind (p := caseF) (q := fun C => kdS nm la lb C) (fun _ => rfl) v
            rw [e] at this
            exact this)
          clear hb
          go_wp2_with fail
          go_meet
          exact ⟨C, a, n, c, st6, HN.out, K6, M6, HF, G6⟩
        | false =>
          rw [hb] at c2
          have HB := Lib.hid hb
          clear hb
          have WC := Lib.hid (Ps.word_any K6.out.2.2 w_case nd_case (by decide))
          obtain ⟨b1, hb1⟩ : ∃ b, b = dW w_case st6 := ⟨_, rfl⟩
          rw [← hb1] at WC
          have HB1 := Lib.hid hb1
          clear hb1
          go_upto_if 34 with (go_at_call 26; refine WC.out.mono ?_; rintro e w7 ⟨rfl, h7, o7⟩; have K7 := Lib.hid (K6.out.keep o7 h7); have M7 := Lib.hid (M6.out.keep o7 K6.out.2.2.ofT (by decide)); clear h7 o7)
          clear WC K6 M6 c2
          go_cut [4] (fun s4 wx => ∃ (rs : Wd) (st7 : DSt), s4 = .string (bs rs) ∧ Hid (KdBx w R X O L nm la lb (.slice a n c) (.slice none 0 0) st7 wx) ∧ Hid (MCs wx (.slice a n c) C) ∧ Hid (Gw pCase st6 (csTl rs) st7) ∧ Hid (dW w_case st6 = true ∨ dW w_else st6 = true))
          case first =>
            cases b1 with
            | true =>
              rw [dWs_yes HB1.out.symm] at K7
              have G7 := Lib.hid (case_way1 HB1.out.symm)
              have HD := Lib.hid (show dW w_case st6 = true ∨ dW w_else st6 = true from .inl HB1.out.symm)
              clear HB1
              generalize (false, st6.2.tail) = st7 at *
              have ON := Lib.hid (one_l K7.out.2.2 1 1 rfl)
              have G8 := Lib.hid (G7.out.bind (p := tk 1) (q := fun t r => csTl t.w r) (fun _ => rfl) (dT_val 1 st7))
              clear G7
              go_wp2_with fail
              refine ON.out.mono ?_
              rintro e w8 ⟨⟨q, rfl⟩, h8, o8⟩
              have K8 := Lib.hid (K7.out.keep o8 h8)
              have M8 := Lib.hid (M7.out.keep o8 K7.out.2.2.ofT (by decide))
              clear h8 o8 ON K7 M7
              go_wp2_with fail
              go_meet
              exact ⟨_, _, rfl, K8, M8, G8, HD⟩
            | false =>
              rw [dWs_no HB1.out.symm] at K7
              have WE := Lib.hid (Ps.word_any K7.out.2.2 w_else nd_else (by decide))
              cases h2 : dW w_else st6 with
              | true =>
                rw [h2, dWs_yes h2] at WE
                have G7 := Lib.hid (case_way2 h2)
                have HD := Lib.hid (show dW w_case st6 = true ∨ dW w_else st6 = true from .inr h2)
                clear h2
                go_wp2_with fail
                refine WE.out.mono ?_
                rintro e w8 ⟨rfl, h8, o8⟩
                have K8 := Lib.hid (K7.out.keep o8 h8)
                have M8 := Lib.hid (M7.out.keep o8 K7.out.2.2.ofT (by decide))
                clear h8 o8 WE K7 M7
                go_wp2_with fail
                go_meet
                exact ⟨[], _, rfl, K8, M8, G7, HD⟩
              | false =>
                rw [h2, dWs_no h2] at WE
                have G6 := Lib.hid (show Gw kdB st (kdS nm la lb C) st6 from by
                  obtain ⟨e, v⟩ := cs_end HLP.out HB1.out.symm h2
                  have := G5.out.bind (p := caseF) (q := fun C => kdS nm la lb C) (fun _ => rfl) v
                  rw [e] at this
                  exact this)
                clear h2
                go_wp2_with fail
                refine WE.out.mono ?_
                rintro e w8 ⟨rfl, h8, o8⟩
                have K8 := Lib.hid (K7.out.keep o8 h8)
                have M8 := Lib.hid (M7.out.keep o8 K7.out.2.2.ofT (by decide))
                clear h8 o8 WE K7 M7
                go_wp2_with fail
                go_meet
                exact ⟨C, a, n, c, st6, HN.out, K8, M8, HF, G6⟩
          case rest =>
            obtain ⟨rs, st7, rfl, K8, M8, G8, HD⟩ := hcut
            generalize wc = w8 at *
            clear K7 M7 HB1
            clear b1
            go_upto_block 2 with (fail)
            go_cut [5] (fun s5 wx => ∃ (z : Int) (st8 : DSt), s5 = .int .i64 z ∧ Hid (KdBx w R X O L nm la lb (.slice a n c) (.slice none 0 0) st8 wx) ∧ Hid (MCs wx (.slice a n c) C) ∧ Hid (DirI st7 st8 4 z))
            case first =>
              go_wp2_with fail
              go_loopw [5, 6] (fun s5 s6 wr => ∃ (d : Nat) (z : Int) (st8 : DSt), d ≤ 4 ∧ s5 = .int .i64 z ∧ s6 = .int .i64 ((d : Int) + 1) ∧ Hid (KdBx w R X O L nm la lb (.slice a n c) (.slice none 0 0) st8 wr) ∧ Hid (MCs wr (.slice a n c) C) ∧ Hid (DirI st7 st8 d z))
                (fun _ s6 _ => 6 - (intOf s6).toNat)
              case atStart => exact ⟨0, 0, st7, by decide, rfl, rfl, K8, M8, Lib.hid (.inl ⟨rfl, rfl, .inr (Nat.zero_le _)⟩)⟩
              case round =>
                obtain ⟨d, z, st8, hd, rfl, rfl, K9, M9, HI⟩ := hrel
                clear K8 M8
                by_cases hz : z = 0
                · subst hz
                  obtain ⟨e8, hl⟩ : st8 = st7 ∧ (st7.1 = true ∨ d ≤ dirs.idxOf (hw st7.2)) := HI.out.elim (fun h => h.2) (fun h => absurd h.1 (by decide))
                  rw [e8] at K9
                  clear e8 HI
                  by_cases hd4 : d < 4
                  · have hd' : (d : Int) + 1 ≤ 4 := by omega
                    obtain ⟨nd, nne⟩ := dirs_nd hd4
                    have RV := Lib.hid (fun w' => show Calls Tryz.prog 28 #[.int .i64 ((d : Int) + 1)] w' fun e w'' => e = .returned (.string (bs (dirs.getD d []))) ∧ w' = w'' from by
                      have := rword_any ((d : Int) + 1) w'
                      rw [dpick_at hd4] at this
                      exact this)
                    have WD := Lib.hid (Ps.word_any K9.out.2.2 (dirs.getD d []) nd nne)
                    have HIT := Lib.hid (fun h => dir_hit hd4 h hl)
                    have MIS := Lib.hid (fun h => dir_miss hd4 h hl)
                    clear nd nne hl
                    generalize dirs.getD d [] = s at *
                    cases hq : dW s st7 with
                    | false =>
                      rw [hq, dWs_no hq] at WD
                      have HN2 := Lib.hid (MIS.out hq)
                      clear hq HIT MIS
                      go_wp2_with (first
                        | (go_at_call 28; (with_reducible refine (RV.out _).mono ?_); rintro e wx1 ⟨rfl, rfl⟩)
                        | (go_at_call 26; (with_reducible refine WD.out.mono ?_); rintro e wx2 ⟨rfl, h2, o2⟩; have KX := Lib.hid (K9.out.keep o2 h2); have MX := Lib.hid (M9.out.keep o2 K9.out.2.2.ofT (by decide)); clear h2 o2))
                      go_roundw
                      case rel => exact ⟨d + 1, 0, st7, by omega, rfl, by go_num, KX, MX, Lib.hid (.inl ⟨rfl, rfl, HN2.out⟩)⟩
                      case measure => simp [intOf]; omega
                    | true =>
                      rw [hq, dWs_yes hq] at WD
                      have HN2 := Lib.hid (HIT.out hq)
                      clear hq HIT MIS
                      go_wp2_with (first
                        | (go_at_call 28; (with_reducible refine (RV.out _).mono ?_); rintro e wx1 ⟨rfl, rfl⟩)
                        | (go_at_call 26; (with_reducible refine WD.out.mono ?_); rintro e wx2 ⟨rfl, h2, o2⟩; have KX := Lib.hid (K9.out.keep o2 h2); have MX := Lib.hid (M9.out.keep o2 K9.out.2.2.ofT (by decide)); clear h2 o2))
                      go_roundw
                      case rel => exact ⟨d + 1, (d : Int) + 1, (false, st7.2.tail), by omega, rfl, by go_num, KX, MX, Lib.hid (.inr ⟨by omega, rfl, HN2.out.1, HN2.out.2⟩)⟩
                      case measure => simp [intOf]; omega
                  · have e4 : d = 4 := by omega
                    subst e4
                    have HL := Lib.hid hl
                    clear hl hd4 hd
                    go_wp2_with fail
                    go_meet
                    exact ⟨0, st7, rfl, K9, M9, Lib.hid (.inl ⟨rfl, rfl, HL.out⟩)⟩
                · have HR2 := Lib.hid (show DirI st7 st8 4 z from HI.out.elim (fun h => absurd h.1 hz) (fun h => .inr h))
                  clear HI
                  by_cases h5 : (d : Int) + 1 ≤ 4
                  · go_wp2_with fail
                    go_meet
                    exact ⟨z, st8, rfl, K9, M9, HR2⟩
                  · go_wp2_with fail
                    go_meet
                    exact ⟨z, st8, rfl, K9, M9, HR2⟩
            case rest =>
              obtain ⟨z, st8, rfl, K9, M9, HI⟩ := hcut
              generalize wc = w9 at *
              clear K8 M8
              go_upto_region 19 with (fail)
              go_cut [] (fun wx => Hid (KdBx w R X O L nm la lb (.slice a n c) (.slice none 0 0) (lift chD st7) wx) ∧ Hid (MCs wx (.slice a n c) C) ∧ Hid (Val chD st7 z))
              case first =>
                have c2 := K9.out.2.2.c2
                have f2 := K9.out.2.2.f 2
                rcases HI.out with ⟨rfl, e8, hl⟩ | ⟨hz, hb8, e8, v8⟩
                · have N := Lib.hid (show KdBx w R X O L nm la lb (.slice a n c) (.slice none 0 0) (lift chD st7) (w9.setCell ⟨R, 2, none⟩ (.bool true)) from by
                    have := K9.out.bad true
                    rw [e8] at this
                    rw [(dir_none hl).1]
                    exact this)
                  have N2 := Lib.hid ((dir_none hl).2 0)
                  have N3 := Lib.hid (M9.out.keep (at_only w9 R 2 (.bool true)) K9.out.2.2.ofT (by decide))
                  rw [e8] at c2
                  clear HI hl e8 K9 M9
                  cases hb : st7.1 with
                  | true =>
                    rw [hb] at c2
                    clear hb
                    go_wp2_with fail
                    go_meet
                    exact ⟨N, N3, N2⟩
                  | false =>
                    rw [hb] at c2
                    clear hb
                    go_wp2_with fail
                    go_meet
                    exact ⟨N, N3, N2⟩
                · have N := Lib.hid (show KdBx w R X O L nm la lb (.slice a n c) (.slice none 0 0) (lift chD st7) (w9.setCell ⟨R, 2, none⟩ (.bool false)) from by
                    have := K9.out.bad false
                    rw [show (false, st8.2) = st8 from by rw [← hb8]] at this
                    rw [e8]
                    exact this)
                  have N2 := Lib.hid v8
                  have N3 := Lib.hid (M9.out.keep (at_only w9 R 2 (.bool false)) K9.out.2.2.ofT (by decide))
                  have hz0 : ¬ z = 0 := by omega
                  have hzb : (z == 0) = false := by simpa using hz0
                  rw [hb8] at c2
                  clear HI hb8 e8 v8 K9 M9 hz
                  go_wp2_with fail
                  go_meet
                  exact ⟨N, N3, N2⟩
              case rest =>
                obtain ⟨KA, MA, HV⟩ := hcut
                generalize wc = wa at *
                clear K9 M9 HI
                clear st8
                have CE := Lib.hid (case_end G8.out HV.out)
                have MS := Lib.hid (Ps.must_any KA.out.2.2 w_semi nd_semi (by decide))
                rw [← CE.out.1] at MS
                go_upto_region 21 with (go_at_call 15; refine MS.out.mono ?_; rintro e wb ⟨rfl, hb, ob⟩; have KB := Lib.hid (KA.out.keep ob hb); have MB := Lib.hid (MA.out.keep ob KA.out.2.2.ofT (by decide)); clear hb ob)
                have LPN := Lib.hid (cs_more HLP.out HD.out CE.out.2)
                have HMS := Lib.hid (show meas (lift pCase st6) + 1 ≤ meas st6 from meas_lift pCase_suf pCase_eats HB.out)
                clear MS KA MA HV CE G8 HD HLP HB
                clear st7
                obtain ⟨a', c', wd, hr, hMd, hNd, od⟩ := cs_pushed MB.out HN.out HF.out KB.out.2.1.only.size (by have := HBd.out; omega) ⟨rs, z⟩
                have hrw := ofT_row MB.out
                have c3 := KB.out.2.1.cell 3 (v := .slice a n c) rfl
                have nr : ¬ RowOf a L := not_rowOf hrw KB.out.2.1.heap (by decide)
                have nrO : ¬ RowOf a O := not_rowOf hrw KB.out.1.heap (by decide)
                have Ld := KB.out.2.1.keepRow HF.out nr od
                have Od := KB.out.1.keepRow HF.out nrO od
                have Td := KB.out.2.2.keepRow (by rw [HOO.out]; exact hlow.out) HF.out od
                have fd := Ld.free 3
                have cd := Ld.cell 3 (v := .slice a n c) rfl
                have KE := Lib.hid (KdBx.put (show KdBx w R X O L nm la lb (.slice a n c) (.slice none 0 0) (lift pCase st6) wd from ⟨Od, Ld, Td⟩) HOL.out 3 (.slice a' (n + 1) c') (nm' := nm) (la' := la) (lb' := lb) (s1' := .slice a' (n + 1) c') (s2' := .slice none 0 0) rfl)
                have ME := Lib.hid (hMd.out.keep (at_only wd L 3 (.slice a' (n + 1) c')) (ofT_at Ld.heap) (by decide))
                have hr' := Lib.hid hr
                clear hr hrw nr nrO Ld Od Td hMd od MB KB
                go_wp2_with (at_builtin; refine Lib.wpList_append_run _ rfl (.tmp 68) (.tmp 72) 37 37 rfl _ _ rfl rfl _ _ hr'.out ?_)
                go_roundw
                case rel => exact ⟨C ++ [⟨rs, z⟩], _, a', n + 1, c', by rw [List.length_append, HN.out]; rfl, KE, ME, hNd, LPN, Lib.hid (by have := HBd.out; have := HMS.out; omega)⟩
                case measure => rw [KE.out.2.2.leftD, HLF.out]; have := HMS.out; omega
    case rest =>
      obtain ⟨C, ac, nc, cc, st6, hnc, K6, MC6, FC, G6⟩ := hcut
      generalize wc = w6 at *
      clear K5 G5
      have HNC := Lib.hid hnc
      have S0 := Lib.hid (Lp.start (blkF pState) st6)
      clear hnc
      go_wp2_with fail
      go_loopw [] (fun wr => ∃ (S : List Sta) (st7 : DSt) (a : Option Addr) (n c : Nat), S.length = n ∧ Hid (KdBx w R X O L nm la lb (.slice ac nc cc) (.slice a n c) st7 wr) ∧ Hid (MCs wr (.slice ac nc cc) C) ∧ Hid (MStas wr (.slice a n c) S) ∧ Hid (New w (.slice a n c)) ∧ Hid (Lp (blkF pState) st6 st7 S) ∧ Hid (n + meas st7 ≤ 20001))
        (fun wr => leftD R wr)
      case atStart => exact ⟨[], st6, none, 0, 0, rfl, K6, MC6, Lib.hid ⟨[], rfl, ⟨rfl, .inl ⟨rfl, rfl⟩⟩, fun x hx => by cases hx⟩, Lib.hid (new_none w), S0, Lib.hid (by have := K6.out.2.2.suf.length_le; have := hfew.out; unfold meas; split <;> omega)⟩
      case round =>
        obtain ⟨S, st7, a, n, c, hn, K7, MC7, MS7, HF, HLP, HBd⟩ := hrel
        have HN := Lib.hid hn
        have HLF := Lib.hid K7.out.2.2.leftD
        clear hn K6 S0 MC6
        have WS := Lib.hid (Ps.word_any K7.out.2.2 w_state nd_state (by decide))
        cases hd : dW w_state st7 with
        | false =>
          rw [hd, dWs_no hd] at WS
          have KE := Lib.hid (show lift kdB st = lift (pass w_close) st7 ∧ Val kdB st ⟨nm, la, lb, C, S⟩ from kd_end G6.out (sta_fin HLP.out hd).1 (sta_fin HLP.out hd).2)
          clear hd HLP HF HBd HLF
          go_wp2_with fail
          refine WS.out.mono ?_
          rintro e w8 ⟨rfl, h8, o8⟩
          have K8 := Lib.hid (K7.out.keep o8 h8)
          have MC8 := Lib.hid (MC7.out.keep o8 K7.out.2.2.ofT (by decide))
          have MS8 := Lib.hid (MS7.out.keep o8 K7.out.2.2.ofT (by decide) (by decide) (by decide))
          clear h8 o8 WS K7 MC7 MS7
          have MO := Lib.hid (Ps.must_any K8.out.2.2 w_close nd_close (by decide))
          go_wp2_with fail
          refine MO.out.mono ?_
          rintro e w9 ⟨rfl, h9, o9⟩
          have K9 := Lib.hid (K8.out.keep o9 h9)
          have MC9 := Lib.hid (MC8.out.keep o9 K8.out.2.2.ofT (by decide))
          have MS9 := Lib.hid (MS8.out.keep o9 K8.out.2.2.ofT (by decide) (by decide) (by decide))
          clear h9 o9 MO K8 MC8 MS8
          have l0 := K9.out.2.1.cell 0 (v := .string (bs nm)) rfl
          have l1 := K9.out.2.1.cell 1 (v := .int .i64 la) rfl
          have l2 := K9.out.2.1.cell 2 (v := .int .i64 lb) rfl
          have l3 := K9.out.2.1.cell 3 (v := .slice ac nc cc) rfl
          have l4 := K9.out.2.1.cell 4 (v := .slice a n c) rfl
          have y0 := K9.out.1.cell 0 (v := .string (bs [])) rfl
          have d0 := K9.out.1.free 0
          have y1 := K9.out.1.cell 1 (v := .int .i64 0) rfl
          have d1 := K9.out.1.free 1
          have y2 := K9.out.1.cell 2 (v := .int .i64 0) rfl
          have d2 := K9.out.1.free 2
          have y3 := K9.out.1.cell 3 (v := .slice none 0 0) rfl
          have d3 := K9.out.1.free 3
          have y4 := K9.out.1.cell 4 (v := .slice none 0 0) rfl
          have d4 := K9.out.1.free 4
          have nLO : L ≠ O := Ne.symm HOL.out
          go_wp2_with fail
          have H7 := K9.out.1.set (kdL nm la lb (.slice ac nc cc) (.slice a n c)) rfl
          refine bodyPost_ret (results_agg rfl _ _ O (kdL nm la lb (.slice ac nc cc) (.slice a n c)) Tryz.isAgg40 Tryz.sizeOf40 rfl H7.heap) rfl ?_
          exact ⟨⟨nm, la, lb, C, S⟩, .slice ac nc cc, .slice a n c, rfl, KE.out.2, MC9.out.keep (sets_only O 0 (kdL nm la lb (.slice ac nc cc) (.slice a n c)) _) (ofT_at K9.out.1.heap) (by decide), MS9.out.keep (sets_only O 0 (kdL nm la lb (.slice ac nc cc) (.slice a n c)) _) (ofT_at K9.out.1.heap) (by decide) (by decide) (by decide), by rw [KE.out.1]; exact K9.out.1.txs 0 (kdL nm la lb (.slice ac nc cc) (.slice a n c)) K9.out.2.2, H7.only⟩
        | true =>
          rw [hd, dWs_yes hd] at WS
          have G7 := Lib.hid (sta_way hd)
          have HD := Lib.hid hd
          clear hd
          go_upto_region 23 with (go_at_call 26; refine WS.out.mono ?_; rintro e w8 ⟨rfl, h8, o8⟩; have K8 := Lib.hid (K7.out.keep o8 h8); have MC8 := Lib.hid (MC7.out.keep o8 K7.out.2.2.ofT (by decide)); have MS8 := Lib.hid (MS7.out.keep o8 K7.out.2.2.ofT (by decide) (by decide) (by decide)); clear h8 o8)
          clear WS K7 MC7 MS7
          obtain ⟨st8, hs8⟩ : ∃ s, s = (false, st7.2.tail) := ⟨_, rfl⟩
          rw [← hs8] at K8 G7
          clear hs8
          have ON := Lib.hid (one_l K8.out.2.2 1 1 rfl)
          have G8 := Lib.hid (G7.out.bind (p := tk 1) (q := fun t r => stO t.w r) (fun _ => rfl) (dT_val 1 st8))
          go_upto_region 24 with (go_at_call 27; refine ON.out.mono ?_; rintro e w9 ⟨⟨q, rfl⟩, h9, o9⟩; have K9 := Lib.hid (K8.out.keep o9 h9); have MC9 := Lib.hid (MC8.out.keep o9 K8.out.2.2.ofT (by decide)); have MS9 := Lib.hid (MS8.out.keep o9 K8.out.2.2.ofT (by decide) (by decide) (by decide)); clear h9 o9)
          clear ON K8 MC8 MS8 G7
          generalize lift (tk 1) st8 = st9 at *
          generalize dT 1 st8 = t2 at *
          obtain ⟨WA, hWA, HA, oA⟩ := box2 (Only.refl (At R) w9) K9.out.2.2.lt (staL t2.w (.slice none 0 0)) 43
          have hWA' : WA = w9.alloc (.cells #[.string (bs t2.w), .slice none 0 0] 43) := hWA
          rw [← hWA']
          have BA := Lib.hid HA
          have TA := Lib.hid (K9.out.2.2.keep oA)
          have HRB := Lib.hid K9.out.2.2.lt
          clear hWA hWA' HA oA
          generalize hBB : w9.heap.size = B at *
          have HBB := Lib.hid hBB
          clear hBB
          generalize t2.w = ns at *
          have MO := Lib.hid (Ps.must_any TA.out w_open nd_open (by decide))
          have G9 := Lib.hid (G8.out.bind (p := pass w_open) (q := fun _ => stR ns) (fun _ => rfl) (pass_val w_open st9))
          go_upto_block 6 with (go_at_call 15; refine MO.out.mono ?_; rintro e wb ⟨rfl, hb, ob⟩; have BB := Lib.hid (BA.out.keep ob); have TB := Lib.hid hb; clear hb ob)
          clear MO BA TA G8
          generalize lift (pass w_open) st9 = st10 at *
          go_cut [] (fun wx => ∃ (E : List Rw) (b : Option Addr) (m d : Nat) (st11 : DSt), Hid (Own w9 R B (staL ns (.slice b m d)) 43 wx) ∧ Hid (MRows wx (.slice b m d) E) ∧ Hid (Tx wx R X st11) ∧ Hid (lift pState st7 = st11 ∧ Val pState st7 ⟨ns, E⟩))
          case first =>
            have S1 := Lib.hid (Lp.start (blkF pRow) st10)
            go_wp2_with fail
            go_loopw [] (fun wr => ∃ (E : List Rw) (st11 : DSt) (b : Option Addr) (m d : Nat), E.length = m ∧ Hid (Own w9 R B (staL ns (.slice b m d)) 43 wr) ∧ Hid (MRows wr (.slice b m d) E) ∧ Hid (New w9 (.slice b m d)) ∧ Hid (Tx wr R X st11) ∧ Hid (Lp (blkF pRow) st10 st11 E) ∧ Hid (m + meas st11 ≤ 20001))
              (fun wr => leftD R wr)
            case atStart => exact ⟨[], st10, none, 0, 0, rfl, BB, Lib.hid ⟨[], rfl, ⟨rfl, .inl ⟨rfl, rfl⟩⟩, fun x hx => by cases hx⟩, Lib.hid (new_none w9), TB, S1, Lib.hid (by have := TB.out.suf.length_le; have := hfew.out; unfold meas; split <;> omega)⟩
            case round =>
              obtain ⟨E, st11, b, m, d, hm, BC, MR, HFR, TC, HLR, HBR⟩ := hrel
              have HM := Lib.hid hm
              have HLG := Lib.hid TC.out.leftD
              have c2 := TC.out.c2
              clear hm BB TB S1
              cases hb : st11.1 with
              | true =>
                rw [hb] at c2
                have HE := Lib.hid (sta_bad G9.out HLR.out hb)
                clear hb
                go_wp2_with fail
                go_meet
                exact ⟨E, b, m, d, st11, BC, MR, TC, HE⟩
              | false =>
                rw [hb] at c2
                have WC := Lib.hid (Ps.word_any TC.out w_close nd_close (by decide))
                cases hd : dW w_close st11 with
                | true =>
                  rw [hd, dWs_yes hd] at WC
                  have HE := Lib.hid (sta_close G9.out HLR.out hd)
                  clear hb hd
                  go_wp2_with fail
                  refine WC.out.mono ?_
                  rintro e wc ⟨rfl, hc, oc⟩
                  have BD := Lib.hid (BC.out.keep oc)
                  have MD := Lib.hid (MR.out.keep oc TC.out.ofT (by decide) (by decide))
                  have TD := Lib.hid hc
                  clear hc oc WC BC MR TC
                  go_wp2_with fail
                  go_meet
                  exact ⟨E, b, m, d, _, BD, MD, TD, HE⟩
                | false =>
                  rw [hd, dWs_no hd] at WC
                  have HDW := Lib.hid hd
                  have HMS := Lib.hid (show meas (lift pRow st11) + 1 ≤ meas st11 from meas_lift pRow_suf pRow_eats hb)
                  clear hb hd
                  go_upto_region 26 with (go_at_call 26; refine WC.out.mono ?_; rintro e wc ⟨rfl, hc, oc⟩; have BD := Lib.hid (BC.out.keep oc); have MD := Lib.hid (MR.out.keep oc TC.out.ofT (by decide) (by decide)); have TD := Lib.hid hc; clear hc oc)
                  clear WC BC MR TC c2
                  have od : Only Nil wc wc.drew := (Only.refl Nil wc).drew
                  have l3 := BD.out.cell 1 (v := .slice b m d) rfl
                  have ld := only_cell0 od l3
                  have T6 := Lib.hid (TD.out.keep od)
                  have B6 := Lib.hid (BD.out.keep (od.nilTo _))
                  have M6 := Lib.hid (MD.out.keep od (ofT_nil 63 _) (by decide) (by decide))
                  have KD := Lib.hid (show Calls Tryz.prog 29 #[.pointer (some ⟨R, 0, none⟩)] wc.drew (fun e w7 => ∃ (x : Rw) (sl : Value), e = .returned (.agg #[.string (bs x.tag), .bool x.only, .int .i64 x.n, sl]) ∧ Val pRow st11 x ∧ MEff w7 sl x.effs ∧ Tx w7 R X (lift pRow st11) ∧ Only (At R) wc.drew w7) from drow_any T6.out)
                  clear od BD MD TD l3
                  refine wp_region_held_drew (S := fun _ => True) (by kernel_rfl) True.intro (fun hHeld => ?_)
                  refine wpAnyH_take (i := 0) (v := ?vt0) rfl (by kernel_rfl) (by kernel_rfl) (by kernel_rfl) (fun _ _ _ h => h) (Or.inl ⟨by kernel_rfl, ?ht0⟩) (by assumption) ?rt0
                  case ht0 => (intro w hSw; (try dsimp only at hSw); first | (go_simp; done) | (go_simp; with_reducible rfl))
                  try simp only [Act.put, List.setIfInBounds_toArray, List.set_cons_zero, List.set_cons_succ]
                  refine wpAnyH_take (i := 2) (v := ?vt2) rfl (by kernel_rfl) (by kernel_rfl) (by kernel_rfl) (fun _ _ _ h => h) (Or.inl ⟨by kernel_rfl, ?ht2⟩) (by assumption) ?rt2
                  case ht2 => (intro w hSw; (try dsimp only at hSw); first | (go_simp; done) | (go_simp; with_reducible rfl))
                  try simp only [Act.put, List.setIfInBounds_toArray, List.set_cons_zero, List.set_cons_succ]
                  refine wpAnyH_ready (rs := [1, 3]) (by kernel_rfl) (by simp) ?_
                  refine (AllReadyH.cons rfl (fun K1 hK1 => ?_) (AllReadyH.cons rfl (fun K3 hK3 => ?_) AllReadyH.nil))
                  · skip
                    go_simp
                    refine hK1.out _ _ ?sz1 (fun hHeldz1 => ?_)
                    case sz1 => exact True.intro
                    clear hK1 K1
                    try simp only [Act.put, List.setIfInBounds_toArray, List.set_cons_zero, List.set_cons_succ]
                    refine wpAnyH_ready (rs := [3]) (by kernel_rfl) (by simp) ?_
                    refine (AllReadyH.cons rfl (fun K3 hK3 => ?_) AllReadyH.nil)
                    (go_simp; go_at_call 29; refine KD.out.mono ?_; rintro e w7 ⟨x, sl, rfl, hv, hE, T7, o7⟩; have M7 := M6.out.keep o7 T6.out.ofT (by decide) (by decide); obtain ⟨b', d', w8, hr, hM8, hN8, o8⟩ := row_pushed M7 HM.out HFR.out (B6.out.only.trans o7).size (by have := HBR.out; omega) x sl hE; have hrw := ofT_row M7.choose_spec.2.1; have B7 := B6.out.keep o7; have c3 := B7.cell 1 (v := .slice b m d) rfl; have c4 := only_cell0 ((Only.refl Nil w7).alloc (.cells #[.string (bs x.tag), .bool x.only, .int .i64 x.n, sl] 46)) c3; have nr : ¬ RowOf b B := not_rowOf hrw B7.heap (by decide); have B8 := B7.keepRow HFR.out nr o8; have T8 := T7.keepRow (by rw [HBB.out]; exact HRB.out) HFR.out o8; have f8 := B8.free 1; have c8 := B8.cell 1 (v := .slice b m d) rfl; have B9 := Lib.hid (B8.put 1 (.slice b' (m + 1) d')); have T9 := Lib.hid (B8.tx 1 (.slice b' (m + 1) d') T8); have M9 := Lib.hid (hM8.out.keep (at_only w8 B 1 (.slice b' (m + 1) d')) (ofT_at B8.heap) (by decide) (by decide)); have LPN := Lib.hid (rw_more HLR.out HDW.out hv); have hr' := Lib.hid hr; clear hr hE B7 B8 T7 o7 o8 hM8 T8 M7 hrw hv; go_wp2_with fail)
                    refine hK3.out _ _ ?sz2 (fun hHeldz2 => ?_)
                    case sz2 => exact True.intro
                    clear hK3 K3
                    try simp only [Act.put, List.setIfInBounds_toArray, List.set_cons_zero, List.set_cons_succ]
                    refine wpAnyH_ready (rs := [4]) (by kernel_rfl) (by simp) ?_
                    refine (AllReadyH.cons rfl (fun K4 hK4 => ?_) AllReadyH.nil)
                    go_simp
                    refine hK4.out _ _ ?sz3 (fun hHeldz3 => ?_)
                    case sz3 => exact True.intro
                    clear hK4 K4
                    try simp only [Act.put, List.setIfInBounds_toArray, List.set_cons_zero, List.set_cons_succ]
                    refine wpAnyH_ready (rs := [5]) (by kernel_rfl) (by simp) ?_
                    refine (AllReadyH.cons rfl (fun K5 hK5 => ?_) AllReadyH.nil)
                    (refine step_append_run rfl (.tmp 94) (.tmp 97) 41 rfl _ _ rfl rfl _ _ hr'.out ?_)
                    refine hK5.out _ _ ?sz4 (fun hHeldz4 => ?_)
                    case sz4 => exact True.intro
                    clear hK5 K5
                    try simp only [Act.put, List.setIfInBounds_toArray, List.set_cons_zero, List.set_cons_succ]
                    refine wpAnyH_ready (rs := [6]) (by kernel_rfl) (by simp) ?_
                    refine (AllReadyH.cons rfl (fun K6 hK6 => ?_) AllReadyH.nil)
                    go_simp
                    refine hK6.out _ _ ?sz5 (fun hHeldz5 => ?_)
                    case sz5 => exact True.intro
                    clear hK6 K6
                    try simp only [Act.put, List.setIfInBounds_toArray, List.set_cons_zero, List.set_cons_succ]
                    refine wpAnyH_ready (rs := [7]) (by kernel_rfl) (by simp) ?_
                    refine (AllReadyH.cons rfl (fun K7 hK7 => ?_) AllReadyH.nil)
                    go_simp
                    refine hK7.out _ _ ?sz6 (fun hHeldz6 => ?_)
                    case sz6 => exact True.intro
                    clear hK7 K7
                    try simp only [Act.put, List.setIfInBounds_toArray, List.set_cons_zero, List.set_cons_succ]
                    refine wpAnyH_done (by kernel_rfl) ?_ _
                    go_wp2_with fail
                    go_roundw
                    case rel => exact ⟨E ++ [x], _, b', m + 1, d', by rw [List.length_append, HM.out]; rfl, B9, M9, hN8, T9, LPN, Lib.hid (by have := HBR.out; have := HMS.out; omega)⟩
                    case measure => rw [T9.out.leftD, HLG.out]; have := HMS.out; omega
                  · skip
                    (go_simp; go_at_call 29; refine KD.out.mono ?_; rintro e w7 ⟨x, sl, rfl, hv, hE, T7, o7⟩; have M7 := M6.out.keep o7 T6.out.ofT (by decide) (by decide); obtain ⟨b', d', w8, hr, hM8, hN8, o8⟩ := row_pushed M7 HM.out HFR.out (B6.out.only.trans o7).size (by have := HBR.out; omega) x sl hE; have hrw := ofT_row M7.choose_spec.2.1; have B7 := B6.out.keep o7; have c3 := B7.cell 1 (v := .slice b m d) rfl; have c4 := only_cell0 ((Only.refl Nil w7).alloc (.cells #[.string (bs x.tag), .bool x.only, .int .i64 x.n, sl] 46)) c3; have nr : ¬ RowOf b B := not_rowOf hrw B7.heap (by decide); have B8 := B7.keepRow HFR.out nr o8; have T8 := T7.keepRow (by rw [HBB.out]; exact HRB.out) HFR.out o8; have f8 := B8.free 1; have c8 := B8.cell 1 (v := .slice b m d) rfl; have B9 := Lib.hid (B8.put 1 (.slice b' (m + 1) d')); have T9 := Lib.hid (B8.tx 1 (.slice b' (m + 1) d') T8); have M9 := Lib.hid (hM8.out.keep (at_only w8 B 1 (.slice b' (m + 1) d')) (ofT_at B8.heap) (by decide) (by decide)); have LPN := Lib.hid (rw_more HLR.out HDW.out hv); have hr' := Lib.hid hr; clear hr hE B7 B8 T7 o7 o8 hM8 T8 M7 hrw hv; go_wp2_with fail)
                    refine hK3.out _ _ ?sz7 (fun hHeldz7 => ?_)
                    case sz7 => exact True.intro
                    clear hK3 K3
                    try simp only [Act.put, List.setIfInBounds_toArray, List.set_cons_zero, List.set_cons_succ]
                    refine wpAnyH_ready (rs := [1, 4]) (by kernel_rfl) (by simp) ?_
                    refine (AllReadyH.cons rfl (fun K1 hK1 => ?_) (AllReadyH.cons rfl (fun K4 hK4 => ?_) AllReadyH.nil))
                    · skip
                      go_simp
                      refine hK1.out _ _ ?sz8 (fun hHeldz8 => ?_)
                      case sz8 => exact True.intro
                      clear hK1 K1
                      try simp only [Act.put, List.setIfInBounds_toArray, List.set_cons_zero, List.set_cons_succ]
                      refine wpAnyH_ready (rs := [4]) (by kernel_rfl) (by simp) ?_
                      refine (AllReadyH.cons rfl (fun K4 hK4 => ?_) AllReadyH.nil)
                      go_simp
                      refine hK4.out _ _ ?sz9 (fun hHeldz9 => ?_)
                      case sz9 => exact True.intro
                      clear hK4 K4
                      try simp only [Act.put, List.setIfInBounds_toArray, List.set_cons_zero, List.set_cons_succ]
                      refine wpAnyH_ready (rs := [5]) (by kernel_rfl) (by simp) ?_
                      refine (AllReadyH.cons rfl (fun K5 hK5 => ?_) AllReadyH.nil)
                      (refine step_append_run rfl (.tmp 94) (.tmp 97) 41 rfl _ _ rfl rfl _ _ hr'.out ?_)
                      refine hK5.out _ _ ?sz10 (fun hHeldz10 => ?_)
                      case sz10 => exact True.intro
                      clear hK5 K5
                      try simp only [Act.put, List.setIfInBounds_toArray, List.set_cons_zero, List.set_cons_succ]
                      refine wpAnyH_ready (rs := [6]) (by kernel_rfl) (by simp) ?_
                      refine (AllReadyH.cons rfl (fun K6 hK6 => ?_) AllReadyH.nil)
                      go_simp
                      refine hK6.out _ _ ?sz11 (fun hHeldz11 => ?_)
                      case sz11 => exact True.intro
                      clear hK6 K6
                      try simp only [Act.put, List.setIfInBounds_toArray, List.set_cons_zero, List.set_cons_succ]
                      refine wpAnyH_ready (rs := [7]) (by kernel_rfl) (by simp) ?_
                      refine (AllReadyH.cons rfl (fun K7 hK7 => ?_) AllReadyH.nil)
                      go_simp
                      refine hK7.out _ _ ?sz12 (fun hHeldz12 => ?_)
                      case sz12 => exact True.intro
                      clear hK7 K7
                      try simp only [Act.put, List.setIfInBounds_toArray, List.set_cons_zero, List.set_cons_succ]
                      refine wpAnyH_done (by kernel_rfl) ?_ _
                      go_wp2_with fail
                      go_roundw
                      case rel => exact ⟨E ++ [x], _, b', m + 1, d', by rw [List.length_append, HM.out]; rfl, B9, M9, hN8, T9, LPN, Lib.hid (by have := HBR.out; have := HMS.out; omega)⟩
                      case measure => rw [T9.out.leftD, HLG.out]; have := HMS.out; omega
                    · skip
                      go_simp
                      refine hK4.out _ _ ?sz13 (fun hHeldz13 => ?_)
                      case sz13 => exact True.intro
                      clear hK4 K4
                      try simp only [Act.put, List.setIfInBounds_toArray, List.set_cons_zero, List.set_cons_succ]
                      refine wpAnyH_ready (rs := [1]) (by kernel_rfl) (by simp) ?_
                      refine (AllReadyH.cons rfl (fun K1 hK1 => ?_) AllReadyH.nil)
                      go_simp
                      refine hK1.out _ _ ?sz14 (fun hHeldz14 => ?_)
                      case sz14 => exact True.intro
                      clear hK1 K1
                      try simp only [Act.put, List.setIfInBounds_toArray, List.set_cons_zero, List.set_cons_succ]
                      refine wpAnyH_ready (rs := [5]) (by kernel_rfl) (by simp) ?_
                      refine (AllReadyH.cons rfl (fun K5 hK5 => ?_) AllReadyH.nil)
                      (refine step_append_run rfl (.tmp 94) (.tmp 97) 41 rfl _ _ rfl rfl _ _ hr'.out ?_)
                      refine hK5.out _ _ ?sz15 (fun hHeldz15 => ?_)
                      case sz15 => exact True.intro
                      clear hK5 K5
                      try simp only [Act.put, List.setIfInBounds_toArray, List.set_cons_zero, List.set_cons_succ]
                      refine wpAnyH_ready (rs := [6]) (by kernel_rfl) (by simp) ?_
                      refine (AllReadyH.cons rfl (fun K6 hK6 => ?_) AllReadyH.nil)
                      go_simp
                      refine hK6.out _ _ ?sz16 (fun hHeldz16 => ?_)
                      case sz16 => exact True.intro
                      clear hK6 K6
                      try simp only [Act.put, List.setIfInBounds_toArray, List.set_cons_zero, List.set_cons_succ]
                      refine wpAnyH_ready (rs := [7]) (by kernel_rfl) (by simp) ?_
                      refine (AllReadyH.cons rfl (fun K7 hK7 => ?_) AllReadyH.nil)
                      go_simp
                      refine hK7.out _ _ ?sz17 (fun hHeldz17 => ?_)
                      case sz17 => exact True.intro
                      clear hK7 K7
                      try simp only [Act.put, List.setIfInBounds_toArray, List.set_cons_zero, List.set_cons_succ]
                      refine wpAnyH_done (by kernel_rfl) ?_ _
                      go_wp2_with fail
                      go_roundw
                      case rel => exact ⟨E ++ [x], _, b', m + 1, d', by rw [List.length_append, HM.out]; rfl, B9, M9, hN8, T9, LPN, Lib.hid (by have := HBR.out; have := HMS.out; omega)⟩
                      case measure => rw [T9.out.leftD, HLG.out]; have := HMS.out; omega
          case rest =>
            obtain ⟨E, b, m, d, st11, BC, MR, TC, HE⟩ := hcut
            generalize wc = wx at *
            clear BB TB G9
            have KX := Lib.hid (K9.out.keep BC.out.only TC.out)
            have MCX := Lib.hid (MC9.out.keep BC.out.only K9.out.2.2.ofT (by decide))
            have MSX := Lib.hid (MS9.out.keep BC.out.only K9.out.2.2.ofT (by decide) (by decide) (by decide))
            have LPN := Lib.hid (sta_more HLP.out HD.out HE.out.2)
            rw [HE.out.1] at LPN
            have HMS := Lib.hid (show meas st11 + 1 ≤ meas st7 from HE.out.1 ▸ meas_lift pState_suf pState_eats (dW_yes HD.out).1)
            have b0 := BC.out.cell 0 (v := .string (bs ns)) rfl
            have b1 := BC.out.cell 1 (v := .slice b m d) rfl
            obtain ⟨a', c', wd, hr, hMd, hNd, od⟩ := sta_pushed MSX.out HN.out HF.out KX.out.2.1.only.size (by have := HBd.out; omega) ⟨ns, E⟩ (.slice b m d) MR.out
            have hrw := ofT_row MSX.out.choose_spec.2.1
            have c3 := KX.out.2.1.cell 4 (v := .slice a n c) rfl
            have nr : ¬ RowOf a L := not_rowOf hrw KX.out.2.1.heap (by decide)
            have nrO : ¬ RowOf a O := not_rowOf hrw KX.out.1.heap (by decide)
            have Ld := KX.out.2.1.keepRow HF.out nr od
            have Od := KX.out.1.keepRow HF.out nrO od
            have Td := KX.out.2.2.keepRow (by rw [HOO.out]; exact hlow.out) HF.out od
            have MCd := MCX.out.keep od hrw (by decide)
            have fd := Ld.free 4
            have cd := Ld.cell 4 (v := .slice a n c) rfl
            have KE := Lib.hid (KdBx.put (show KdBx w R X O L nm la lb (.slice ac nc cc) (.slice a n c) st11 wd from ⟨Od, Ld, Td⟩) HOL.out 4 (.slice a' (n + 1) c') (nm' := nm) (la' := la) (lb' := lb) (s1' := .slice ac nc cc) (s2' := .slice a' (n + 1) c') rfl)
            have ME := Lib.hid (hMd.out.keep (at_only wd L 4 (.slice a' (n + 1) c')) (ofT_at Ld.heap) (by decide) (by decide) (by decide))
            have MCE := Lib.hid (MCd.keep (at_only wd L 4 (.slice a' (n + 1) c')) (ofT_at Ld.heap) (by decide))
            have hr' := Lib.hid hr
            clear hr hrw nr nrO Ld Od Td hMd od MCd MSX MCX K9 MC9 MS9 HE HLP HD
            go_wp2_with (at_builtin; refine Lib.wpList_append_run _ rfl (.tmp 101) (.tmp 103) 38 38 rfl _ _ rfl rfl _ _ hr'.out ?_)
            go_roundw
            case rel => exact ⟨S ++ [⟨ns, E⟩], _, a', n + 1, c', by rw [List.length_append, HN.out]; rfl, KE, MCE, ME, hNd, LPN, Lib.hid (by have := HBd.out; have := HMS.out; omega)⟩
            case measure => rw [KE.out.2.2.leftD, HLF.out]; have := HMS.out; omega
end Go.Proofs.YtnkokonkbklelaaGreatDoor.Ps
