/- parse, the document's reader: Program. -/
import Derived.Test.YtnkokonkbklelaaGreatDoorPpH
import Derived.Test.YtnkokonkbklelaaGreatDoorPsMb
import Derived.Test.YtnkokonkbklelaaGreatDoorLxRfC
set_option linter.unusedSimpArgs false
set_option linter.unusedVariables false
namespace Go.Proofs.YtnkokonkbklelaaGreatDoor.Ps
open Go.RowKit Go.Proofs.YtnkokonkbklelaaGreatDoor Lx

theorem results_ag2 {P : Program} {fn : Func} {p q r : Tmp} {ty te : TypeId} (h : fn.results = #[.cell p ty, .tmp q, .tmp r]) (tmps : Array Value) (w : World) (b : Nat) (cs : List Value) (u v : Value)
    (hag : ∀ w, (isAgg ty).run P w = .ok true w) (hsz : ∀ w, (Go.sizeOf ty).run P w = .ok cs.length w) (hp : tmps.getD p undef = .pointer (some ⟨b, 0, none⟩)) (hq : tmps.getD q undef = u) (hr : tmps.getD r undef = v) (hc : w.heap[b]? = some (.cells cs.toArray te (0, 0))) :
    (results fn tmps).run P w = .ok (.tuple #[.agg cs.toArray, u, v]) w := by
  have hp' : tmps[p]?.getD undef = .pointer (some ⟨b, 0, none⟩) := by simpa using hp
  have hq' : tmps[q]?.getD undef = u := by simpa using hq
  have hr' : tmps[r]?.getD undef = v := by simpa using hr
  have hl := run_loadCells_list (P := P) w ⟨b, 0, none⟩ cs (fun j v hj => by
    have e : (⟨b, 0, none⟩ : Addr).add j = ⟨b, j, none⟩ := by unfold Addr.add; split <;> simp_all
    rw [e, cell_of_row w b j _ _ _ hc]; simpa using hj)
  simp only [results, h]
  simp [Sem.run_bind, Result.andThen, asAddr, loadVar, hag, hsz, hp', hq', hr', hl]

theorem dg_whole (l : List UInt8) : Dg (whole l).1 := by
  intro x hx hk
  have hg : Lx.Good x.1 := by
    unfold whole at hx
    split at hx
    · cases hx
    · exact good_LX l.length l.length l (Nat.le_refl _) x hx
  obtain ⟨_, hd⟩ := good_num hg hk
  have h1 := hd.all
  have h2 := hd.ne
  cases hw : x.1.w with
  | nil => exact absurd hw h2
  | cons c r =>
    rw [hw] at h1
    exact ⟨c, r, rfl, List.all_eq_true.1 h1 c List.mem_cons_self⟩
theorem tx_new {w : World} {a : Option Addr} {n c : Nat} {X : Tks} (h : w.ownsRow 0 67 4 (.slice a n c) n (pls X)) (hn : X.length = n) (hX : X.length ≤ 20000) (hd : Dg X) :
    Tx (w.alloc (.cells #[.slice a n c, .int .i64 0, .bool false] 63)) w.heap.size X (false, X) := by
  have o : Only Nil w (w.alloc (.cells #[.slice a n c, .int .i64 0, .bool false] 63)) := (Only.refl Nil w).alloc _
  have hr : RIn w a X := own_rin h
  refine ⟨a, n, c, ?_, hn, by omega, List.suffix_refl X, fun i hi => ?_, hd⟩
  · rw [Nat.sub_self]; exact heap_new w _
  obtain ⟨b, ha, hlt, hcs⟩ := hr i hi
  refine ⟨b, 0, ha, Nat.lt_of_lt_of_le hlt o.size, hlt, fun j hj => ?_⟩
  obtain ⟨c1, c2, c3, c4⟩ := hcs j hj
  rw [Nat.zero_add, Nat.zero_add, Nat.zero_add, Nat.zero_add]
  exact ⟨only_cell0 o c1, only_cell0 o c2, only_cell0 o c3, only_cell0 o c4⟩
theorem kd_lift {st : DSt} {x : Kd} (hv : Val kdB (lift (pass w_kind) st) x) : lift pKind st = lift kdB (lift (pass w_kind) st) ∧ Val pKind st x := by
  have e : pKind = fun T => (pass w_kind T).bind fun _ r => kdB r := funext pKind_eq
  constructor
  · rw [e, lift_bind (pass_val w_kind _)]
  · rw [e]
    exact Val.bind (pass_val w_kind _) hv
/-- More stands there. -/
def Stand (st : DSt) : Prop := st.1 = false ∧ st.2 ≠ []
theorem kd_more {st0 st : DSt} {A : List Kd} {x : Kd} (l : Lp pProg st0 st A) (h : Stand st) (hv : Val kdB (lift (pass w_kind) st) x) : Lp pProg st0 (lift kdB (lift (pass w_kind) st)) (A ++ [x]) := by
  obtain ⟨e, v⟩ := kd_lift hv
  rw [← e]
  refine l.step (fun _ => ?_) v
  rw [pProg_eq, if_neg]
  simpa using h.2
theorem kd_meas {st : DSt} {x : Kd} (h : Stand st) (hv : Val kdB (lift (pass w_kind) st) x) : meas (lift kdB (lift (pass w_kind) st)) + 1 ≤ meas st := by
  obtain ⟨e, v⟩ := kd_lift hv
  rw [← e]
  exact meas_lift pKind_suf pKind_eats h.1
theorem prog_bad {X : Tks} {st : DSt} {A : List Kd} (l : Lp pProg (false, X) st A) (hb : st.1 = true) : pProg X = .bad st.2 := by
  obtain ⟨e, _⟩ := l.endBad hb
  rw [lift_go] at e
  cases hp : pProg X with
  | bad r => rw [hp] at e; rw [← e]; rfl
  | ok a r => rw [hp] at e; rw [← e] at hb; cases hb
theorem prog_fin {X : Tks} {st : DSt} {A : List Kd} (l : Lp pProg (false, X) st A) (hb : st.1 = false) (hT : st.2 = []) : ∃ r, pProg X = .ok A r := by
  obtain ⟨e, v⟩ := l.endOk (r := []) hb (by rw [hT, pProg_eq]; rfl)
  rw [lift_go] at e
  cases hp : pProg X with
  | bad r => rw [hp] at e; cases e
  | ok a r =>
    have := v rfl a r hp
    subst this
    exact ⟨r, rfl⟩
/-- What Program comes to. -/
def DProgP (w : World) (l : Wd) (e : Ending) (w' : World) : Prop :=
  ((∃ (P : List Kd) (b : Option Addr) (m d : Nat), prog l = .ok P ∧ e = .returned (.tuple #[.agg #[.slice b m d], .int .i64 0, .int .i64 (-1)]) ∧ MKds w' (.slice b m d) P) ∨
   (∃ z q : Nat, prog l = .bad z q ∧ e = .returned (.tuple #[.agg #[.slice none 0 0], .int .i64 (z : Nat), .int .i64 (q : Nat)]))) ∧ Only Nil w w'
theorem nd_kind : NoDg w_kind := noDg_of (by decide)
theorem rall_any (l : List UInt8) (w : World) (hl : l.length ≤ 140737488355328) : Calls Tryz.prog 14 #[.string (bs l)] w (Lx.RPost w l) := by
  by_cases h : 16384 < l.length
  · exact Lx.rall_long l w h hl
  · exact Lx.rall_short l w (by omega)
/-- The boxes of Program. -/
structure PrBx (w W2 : World) (R O : Nat) (wx : World) : Prop where
  base : Only Nil w W2
  newO : w.heap.size ≤ O
  newR : w.heap.size ≤ R
  ltO : O < W2.heap.size
  ne : O ≠ R
  own : W2.heap[O]? = some (.cells #[.slice none 0 0] 25 (0, 0))
  only : Only (At R) W2 wx
theorem PrBx.keep {w W2 wx wy : World} {R O : Nat} (h : PrBx w W2 R O wx) (o : Only (At R) W2 wy) : PrBx w W2 R O wy := ⟨h.base, h.newO, h.newR, h.ltO, h.ne, h.own, o⟩
theorem PrBx.box {w W2 wx : World} {R O : Nat} (h : PrBx w W2 R O wx) : wx.heap[O]? = some (.cells #[.slice none 0 0] 25 (0, 0)) := (h.only.block O h.ltO h.ne).trans h.own
theorem PrBx.fin {w W2 wx : World} {R O : Nat} (h : PrBx w W2 R O wx) (v : Value) : Only Nil w (wx.setCell ⟨O, 0, none⟩ v) ∧ (wx.setCell ⟨O, 0, none⟩ v).heap[O]? = some (.cells #[v] 25 (0, 0)) := by
  refine ⟨?_, cells_set h.box v⟩
  have o1 : Only Nil w wx := h.base.then h.only (fun q hq hlt => by have := h.newR; unfold At at hq; omega)
  exact o1.then (at_only wx O 0 v) (fun q hq hlt => by have := h.newO; unfold At at hq; omega)

set_option maxRecDepth 100000 in
set_option maxHeartbeats 40000000 in
theorem rprogram_any (l : List UInt8) (w : World) (hl : l.length ≤ 140737488355328) :
    Calls Tryz.prog 6 #[.string (bs l)] w (DProgP w l) := by
  have hz : (bs l).size = l.length := bs_size l
  obtain ⟨wB, hwB⟩ : ∃ wB, wB = w.alloc (.cells #[.slice none 0 0] 25) := ⟨_, rfl⟩
  have hB : wB.heap[w.heap.size]? = some (.cells #[.slice none 0 0] 25 (0, 0)) := by rw [hwB]; exact heap_new w _
  have oB : Only Nil w wB := by rw [hwB]; exact (Only.refl Nil w).alloc _
  have HB := Lib.hid hB
  have OB := Lib.hid oB
  have RA := Lib.hid (rall_any l wB hl)
  clear hB oB
  go_enter Tryz.func6, Tryz.ntmps6
  go_upto_region 1 with (fail)
  rw [← hwB]; clear hwB
  generalize hOO : w.heap.size = O at *
  have HOO := Lib.hid hOO
  clear hOO
  go_wp2_with fail
  refine RA.out.mono ?_
  rintro e w1 hp
  cases hp with
  | bad h0 he o1 =>
    subst he
    have HP := Lib.hid (prog_no h0)
    have HZ := Lib.hid h0
    have hO := (o1.block O (lt_of_block HB.out) (fun q => q.elim)).trans HB.out
    have c0 : w1.cell? ⟨O, 0, none⟩ = some (.slice none 0 0) := by simp [World.cell?, hO]
    have f0 : w1.frozen? ⟨O, 0, none⟩ = false := frozen_blk hO 0
    have h0' : ¬ ((whole l).2.1 : Int) = 0 := by have := HZ.out; omega
    have HO1 := Lib.hid hO
    have O1 := Lib.hid (OB.out.trans o1)
    clear h0 hO o1 RA HB OB
    generalize (whole l).2.1 = z at *
    generalize (whole l).2.2 = q at *
    go_wp2_with fail
    refine bodyPost_ret (results_ag2 rfl _ _ O [.slice none 0 0] (.int .i64 (z : Nat)) (.int .i64 (q : Nat)) Tryz.isAgg25 Tryz.sizeOf25 rfl rfl rfl (cells_set HO1.out (.slice none 0 0))) rfl ?_
    exact ⟨.inr ⟨z, q, HP.out, rfl⟩, O1.out.then (at_only w1 O 0 _) (fun r hr hlt => by have := HOO.out; unfold At at hr; omega)⟩
  | ok a n c h0 hn he R1 =>
    subst he
    have HP := Lib.hid (prog_of h0)
    have HX := Lib.hid (whole_len l)
    have HD := Lib.hid (dg_whole l)
    clear h0
    generalize (whole l).1 = X at *
    have HT := Lib.hid (tx_new (w := w1) (a := a) (n := n) (c := c) (X := X) (hn ▸ R1.row) hn (by have := HX.out; omega) HD.out)
    have hO1 := (R1.only.block O (lt_of_block HB.out) (fun q => q.elim)).trans HB.out
    have hltO := lt_of_block hO1
    have o2 : Only Nil w1 (w1.alloc (.cells #[.slice a n c, .int .i64 0, .bool false] 63)) := (Only.refl Nil w1).alloc _
    have K2 := Lib.hid (show PrBx w (w1.alloc (.cells #[.slice a n c, .int .i64 0, .bool false] 63)) w1.heap.size O (w1.alloc (.cells #[.slice a n c, .int .i64 0, .bool false] 63)) from
      ⟨(OB.out.trans R1.only).trans o2, by rw [HOO.out]; exact Nat.le_refl _, (OB.out.trans R1.only).size, Nat.lt_of_lt_of_le hltO o2.size, by omega, (o2.block O hltO (fun q => q.elim)).trans hO1, Only.refl _ _⟩)
    clear o2 hltO hO1 hn R1 RA HB OB
    go_upto_region 5 with (fail)
    generalize hW2 : w1.alloc (.cells #[.slice a n c, .int .i64 0, .bool false] 63) = W2 at *
    clear hW2
    generalize w1.heap.size = R at *
    obtain ⟨W3, hW3, H3, o3⟩ := box2 (Only.refl (At R) W2) HT.out.lt [.slice none 0 0] 25
    have hW3' : W3 = W2.alloc (.cells #[.slice none 0 0] 25) := hW3
    have B3 := Lib.hid H3
    have T3 := Lib.hid (HT.out.keep o3)
    have HRB := Lib.hid HT.out.lt
    have S0 := Lib.hid (Lp.start pProg (false, X))
    clear hW3 H3 o3 HT
    generalize hQQ : W2.heap.size = Q at *
    have HQQ := Lib.hid hQQ
    clear hQQ
    go_wp2_with fail
    rw [HQQ.out, ← hW3']; clear hW3'
    go_loopw [] (fun wr => ∃ (E : List Kd) (st : DSt) (b : Option Addr) (m d : Nat), E.length = m ∧ Hid (Own W2 R Q [.slice b m d] 25 wr) ∧ Hid (MKds wr (.slice b m d) E) ∧ Hid (New W2 (.slice b m d)) ∧ Hid (Tx wr R X st) ∧ Hid (Lp pProg (false, X) st E) ∧ Hid (m + meas st ≤ 20001))
      (fun wr => leftD R wr)
    case atStart => exact ⟨[], (false, X), none, 0, 0, rfl, B3, Lib.hid ⟨[], rfl, ⟨rfl, .inl ⟨rfl, rfl⟩⟩, fun x hx => by cases hx⟩, Lib.hid (new_none W2), T3, S0, Lib.hid (by have := HX.out; unfold meas; simp; omega)⟩
    case round =>
      obtain ⟨E, st, b, m, d, hm, B4, M4, HF, T4, HLP, HBd⟩ := hrel
      have HM := Lib.hid hm
      have HLG := Lib.hid T4.out.leftD
      clear hm B3 T3 S0
      have c2 := T4.out.c2
      obtain ⟨b0, T⟩ := st
      cases b0 with
      | true =>
        have HE := Lib.hid (HP.out.trans (by rw [prog_bad HLP.out rfl]))
        simp only at HE c2
        clear HLP HBd HF M4 HLG HM
        go_upto_region 6 with (fail)
        go_quiet (fail)
        have T5 := Lib.hid (T4.out.keep ((Only.refl Nil wr).drewN nq))
        have B5 := Lib.hid (K2.out.keep (B4.out.only.trans (((Only.refl Nil wr).drewN nq).nilTo _)))
        clear T4 B4 c2
        generalize wr.drewN nq = w5 at *
        have c2 := T5.out.c2
        simp only at c2
        cases T with
        | nil =>
          obtain ⟨a5, n5, d5, c0, c1, hn5⟩ := (show Tx w5 R X (true, []) from T5.out).none
          have hn5' : (n5 : Int) ≤ 20000 := by omega
          clear hn5
          go_upto_region 11 with (fail)
          go_quiet (fail)
          have B6 := Lib.hid (B5.out.keep (B5.out.only.trans (((Only.refl Nil w5).drewN nq).nilTo _)))
          clear B5 T5 c0 c1 c2
          generalize w5.drewN nq = w6 at *
          have y0 : w6.cell? ⟨O, 0, none⟩ = some (.slice none 0 0) := by simp [World.cell?, B6.out.box]
          have d0 : w6.frozen? ⟨O, 0, none⟩ = false := frozen_blk B6.out.box 0
          go_wp2_with fail
          refine bodyPost_ret (results_ag2 rfl _ _ O [.slice none 0 0] (.int .i64 31) (.int .i64 (l.length : Nat)) Tryz.isAgg25 Tryz.sizeOf25 rfl rfl rfl (B6.out.fin (.slice none 0 0)).2) rfl ?_
          exact ⟨.inr ⟨31, l.length, HE.out, rfl⟩, (B6.out.fin (.slice none 0 0)).1⟩
        | cons x r =>
          obtain ⟨g, off, n5, d5, q1, c0, c1, hqn, hn5, hg, _, hq, hq1, _, _, _, x3⟩ := (show Tx w5 R X (true, x :: r) from T5.out).head
          have hqn' : (q1 : Int) < (n5 : Int) := by omega
          have hge : ¬ (n5 : Int) ≤ (q1 : Int) := by omega
          have hge3 : ¬ n5 ≤ q1 := by omega
          have hn5' : (n5 : Int) ≤ 20000 := by omega
          have hgO : g ≠ O := by
            rintro rfl
            have h1 := x3
            have h2 := cell_of_row w5 g (off + (q1 * 4 + 3)) _ _ _ B5.out.box
            rw [h2] at h1
            have : (off + (q1 * 4 + 3)) ≠ 0 := by omega
            cases hk : (off + (q1 * 4 + 3)) with
            | zero => omega
            | succ k => rw [hk] at h1; simp at h1
          have hRO : R ≠ O := Ne.symm B5.out.ne
          clear hq hq1 hqn hn5 hg
          go_upto_region 11 with (fail)
          go_quiet (fail)
          have B6 := Lib.hid (B5.out.keep (B5.out.only.trans (((Only.refl Nil w5).drewN nq).nilTo _)))
          have e0 := only_cell0 ((Only.refl Nil w5).drewN nq) c0
          have e1 := only_cell0 ((Only.refl Nil w5).drewN nq) c1
          have e3 := only_cell0 ((Only.refl Nil w5).drewN nq) x3
          have e4 : (w5.drewN nq).cell? ⟨g, off + q1 * 4 + 3, none⟩ = _ := x3
          clear B5 T5 c0 c1 c2 x3
          generalize w5.drewN nq = w6 at *
          have y0 : w6.cell? ⟨O, 0, none⟩ = some (.slice none 0 0) := by simp [World.cell?, B6.out.box]
          have d0 : w6.frozen? ⟨O, 0, none⟩ = false := frozen_blk B6.out.box 0
          go_upto_region 13 with (fail)
          go_region
          all_goals (try go_wp2)
          all_goals
            refine bodyPost_ret (results_ag2 rfl _ _ O [.slice none 0 0] (.int .i64 30) (.int .i64 (x.2 : Nat)) Tryz.isAgg25 Tryz.sizeOf25 rfl rfl rfl (B6.out.fin (.slice none 0 0)).2) rfl ?_
            exact ⟨.inr ⟨30, x.2, HE.out, rfl⟩, (B6.out.fin (.slice none 0 0)).1.drew⟩
      | false =>
        cases T with
        | nil =>
          obtain ⟨r, hr⟩ := prog_fin HLP.out rfl rfl
          have HE := Lib.hid (HP.out.trans (by rw [hr]))
          simp only at HE c2
          obtain ⟨a5, n5, d5, c0, c1, hn5⟩ := (show Tx wr R X (false, []) from T4.out).none
          have hn5' : (n5 : Int) ≤ 20000 := by omega
          clear HLP HBd HF HLG HM hr hn5
          go_upto_region 6 with (fail)
          go_quiet (fail)
          have T5 := Lib.hid (T4.out.keep ((Only.refl Nil wr).drewN nq))
          have B5 := Lib.hid (K2.out.keep (B4.out.only.trans (((Only.refl Nil wr).drewN nq).nilTo _)))
          have Q5 := Lib.hid (B4.out.keep (((Only.refl Nil wr).drewN nq).nilTo _))
          have M5 := Lib.hid (M4.out.keep ((Only.refl Nil wr).drewN nq) (ofT_nil 63 _) (by decide) (by decide) (by decide) (by decide) (by decide))
          clear T4 B4 c2 c0 c1 M4
          generalize wr.drewN nq = w5 at *
          have c2 := T5.out.c2
          have q0 := Q5.out.cell 0 (v := .slice b m d) rfl
          have y0 : w5.cell? ⟨O, 0, none⟩ = some (.slice none 0 0) := by simp [World.cell?, B5.out.box]
          have d0 : w5.frozen? ⟨O, 0, none⟩ = false := frozen_blk B5.out.box 0
          simp only at c2
          go_wp2_with fail
          refine bodyPost_ret (results_ag2 rfl _ _ O [.slice b m d] (.int .i64 0) (.int .i64 (-1)) Tryz.isAgg25 Tryz.sizeOf25 rfl rfl rfl (B5.out.fin (.slice b m d)).2) rfl ?_
          exact ⟨.inl ⟨E, b, m, d, HE.out, rfl, M5.out.keep (at_only w5 O 0 _) (ofT_at B5.out.box) (by decide) (by decide) (by decide) (by decide) (by decide)⟩, (B5.out.fin (.slice b m d)).1⟩
        | cons x r =>
          have HST := Lib.hid (show Stand (false, x :: r) from ⟨rfl, by simp⟩)
          obtain ⟨g, off, n, c', q1, c0, c1, hqn, hn, hg, _, hq, hq1, x0, _, _, _⟩ := (show Tx wr R X (false, x :: r) from T4.out).head
          have hqn' : (q1 : Int) < (n : Int) := by omega
          have hge : ¬ (n : Int) ≤ (q1 : Int) := by omega
          have hge3 : ¬ n ≤ q1 := by omega
          have hn' : (n : Int) ≤ 20000 := by omega
          simp only at c2
          clear hq hq1 hqn hn x0 hg
          go_upto_region 6 with (fail)
          go_quiet (fail)
          have T5 := Lib.hid (T4.out.keep ((Only.refl Nil wr).drewN nq))
          have B5 := Lib.hid (B4.out.keep (((Only.refl Nil wr).drewN nq).nilTo _))
          have M5 := Lib.hid (M4.out.keep ((Only.refl Nil wr).drewN nq) (ofT_nil 63 _) (by decide) (by decide) (by decide) (by decide) (by decide))
          clear T4 B4 c2 c0 c1 M4 hge hge3 hqn' hn'
          generalize wr.drewN nq = w5 at *
          have MO := Lib.hid (Ps.must_any T5.out w_kind nd_kind (by decide))
          go_upto_region 8 with (go_at_call 15; refine MO.out.mono ?_; rintro e wc ⟨rfl, hc, oc⟩; have BD := Lib.hid (B5.out.keep oc); have MD := Lib.hid (M5.out.keep oc T5.out.ofT (by decide) (by decide) (by decide) (by decide) (by decide)); have TD := Lib.hid hc; clear hc oc)
          clear MO B5 M5 T5
          have od : Only Nil wc wc.drew := (Only.refl Nil wc).drew
          have l3 := BD.out.cell 0 (v := .slice b m d) rfl
          have ld := only_cell0 od l3
          have T6 := Lib.hid (TD.out.keep od)
          have B6 := Lib.hid (BD.out.keep (od.nilTo _))
          have M6 := Lib.hid (MD.out.keep od (ofT_nil 63 _) (by decide) (by decide) (by decide) (by decide) (by decide))
          have KD := Lib.hid (show Calls Tryz.prog 16 #[.pointer (some ⟨R, 0, none⟩)] wc.drew (fun e w7 => ∃ (x1 : Kd) (sl1 sl2 : Value), e = .returned (.agg #[.string (bs x1.name), .int .i64 x1.limit, .int .i64 x1.within, sl1, sl2]) ∧ Val kdB (lift (pass w_kind) (false, x :: r)) x1 ∧ MCs w7 sl1 x1.cases ∧ MStas w7 sl2 x1.states ∧ Tx w7 R X (lift kdB (lift (pass w_kind) (false, x :: r))) ∧ Only (At R) wc.drew w7) from dkind_any T6.out)
          clear od BD MD TD l3
          refine wp_region_held_drew (S := fun _ => True) (by kernel_rfl) True.intro (fun hHeld => ?_)
          refine wpAnyH_take (i := 0) (v := ?vt0) rfl (by kernel_rfl) (by kernel_rfl) (by kernel_rfl) (fun _ _ _ h => h) (Or.inl ⟨by kernel_rfl, ?ht0⟩) (by assumption) ?rt0
          case ht0 => (intro w hSw; (try dsimp only at hSw); first | (go_simp; done) | (go_simp; with_reducible rfl))
          try simp only [Act.put, List.setIfInBounds_toArray, List.set_cons_zero, List.set_cons_succ]
          refine wpAnyH_take (i := 2) (v := ?vt2) rfl (by kernel_rfl) (by kernel_rfl) (by kernel_rfl) (fun _ _ _ h => h) (Or.inl ⟨by kernel_rfl, ?ht2⟩) (by assumption) ?rt2
          case ht2 => (intro w hSw; (try dsimp only at hSw); first | (go_simp; done) | (go_simp; with_reducible rfl))
          try simp only [Act.put, List.setIfInBounds_toArray, List.set_cons_zero, List.set_cons_succ]
          refine wpAnyH_ready (rs := [1, 3]) (by kernel_rfl) (by simp) ?_
          refine (AllReadyH.cons rfl (fun K1 hK1 => ?_) (AllReadyH.cons rfl (fun K3 hK3 => ?_) AllReadyH.nil))
          · skip
            go_simp
            refine hK1.out _ _ ?sz1 (fun hHeldz1 => ?_)
            case sz1 => exact True.intro
            clear hK1 K1
            try simp only [Act.put, List.setIfInBounds_toArray, List.set_cons_zero, List.set_cons_succ]
            refine wpAnyH_ready (rs := [3]) (by kernel_rfl) (by simp) ?_
            refine (AllReadyH.cons rfl (fun K3 hK3 => ?_) AllReadyH.nil)
            (go_simp; go_at_call 16; refine KD.out.mono ?_; rintro e w7 ⟨x, sl1, sl2, rfl, hv, hC, hS, T7, o7⟩; have M7 := M6.out.keep o7 T6.out.ofT (by decide) (by decide) (by decide) (by decide) (by decide); obtain ⟨b', d', w8, hr, hM8, hN8, o8⟩ := kd_pushed M7 HM.out HF.out (B6.out.only.trans o7).size (by have := HBd.out; omega) x sl1 sl2 hC hS; have hrw := ofT_row M7.choose_spec.2.1; have B7 := B6.out.keep o7; have c3 := B7.cell 0 (v := .slice b m d) rfl; have c4 := only_cell0 ((Only.refl Nil w7).alloc (.cells #[.string (bs x.name), .int .i64 x.limit, .int .i64 x.within, sl1, sl2] 40)) c3; have nr : ¬ RowOf b Q := not_rowOf hrw B7.heap (by decide); have B8 := B7.keepRow HF.out nr o8; have T8 := T7.keepRow (by rw [HQQ.out]; exact HRB.out) HF.out o8; have f8 := B8.free 0; have c8 := B8.cell 0 (v := .slice b m d) rfl; have B9 := Lib.hid (B8.put 0 (.slice b' (m + 1) d')); have T9 := Lib.hid (B8.tx 0 (.slice b' (m + 1) d') T8); have M9 := Lib.hid (hM8.out.keep (at_only w8 Q 0 (.slice b' (m + 1) d')) (ofT_at B8.heap) (by decide) (by decide) (by decide) (by decide) (by decide)); have LPN := Lib.hid (kd_more HLP.out HST.out hv); have HMS := Lib.hid (kd_meas HST.out hv); have hr' := Lib.hid hr; clear hr hC hS B7 B8 T7 o7 o8 hM8 T8 M7 hrw hv; go_wp2_with fail)
            refine hK3.out _ _ ?sz2 (fun hHeldz2 => ?_)
            case sz2 => exact True.intro
            clear hK3 K3
            try simp only [Act.put, List.setIfInBounds_toArray, List.set_cons_zero, List.set_cons_succ]
            refine wpAnyH_ready (rs := [4]) (by kernel_rfl) (by simp) ?_
            refine (AllReadyH.cons rfl (fun K4 hK4 => ?_) AllReadyH.nil)
            go_simp
            refine hK4.out _ _ ?sz3 (fun hHeldz3 => ?_)
            case sz3 => exact True.intro
            clear hK4 K4
            try simp only [Act.put, List.setIfInBounds_toArray, List.set_cons_zero, List.set_cons_succ]
            refine wpAnyH_ready (rs := [5]) (by kernel_rfl) (by simp) ?_
            refine (AllReadyH.cons rfl (fun K5 hK5 => ?_) AllReadyH.nil)
            (refine step_append_run rfl (.tmp 44) (.tmp 47) 23 rfl _ _ rfl rfl _ _ hr'.out ?_)
            refine hK5.out _ _ ?sz4 (fun hHeldz4 => ?_)
            case sz4 => exact True.intro
            clear hK5 K5
            try simp only [Act.put, List.setIfInBounds_toArray, List.set_cons_zero, List.set_cons_succ]
            refine wpAnyH_ready (rs := [6]) (by kernel_rfl) (by simp) ?_
            refine (AllReadyH.cons rfl (fun K6 hK6 => ?_) AllReadyH.nil)
            go_simp
            refine hK6.out _ _ ?sz5 (fun hHeldz5 => ?_)
            case sz5 => exact True.intro
            clear hK6 K6
            try simp only [Act.put, List.setIfInBounds_toArray, List.set_cons_zero, List.set_cons_succ]
            refine wpAnyH_ready (rs := [7]) (by kernel_rfl) (by simp) ?_
            refine (AllReadyH.cons rfl (fun K7 hK7 => ?_) AllReadyH.nil)
            go_simp
            refine hK7.out _ _ ?sz6 (fun hHeldz6 => ?_)
            case sz6 => exact True.intro
            clear hK7 K7
            try simp only [Act.put, List.setIfInBounds_toArray, List.set_cons_zero, List.set_cons_succ]
            refine wpAnyH_done (by kernel_rfl) ?_ _
            go_wp2_with fail
            go_roundw
            case rel => exact ⟨E ++ [x], _, b', m + 1, d', by rw [List.length_append, HM.out]; rfl, B9, M9, hN8, T9, LPN, Lib.hid (by have := HBd.out; have := HMS.out; omega)⟩
            case measure => rw [T9.out.leftD, HLG.out]; have := HMS.out; omega
          · skip
            (go_simp; go_at_call 16; refine KD.out.mono ?_; rintro e w7 ⟨x, sl1, sl2, rfl, hv, hC, hS, T7, o7⟩; have M7 := M6.out.keep o7 T6.out.ofT (by decide) (by decide) (by decide) (by decide) (by decide); obtain ⟨b', d', w8, hr, hM8, hN8, o8⟩ := kd_pushed M7 HM.out HF.out (B6.out.only.trans o7).size (by have := HBd.out; omega) x sl1 sl2 hC hS; have hrw := ofT_row M7.choose_spec.2.1; have B7 := B6.out.keep o7; have c3 := B7.cell 0 (v := .slice b m d) rfl; have c4 := only_cell0 ((Only.refl Nil w7).alloc (.cells #[.string (bs x.name), .int .i64 x.limit, .int .i64 x.within, sl1, sl2] 40)) c3; have nr : ¬ RowOf b Q := not_rowOf hrw B7.heap (by decide); have B8 := B7.keepRow HF.out nr o8; have T8 := T7.keepRow (by rw [HQQ.out]; exact HRB.out) HF.out o8; have f8 := B8.free 0; have c8 := B8.cell 0 (v := .slice b m d) rfl; have B9 := Lib.hid (B8.put 0 (.slice b' (m + 1) d')); have T9 := Lib.hid (B8.tx 0 (.slice b' (m + 1) d') T8); have M9 := Lib.hid (hM8.out.keep (at_only w8 Q 0 (.slice b' (m + 1) d')) (ofT_at B8.heap) (by decide) (by decide) (by decide) (by decide) (by decide)); have LPN := Lib.hid (kd_more HLP.out HST.out hv); have HMS := Lib.hid (kd_meas HST.out hv); have hr' := Lib.hid hr; clear hr hC hS B7 B8 T7 o7 o8 hM8 T8 M7 hrw hv; go_wp2_with fail)
            refine hK3.out _ _ ?sz7 (fun hHeldz7 => ?_)
            case sz7 => exact True.intro
            clear hK3 K3
            try simp only [Act.put, List.setIfInBounds_toArray, List.set_cons_zero, List.set_cons_succ]
            refine wpAnyH_ready (rs := [1, 4]) (by kernel_rfl) (by simp) ?_
            refine (AllReadyH.cons rfl (fun K1 hK1 => ?_) (AllReadyH.cons rfl (fun K4 hK4 => ?_) AllReadyH.nil))
            · skip
              go_simp
              refine hK1.out _ _ ?sz8 (fun hHeldz8 => ?_)
              case sz8 => exact True.intro
              clear hK1 K1
              try simp only [Act.put, List.setIfInBounds_toArray, List.set_cons_zero, List.set_cons_succ]
              refine wpAnyH_ready (rs := [4]) (by kernel_rfl) (by simp) ?_
              refine (AllReadyH.cons rfl (fun K4 hK4 => ?_) AllReadyH.nil)
              go_simp
              refine hK4.out _ _ ?sz9 (fun hHeldz9 => ?_)
              case sz9 => exact True.intro
              clear hK4 K4
              try simp only [Act.put, List.setIfInBounds_toArray, List.set_cons_zero, List.set_cons_succ]
              refine wpAnyH_ready (rs := [5]) (by kernel_rfl) (by simp) ?_
              refine (AllReadyH.cons rfl (fun K5 hK5 => ?_) AllReadyH.nil)
              (refine step_append_run rfl (.tmp 44) (.tmp 47) 23 rfl _ _ rfl rfl _ _ hr'.out ?_)
              refine hK5.out _ _ ?sz10 (fun hHeldz10 => ?_)
              case sz10 => exact True.intro
              clear hK5 K5
              try simp only [Act.put, List.setIfInBounds_toArray, List.set_cons_zero, List.set_cons_succ]
              refine wpAnyH_ready (rs := [6]) (by kernel_rfl) (by simp) ?_
              refine (AllReadyH.cons rfl (fun K6 hK6 => ?_) AllReadyH.nil)
              go_simp
              refine hK6.out _ _ ?sz11 (fun hHeldz11 => ?_)
              case sz11 => exact True.intro
              clear hK6 K6
              try simp only [Act.put, List.setIfInBounds_toArray, List.set_cons_zero, List.set_cons_succ]
              refine wpAnyH_ready (rs := [7]) (by kernel_rfl) (by simp) ?_
              refine (AllReadyH.cons rfl (fun K7 hK7 => ?_) AllReadyH.nil)
              go_simp
              refine hK7.out _ _ ?sz12 (fun hHeldz12 => ?_)
              case sz12 => exact True.intro
              clear hK7 K7
              try simp only [Act.put, List.setIfInBounds_toArray, List.set_cons_zero, List.set_cons_succ]
              refine wpAnyH_done (by kernel_rfl) ?_ _
              go_wp2_with fail
              go_roundw
              case rel => exact ⟨E ++ [x], _, b', m + 1, d', by rw [List.length_append, HM.out]; rfl, B9, M9, hN8, T9, LPN, Lib.hid (by have := HBd.out; have := HMS.out; omega)⟩
              case measure => rw [T9.out.leftD, HLG.out]; have := HMS.out; omega
            · skip
              go_simp
              refine hK4.out _ _ ?sz13 (fun hHeldz13 => ?_)
              case sz13 => exact True.intro
              clear hK4 K4
              try simp only [Act.put, List.setIfInBounds_toArray, List.set_cons_zero, List.set_cons_succ]
              refine wpAnyH_ready (rs := [1]) (by kernel_rfl) (by simp) ?_
              refine (AllReadyH.cons rfl (fun K1 hK1 => ?_) AllReadyH.nil)
              go_simp
              refine hK1.out _ _ ?sz14 (fun hHeldz14 => ?_)
              case sz14 => exact True.intro
              clear hK1 K1
              try simp only [Act.put, List.setIfInBounds_toArray, List.set_cons_zero, List.set_cons_succ]
              refine wpAnyH_ready (rs := [5]) (by kernel_rfl) (by simp) ?_
              refine (AllReadyH.cons rfl (fun K5 hK5 => ?_) AllReadyH.nil)
              (refine step_append_run rfl (.tmp 44) (.tmp 47) 23 rfl _ _ rfl rfl _ _ hr'.out ?_)
              refine hK5.out _ _ ?sz15 (fun hHeldz15 => ?_)
              case sz15 => exact True.intro
              clear hK5 K5
              try simp only [Act.put, List.setIfInBounds_toArray, List.set_cons_zero, List.set_cons_succ]
              refine wpAnyH_ready (rs := [6]) (by kernel_rfl) (by simp) ?_
              refine (AllReadyH.cons rfl (fun K6 hK6 => ?_) AllReadyH.nil)
              go_simp
              refine hK6.out _ _ ?sz16 (fun hHeldz16 => ?_)
              case sz16 => exact True.intro
              clear hK6 K6
              try simp only [Act.put, List.setIfInBounds_toArray, List.set_cons_zero, List.set_cons_succ]
              refine wpAnyH_ready (rs := [7]) (by kernel_rfl) (by simp) ?_
              refine (AllReadyH.cons rfl (fun K7 hK7 => ?_) AllReadyH.nil)
              go_simp
              refine hK7.out _ _ ?sz17 (fun hHeldz17 => ?_)
              case sz17 => exact True.intro
              clear hK7 K7
              try simp only [Act.put, List.setIfInBounds_toArray, List.set_cons_zero, List.set_cons_succ]
              refine wpAnyH_done (by kernel_rfl) ?_ _
              go_wp2_with fail
              go_roundw
              case rel => exact ⟨E ++ [x], _, b', m + 1, d', by rw [List.length_append, HM.out]; rfl, B9, M9, hN8, T9, LPN, Lib.hid (by have := HBd.out; have := HMS.out; omega)⟩
              case measure => rw [T9.out.leftD, HLG.out]; have := HMS.out; omega
end Go.Proofs.YtnkokonkbklelaaGreatDoor.Ps
