/- DequeLast answers true for every number, value and list of picks, and turns nothing that there was: the walk. -/
import Derived.Test.YthebfnmihjbajaaDqLastA
import Derived.Test.YthebfnmihjbajaaRowBo
namespace Go.Proofs.Ythebfnmihjbajaa.Dq
open Go.RowKit

/-- The two under way. -/
def Lst (c : Nat) (v : Int) (w1 w : World) (dq B pb sb rp rs : Nat) (tm : Int) : Prop :=
  ∃ L t p s, Lw w1 w dq (B + 1) B 0 c L t ∧ Op1 w1 w pb dq (B + 1) B p ∧ Op1 w1 w sb dq (B + 1) B s ∧ LI c v L p s ∧ rk p ≤ rp ∧ rk s ≤ rs ∧ t ≤ tm
section
variable {c : Nat} {v : Int} {w1 w : World} {dq B pb sb rp rs rp' rs' : Nat} {tm tm' : Int}
theorem Lst.mono (h : Lst c v w1 w dq B pb sb rp rs tm) (h1 : rp ≤ rp') (h2 : rs ≤ rs') (h3 : tm ≤ tm') : Lst c v w1 w dq B pb sb rp' rs' tm' := by
  obtain ⟨L, t, p, s, l, q1, q2, i, r1, r2, ht⟩ := h
  exact ⟨L, t, p, s, l, q1, q2, i, Nat.le_trans r1 h1, Nat.le_trans r2 h2, by omega⟩
theorem stepT_le (s : OS) (t : Int) : stepT s t ≤ t + 1 := by unfold stepT; split <;> omega
theorem Lst.stepP (h : Lst c v w1 w dq B pb sb rp rs tm) (hne : pb ≠ sb) (h3 : tm < 4611686018426000000) :
    Calls Try.prog 15 #[.pointer (some ⟨pb, 0, none⟩)] w fun e w' => ∃ x, e = .returned (.bool x) ∧ Lst c v w1 w' dq B pb sb (rp - 1) rs (tm + 1) := by
  obtain ⟨L, t, p, s, l, q1, q2, i, r1, r2, ht⟩ := h
  refine (l.step q1 (by omega)).mono ?_
  rintro e w' ⟨rfl, l', q', o⟩
  exact ⟨_, rfl, _, _, _, _, l', q', q2.other o (fun e => hne e.symm), i.stepP, Nat.le_trans i.rkP (Nat.sub_le_sub_right r1 1), r2, by have := stepT_le p t; omega⟩
theorem Lst.stepS (h : Lst c v w1 w dq B pb sb rp rs tm) (hne : pb ≠ sb) (h3 : tm < 4611686018426000000) :
    Calls Try.prog 15 #[.pointer (some ⟨sb, 0, none⟩)] w fun e w' => ∃ x, e = .returned (.bool x) ∧ Lst c v w1 w' dq B pb sb rp (rs - 1) (tm + 1) := by
  obtain ⟨L, t, p, s, l, q1, q2, i, r1, r2, ht⟩ := h
  refine (l.step q2 (by omega)).mono ?_
  rintro e w' ⟨rfl, l', q', o⟩
  exact ⟨_, rfl, _, _, _, _, l', q1.other o hne, q', i.stepS, r1, Nat.le_trans i.rkS (Nat.sub_le_sub_right r2 1), by have := stepT_le s t; omega⟩
theorem Lst.drewN (h : Lst c v w1 w dq B pb sb rp rs tm) (n : Nat) : Lst c v w1 (w.drewN n) dq B pb sb rp rs tm := by
  obtain ⟨L, t, p, s, l, q1, q2, i, r1, r2, ht⟩ := h
  exact ⟨L, t, p, s, l.nil ((Only.refl Nil w).drewN n), q1.nil ((Only.refl Nil w).drewN n), q2.nil ((Only.refl Nil w).drewN n), i, r1, r2, ht⟩

/-- The one push. -/
theorem push_one (c : Nat) (v : Int) (hc : 0 < c) : ∃ L, Runs 0 c 4 (fresh c) (.push0 v) L (.over 1 0) ∧ LI c v L .pop0 .st0 := by
  have e1 : (fresh c).getD 1 0 = 1 ∧ (fresh c).getD 0 0 = 1 := by
    unfold fresh
    have key : ∀ k, (layL (zeros (2 + c)) 0 k).getD 1 0 = 1 ∧ (layL (zeros (2 + c)) 0 k).getD 0 0 = 1 := by
      intro k
      induction k with
      | zero =>
        simp only [layL]
        rw [gset_eq (by rw [List.length_set, length_zeros]; omega), gset_ne (by decide), gset_eq (by rw [length_zeros]; omega)]
        exact ⟨rfl, rfl⟩
      | succ k ih =>
        simp only [layL]
        rw [gset_ne (by omega), gset_ne (by omega)]
        exact ih
    exact key c
  have hl := length_fresh c
  have hm : slotAt 0 c 1 < (fresh c).length := by have := slotAt_lt 0 c 1 hc; omega
  have hd : (dif 1 1 : Int) = 0 := by decide
  refine ⟨((fresh c).set (slotAt 0 c 1) v).set (0 + 1) (up 1), ?_, ?_⟩
  · refine Runs.step rfl ?_
    rw [S_push0, Nat.zero_add, e1.1, show stepL 0 c (fresh c) (.push0 v) = fresh c from rfl]
    refine Runs.step rfl ?_
    rw [S_push1, e1.2, hd, if_neg (by omega), show stepL 0 c (fresh c) (.push1 v 1) = fresh c from rfl]
    exact Runs.step rfl (Runs.step rfl (Runs.over rfl))
  · rw [up1]
    have n0 : slotAt 0 c 1 ≠ 0 := by unfold slotAt; omega
    have n1 : slotAt 0 c 1 ≠ 1 := by unfold slotAt; omega
    have f0 : (((fresh c).set (slotAt 0 c 1) v).set (0 + 1) 2).getD 0 0 = 1 := by rw [gset_ne (by decide), gset_ne n0]; exact e1.2
    have f1 : (((fresh c).set (slotAt 0 c 1) v).set (0 + 1) 2).getD 1 0 = 2 := gset_eq (by rw [List.length_set]; omega) 2
    refine ⟨by simp [hl], ?_, f1, trivial, .inl ⟨f0, rfl, rfl, fun h => by cases h⟩⟩
    rw [gset_ne (by omega), gset_eq hm]
/-- Both are over. -/
theorem Lst.end (h : Lst c v w1 w dq B pb sb 0 0 tm) : ∃ L t o x o' x', Lw w1 w dq (B + 1) B 0 c L t ∧ Op1 w1 w pb dq (B + 1) B (.over o x) ∧ Op1 w1 w sb dq (B + 1) B (.over o' x') ∧ t ≤ tm ∧
    ((o = 1 ∧ x = v ∧ (o' = 4 ∨ o' = 6) ∧ x' = 0) ∨ ((o = 4 ∧ x = 0) ∧ o' = 1 ∧ x' = v)) ∧ Runs 0 c 4 L .pop0 ((L.set 1 1).set 1 2) (.over 4 0) := by
  obtain ⟨L, t, p, s, l, q1, q2, i, r1, r2, ht⟩ := h
  obtain ⟨o, x, rfl⟩ := i.overP (by omega)
  obtain ⟨o', x', rfl⟩ := i.overS (by omega)
  exact ⟨L, t, o, x, o', x', l, q1, q2, ht, i.last.1, i.last.2⟩
end

set_option maxRecDepth 100000 in
set_option maxHeartbeats 8000000 in
theorem last_walk (k v : Int) (a : Option Addr) (cap : Nat) (V : List Bool) (c : Nat) (w : World) (hc : 1 ≤ c ∧ c ≤ 8) (e1 : 1 + k % 8 = (c : Int)) (hk : 0 ≤ k ∧ k < 256) (hv : In64 v) (hV : RowBo w a V) (hr : V.length * 1 ≤ 140737488351232) :
    Calls Try.prog 6 #[.int .u8 k, .int .u64 v, .slice a V.length cap] w fun e w' => e = .returned (.bool true) ∧ Below w.heap.size w w' := by
  have md := Lib.hid (fun w => made_any c w (by omega) (by omega))
  obtain ⟨L1, hp, hLI⟩ := push_one c v (by omega)
  have hLI' := Lib.hid hLI
  have pu := Lib.hid (fun (w1 w2 : World) (dq B : Nat) (h : Lw w1 w2 dq (B + 1) B 0 c (fresh c) (2 + (c : Int))) => h.push v hv)
  have dn := Lib.hid (fun (w1 w2 : World) (ob dq B : Nat) (h : Lw w1 w2 dq (B + 1) B 0 c (fresh c) (2 + (c : Int))) (q : Op1 w1 w2 ob dq (B + 1) B (.push0 v)) => (h.done q hp (by decide) (by have := hc.2; omega)).mono (R' := fun e w' => e = .returned (.tuple #[.int .i64 1, .int .u64 0, .int .i64 4]) ∧ Lw w1 w' dq (B + 1) B 0 c L1 (6 + (c : Int))) (fun e w' hh => ⟨hh.1, by have := hh.2.1; rwa [show (2 : Int) + (c : Int) + ((4 : Nat) : Int) = 6 + (c : Int) by omega] at this⟩))
  have po := Lib.hid (fun (w1 w2 : World) (dq B : Nat) (h : Lw w1 w2 dq (B + 1) B 0 c L1 (6 + (c : Int))) => h.pop)
  have st := Lib.hid (fun (w1 w2 : World) (dq B : Nat) (h : Lw w1 w2 dq (B + 1) B 0 c L1 (6 + (c : Int))) => h.steal)
  obtain ⟨x1, x2⟩ := hk
  have c8 := Lib.hid hc
  have hV' := Lib.hid hV
  have hv' := Lib.hid hv
  have wv : IntKind.u64.wrap v = v := by obtain ⟨v0, v1⟩ := hv; rw [IntKind.wrap_u64]; omega
  clear hc hV hp hLI hv
  generalize hlen : V.length = len at hr ⊢
  have hlen' := Lib.hid hlen
  clear hlen
  have len8 : (len : Int) ≤ 140737488351232 := by omega
  rw [← e1] at md
  have e1' := Lib.hid e1
  clear e1
  go_enter Try.func6, Try.ntmps6
  go_wp2_with (first
    | (go_at_call 7; (with_reducible refine (alive_any _).mono ?_); rintro e w1 ⟨rfl, o1⟩)
    | (go_at_call 24; (with_reducible refine (md.out _).mono ?_); rintro e w2 ⟨dq, rfl, l2⟩; rw [e1'.out] at l2)
    | (go_at_call 26; (with_reducible refine (pu.out _ _ _ _ l2).mono ?_); rintro e w3 ⟨rfl, l3, q3, _, _⟩)
    | (go_at_call 25; (with_reducible refine (dn.out _ _ _ _ _ l3 q3).mono ?_); rintro e w4 ⟨rfl, l4⟩)
    | (go_at_call 27; (with_reducible refine (po.out _ _ _ _ l4).mono ?_); rintro e w5 ⟨rfl, l5, q5, o5, z5⟩)
    | (go_at_call 28; (with_reducible refine (st.out _ _ _ _ l5).mono ?_); rintro e w6 ⟨rfl, l6, q6, o6, z6⟩))
  have hne : w4.heap.size ≠ w5.heap.size := by omega
  have n0 := Lib.hid hne
  have l6' := l6
  have F0 : Hid (Lst c v w1 w6 dq w1.heap.size w4.heap.size w5.heap.size 6 6 (6 + (c : Int))) := Lib.hid ⟨_, _, _, _, l6, q5.nil o6, q6, hLI'.out, Nat.le_refl _, by decide, Int.le_refl _⟩
  have ow := Lib.hid o1
  clear o1 l2 l3 q3 l4 l5 q5 o5 z5 l6 q6 o6 z6 hne l6' md pu dn po st
  generalize w4.heap.size = pb at F0 n0 ⊢
  generalize w5.heap.size = sb at F0 n0 ⊢
  generalize hB : w1.heap.size = B at F0
  have hB' := Lib.hid hB
  clear hB
  go_loopw [13] (fun s13 wr => ∃ i : Nat, i ≤ len + 12 ∧ s13 = .int .i64 (i : Int) ∧ Hid (Lst c v w1 wr dq B pb sb (6 - (i - len)) (6 - (i - len)) (6 + (c : Int) + 2 * (i : Int))))
    (fun s13 _ => len + 12 - (intOf s13).toNat)
  case atStart => exact ⟨0, Nat.zero_le _, rfl, Lib.hid (F0.out.mono (by omega) (by omega) (by omega))⟩
  case round =>
    obtain ⟨i, hi, rfl, hh⟩ := hrel
    by_cases hin : i < len + 12
    · have hii : (i : Int) < (len : Int) + 12 := by omega
      have hi2 := Lib.hid hin
      clear hin hi
      by_cases hil : i < len
      · have hli : ¬ ((len : Int) ≤ (i : Int)) := by omega
        have hl2 : (i : Int) < (len : Int) := by omega
        obtain ⟨b, off, rfl, hb1, hb2⟩ := hV'.out i (by rw [hlen'.out]; exact hil)
        have hx0 : w.cell? ⟨b, off + i, none⟩ = some (.bool (V.getD i false)) := hb2 i (by rw [hlen'.out]; exact hil)
        have hb1' := Lib.hid hb1
        have hx0' := Lib.hid hx0
        clear hb2 hb1 hx0
        have hx : wr.cell? ⟨b, off + i, none⟩ = some (.bool (V.getD i false)) := by
          obtain ⟨L, t, p, s, l, _⟩ := hh.out
          exact (World.cell?_of_block (a := ⟨b, off + i, none⟩) ((ow.out.trans l.only).block b hb1'.out (fun h => h))).trans hx0'.out
        have hy : ∀ w', (∃ r1 r2 t1, Lst c v w1 w' dq B pb sb r1 r2 t1) → w'.cell? ⟨b, off + i, none⟩ = some (.bool (V.getD i false)) := fun w' ⟨_, _, _, L, t, p, s, l, _⟩ =>
          (World.cell?_of_block (a := ⟨b, off + i, none⟩) ((ow.out.trans l.only).block b hb1'.out (fun h => h))).trans hx0'.out
        have hy' := Lib.hid hy
        clear hy
        generalize V.getD i false = x at hx hy' hx0'
        have hil' := Lib.hid hil
        clear hil
        cases x
        · have sp := Lib.hid (hh.out.stepS n0.out (by have := c8.out; omega))
          go_wp2_with (go_at_call 15; (with_reducible refine (sp.out).mono ?_); rintro e w7 ⟨x7, rfl, h7⟩)
          have h7' := Lib.hid h7
          clear h7
          go_roundw
          case rel => exact ⟨i + 1, by have := hi2.out; omega, by go_num, Lib.hid (h7'.out.mono (by have := hil'.out; omega) (by have := hil'.out; omega) (by omega))⟩
          case measure => have := hi2.out; simp [intOf]; omega
        · have sp := Lib.hid (hh.out.stepP n0.out (by have := c8.out; omega))
          go_wp2_with (go_at_call 15; (with_reducible refine (sp.out).mono ?_); rintro e w7 ⟨x7, rfl, h7⟩; have h7' := Lib.hid h7; have hz := hy'.out w7 ⟨_, _, _, h7⟩; clear h7)
          go_roundw
          case rel => exact ⟨i + 1, by have := hi2.out; omega, by go_num, Lib.hid (h7'.out.mono (by have := hil'.out; omega) (by have := hil'.out; omega) (by omega))⟩
          case measure => have := hi2.out; simp [intOf]; omega
      · have hli : (len : Int) ≤ (i : Int) := by omega
        have hil' := Lib.hid hil
        clear hil
        have sp := Lib.hid (hh.out.stepP n0.out (by have := c8.out; omega))
        have ss := Lib.hid (fun w' (h : Lst c v w1 w' dq B pb sb (6 - (i - len) - 1) (6 - (i - len)) (6 + (c : Int) + 2 * (i : Int) + 1)) => h.stepS n0.out (by have := c8.out; omega))
        go_wp2_with (first
          | (go_at_call 15; (with_reducible refine (sp.out).mono ?_); rintro e w7 ⟨x7, rfl, h7⟩)
          | (go_at_call 15; (with_reducible refine (ss.out _ h7).mono ?_); rintro e w8 ⟨x8, rfl, h8⟩))
        have h8' := Lib.hid h8
        clear h7 h8
        go_roundw
        case rel => exact ⟨i + 1, by have := hi2.out; omega, by go_num, Lib.hid (h8'.out.mono (by have := hil'.out; omega) (by have := hil'.out; omega) (by omega))⟩
        case measure => have := hi2.out; simp [intOf]; omega
    · have hin2 : i = len + 12 := by omega
      have hii : ¬ ((i : Int) < (len : Int) + 12) := by omega
      obtain ⟨L, t, o, x, o', x', l, q1, q2, ht, hw, hrun⟩ := (hh.out.mono (rp' := 0) (rs' := 0) (by omega) (by omega) (Int.le_refl _)).end
      have ovp := Lib.hid (overO q1.op q1.ok)
      have ovs := Lib.hid (overO q2.op q2.ok)
      have ocp := Lib.hid (outcomeO q1.op)
      have ocs := Lib.hid (outcomeO q2.op)
      have po := Lib.hid l.pop
      have dn := Lib.hid (fun (w2 : World) (ob : Nat) (h : Lw w1 w2 dq (B + 1) B 0 c L t) (q : Op1 w1 w2 ob dq (B + 1) B .pop0) => (h.done q hrun (by decide) (by have := c8.out; omega)).mono (R' := fun e w' => e = .returned (.tuple #[.int .i64 4, .int .u64 0, .int .i64 4]) ∧ Lw w1 w' dq (B + 1) B 0 c ((L.set 1 1).set 1 2) (t + 4) ∧ Only (OB (B + 1) B ob) w2 w') (fun e w' hh => ⟨hh.1, hh.2.1, hh.2.2.2⟩))
      have vp := Lib.hid (fun w' (q : Op1 w1 w' pb dq (B + 1) B (.over o x)) => valueO q.op)
      have vs := Lib.hid (fun w' (q : Op1 w1 w' sb dq (B + 1) B (.over o' x')) => valueO q.op)
      simp only [OS.o, OS.x, OS.isO] at ovp ovs ocp ocs vp vs
      have np : wr.heap.size ≠ pb := by have := q1.op.lt; omega
      have ns : wr.heap.size ≠ sb := by have := q2.op.lt; omega
      have np' := Lib.hid np
      have ns' := Lib.hid ns
      have q1' := Lib.hid q1
      have q2' := Lib.hid q2
      have ow2 := Lib.hid (ow.out)
      clear hh l q1 q2 ht hin2 hi hin hrun np ns
      rcases hw with ⟨rfl, rfl, ho, rfl⟩ | ⟨⟨rfl, rfl⟩, rfl, rfl⟩
      · have eo : ¬ ((o' : Int) = 1) := by omega
        clear ho
        go_wp2_with (first
          | (go_at_call 12; (with_reducible refine (ovp.out).mono ?_); rintro e w7 ⟨rfl, rfl⟩)
          | (go_at_call 12; (with_reducible refine (ovs.out).mono ?_); rintro e w7 ⟨rfl, rfl⟩)
          | (go_at_call 29; (with_reducible refine (ocp.out).mono ?_); rintro e w7 ⟨rfl, rfl⟩)
          | (go_at_call 29; (with_reducible refine (ocs.out).mono ?_); rintro e w7 ⟨rfl, rfl⟩)
          | (go_at_call 27; (with_reducible refine (po.out).mono ?_); rintro e w8 ⟨rfl, l8, q8, o8, z8⟩)
          | (go_at_call 25; (with_reducible refine (dn.out _ _ l8 q8).mono ?_); rintro e w9 ⟨rfl, l9, o9⟩
             have y1 := ((q1'.out.nil o8).other o9 (fun e => np'.out e.symm))
             have y2 := ((q2'.out.nil o8).other o9 (fun e => ns'.out e.symm)))
          | (go_at_call 30; (with_reducible refine (vp.out _ y1).mono ?_); rintro e w7 ⟨rfl, rfl⟩)
          | (go_at_call 30; (with_reducible refine (vs.out _ y2).mono ?_); rintro e w7 ⟨rfl, rfl⟩))
        go_ret
        exact ⟨rfl, (ow2.out.trans l9.only).below (Nat.le_refl _) (fun _ h => h.elim)⟩
      · go_wp2_with (first
          | (go_at_call 12; (with_reducible refine (ovp.out).mono ?_); rintro e w7 ⟨rfl, rfl⟩)
          | (go_at_call 12; (with_reducible refine (ovs.out).mono ?_); rintro e w7 ⟨rfl, rfl⟩)
          | (go_at_call 29; (with_reducible refine (ocp.out).mono ?_); rintro e w7 ⟨rfl, rfl⟩)
          | (go_at_call 29; (with_reducible refine (ocs.out).mono ?_); rintro e w7 ⟨rfl, rfl⟩)
          | (go_at_call 27; (with_reducible refine (po.out).mono ?_); rintro e w8 ⟨rfl, l8, q8, o8, z8⟩)
          | (go_at_call 25; (with_reducible refine (dn.out _ _ l8 q8).mono ?_); rintro e w9 ⟨rfl, l9, o9⟩
             have y1 := ((q1'.out.nil o8).other o9 (fun e => np'.out e.symm))
             have y2 := ((q2'.out.nil o8).other o9 (fun e => ns'.out e.symm)))
          | (go_at_call 30; (with_reducible refine (vp.out _ y1).mono ?_); rintro e w7 ⟨rfl, rfl⟩)
          | (go_at_call 30; (with_reducible refine (vs.out _ y2).mono ?_); rintro e w7 ⟨rfl, rfl⟩))
        go_ret
        exact ⟨rfl, (ow2.out.trans l9.only).below (Nat.le_refl _) (fun _ h => h.elim)⟩

theorem last_all (k v : Int) (a : Option Addr) (cap : Nat) (V : List Bool) (w : World) (hk : 0 ≤ k ∧ k < 256) (hv : In64 v) (hV : RowBo w a V) (hr : V.length * 1 ≤ 140737488351232) :
    Calls Try.prog 6 #[.int .u8 k, .int .u64 v, .slice a V.length cap] w fun e w' => e = .returned (.bool true) ∧ Below w.heap.size w w' :=
  last_walk k v a cap V (1 + k % 8).toNat w (by omega) (by omega) hk hv hV hr
end Go.Proofs.Ythebfnmihjbajaa.Dq
