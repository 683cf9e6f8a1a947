/- check: what one looks at; isThere; ofEffect. -/
import Derived.Test.YthanclicnkjmiaaGreatDoorChH
set_option linter.unusedVariables false
namespace Go.Proofs.YthanclicnkjmiaaGreatDoor.Ch
open Go.RowKit Go.Proofs.YthanclicnkjmiaaGreatDoor Lx Ps

structure VK (D : Nat) (w : World) (P : List Kd) (a0 : Option Addr) (nP c0 : Nat) : Prop where
  x : XK D w (.slice a0 nP c0) P
  n : P.length = nP
  b : nP ≤ 140737488355328
  sz : szP P
  wf : wfP P
structure VX (D : Nat) (w : World) (x : Kd) (a1 : Option Addr) (nC c1 : Nat) (a2 : Option Addr) (nS c2 : Nat) : Prop where
  c : XC D w (.slice a1 nC c1) x.cases
  cn : x.cases.length = nC
  cb : nC ≤ 140737488355328
  s : XS D w (.slice a2 nS c2) x.states
  sn : x.states.length = nS
  sb : nS ≤ 140737488355328
  sz : szK x
  wf : wfK x
structure VY (D : Nat) (w : World) (y : Sta) (a3 : Option Addr) (nR c3 : Nat) : Prop where
  r : XR D w (.slice a3 nR c3) y.rows
  n : y.rows.length = nR
  b : nR ≤ 140737488355328
  sz : szS y
  wf : wfS y
structure VZ (D : Nat) (w : World) (z : Rw) (a4 : Option Addr) (nE c4 : Nat) : Prop where
  e : XE D w (.slice a4 nE c4) z.effs
  n : z.effs.length = nE
  b : nE ≤ 140737488355328
  sz : szR z
  wf : wfR z
section
variable {D : Nat} {w w' : World}
theorem VK.keep {P : List Kd} {a0 : Option Addr} {nP c0 : Nat} (hP : VK D w P a0 nP c0) (o : Only Nil w w') : VK D w' P a0 nP c0 := ⟨hP.x.keep o (nilS · D), hP.n, hP.b, hP.sz, hP.wf⟩
theorem VX.keep {x : Kd} {a1 a2 : Option Addr} {nC c1 nS c2 : Nat} (hX : VX D w x a1 nC c1 a2 nS c2) (o : Only Nil w w') : VX D w' x a1 nC c1 a2 nS c2 := ⟨hX.c.keep o (nilS · D), hX.cn, hX.cb, hX.s.keep o (nilS · D), hX.sn, hX.sb, hX.sz, hX.wf⟩
theorem VY.keep {y : Sta} {a3 : Option Addr} {nR c3 : Nat} (hY : VY D w y a3 nR c3) (o : Only Nil w w') : VY D w' y a3 nR c3 := ⟨hY.r.keep o (nilS · D), hY.n, hY.b, hY.sz, hY.wf⟩
theorem VZ.keep {z : Rw} {a4 : Option Addr} {nE c4 : Nat} (hZ : VZ D w z a4 nE c4) (o : Only Nil w w') : VZ D w' z a4 nE c4 := ⟨hZ.e.keep o (nilS · D), hZ.n, hZ.b, hZ.sz, hZ.wf⟩
end
theorem two_box {w W : World} {c d : List Value} {t u : TypeId} (hW : W = (w.alloc (.cells c.toArray t)).alloc (.cells d.toArray u)) : Only Nil w W ∧ Bx W w.heap.size c t ∧ Bx W (w.heap.size + 1) d u := by
  subst hW
  refine ⟨((Only.refl Nil w).alloc _).alloc _, (bx_new w c t).keep ((Only.refl Nil _).alloc _), ?_⟩
  have := bx_new (w.alloc (.cells c.toArray t)) d u
  have hs : (w.alloc (.cells c.toArray t)).heap.size = w.heap.size + 1 := by simp
  rw [hs] at this; exact this
theorem three_box {w W : World} {c d e : List Value} {t u s : TypeId} (hW : W = ((w.alloc (.cells c.toArray t)).alloc (.cells d.toArray u)).alloc (.cells e.toArray s)) : Only Nil w W ∧ Bx W w.heap.size c t ∧ Bx W (w.heap.size + 1) d u ∧ Bx W (w.heap.size + 2) e s := by
  subst hW
  obtain ⟨o, h1, h2⟩ := two_box (w := w) (c := c) (d := d) (t := t) (u := u) rfl
  refine ⟨o.alloc _, h1.keep ((Only.refl Nil _).alloc _), h2.keep ((Only.refl Nil _).alloc _), ?_⟩
  have := bx_new ((w.alloc (.cells c.toArray t)).alloc (.cells d.toArray u)) e s
  have hs : ((w.alloc (.cells c.toArray t)).alloc (.cells d.toArray u)).heap.size = w.heap.size + 2 := by simp
  rw [hs] at this; exact this
theorem memB_iff {β : Type} [DecidableEq β] (k : β) (K : List β) : memB k K = true ↔ k ∈ K := by unfold memB; simp
/-- isThere -/
theorem there_any {D : Nat} {w : World} {P : List Kd} {a0 : Option Addr} {nP c0 : Nat} {x : Kd} {a1 a2 : Option Addr} {nC c1 nS c2 : Nat} {y : Sta} {a3 : Option Addr} {nR c3 : Nat} {z : Rw} {a4 : Option Addr} {nE c4 : Nat} (hP : VK D w P a0 nP c0) (hX : VX D w x a1 nC c1 a2 nS c2) (f : Eff) :
    Calls Tryz.prog 218 #[.agg #[.slice a0 nP c0, .string (bs x.name), .int .i64 x.limit, .int .i64 x.within, .slice a1 nC c1, .slice a2 nS c2, .string (bs y.name), .slice a3 nR c3, .string (bs z.tag), .bool z.only, .int .i64 z.n, .slice a4 nE c4], .agg #[.int .i64 f.act, .string (bs f.ref), .string (bs f.slot), .string (bs f.name), .int .i64 f.val, .int .i64 f.n, .int .i64 f.delay]] w fun e w' => e = .returned (.bool (there (P.map Kd.name) (x.states.map Sta.name) f)) ∧ Only Nil w w' := by
  obtain ⟨W, hW⟩ : ∃ W, W = (w.alloc (.cells #[.slice a0 nP c0, .string (bs x.name), .int .i64 x.limit, .int .i64 x.within, .slice a1 nC c1, .slice a2 nS c2, .string (bs y.name), .slice a3 nR c3, .string (bs z.tag), .bool z.only, .int .i64 z.n, .slice a4 nE c4] 93)).alloc (.cells #[.int .i64 f.act, .string (bs f.ref), .string (bs f.slot), .string (bs f.name), .int .i64 f.val, .int .i64 f.n, .int .i64 f.delay] 67) := ⟨_, rfl⟩
  obtain ⟨o, b1, b2⟩ : Only Nil w W ∧ Bx W w.heap.size [.slice a0 nP c0, .string (bs x.name), .int .i64 x.limit, .int .i64 x.within, .slice a1 nC c1, .slice a2 nS c2, .string (bs y.name), .slice a3 nR c3, .string (bs z.tag), .bool z.only, .int .i64 z.n, .slice a4 nE c4] 93 ∧ Bx W (w.heap.size + 1) [.int .i64 f.act, .string (bs f.ref), .string (bs f.slot), .string (bs f.name), .int .i64 f.val, .int .i64 f.n, .int .i64 f.delay] 67 := two_box hW
  have c0 := b1.cell 0 (v := .slice a0 nP c0) rfl
  have c5 := b1.cell 5 (v := .slice a2 nS c2) rfl
  have d0 := b2.cell 0 (v := .int .i64 f.act) rfl
  have d3 := b2.cell 3 (v := .string (bs f.name)) rfl
  have HP := Lib.hid (holds_kd f.name (hP.keep o).x hP.n hP.b)
  have HS := Lib.hid (holds_sta f.name (hX.keep o).s hX.sn hX.sb)
  have O := Lib.hid o
  clear b1 b2 o hP hX
  by_cases h2 : f.act = 2
  · have g2 : (f.act == 2) = true := by simpa using h2
    have HT := Lib.hid (show memB f.name (P.map Kd.name) = there (P.map Kd.name) (x.states.map Sta.name) f from by
      unfold there memB; rw [if_pos h2, Bool.eq_iff_iff]; simp)
    rw [HT.out] at HP
    clear h2
    go_enter Tryz.func218, Tryz.ntmps218
    go_upto_region 1 with (fail)
    (try simp only [World.size_alloc]); rw [← hW]; clear hW
    go_wp2_with (go_at_call 140; refine HP.out.mono ?_; rintro e w1 ⟨rfl, o1⟩)
    go_ret
    exact ⟨rfl, O.out.trans o1⟩
  · have g2 : (f.act == 2) = false := by simpa using h2
    by_cases h3 : f.act = 3
    · have g3 : (f.act == 3) = true := by simpa using h3
      have HT := Lib.hid (show memB f.name (x.states.map Sta.name) = there (P.map Kd.name) (x.states.map Sta.name) f from by
        unfold there memB; rw [if_neg h2, if_pos h3, Bool.eq_iff_iff]; simp)
      rw [HT.out] at HS
      clear h2 h3
      go_enter Tryz.func218, Tryz.ntmps218
      go_upto_region 1 with (fail)
      (try simp only [World.size_alloc]); rw [← hW]; clear hW
      go_wp2_with (go_at_call 175; refine HS.out.mono ?_; rintro e w1 ⟨rfl, o1⟩)
      go_ret
      exact ⟨rfl, O.out.trans o1⟩
    · have g3 : (f.act == 3) = false := by simpa using h3
      have HT := Lib.hid (show true = there (P.map Kd.name) (x.states.map Sta.name) f from by
        unfold there; rw [if_neg h2, if_neg h3])
      clear h2 h3
      go_enter Tryz.func218, Tryz.ntmps218
      go_upto_region 1 with (fail)
      (try simp only [World.size_alloc]); rw [← hW]; clear hW
      go_wp2
      go_ret
      exact ⟨by rw [← HT.out]; rfl, O.out⟩
theorem oe1_any (f : Eff) (hf : wfE f) (q : Nat) (w : World) (h : Bx w q [.int .i64 f.act, .string (bs f.ref), .string (bs f.slot), .string (bs f.name), .int .i64 f.val, .int .i64 f.n, .int .i64 f.delay] 67) :
    Calls Tryz.prog 215 #[.pointer (some ⟨q, 0, none⟩)] w fun e w' => e = .returned (.bool (wfEf f)) ∧ Only Nil w w' := by
  have c0 := h.cell 0 (v := .int .i64 f.act) rfl
  have c1 := h.cell 1 (v := .string (bs f.ref)) rfl
  have c2 := h.cell 2 (v := .string (bs f.slot)) rfl
  have c3 := h.cell 3 (v := .string (bs f.name)) rfl
  have c4 := h.cell 4 (v := .int .i64 f.val) rfl
  have c5 := h.cell 5 (v := .int .i64 f.n) rfl
  have c6 := h.cell 6 (v := .int .i64 f.delay) rfl
  have HC := Lib.hid (wf_p f hf.name w)
  rw [pEf_eq] at HC
  generalize wfEf f = z at *
  clear h hf
  go_enter Tryz.func215, Tryz.ntmps215
  go_wp2_with (go_at_call 216; refine HC.out.mono ?_; rintro e w1 ⟨rfl, o1⟩)
  go_ret
  exact ⟨rfl, o1⟩
theorem oe2_any {D : Nat} {w : World} {P : List Kd} {a0 : Option Addr} {nP c0 : Nat} {x : Kd} {a1 a2 : Option Addr} {nC c1 nS c2 : Nat} {y : Sta} {a3 : Option Addr} {nR c3 : Nat} {z : Rw} {a4 : Option Addr} {nE c4 : Nat} (hP : VK D w P a0 nP c0) (hX : VX D w x a1 nC c1 a2 nS c2) (f : Eff) (q q2 : Nat) (h : Bx w q [.slice a0 nP c0, .string (bs x.name), .int .i64 x.limit, .int .i64 x.within, .slice a1 nC c1, .slice a2 nS c2, .string (bs y.name), .slice a3 nR c3, .string (bs z.tag), .bool z.only, .int .i64 z.n, .slice a4 nE c4] 93) (k : Bx w q2 [.int .i64 f.act, .string (bs f.ref), .string (bs f.slot), .string (bs f.name), .int .i64 f.val, .int .i64 f.n, .int .i64 f.delay] 67) :
    Calls Tryz.prog 217 #[.pointer (some ⟨q, 0, none⟩), .pointer (some ⟨q2, 0, none⟩)] w fun e w' => e = .returned (.bool (there (P.map Kd.name) (x.states.map Sta.name) f)) ∧ Only Nil w w' := by
  have c0_ := h.cell 0 (v := .slice a0 nP c0) rfl
  have c1_ := h.cell 1 (v := .string (bs x.name)) rfl
  have c2_ := h.cell 2 (v := .int .i64 x.limit) rfl
  have c3_ := h.cell 3 (v := .int .i64 x.within) rfl
  have c4_ := h.cell 4 (v := .slice a1 nC c1) rfl
  have c5_ := h.cell 5 (v := .slice a2 nS c2) rfl
  have c6_ := h.cell 6 (v := .string (bs y.name)) rfl
  have c7_ := h.cell 7 (v := .slice a3 nR c3) rfl
  have c8_ := h.cell 8 (v := .string (bs z.tag)) rfl
  have c9_ := h.cell 9 (v := .bool z.only) rfl
  have c10_ := h.cell 10 (v := .int .i64 z.n) rfl
  have c11_ := h.cell 11 (v := .slice a4 nE c4) rfl
  have d0_ := k.cell 0 (v := .int .i64 f.act) rfl
  have d1_ := k.cell 1 (v := .string (bs f.ref)) rfl
  have d2_ := k.cell 2 (v := .string (bs f.slot)) rfl
  have d3_ := k.cell 3 (v := .string (bs f.name)) rfl
  have d4_ := k.cell 4 (v := .int .i64 f.val) rfl
  have d5_ := k.cell 5 (v := .int .i64 f.n) rfl
  have d6_ := k.cell 6 (v := .int .i64 f.delay) rfl
  have HC := Lib.hid (there_any (y := y) (a3 := a3) (nR := nR) (c3 := c3) (z := z) (a4 := a4) (nE := nE) (c4 := c4) hP hX f)
  generalize there (P.map Kd.name) (x.states.map Sta.name) f = t at *
  clear h k hP hX
  go_enter Tryz.func217, Tryz.ntmps217
  go_wp2_with (go_at_call 218; refine HC.out.mono ?_; rintro e w1 ⟨rfl, o1⟩)
  go_ret
  exact ⟨rfl, o1⟩
theorem oe3_any {w : World} {x : Kd} {a0 a1 a2 : Option Addr} {nP c0 nC c1 nS c2 : Nat} {y : Sta} {a3 : Option Addr} {nR c3 : Nat} {z : Rw} {a4 : Option Addr} {nE c4 : Nat} (f : Eff) (m qa q q2 : Nat) (hm : m < nE) (hb : nE ≤ 140737488355328) (ha : w.cell? ⟨qa, 0, none⟩ = some (.int .i64 (m : Int))) (h : Bx w q [.slice a0 nP c0, .string (bs x.name), .int .i64 x.limit, .int .i64 x.within, .slice a1 nC c1, .slice a2 nS c2, .string (bs y.name), .slice a3 nR c3, .string (bs z.tag), .bool z.only, .int .i64 z.n, .slice a4 nE c4] 93) (k : Bx w q2 [.int .i64 f.act, .string (bs f.ref), .string (bs f.slot), .string (bs f.name), .int .i64 f.val, .int .i64 f.n, .int .i64 f.delay] 67) :
    Calls Tryz.prog 219 #[.pointer (some ⟨qa, 0, none⟩), .pointer (some ⟨q, 0, none⟩), .pointer (some ⟨q2, 0, none⟩)] w fun e w' => e = .returned (.bool (lastOk nE m f)) ∧ w = w' := by
  have c11 := h.cell 11 (v := .slice a4 nE c4) rfl
  have d0 := k.cell 0 (v := .int .i64 f.act) rfl
  clear h k
  by_cases hl : m + 1 = nE
  · subst hl
    have HT := Lib.hid (show true = lastOk (m + 1) m f from by unfold lastOk; simp)
    have hb' : (m : Int) + 1 ≤ 140737488355328 := by omega
    clear hm hb
    go_enter Tryz.func219, Tryz.ntmps219
    go_wp2
    go_ret
    exact ⟨by rw [← HT.out]; rfl, rfl⟩
  · have hw : IntKind.i64.wrap ((nE : Int) - 1) = (nE : Int) - 1 := IntWalk.i64_in _ (by omega)
    have g : ((m : Int) == (nE : Int) - 1) = false := by rw [beq_eq_false_iff_ne]; omega
    have hL : lastOk nE m f = !(decide (f.act = 11) || decide (f.act = 12)) := by unfold lastOk; rw [decide_eq_false hl, Bool.false_or]
    rw [hL]
    clear hL hl hm hb
    by_cases h11 : f.act = 11
    · have g1 : (f.act != 11) = false := by simpa using h11
      have HT := Lib.hid (show false = !(decide (f.act = 11) || decide (f.act = 12)) from by rw [decide_eq_true h11]; rfl)
      clear h11
      go_enter Tryz.func219, Tryz.ntmps219
      go_wp2
      go_ret
      exact ⟨by rw [← HT.out]; rfl, rfl⟩
    · have g1 : (f.act != 11) = true := by simpa using h11
      by_cases h12 : f.act = 12
      · have g2 : (f.act != 12) = false := by simpa using h12
        have HT := Lib.hid (show false = !(decide (f.act = 11) || decide (f.act = 12)) from by rw [decide_eq_true h12, decide_eq_false h11]; rfl)
        clear h11 h12
        go_enter Tryz.func219, Tryz.ntmps219
        go_wp2
        go_ret
        exact ⟨by rw [← HT.out]; rfl, rfl⟩
      · have g2 : (f.act != 12) = true := by simpa using h12
        have HT := Lib.hid (show true = !(decide (f.act = 11) || decide (f.act = 12)) from by rw [decide_eq_false h12, decide_eq_false h11]; rfl)
        clear h11 h12
        go_enter Tryz.func219, Tryz.ntmps219
        go_wp2
        go_ret
        exact ⟨by rw [← HT.out]; rfl, rfl⟩
end Go.Proofs.YthanclicnkjmiaaGreatDoor.Ch
