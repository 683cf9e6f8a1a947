/- A gang at a deque: a thief's step that appends nothing. -/
import Derived.Test.YtokopocldicnmaaDqCc
namespace Go.Proofs.Ytokopocldicnmaa.Dq
open Go.RowKit
section
variable {w1 w w4 : World} {rg B base c gb tb K : Nat} {L : List Int} {t : Int} {T X : Nat} {f : Nat → Int} {ow : Option OS} {th : Nat → Option OS} {ob : Nat → Nat} {psh : Bool} {nx : Nat} {iv : Nat → Value} {ins : Nat → List Int} {lost most : Int}

/-- A thief's step, done. -/
theorem Gg.afterT (h : Gg w1 w rg B base c gb tb K L t T X f ow th ob psh nx iv ins lost most) {L' : List Int} {T' : Nat} {i : Nat} {x : Option OS} {iv' : Nat → Value} {ins' : Nat → List Int} {lost' : Int} (hK : K + 1 ≤ 100000)
    (k : Gw w1 w4 rg B base c gb tb L' (t + 1) (poG ow (upd th i x) ob) psh (nx : Int) iv' ins' lost' most) (d : DI c L' T' X f (nx : Int) ow (upd th i x) (ins' 0) (ins' 1) (ins' 2)) (hl : 0 ≤ lost' ∧ lost' ≤ ((K + 1 : Nat) : Int)) (hi : ∀ q, (ins' q).length ≤ K + 1) :
    Gg w1 w4 rg B base c gb tb (K + 1) L' (t + 1) T' X f ow (upd th i x) ob psh nx iv' ins' lost' most :=
  ⟨k, d, h.ps, h.ms, hl, by have := h.tm; omega, by have := h.nxb; omega, hi, by have := h.xb; omega, h.hc, hK⟩

/-- A thief that has begun. -/
theorem Gg.begunT (h : Gg w1 w rg B base c gb tb K L t T X f ow th ob psh nx iv ins lost most) {i : Nat} {ob' : Nat → Nat}
    (k : Gw w1 w4 rg B base c gb tb L t (poG ow (upd th i (some .st0)) ob') psh (nx : Int) iv ins lost most) : Gg w1 w4 rg B base c gb tb K L t T X f ow (upd th i (some .st0)) ob' psh nx iv ins lost most :=
  { h with gw := k, di := { h.di with th := h.di.thO (fun s e => by injection e with e; subst e; trivial) } }

set_option maxHeartbeats 4000000 in
theorem csteal_on (h : Gg w1 w rg B base c gb tb K L t T X f ow th ob psh nx iv ins lost most) {i : Nat} (hi : i < 2) {s : OS} (e : th i = some s) (hn : (stepS 0 c L s).isO = false) :
    Calls Try.prog 51 #[.pointer (some ⟨gb, 0, none⟩), .int .i64 (i : Int)] w fun e w' => e = .returned (.tuple #[]) ∧ Hid (Gw w1 w' rg B base c gb tb (stepL 0 c L s) (t + 1) (poG ow (upd th i (some (stepS 0 c L s))) ob) psh (nx : Int) iv ins lost most) := by
  have sp := Lib.hid (h.stepT hi e)
  rw [hn] at sp
  have i2 : (i : Int) < 2 := by omega
  have c6 := (h.gw.cell 6 (by decide)).1
  simp only [gf] at c6
  have pc := h.tcs hi e
  clear h e hi hn
  go_enter Try.func51, Try.ntmps51
  go_wp2_with (go_at_call 53; (with_reducible refine (sp.out).mono ?_); rintro e w4 ⟨rfl, k4⟩)
  (try simp only [Exit.inBlock, Exit.then])
  refine bodyPost_ret (results_none rfl _ _ _) rfl ?_
  exact ⟨rfl, Lib.hid k4.out.2⟩

set_option maxHeartbeats 4000000 in
theorem csteal_no (h : Gg w1 w rg B base c gb tb K L t T X f ow th ob psh nx iv ins lost most) {i : Nat} (hi : i < 2) {s : OS} (e : th i = some s) (hn : (stepS 0 c L s).isO = true) (ho : (stepS 0 c L s).o = 4) :
    Calls Try.prog 51 #[.pointer (some ⟨gb, 0, none⟩), .int .i64 (i : Int)] w fun e w' => e = .returned (.tuple #[]) ∧ Hid (Gw w1 w' rg B base c gb tb (stepL 0 c L s) (t + 1) (poG ow (upd th i none) ob) psh (nx : Int) iv ins lost most) := by
  have sp := Lib.hid (h.stepT hi e)
  rw [hn] at sp
  have i2 : (i : Int) < 2 := by omega
  have hi' := Lib.hid hi
  have ho' := Lib.hid ho
  have c6 := (h.gw.cell 6 (by decide)).1
  simp only [gf] at c6
  have pc := h.tcs hi e
  clear h e hi hn ho
  go_enter Try.func51, Try.ntmps51
  go_wp2_with (first
    | (go_at_call 53; (with_reducible refine (sp.out).mono ?_); rintro e w4 ⟨rfl, k4⟩; obtain ⟨q4, m4⟩ := k4.out; clear c6 pc; have c6 := (m4.cell 6 (by decide)).1; simp only [gf] at c6; obtain ⟨pc, pf⟩ := m4.tc i hi'.out; simp only [poG, upd_same, Option.map_some, opv] at pc; have oc := Lib.hid (show Calls Try.prog 54 #[.pointer (some ⟨ob (i + 1), 0, none⟩)] w4 (fun e w' => e = .returned (.int .i64 4) ∧ w4 = w') from ho'.out ▸ outcomeO q4.op))
    | (go_at_call 54; (with_reducible refine (oc.out).mono ?_); rintro e w5 ⟨rfl, rfl⟩))
  go_end0
  have m5 := m4.dropT i
  rw [show (none : Option (Nat × OS)) = ((none : Option OS).map fun s => (ob (i + 1), s)) from rfl, poG_onT, upd_upd] at m5
  exact ⟨rfl, Lib.hid m5⟩

set_option maxHeartbeats 4000000 in
theorem csteal_lost (h : Gg w1 w rg B base c gb tb K L t T X f ow th ob psh nx iv ins lost most) {i : Nat} (hi : i < 2) {s : OS} (e : th i = some s) (hn : (stepS 0 c L s).isO = true) (ho : (stepS 0 c L s).o = 6) :
    Calls Try.prog 51 #[.pointer (some ⟨gb, 0, none⟩), .int .i64 (i : Int)] w fun e w' => e = .returned (.tuple #[]) ∧ Hid (Gw w1 w' rg B base c gb tb (stepL 0 c L s) (t + 1) (poG ow (upd th i none) ob) psh (nx : Int) iv ins (lost + 1) most) := by
  have sp := Lib.hid (h.stepT hi e)
  rw [hn] at sp
  have i2 : (i : Int) < 2 := by omega
  have hi' := Lib.hid hi
  have ho' := Lib.hid ho
  have l0 := h.lo.1
  have l1 : lost ≤ 100000 := by have := h.lo.2; have := h.kb; omega
  have c6 := (h.gw.cell 6 (by decide)).1
  simp only [gf] at c6
  have pc := h.tcs hi e
  clear h e hi hn ho
  go_enter Try.func51, Try.ntmps51
  go_wp2_with (first
    | (go_at_call 53; (with_reducible refine (sp.out).mono ?_); rintro e w4 ⟨rfl, k4⟩; obtain ⟨q4, m4⟩ := k4.out; clear c6 pc; have c6 := (m4.cell 6 (by decide)).1; simp only [gf] at c6; obtain ⟨c8, f8⟩ := m4.cell 8 (by decide); simp only [gf] at c8; obtain ⟨pc, pf⟩ := m4.tc i hi'.out; simp only [poG, upd_same, Option.map_some, opv] at pc; have m5 := m4.setLost (lost + 1); have tne := m5.ne; have oc := Lib.hid (show Calls Try.prog 54 #[.pointer (some ⟨ob (i + 1), 0, none⟩)] w4 (fun e w' => e = .returned (.int .i64 6) ∧ w4 = w') from ho'.out ▸ outcomeO q4.op))
    | (go_at_call 54; (with_reducible refine (oc.out).mono ?_); rintro e w5 ⟨rfl, rfl⟩))
  go_end0
  have m6 := m5.dropT i
  rw [show (none : Option (Nat × OS)) = ((none : Option OS).map fun s => (ob (i + 1), s)) from rfl, poG_onT, upd_upd] at m6
  exact ⟨rfl, Lib.hid m6⟩

set_option maxRecDepth 100000 in
set_option maxHeartbeats 8000000 in
theorem csteal_begin (h : Gg w1 w rg B base c gb tb K L t T X f ow th ob psh nx iv ins lost most) {i : Nat} (hi : i < 2) (e : th i = none) :
    Calls Try.prog 51 #[.pointer (some ⟨gb, 0, none⟩), .int .i64 (i : Int)] w fun e w' => e = .returned (.tuple #[]) ∧ Hid (∃ ob', Gw w1 w' rg B base c gb tb L (t + 1) (poG ow (upd th i (some (.st1 T))) ob') psh (nx : Int) iv ins lost most) := by
  have h' := Lib.hid h
  have hi' := Lib.hid hi
  have i2 : (i : Int) < 2 := by omega
  have c0 := (h.gw.cell 0 (by decide)).1
  have c6 := (h.gw.cell 6 (by decide)).1
  simp only [gf] at c0 c6
  have pc := h.tcn hi e
  have pp := Lib.hid (fun n => (h.gw.drewN n).core.lw.steal)
  clear h e hi
  go_enter Try.func51, Try.ntmps51
  go_wp2
  go_region_held3 (fun w' => w'.cell? ⟨gb, 0, none⟩ = some (.pointer (some ⟨rg, 0, none⟩)) ∧ w'.cell? ⟨gb, 6, none⟩ = some (.slice (some ⟨tb, 0, none⟩) 2 2))
    (first | exact ⟨c0, c6⟩ | exact ⟨k0, k6⟩ | exact ⟨j0, j6⟩ | go_keep)
    (first
      | (go_at_call 47; refine (pp.out _).mono ?_; rintro e w3 ⟨rfl, l3, q3, o3, z3⟩; have m3 := (h'.out.gw.drewN _).nil o3; have k0 := (m3.cell 0 (by decide)).1; have k6 := (m3.cell 6 (by decide)).1; simp only [gf] at k0 k6; have kp := (m3.tc i hi'.out).1; have kf := (m3.tc i hi'.out).2; have m4 := (h'.out.gw.drewN _).beginT i q3 o3; have j0 := (m4.cell 0 (by decide)).1; have j6 := (m4.cell 6 (by decide)).1; simp only [gf] at j0 j6))
  have m5 : Gw w1 (w3.setCell { block := tb, off := i } (Value.pointer (some { block := w.heap.size, off := 0 }))) rg B base c gb tb L t (upd (poG ow th ob) (i + 1) (some (w.heap.size, .st0))) psh (nx : Int) iv ins lost most := m4
  rw [poG_newT] at m5
  have r4 := h'.out.begunT (i := i) m5
  have sp := Lib.hid (r4.stepT hi'.out (upd_same _ _ _))
  have pc' := r4.tcs hi'.out (upd_same _ _ _)
  have c6' := (m5.cell 6 (by decide)).1
  simp only [gf] at c6'
  rw [upd_same] at pc' sp
  have e4 : stepS 0 c L .st0 = .st1 (T : Int) := by
    show OS.st1 (L.getD 0 0) = _
    rw [h'.out.di.top]
  rw [e4, upd_upd, show (OS.st1 (T : Int)).isO = false from rfl, show stepL 0 c L .st0 = L from rfl] at sp
  clear c0 c6 pc k0 k6 kp kf j0 j6 m3 m4 m5 r4 l3 q3 o3 z3 e4
  generalize w3.setCell { block := tb, off := i } (Value.pointer (some { block := w.heap.size, off := 0 })) = w5 at *
  go_wp2_with (go_at_call 53; (with_reducible refine (sp.out).mono ?_); rintro e w6 ⟨rfl, k6⟩)
  (try simp only [Exit.inBlock, Exit.then])
  refine bodyPost_ret (results_none rfl _ _ _) rfl ?_
  exact ⟨rfl, Lib.hid ⟨_, k6.out.2⟩⟩
end
end Go.Proofs.Ytokopocldicnmaa.Dq
