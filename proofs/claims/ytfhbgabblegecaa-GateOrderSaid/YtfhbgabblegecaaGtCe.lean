/- A crowd at a gate: a step that begins. -/
import Derived.Test.YtfhbgabblegecaaGtCd
namespace Go.Proofs.Ytfhbgabblegecaa.Gt
open Go.RowKit
section
variable {w1 w w4 : World} {rg B base c cb pb nb ib K : Nat} {L : List Int} {t : Int} {R : Rg} {P : Nat → Option (Dir × GS)} {vo : Nat → Int} {ob : Nat → Nat} {nx : Nat → Nat} {it : List Nat} {tk : Nat → List Nat} {iv : Nat → Value} {ins : Nat → List Int}

theorem Cg.beginT (h : Cg w1 w rg B base c cb pb nb ib K L t R P vo ob nx it tk iv ins) {p : Nat} (hp : p < 4) (h2 : 2 ≤ p) (e : P p = none) (hK : K + 1 ≤ 100000) {n : Nat}
    (k : Cw w1 w4 rg B base c cb pb nb ib L t (upd (poG P ob) p (some (n, .s0 .take))) (fun q => (nx q : Int)) iv ins) :
    Cg w1 w4 rg B base c cb pb nb ib (K + 1) L t R (upd P p (some (.take, .q0))) vo (upd ob p n) nx it tk iv ins := by
  have := h.begin hp e hK (n := n) (w4 := w4) (by rw [if_neg (by omega), if_neg (by omega)]; exact k)
  rwa [if_neg (by omega), if_neg (by omega)] at this
theorem Cg.beginP (h : Cg w1 w rg B base c cb pb nb ib K L t R P vo ob nx it tk iv ins) {p : Nat} (hp : p < 2) (e : P p = none) (hK : K + 1 ≤ 100000) {n : Nat}
    (k : Cw w1 w4 rg B base c cb pb nb ib L t (upd (poG P ob) p (some (n, .s0 (.put (num p (nx p + 1)))))) (fun q => ((upd nx p (nx p + 1) q : Nat) : Int)) iv ins) :
    Cg w1 w4 rg B base c cb pb nb ib (K + 1) L t R (upd P p (some (.put (num p (nx p + 1)), .q0))) vo (upd ob p n) (upd nx p (nx p + 1)) it tk iv ins := by
  have := h.begin (by omega) e hK (n := n) (w4 := w4) (by rw [if_pos hp, if_pos hp]; exact k)
  rwa [if_pos hp, if_pos hp] at this
theorem updc (nx : Nat → Nat) (p y : Nat) : upd (fun q => (nx q : Int)) p (y : Int) = (fun q => ((upd nx p y q : Nat) : Int)) := by
  funext q
  by_cases g : q = p
  · subst g; rw [upd_same, upd_same]
  · rw [upd_other _ _ _ _ g, upd_other _ _ _ _ g]

set_option maxRecDepth 100000 in
set_option maxHeartbeats 8000000 in
theorem cstep_take (h : Cg w1 w rg B base c cb pb nb ib K L t R P vo ob nx it tk iv ins) {p : Nat} (hp : p < 4) (h2 : 2 ≤ p) (e : P p = none) (hK : K + 2 ≤ 100000) :
    Calls Try.prog 62 #[.pointer (some ⟨cb, 0, none⟩), .int .i64 (p : Int), .bool true] w fun e w' => e = .returned (.tuple #[]) ∧ Hid (∃ L' vo' ob' it' tk', Cg w1 w' rg B base c cb pb nb ib (K + 2) L' (t + 1) R (upd P p (some (.take, .q1 R.head))) vo' ob' nx it' tk' iv ins) := by
  have h' := Lib.hid h
  have e' := Lib.hid e
  have hp' := Lib.hid hp
  have h2' := Lib.hid h2
  have p3 : (p : Int) < 4 := by omega
  have p2 : ¬ (p : Int) < 2 := by omega
  obtain ⟨c0, c1, c2, c3, c4, c5⟩ := h.cw.cells
  have pc := h.pnone hp e
  have pp := Lib.hid (fun n => (h.cw.drewN n).core.lw.take)
  clear h e hp h2
  go_enter Try.func62, Try.ntmps62
  go_wp2
  go_region_held3 (fun w' => w'.cell? ⟨cb, 0, none⟩ = some (.pointer (some ⟨rg, 0, none⟩)) ∧ w'.cell? ⟨cb, 1, none⟩ = some (.slice (some ⟨pb, 0, none⟩) 4 4))
    (first | exact ⟨c0, c1⟩ | exact ⟨k0, k1⟩ | exact ⟨j0, j1⟩ | go_keep)
    (first
      | (go_at_call 60; refine (pp.out _).mono ?_; rintro e w3 ⟨rfl, l3, q3, o3, z3⟩; have m3 := (h'.out.cw.drewN _).nil o3; obtain ⟨k0, k1, _, _, _, _⟩ := m3.cells; have kp := (m3.pc p hp'.out).1; have kf := (m3.pc p hp'.out).2; have m4 := (h'.out.cw.drewN _).begin (p := p) q3 o3; obtain ⟨j0, j1, _, _, _, _⟩ := m4.cells))
  have m5 : Cw w1 (w3.setCell { block := pb, off := p } (Value.pointer (some { block := w.heap.size, off := 0 }))) rg B base c cb pb nb ib L t (upd (poG P ob) p (some (w.heap.size, .s0 .take))) (fun q => (nx q : Int)) iv ins := m4
  have r4 := h'.out.beginT hp'.out h2'.out e'.out (by omega) m5
  have sp := Lib.hid (r4.stepP hp'.out (upd_same _ _ _) (R' := R) (r := .on (.q1 R.head)) rfl)
  have r4' := Lib.hid r4
  clear c0 c1 c2 c3 c4 c5 pc k0 k1 kp kf j0 j1 m3
  have pc := r4.pcell hp'.out (upd_same _ _ _)
  obtain ⟨_, c1, _, _, _, _⟩ := r4.cw.cells
  rw [upd_same] at pc sp
  rw [show (osR .take (GR.on (.q1 R.head))).isO = false from rfl] at sp
  clear r4 m4 m5 l3 q3 o3 z3
  generalize w3.setCell { block := pb, off := p } (Value.pointer (some { block := w.heap.size, off := 0 })) = w5 at *
  go_wp2_with (go_at_call 84; (with_reducible refine (sp.out).mono ?_); rintro e w6 ⟨rfl, k6⟩)
  (try simp only [Exit.inBlock, Exit.then])
  refine bodyPost_ret (results_none rfl _ _ _) rfl ?_
  obtain ⟨L', rl, _, k⟩ := k6.out
  obtain ⟨vo', it', tk', z⟩ := r4'.out.on hp'.out (upd_same _ _ _) (R' := R) (s' := .q1 R.head) rfl (by omega) rl (by rw [upd_same]; exact k)
  rw [upd_upd] at z
  exact ⟨rfl, Lib.hid ⟨_, _, _, _, _, z⟩⟩

set_option maxRecDepth 100000 in
set_option maxHeartbeats 8000000 in
theorem cstep_put (h : Cg w1 w rg B base c cb pb nb ib K L t R P vo ob nx it tk iv ins) {p : Nat} (hp : p < 2) (e : P p = none) (hK : K + 2 ≤ 100000) :
    Calls Try.prog 62 #[.pointer (some ⟨cb, 0, none⟩), .int .i64 (p : Int), .bool true] w fun e w' => e = .returned (.tuple #[]) ∧ Hid (∃ L' vo' ob' it' tk', Cg w1 w' rg B base c cb pb nb ib (K + 2) L' (t + 1) R (upd P p (some (.put (num p (nx p + 1)), .q1 R.tail))) vo' ob' (upd nx p (nx p + 1)) it' tk' iv ins) := by
  have h' := Lib.hid h
  have e' := Lib.hid e
  have hp' := Lib.hid hp
  have hp4 := Lib.hid (show p < 4 by omega)
  have p3 : (p : Int) < 4 := by omega
  have p2 : (p : Int) < 2 := by omega
  have hn := Lib.hid (h.nxb p)
  have kb := Lib.hid h.kb
  generalize hv : num p (nx p + 1) = v
  have hv' := Lib.hid hv
  have hv64 : In64 v := by have := h.nxb p; have := h.kb; rw [← hv]; unfold In64 num; omega
  have hw0 : IntKind.u64.wrap ((nx p : Int) + 1) = ((nx p + 1 : Nat) : Int) := by have := hn.out; have := kb.out; rw [IntKind.wrap_u64]; omega
  have hw1 : IntKind.u64.wrap (p : Int) = (p : Int) := by rw [IntKind.wrap_u64]; omega
  have hw2 : IntKind.u64.wrap ((p : Int) * 4294967296) = (p : Int) * 4294967296 := by rw [IntKind.wrap_u64]; omega
  have hw3 : IntKind.u64.wrap ((p : Int) * 4294967296 + ((nx p + 1 : Nat) : Int)) = v := by have := hn.out; have := kb.out; rw [IntKind.wrap_u64, ← hv]; unfold num; omega
  generalize ha : ((nx p + 1 : Nat) : Int) = a at hw0 hw3
  have ha' := Lib.hid ha
  obtain ⟨c0, c1, c2, c3, c4, c5⟩ := h.cw.cells
  have pc := h.pnone (by omega) e
  obtain ⟨nc, nf⟩ := h.cw.nc p hp
  have pp := Lib.hid (fun n => (h.cw.drewN n).core.lw.take)
  clear h e hp hv ha
  go_enter Try.func62, Try.ntmps62
  go_wp2
  go_region_held3 (fun w' => w'.cell? ⟨cb, 0, none⟩ = some (.pointer (some ⟨rg, 0, none⟩)) ∧ w'.cell? ⟨cb, 1, none⟩ = some (.slice (some ⟨pb, 0, none⟩) 4 4))
    (first | exact ⟨c0, c1⟩ | exact ⟨k0, k1⟩ | exact ⟨j0, j1⟩ | go_keep)
    (first
      | (go_at_call 60; refine (pp.out _).mono ?_; rintro e w3 ⟨rfl, l3, q3, o3, z3⟩; have m3 := (h'.out.cw.drewN _).nil o3; obtain ⟨k0, k1, _, _, _, _⟩ := m3.cells; have kp := (m3.pc p hp4.out).1; have kf := (m3.pc p hp4.out).2; have m4 := (h'.out.cw.drewN _).begin (p := p) q3 o3; obtain ⟨j0, j1, _, _, _, _⟩ := m4.cells))
  have m5 : Cw w1 (w3.setCell { block := pb, off := p } (Value.pointer (some { block := w.heap.size, off := 0 }))) rg B base c cb pb nb ib L t (upd (poG P ob) p (some (w.heap.size, .s0 .take))) (fun q => (nx q : Int)) iv ins := m4
  clear c0 c1 c2 c3 c4 c5 pc k0 k1 kp kf j0 j1 m3 m4 nc nf l3 q3 o3 z3 pp
  generalize w3.setCell { block := pb, off := p } (Value.pointer (some { block := w.heap.size, off := 0 })) = w5 at *
  have m5' := Lib.hid m5
  obtain ⟨c0, c1, c2, c3, c4, c5⟩ := m5.cells
  obtain ⟨nc, nf⟩ := m5.nc p hp'.out
  have m6 := m5.next p a
  clear m5
  go_wp2
  have m6' := Lib.hid m6
  clear c0 c1 c2 c3 c4 c5 nc nf m5'
  generalize w5.setCell { block := nb, off := p } (Value.int IntKind.u64 a) = w2 at m6 m6' ⊢
  obtain ⟨c0, c1, c2, c3, c4, c5⟩ := m6.cells
  obtain ⟨nc, nf⟩ := m6.nc p hp'.out
  rw [upd_same] at nc
  have pp := Lib.hid (fun n => (m6.drewN n).core.lw.put v hv64)
  clear m6
  go_region_held3 (fun w' => w'.cell? ⟨cb, 0, none⟩ = some (.pointer (some ⟨rg, 0, none⟩)) ∧ w'.cell? ⟨cb, 1, none⟩ = some (.slice (some ⟨pb, 0, none⟩) 4 4) ∧ w'.cell? ⟨cb, 2, none⟩ = some (.slice (some ⟨nb, 0, none⟩) 2 2) ∧ w'.cell? ⟨nb, p, none⟩ = some (.int .u64 a))
    (first | exact ⟨c0, c1, c2, nc⟩ | exact ⟨k0, k1, k2, kn⟩ | exact ⟨j0, j1, j2, jn⟩ | go_keep)
    (first
      | (go_at_call 59; refine (pp.out _).mono ?_; rintro e w3 ⟨rfl, l3, q3, o3, z3⟩; have m3 := (m6'.out.drewN _).nil o3; obtain ⟨k0, k1, k2, _, _, _⟩ := m3.cells; have kn := (m3.nc p hp'.out).1; rw [upd_same] at kn; have kp := (m3.pc p hp4.out).1; have kf := (m3.pc p hp4.out).2; have m4 := (m6'.out.drewN _).begin (p := p) q3 o3; obtain ⟨j0, j1, j2, _, _, _⟩ := m4.cells; have jn := (m4.nc p hp'.out).1; rw [upd_same] at jn))
  have m7 : Cw w1 (w3.setCell { block := pb, off := p } (Value.pointer (some { block := w2.heap.size, off := 0 }))) rg B base c cb pb nb ib L t (upd (upd (poG P ob) p (some (w.heap.size, .s0 .take))) p (some (w2.heap.size, .s0 (.put v)))) (upd (fun q => (nx q : Int)) p a) iv ins := m4
  rw [upd_upd, ← ha'.out, updc, ← hv'.out] at m7
  have r4 := h'.out.beginP hp'.out e'.out (by omega) m7
  have sp := Lib.hid (r4.stepP hp4.out (upd_same _ _ _) (R' := R) (r := .on (.q1 R.tail)) rfl)
  have r4' := Lib.hid r4
  clear c0 c1 c2 c3 c4 c5 nc nf k0 k1 k2 kn kp kf j0 j1 j2 jn m3
  have pc := r4.pcell hp4.out (upd_same _ _ _)
  obtain ⟨_, c1, _, _, _, _⟩ := r4.cw.cells
  rw [upd_same] at pc sp
  rw [show (osR (.put (num p (nx p + 1))) (GR.on (.q1 R.tail))).isO = false from rfl] at sp
  clear r4 m4 m7 l3 q3 o3 z3
  generalize w3.setCell { block := pb, off := p } (Value.pointer (some { block := w2.heap.size, off := 0 })) = w7 at *
  go_wp2_with (go_at_call 84; (with_reducible refine (sp.out).mono ?_); rintro e w8 ⟨rfl, k6⟩)
  (try simp only [Exit.inBlock, Exit.then])
  refine bodyPost_ret (results_none rfl _ _ _) rfl ?_
  obtain ⟨L', rl, _, k⟩ := k6.out
  obtain ⟨vo', it', tk', z⟩ := r4'.out.on hp4.out (upd_same _ _ _) (R' := R) (s' := .q1 R.tail) rfl (by omega) rl (by rw [upd_same]; exact k)
  rw [upd_upd, hv'.out] at z
  exact ⟨rfl, Lib.hid ⟨_, _, _, _, _, z⟩⟩
end
end Go.Proofs.Ytfhbgabblegecaa.Gt
