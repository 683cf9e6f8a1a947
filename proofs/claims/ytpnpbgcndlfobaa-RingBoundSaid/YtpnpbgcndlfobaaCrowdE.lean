/- A crowd: a Put that is begun. -/
import Derived.Test.YtpnpbgcndlfobaaCrowdC
namespace Go.Proofs.Ytpnpbgcndlfobaa
open Go.RowKit
section
variable {w1 w w4 : World} {rg B base c cb pb nb ib K : Nat} {L : List Int} {t : Int} {R : Rg} {P : Nat → Option (PS × Int)} {T : Option TS} {ob : Nat → Nat} {tb : Nat} {nx : Nat → Int} {iv : Nat → Value} {st : Int} {ta : Value} {mo : Int} {cnt : Nat} {ins : Nat → List Int} {taken : List Int}

theorem Cr.begin (h : Cr w1 w rg B base c cb pb nb ib K L t R P T ob tb nx iv st ta mo cnt ins taken) {p : Nat} (hp : p < 3) (e : P p = none) (hK : K + 1 ≤ 100000) {n : Nat}
    (k : Cw w1 w4 rg B base c cb pb nb ib L t (upd (poOf P ob) p (some (n, .put0 ((p : Int) * 4294967296 + (nx p + 1))))) (toOf T tb) (upd nx p (nx p + 1)) iv st ta mo (cnt : Int) ins taken) :
    Cr w1 w4 rg B base c cb pb nb ib (K + 1) L t R (upd P p (some (.p0, (p : Int) * 4294967296 + (nx p + 1)))) T (upd ob p n) tb (upd nx p (nx p + 1)) iv st ta mo cnt ins taken := by
  have hn := h.nxb p hp
  have hv := pid_of hp (n := nx p + 1) (by omega) (by have := h.kb; omega)
  refine ⟨by rw [← poOf_new]; exact k, h.rl, h.sys.begin e hv.1 hv.2, by have := h.tl; omega, by have := h.tm; omega, ?_, ?_, h.ti, h.mo1, h.mo2, h.hc, h.hc2, hK, h.st0, h.st1⟩
  · intro q hq
    by_cases g : q = p
    · subst g; rw [upd_same]; omega
    · rw [upd_other _ _ _ _ g]; have := h.nxb q hq; omega
  · intro q s2 v2 e2
    by_cases g : q = p
    · subst g; rw [upd_same] at e2; simp at e2; rw [upd_same]; exact ⟨hp, e2.2.symm⟩
    · rw [upd_other _ _ _ _ g] at e2; rw [upd_other _ _ _ _ g]; exact h.pv q s2 v2 e2

set_option maxRecDepth 100000 in
set_option maxHeartbeats 8000000 in
theorem put_new (h : Cr w1 w rg B base c cb pb nb ib K L t R P T ob tb nx iv st ta mo cnt ins taken) {p : Nat} (hp : p < 3) (e : P p = none) (hK : K + 2 ≤ 100000) :
    Calls Try.prog 49 #[.pointer (some ⟨cb, 0, none⟩), .int .i64 (p : Int), .bool true] w fun e w' => e = .returned (.tuple #[]) ∧ Hid (∃ (L' : List Int) (ob' : Nat → Nat) (v : Int), Cr w1 w' rg B base c cb pb nb ib (K + 2) L' (t + 1) R (upd P p (some (.p1 R.tail, v))) T ob' tb (upd nx p (nx p + 1)) iv st ta mo cnt ins taken) := by
  have h' := Lib.hid h
  have e' := Lib.hid e
  have hp' := Lib.hid hp
  have p3 : (p : Int) < 3 := by omega
  have hn := Lib.hid (h.nxb p hp)
  have kb := Lib.hid h.kb
  have hw0 : IntKind.u64.wrap (nx p + 1) = nx p + 1 := by have := hn.out; have := kb.out; rw [IntKind.wrap_u64]; omega
  have hw1 : IntKind.u64.wrap (p : Int) = (p : Int) := by rw [IntKind.wrap_u64]; omega
  have hw2 : IntKind.u64.wrap ((p : Int) * 4294967296) = (p : Int) * 4294967296 := by rw [IntKind.wrap_u64]; omega
  have hw3 : IntKind.u64.wrap ((p : Int) * 4294967296 + (nx p + 1)) = (p : Int) * 4294967296 + (nx p + 1) := by have := hn.out; have := kb.out; rw [IntKind.wrap_u64]; omega
  obtain ⟨c0, c1, c2, c3, c4, c5, c6, c7, c8⟩ := h.cw.cells
  have pc := h.pnone hp e
  obtain ⟨nc, nf⟩ := h.cw.nc p hp
  have m2 := h.cw.next p (nx p + 1)
  clear h e hp
  go_enter Try.func49, Try.ntmps49
  go_wp2
  have m2' := Lib.hid m2
  clear c0 c1 c2 c3 c4 c5 c6 c7 c8 pc nc nf
  generalize w.setCell { block := nb, off := p } (Value.int IntKind.u64 (nx p + 1)) = w2 at m2 m2' ⊢
  obtain ⟨c0, c1, c2, c3, c4, c5, c6, c7, c8⟩ := m2.cells
  obtain ⟨nc, nf⟩ := m2.nc p hp'.out
  rw [upd_same] at nc
  have pp := Lib.hid (fun n => (m2.drewN n).core.lw.put ((p : Int) * 4294967296 + (nx p + 1)))
  clear m2
  go_region_held3 (fun w' => w'.cell? ⟨cb, 0, none⟩ = some (.pointer (some ⟨rg, 0, none⟩)) ∧ w'.cell? ⟨cb, 1, none⟩ = some (.slice (some ⟨pb, 0, none⟩) 3 3) ∧ w'.cell? ⟨cb, 2, none⟩ = some (.slice (some ⟨nb, 0, none⟩) 3 3) ∧ w'.cell? ⟨nb, p, none⟩ = some (.int .u64 (nx p + 1)))
    (first | exact ⟨c0, c1, c2, nc⟩ | exact ⟨k0, k1, k2, kn⟩ | exact ⟨j0, j1, j2, jn⟩ | go_keep)
    (first
      | (go_at_call 29; refine (pp.out _).mono ?_; rintro e w3 ⟨rfl, l3, q3, o3, z3⟩; have m3 := (m2'.out.drewN _).nil o3; obtain ⟨k0, k1, k2, _, _, _, _, _, _⟩ := m3.cells; have kn := (m3.nc p hp'.out).1; rw [upd_same] at kn; have kp := (m3.pc p hp'.out).1; have kf := (m3.pc p hp'.out).2; have m4 := (m2'.out.drewN _).begin (p := p) q3 o3; obtain ⟨j0, j1, j2, _, _, _, _, _, _⟩ := m4.cells; have jn := (m4.nc p hp'.out).1; rw [upd_same] at jn))
  have m5 : Cw w1 (w3.setCell { block := pb, off := p } (Value.pointer (some { block := w2.heap.size, off := 0 }))) rg B base c cb pb nb ib L t (upd (poOf P ob) p (some (w2.heap.size, .put0 ((p : Int) * 4294967296 + (nx p + 1))))) (toOf T tb) (upd nx p (nx p + 1)) iv st ta mo (cnt : Int) ins taken := m4
  have r4 := h'.out.begin hp'.out e'.out (by omega) m5
  have sp := Lib.hid (r4.stepP hp'.out (upd_same _ _ _) (R' := R) (r := .on (.p1 R.tail)) rfl)
  have r4' := Lib.hid r4
  clear c0 c1 c2 c3 c4 c5 c6 c7 c8 nc nf k0 k1 k2 kn kp kf j0 j1 j2 jn m3
  have pc := r4.pcell hp'.out (upd_same _ _ _)
  obtain ⟨_, c1, _, _, _, _, _, _, _⟩ := r4.cw.cells
  rw [upd_same] at pc sp
  rw [show (osPR ((p : Int) * 4294967296 + (nx p + 1)) (PR.on (.p1 R.tail))).isO = false from rfl] at sp
  clear r4 m4 m5 l3 q3 o3 z3
  generalize w3.setCell { block := pb, off := p } (Value.pointer (some { block := w2.heap.size, off := 0 })) = w5 at *
  go_wp2_with (go_at_call 18; (with_reducible refine (sp.out).mono ?_); rintro e w6 ⟨rfl, k6⟩)
  go_end0
  obtain ⟨L', rl, _, k⟩ := k6.out
  have := r4'.out.on hp'.out (upd_same _ _ _) (R' := R) (s' := .p1 R.tail) rfl (by omega) rl (by rw [upd_same]; exact k)
  rw [show upd (upd P p (some (PS.p0, (p : Int) * 4294967296 + (nx p + 1)))) p (some (PS.p1 R.tail, (p : Int) * 4294967296 + (nx p + 1))) = upd P p (some (PS.p1 R.tail, (p : Int) * 4294967296 + (nx p + 1))) from by
    funext q; by_cases g : q = p
    · subst g; rw [upd_same, upd_same]
    · rw [upd_other _ _ _ _ g, upd_other _ _ _ _ g, upd_other _ _ _ _ g]] at this
  exact ⟨rfl, Lib.hid ⟨_, _, _, this⟩⟩
end
end Go.Proofs.Ytpnpbgcndlfobaa
