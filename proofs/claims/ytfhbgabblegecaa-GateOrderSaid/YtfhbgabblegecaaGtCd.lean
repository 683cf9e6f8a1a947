/- A crowd at a gate: a step that goes on, that is over too early, that isn't made. -/
import Derived.Test.YtfhbgabblegecaaGtCc
namespace Go.Proofs.Ytfhbgabblegecaa.Gt
open Go.RowKit
section
variable {w1 w w4 : World} {rg B base c cb pb nb ib K : Nat} {L : List Int} {t : Int} {R : Rg} {P : Nat → Option (Dir × GS)} {vo : Nat → Int} {ob : Nat → Nat} {nx : Nat → Nat} {it : List Nat} {tk : Nat → List Nat} {iv : Nat → Value} {ins : Nat → List Int}

set_option maxHeartbeats 4000000 in
theorem cstep_idle (h : Cg w1 w rg B base c cb pb nb ib K L t R P vo ob nx it tk iv ins) {p : Nat} (hp : p < 4) (e : P p = none) :
    Calls Try.prog 62 #[.pointer (some ⟨cb, 0, none⟩), .int .i64 (p : Int), .bool false] w fun e w' => e = .returned (.tuple #[]) ∧ Hid (Cg w1 w' rg B base c cb pb nb ib K L t R P vo ob nx it tk iv ins) := by
  have h' := Lib.hid h
  have p3 : (p : Int) < 4 := by omega
  obtain ⟨c0, c1, c2, c3, c4, c5⟩ := h.cw.cells
  have pc := h.pnone hp e
  clear h e hp
  go_enter Try.func62, Try.ntmps62
  go_wp2
  (try simp only [Exit.inBlock, Exit.then])
  refine bodyPost_ret (results_none rfl _ _ _) rfl ?_
  exact ⟨rfl, h'⟩

set_option maxHeartbeats 4000000 in
theorem cstep_on (h : Cg w1 w rg B base c cb pb nb ib K L t R P vo ob nx it tk iv ins) {p : Nat} (hp : p < 4) {d : Dir} {s s' : GS} (e : P p = some (d, s)) {R' : Rg} (er : gstep c R d s = (R', .on s')) (hK : K + 1 ≤ 100000) (more : Bool) :
    Calls Try.prog 62 #[.pointer (some ⟨cb, 0, none⟩), .int .i64 (p : Int), .bool more] w fun e w' => e = .returned (.tuple #[]) ∧ Hid (∃ L' vo' it' tk', Cg w1 w' rg B base c cb pb nb ib (K + 1) L' (t + 1) R' (upd P p (some (d, s'))) vo' ob nx it' tk' iv ins) := by
  have sp := Lib.hid (h.stepP hp e er)
  rw [show (osR d (GR.on s')).isO = false from os_isO d s'] at sp
  have h' := Lib.hid h
  have e' := Lib.hid e
  have er' := Lib.hid er
  have p3 : (p : Int) < 4 := by omega
  have hp' := Lib.hid hp
  obtain ⟨c0, c1, c2, c3, c4, c5⟩ := h.cw.cells
  have pc := h.pcell hp e
  clear h e er hp
  go_enter Try.func62, Try.ntmps62
  go_wp2_with (go_at_call 84; (with_reducible refine (sp.out).mono ?_); rintro e w4 ⟨rfl, k4⟩)
  (try simp only [Exit.inBlock, Exit.then])
  refine bodyPost_ret (results_none rfl _ _ _) rfl ?_
  obtain ⟨L', rl, _, k⟩ := k4.out
  obtain ⟨vo', it', tk', z⟩ := h'.out.on hp'.out e'.out er'.out hK rl k
  exact ⟨rfl, Lib.hid ⟨L', vo', it', tk', z⟩⟩

set_option maxHeartbeats 4000000 in
theorem cstep_early (h : Cg w1 w rg B base c cb pb nb ib K L t R P vo ob nx it tk iv ins) {p : Nat} (hp : p < 4) {d : Dir} {s : GS} (e : P p = some (d, s)) {R' : Rg} (er : gstep c R d s = (R', .early)) (hK : K + 1 ≤ 100000) (more : Bool) :
    Calls Try.prog 62 #[.pointer (some ⟨cb, 0, none⟩), .int .i64 (p : Int), .bool more] w fun e w' => e = .returned (.tuple #[]) ∧ Hid (∃ L' vo' it' tk', Cg w1 w' rg B base c cb pb nb ib (K + 1) L' (t + 1) R' (upd P p none) vo' ob nx it' tk' iv ins) := by
  have sp := Lib.hid (h.stepP hp e er)
  rw [show (osR d GR.early).isO = true from rfl] at sp
  have h' := Lib.hid h
  have e' := Lib.hid e
  have er' := Lib.hid er
  have p3 : (p : Int) < 4 := by omega
  have hp' := Lib.hid hp
  have hd : ((d.early : Int) == 1) = false := by cases d <;> rfl
  obtain ⟨c0, c1, c2, c3, c4, c5⟩ := h.cw.cells
  have pc := h.pcell hp e
  clear h e er hp
  go_enter Try.func62, Try.ntmps62
  go_wp2_with (first
    | (go_at_call 84; (with_reducible refine (sp.out).mono ?_); rintro e w4 ⟨rfl, k4⟩; obtain ⟨L4, rl4, q4, m4⟩ := k4.out; clear c0 c1 c2 c3 c4 c5 pc; obtain ⟨c0, c1, c2, c3, c4, c5⟩ := m4.cells; obtain ⟨pc, pf⟩ := m4.pc p hp'.out; rw [upd_same] at pc; simp only [opv] at pc; have oc := Lib.hid (show Calls Try.prog 85 #[.pointer (some ⟨ob p, 0, none⟩)] w4 (fun e w' => e = .returned (.int .i64 (d.early : Int)) ∧ w4 = w') from outcomeO q4.op))
    | (go_at_call 85; (with_reducible refine (oc.out).mono ?_); rintro e w5 ⟨rfl, rfl⟩))
  go_end0
  have m5 := m4.drop p
  rw [poG_drop] at m5
  obtain ⟨vo', it', tk', z⟩ := h'.out.early hp'.out e'.out er'.out hK rl4 m5
  exact ⟨rfl, Lib.hid ⟨L4, vo', it', tk', z⟩⟩
end
end Go.Proofs.Ytfhbgabblegecaa.Gt
