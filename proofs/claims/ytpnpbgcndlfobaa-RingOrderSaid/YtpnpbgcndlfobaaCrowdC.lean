/- A crowd: what a step of who puts does. -/
import Derived.Test.YtpnpbgcndlfobaaCrowdB
import Derived.Test.YtpnpbgcndlfobaaRingC
import Derived.Deep.RegionHeld3
import Derived.Deep.RegionLaw
import Derived.Deep.DeepCutAuto
namespace Go.Proofs.Ytpnpbgcndlfobaa
open Go.RowKit

def pidc (x : Int) : Nat := (x / 4294967296).toNat
def Qc (x : Int) : Prop := 0 ≤ x ∧ x < 12884901888
/-- How many steps a Take has made, where it stands. -/
def idx : TS → Int
  | .t0 => 0
  | .t1 _ => 1
  | .t2 _ => 2
  | .t3 _ _ => 3
  | .t4 _ _ => 4
def poOf (P : Nat → Option (PS × Int)) (ob : Nat → Nat) (p : Nat) : Option (Nat × OS) := match P p with
  | some (s, v) => some (ob p, osP v s)
  | none => none
def toOf (T : Option TS) (tb : Nat) : Option (Nat × OS) := match T with
  | some s => some (tb, osT s)
  | none => none
theorem poOf_some {P : Nat → Option (PS × Int)} {ob : Nat → Nat} {p : Nat} {s : PS} {v : Int} (h : P p = some (s, v)) : poOf P ob p = some (ob p, osP v s) := by unfold poOf; rw [h]
theorem poOf_none {P : Nat → Option (PS × Int)} {ob : Nat → Nat} {p : Nat} (h : P p = none) : poOf P ob p = none := by unfold poOf; rw [h]
theorem poOf_on (P : Nat → Option (PS × Int)) (ob : Nat → Nat) (p : Nat) (s : PS) (v : Int) : upd (poOf P ob) p (some (ob p, osP v s)) = poOf (upd P p (some (s, v))) ob := by
  funext q
  by_cases g : q = p
  · subst g; rw [upd_same, poOf_some (upd_same _ _ _)]
  · rw [upd_other _ _ _ _ g]; unfold poOf; rw [upd_other _ _ _ _ g]
theorem poOf_drop (P : Nat → Option (PS × Int)) (ob : Nat → Nat) (p : Nat) : upd (poOf P ob) p none = poOf (upd P p none) ob := by
  funext q
  by_cases g : q = p
  · subst g; rw [upd_same, poOf_none (upd_same _ _ _)]
  · rw [upd_other _ _ _ _ g]; unfold poOf; rw [upd_other _ _ _ _ g]
theorem poOf_drop2 (P : Nat → Option (PS × Int)) (ob : Nat → Nat) (p : Nat) (x : Option (Nat × OS)) : upd (upd (poOf P ob) p x) p none = poOf (upd P p none) ob := by
  rw [← poOf_drop]
  funext q
  by_cases g : q = p
  · subst g; rw [upd_same, upd_same]
  · rw [upd_other _ _ _ _ g, upd_other _ _ _ _ g, upd_other _ _ _ _ g]
theorem poOf_new (P : Nat → Option (PS × Int)) (ob : Nat → Nat) (p n : Nat) (s : PS) (v : Int) : upd (poOf P ob) p (some (n, osP v s)) = poOf (upd P p (some (s, v))) (upd ob p n) := by
  funext q
  by_cases g : q = p
  · subst g; rw [upd_same, poOf_some (upd_same _ _ _), upd_same]
  · rw [upd_other _ _ _ _ g]; unfold poOf; rw [upd_other _ _ _ _ g, upd_other _ _ _ _ g]
theorem pid_of {p : Nat} {n : Int} (hp : p < 3) (h0 : 0 ≤ n) (h1 : n < 4294967296) : pidc ((p : Int) * 4294967296 + n) = p ∧ Qc ((p : Int) * 4294967296 + n) := by
  unfold pidc Qc
  have : p = 0 ∨ p = 1 ∨ p = 2 := by omega
  rcases this with rfl | rfl | rfl <;> omega

/-- All that there is of a crowd. -/
structure Cr (w1 w : World) (rg B base c cb pb nb ib K : Nat) (L : List Int) (t : Int) (R : Rg) (P : Nat → Option (PS × Int)) (T : Option TS) (ob : Nat → Nat) (tb : Nat) (nx : Nat → Int) (iv : Nat → Value) (st : Int) (ta : Value) (mo : Int) (cnt : Nat) (ins : Nat → List Int) (taken : List Int) : Prop where
  cw : Cw w1 w rg B base c cb pb nb ib L t (poOf P ob) (toOf T tb) nx iv st ta mo (cnt : Int) ins taken
  rl : RgL c 0 R L
  sys : SysO c R P T ins taken cnt pidc Qc
  tl : R.tail ≤ K
  tm : t ≤ 1000 + (K : Int)
  nxb : ∀ p, p < 3 → 0 ≤ nx p ∧ nx p ≤ (K : Int)
  pv : ∀ p s v, P p = some (s, v) → p < 3 ∧ v = (p : Int) * 4294967296 + nx p
  ti : ∀ s, T = some s → st = idx s
  mo1 : (cnt : Int) ≤ mo
  mo2 : mo ≤ (c : Int)
  hc : 0 < c
  hc2 : c ≤ 8
  kb : K ≤ 100000
  st0 : 0 ≤ st
  st1 : st ≤ 100

theorem SysO.head_le {c : Nat} {R : Rg} {P : Nat → Option (PS × Int)} {T : Option TS} {ins : Nat → List Int} {taken : List Int} {cnt : Nat} {pid : Int → Nat} {Q : Int → Prop} (h : SysO c R P T ins taken cnt pid Q) : R.head ≤ R.tail ∧ taken.length = R.head ∧ ∀ q, (ins q).length ≤ R.tail := by
  obtain ⟨f, wr, vo, S, h1, h2, _⟩ := h
  have hf : R.head ≤ f := by
    have := S.take
    cases T with
    | none => have h : f = R.head := this; omega
    | some s => cases s <;> (have h := this; simp only [TInv] at h; omega)
  have := S.ring.le
  refine ⟨by omega, by rw [← h2]; simp, fun q => ?_⟩
  rw [← h1 q]
  unfold insN
  refine Nat.le_trans (List.length_filter_le _ _) ?_
  rw [List.length_map]
  refine Nat.le_trans (List.length_filter_le _ _) ?_
  simp

section
variable {w1 w w4 : World} {rg B base c cb pb nb ib K : Nat} {L : List Int} {t : Int} {R : Rg} {P : Nat → Option (PS × Int)} {T : Option TS} {ob : Nat → Nat} {tb : Nat} {nx : Nat → Int} {iv : Nat → Value} {st : Int} {ta : Value} {mo : Int} {cnt : Nat} {ins : Nat → List Int} {taken : List Int}
theorem Cr.nums (h : Cr w1 w rg B base c cb pb nb ib K L t R P T ob tb nx iv st ta mo cnt ins taken) : Nums 0 L := h.rl.nums (.inl rfl) (by have := h.tl; have := h.kb; omega) (by have := h.sys.head_le.1; have := h.tl; have := h.kb; omega)
/-- The step of who puts. -/
theorem Cr.stepP (h : Cr w1 w rg B base c cb pb nb ib K L t R P T ob tb nx iv st ta mo cnt ins taken) {p : Nat} (hp : p < 3) {s : PS} {v : Int} (e : P p = some (s, v)) {R' : Rg} {r : PR} (er : putStep c R v s = (R', r)) :
    Calls Try.prog 18 #[.pointer (some ⟨ob p, 0, none⟩)] w fun e w' =>
      e = .returned (.bool (osPR v r).isO) ∧ Hid (∃ L' , RgL c 0 R' L' ∧ Op1 w1 w' (ob p) rg (B + 1) B (osPR v r) ∧ Cw w1 w' rg B base c cb pb nb ib L' (t + 1) (upd (poOf P ob) p (some (ob p, osPR v r))) (toOf T tb) nx iv st ta mo (cnt : Int) ins taken) := by
  have hop := h.cw.core.op p (ob p) (osP v s) hp (poOf_some e)
  obtain ⟨rl', es⟩ := link_put h.rl h.hc (by have := h.tl; have := h.kb; omega) v s
  rw [er] at rl' es
  refine (h.cw.core.lw.step hop h.nums (by have := h.tm; have := h.kb; omega)).mono ?_
  rintro e5 w5 ⟨rfl, l5, q5, o5⟩
  have et : stepT (osP v s) t = t + 1 := by unfold stepT; rw [osP_isO]; rfl
  rw [et] at l5
  rw [es] at q5 ⊢
  exact ⟨rfl, Lib.hid ⟨_, rl', q5, h.cw.step hp (poOf_some e) l5 q5 o5⟩⟩
theorem Cr.pcell (h : Cr w1 w rg B base c cb pb nb ib K L t R P T ob tb nx iv st ta mo cnt ins taken) {p : Nat} (hp : p < 3) {s : PS} {v : Int} (e : P p = some (s, v)) : w.cell? ⟨pb, p, none⟩ = some (.pointer (some ⟨ob p, 0, none⟩)) := by
  have := (h.cw.pc p hp).1
  rwa [poOf_some e] at this
theorem Cr.pnone (h : Cr w1 w rg B base c cb pb nb ib K L t R P T ob tb nx iv st ta mo cnt ins taken) {p : Nat} (hp : p < 3) (e : P p = none) : w.cell? ⟨pb, p, none⟩ = some (.pointer none) := by
  have := (h.cw.pc p hp).1
  rwa [poOf_none e] at this

theorem putStep_tail (c : Nat) (R : Rg) (v : Int) (s : PS) : (putStep c R v s).1.tail ≤ R.tail + 1 := by
  cases s <;> simp only [putStep] <;> (try split) <;> (try split) <;> (try simp only) <;> omega
theorem Cr.on (h : Cr w1 w rg B base c cb pb nb ib K L t R P T ob tb nx iv st ta mo cnt ins taken) {p : Nat} (hp : p < 3) {s s' : PS} {v : Int} (e : P p = some (s, v)) {R' : Rg} (er : putStep c R v s = (R', .on s')) (hK : K + 1 ≤ 100000) {L' : List Int} (rl : RgL c 0 R' L')
    (k : Cw w1 w4 rg B base c cb pb nb ib L' (t + 1) (upd (poOf P ob) p (some (ob p, osPR v (.on s')))) (toOf T tb) nx iv st ta mo (cnt : Int) ins taken) :
    Cr w1 w4 rg B base c cb pb nb ib (K + 1) L' (t + 1) R' (upd P p (some (s', v))) T ob tb nx iv st ta mo cnt ins taken := by
  have hs := h.sys.put (p := p) (v := v) e
  rw [er] at hs
  have htl := putStep_tail c R v s
  rw [er] at htl
  refine ⟨by rw [← poOf_on]; exact k, rl, hs, by have := h.tl; simp only at htl; omega, by have := h.tm; omega, fun q hq => ⟨(h.nxb q hq).1, by have := (h.nxb q hq).2; omega⟩, ?_, h.ti, h.mo1, h.mo2, h.hc, h.hc2, hK, h.st0, h.st1⟩
  intro q s2 v2 e2
  by_cases g : q = p
  · subst g; rw [upd_same] at e2; simp at e2; rw [← e2.2]; exact h.pv q s v e
  · rw [upd_other _ _ _ _ g] at e2; exact h.pv q s2 v2 e2
theorem Cr.full (h : Cr w1 w rg B base c cb pb nb ib K L t R P T ob tb nx iv st ta mo cnt ins taken) {p : Nat} {s : PS} {v : Int} (e : P p = some (s, v)) {R' : Rg} (er : putStep c R v s = (R', .full)) (hK : K + 1 ≤ 100000) {L' : List Int} (rl : RgL c 0 R' L')
    (k : Cw w1 w4 rg B base c cb pb nb ib L' (t + 1) (poOf (upd P p none) ob) (toOf T tb) nx iv st ta mo (cnt : Int) ins taken) :
    Cr w1 w4 rg B base c cb pb nb ib (K + 1) L' (t + 1) R' (upd P p none) T ob tb nx iv st ta mo cnt ins taken := by
  have hs := h.sys.put (p := p) (v := v) e
  rw [er] at hs
  have htl := putStep_tail c R v s
  rw [er] at htl
  refine ⟨k, rl, hs, by have := h.tl; simp only at htl; omega, by have := h.tm; omega, fun q hq => ⟨(h.nxb q hq).1, by have := (h.nxb q hq).2; omega⟩, ?_, h.ti, h.mo1, h.mo2, h.hc, h.hc2, hK, h.st0, h.st1⟩
  intro q s2 v2 e2
  by_cases g : q = p
  · subst g; rw [upd_same] at e2; simp at e2
  · rw [upd_other _ _ _ _ g] at e2; exact h.pv q s2 v2 e2
theorem Cr.done (h : Cr w1 w rg B base c cb pb nb ib K L t R P T ob tb nx iv st ta mo cnt ins taken) {p : Nat} {s : PS} {v : Int} (e : P p = some (s, v)) {R' : Rg} {m : Nat} (er : putStep c R v s = (R', .done m)) (hK : K + 1 ≤ 100000) {L' : List Int} (rl : RgL c 0 R' L') {iv' : Nat → Value} {mo' : Int} (hm : mo' = max mo ((cnt : Int) + 1))
    (k : Cw w1 w4 rg B base c cb pb nb ib L' (t + 1) (poOf (upd P p none) ob) (toOf T tb) nx iv' st ta mo' ((cnt : Int) + 1) (upd ins p (ins p ++ [v])) taken) :
    Cr w1 w4 rg B base c cb pb nb ib (K + 1) L' (t + 1) R' (upd P p none) T ob tb nx iv' st ta mo' (cnt + 1) (upd ins p (ins p ++ [v])) taken := by
  have hs := h.sys.put (p := p) (v := v) e
  rw [er] at hs
  have hs2 : SysO c R' (upd P p none) T (upd ins p (ins p ++ [v])) taken (cnt + 1) pidc Qc := hs
  have htl := putStep_tail c R v s
  rw [er] at htl
  have hb := hs2.bound
  refine ⟨by rw [show ((cnt + 1 : Nat) : Int) = (cnt : Int) + 1 by omega]; exact k, rl, hs2, by have := h.tl; simp only at htl; omega, by have := h.tm; omega, fun q hq => ⟨(h.nxb q hq).1, by have := (h.nxb q hq).2; omega⟩, ?_, h.ti, by omega, by have := h.mo2; omega, h.hc, h.hc2, hK, h.st0, h.st1⟩
  intro q s2 v2 e2
  by_cases g : q = p
  · subst g; rw [upd_same] at e2; simp at e2
  · rw [upd_other _ _ _ _ g] at e2; exact h.pv q s2 v2 e2

set_option maxHeartbeats 4000000 in
theorem put_on (h : Cr w1 w rg B base c cb pb nb ib K L t R P T ob tb nx iv st ta mo cnt ins taken) {p : Nat} (hp : p < 3) {s s' : PS} {v : Int} (e : P p = some (s, v)) {R' : Rg} (er : putStep c R v s = (R', .on s')) (hK : K + 1 ≤ 100000) (more : Bool) :
    Calls Try.prog 49 #[.pointer (some ⟨cb, 0, none⟩), .int .i64 (p : Int), .bool more] w fun e w' => e = .returned (.tuple #[]) ∧ Hid (∃ L' : List Int, Cr w1 w' rg B base c cb pb nb ib (K + 1) L' (t + 1) R' (upd P p (some (s', v))) T ob tb nx iv st ta mo cnt ins taken) := by
  have sp := Lib.hid (h.stepP hp e er)
  rw [show (osPR v (PR.on s')).isO = false from osP_isO v s'] at sp
  have h' := Lib.hid h
  have e' := Lib.hid e
  have er' := Lib.hid er
  have p3 : (p : Int) < 3 := by omega
  have hp' := Lib.hid hp
  obtain ⟨c0, c1, c2, c3, c4, c5, c6, c7, c8⟩ := h.cw.cells
  have pc := h.pcell hp e
  clear h e er hp
  go_enter Try.func49, Try.ntmps49
  go_wp2_with (go_at_call 18; (with_reducible refine (sp.out).mono ?_); rintro e w4 ⟨rfl, k4⟩)
  go_end0
  obtain ⟨L', rl, _, k⟩ := k4.out
  exact ⟨rfl, Lib.hid ⟨L', h'.out.on hp'.out e'.out er'.out hK rl k⟩⟩

set_option maxHeartbeats 4000000 in
theorem put_full (h : Cr w1 w rg B base c cb pb nb ib K L t R P T ob tb nx iv st ta mo cnt ins taken) {p : Nat} (hp : p < 3) {s : PS} {v : Int} (e : P p = some (s, v)) {R' : Rg} (er : putStep c R v s = (R', .full)) (hK : K + 1 ≤ 100000) (more : Bool) :
    Calls Try.prog 49 #[.pointer (some ⟨cb, 0, none⟩), .int .i64 (p : Int), .bool more] w fun e w' => e = .returned (.tuple #[]) ∧ Hid (∃ L' : List Int, Cr w1 w' rg B base c cb pb nb ib (K + 1) L' (t + 1) R' (upd P p none) T ob tb nx iv st ta mo cnt ins taken) := by
  have sp := Lib.hid (h.stepP hp e er)
  rw [show (osPR v PR.full).isO = true from rfl] at sp
  have h' := Lib.hid h
  have e' := Lib.hid e
  have er' := Lib.hid er
  have p3 : (p : Int) < 3 := by omega
  have hp' := Lib.hid hp
  obtain ⟨c0, c1, c2, c3, c4, c5, c6, c7, c8⟩ := h.cw.cells
  have pc := h.pcell hp e
  clear h e er hp
  go_enter Try.func49, Try.ntmps49
  go_wp2_with (first
    | (go_at_call 18; (with_reducible refine (sp.out).mono ?_); rintro e w4 ⟨rfl, k4⟩; obtain ⟨L4, rl4, q4, m4⟩ := k4.out; clear c0 c1 c2 c3 c4 c5 c6 c7 c8 pc; obtain ⟨c0, c1, c2, c3, c4, c5, c6, c7, c8⟩ := m4.cells; obtain ⟨pc, pf⟩ := m4.pc p hp'.out; rw [upd_same] at pc; simp only [opv] at pc; have oc := Lib.hid (show Calls Try.prog 35 #[.pointer (some ⟨ob p, 0, none⟩)] w4 (fun e w' => e = .returned (.int .i64 2) ∧ w4 = w') from outcomeO q4.op))
    | (go_at_call 35; (with_reducible refine (oc.out).mono ?_); rintro e w5 ⟨rfl, rfl⟩))
  go_end0
  have m5 := m4.drop p
  rw [poOf_drop2] at m5
  exact ⟨rfl, Lib.hid ⟨L4, h'.out.full e'.out er'.out hK rl4 m5⟩⟩
end
end Go.Proofs.Ytpnpbgcndlfobaa
