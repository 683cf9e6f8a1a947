/- A crowd at a gate: what a step does that appends nothing. -/
import Derived.Test.YtfhbgabblegecaaGtCb
import Derived.Test.YtfhbgabblegecaaGtG
import Derived.Deep.RegionHeld3
import Derived.Deep.RegionLaw
import Derived.Deep.DeepCutAuto
namespace Go.Proofs.Ytfhbgabblegecaa.Gt
open Go.RowKit

def poG (P : Nat → Option (Dir × GS)) (ob : Nat → Nat) (p : Nat) : Option (Nat × OS) := match P p with
  | some (d, s) => some (ob p, os d s)
  | none => none
theorem poG_some {P : Nat → Option (Dir × GS)} {ob : Nat → Nat} {p : Nat} {d : Dir} {s : GS} (h : P p = some (d, s)) : poG P ob p = some (ob p, os d s) := by unfold poG; rw [h]
theorem poG_none {P : Nat → Option (Dir × GS)} {ob : Nat → Nat} {p : Nat} (h : P p = none) : poG P ob p = none := by unfold poG; rw [h]
theorem poG_on (P : Nat → Option (Dir × GS)) (ob : Nat → Nat) (p : Nat) (d : Dir) (s : GS) : upd (poG P ob) p (some (ob p, os d s)) = poG (upd P p (some (d, s))) ob := by
  funext q
  by_cases g : q = p
  · subst g; rw [upd_same, poG_some (upd_same _ _ _)]
  · rw [upd_other _ _ _ _ g]; unfold poG; rw [upd_other _ _ _ _ g]
theorem poG_drop (P : Nat → Option (Dir × GS)) (ob : Nat → Nat) (p : Nat) (x : Option (Nat × OS)) : upd (upd (poG P ob) p x) p none = poG (upd P p none) ob := by
  funext q
  by_cases g : q = p
  · subst g; rw [upd_same, poG_none (upd_same _ _ _)]
  · rw [upd_other _ _ _ _ g, upd_other _ _ _ _ g]; unfold poG; rw [upd_other _ _ _ _ g]
theorem poG_new (P : Nat → Option (Dir × GS)) (ob : Nat → Nat) (p n : Nat) (d : Dir) (s : GS) : upd (poG P ob) p (some (n, os d s)) = poG (upd P p (some (d, s))) (upd ob p n) := by
  funext q
  by_cases g : q = p
  · subst g; rw [upd_same, poG_some (upd_same _ _ _), upd_same]
  · rw [upd_other _ _ _ _ g]; unfold poG; rw [upd_other _ _ _ _ g, upd_other _ _ _ _ g]
theorem upd_upd {α : Type} (f : Nat → α) (p : Nat) (x y : α) : upd (upd f p x) p y = upd f p y := by
  funext q
  by_cases g : q = p
  · subst g; rw [upd_same, upd_same]
  · rw [upd_other _ _ _ _ g, upd_other _ _ _ _ g, upd_other _ _ _ _ g]

/-- All that there is of a crowd. -/
structure Cg (w1 w : World) (rg B base c cb pb nb ib K : Nat) (L : List Int) (t : Int) (R : Rg) (P : Nat → Option (Dir × GS)) (vo : Nat → Int) (ob : Nat → Nat) (nx : Nat → Nat) (it : List Nat) (tk : Nat → List Nat) (iv : Nat → Value) (ins : Nat → List Int) : Prop where
  cw : Cw w1 w rg B base c cb pb nb ib L t (poG P ob) (fun p => (nx p : Int)) iv ins
  rl : RgL c R L
  cs : CS c R P vo nx it tk ins
  tl : R.tail ≤ K
  tm : t ≤ 1000 + (K : Int)
  nxb : ∀ p, nx p ≤ K
  inb : ∀ q, (ins q).length ≤ K
  hc : c ≤ 8
  kb : K ≤ 100000

theorem gstep_tail (c : Nat) (R : Rg) (d : Dir) (s : GS) : (gstep c R d s).1.tail ≤ R.tail + 1 := by
  cases s with
  | q0 => exact Nat.le_succ _
  | q1 t => simp only [gstep]; split <;> (try split) <;> exact Nat.le_succ _
  | q2 t =>
    simp only [gstep]; split
    · rename_i h; cases d with
      | put v => have : R.tail = t := h; show t + 1 ≤ _; omega
      | take => exact Nat.le_succ _
    · exact Nat.le_succ _
  | q3 t => cases d <;> exact Nat.le_succ _
  | q4 t x => exact Nat.le_succ _

section
variable {w1 w w4 : World} {rg B base c cb pb nb ib K : Nat} {L : List Int} {t : Int} {R : Rg} {P : Nat → Option (Dir × GS)} {vo : Nat → Int} {ob : Nat → Nat} {nx : Nat → Nat} {it : List Nat} {tk : Nat → List Nat} {iv : Nat → Value} {ins : Nat → List Int}
theorem Cg.small (h : Cg w1 w rg B base c cb pb nb ib K L t R P vo ob nx it tk iv ins) {p : Nat} {d : Dir} {s : GS} (e : P p = some (d, s)) : s.tk 4611686018427387000 := by
  have hI := h.cs.gi.op p d s e
  have hht := h.cs.gi.ht
  have htl := h.tl
  have hkb := h.kb
  have hc : cntOf R d ≤ 100000 := by cases d <;> simp only [cntOf] <;> omega
  cases s with
  | q0 => trivial
  | q1 t => have : t ≤ cntOf R d := hI; show t ≤ _; omega
  | q2 t => have : t ≤ cntOf R d := hI.1; show t ≤ _; omega
  | q3 t => have : t < cntOf R d := hI.1; show t ≤ _; omega
  | q4 t x => have : t < cntOf R d := hI.1; show t ≤ _; omega
/-- The step of one's operation. -/
theorem Cg.stepP (h : Cg w1 w rg B base c cb pb nb ib K L t R P vo ob nx it tk iv ins) {p : Nat} (hp : p < 4) {d : Dir} {s : GS} (e : P p = some (d, s)) {R' : Rg} {r : GR} (er : gstep c R d s = (R', r)) :
    Calls Try.prog 84 #[.pointer (some ⟨ob p, 0, none⟩)] w fun e w' =>
      e = .returned (.bool (osR d r).isO) ∧ Hid (∃ L' , RgL c R' L' ∧ Op1 w1 w' (ob p) rg (B + 1) B (osR d r) ∧ Cw w1 w' rg B base c cb pb nb ib L' (t + 1) (upd (poG P ob) p (some (ob p, osR d r))) (fun p => (nx p : Int)) iv ins) := by
  have hop := h.cw.core.op p (ob p) (os d s) hp (poG_some e)
  obtain ⟨rl', es⟩ := link h.rl h.cs.gi.pos d s (h.small e)
  rw [er] at rl' es
  refine (h.cw.core.lw.step hop (by have := h.tm; have := h.kb; omega)).mono ?_
  rintro e5 w5 ⟨rfl, l5, q5, o5⟩
  have et : stepT (os d s) t = t + 1 := by unfold stepT; rw [os_isO]; rfl
  rw [et] at l5
  rw [es] at q5 ⊢
  exact ⟨rfl, Lib.hid ⟨_, rl', q5, h.cw.step hp (poG_some e) l5 q5 o5⟩⟩
theorem Cg.pcell (h : Cg w1 w rg B base c cb pb nb ib K L t R P vo ob nx it tk iv ins) {p : Nat} (hp : p < 4) {d : Dir} {s : GS} (e : P p = some (d, s)) : w.cell? ⟨pb, p, none⟩ = some (.pointer (some ⟨ob p, 0, none⟩)) := by
  have := (h.cw.pc p hp).1
  rwa [poG_some e] at this
theorem Cg.pnone (h : Cg w1 w rg B base c cb pb nb ib K L t R P vo ob nx it tk iv ins) {p : Nat} (hp : p < 4) (e : P p = none) : w.cell? ⟨pb, p, none⟩ = some (.pointer none) := by
  have := (h.cw.pc p hp).1
  rwa [poG_none e] at this
/-- One goes on. -/
theorem Cg.on (h : Cg w1 w rg B base c cb pb nb ib K L t R P vo ob nx it tk iv ins) {p : Nat} (hp : p < 4) {d : Dir} {s s' : GS} (e : P p = some (d, s)) {R' : Rg} (er : gstep c R d s = (R', .on s')) (hK : K + 1 ≤ 100000) {L' : List Int} (rl : RgL c R' L')
    (k : Cw w1 w4 rg B base c cb pb nb ib L' (t + 1) (upd (poG P ob) p (some (ob p, osR d (.on s')))) (fun p => (nx p : Int)) iv ins) :
    ∃ vo' it' tk', Cg w1 w4 rg B base c cb pb nb ib (K + 1) L' (t + 1) R' (upd P p (some (d, s'))) vo' ob nx it' tk' iv ins := by
  obtain ⟨it', tk', hs⟩ := h.cs.step e hp
  have htl := gstep_tail c R d s
  rw [er] at hs htl
  have hs2 : CS c R' (upd P p (some (d, s'))) (voN R vo d s) nx it' tk' ins := hs
  refine ⟨_, it', tk', by rw [← poG_on]; exact k, rl, hs2, by have := h.tl; simp only at htl; omega, by have := h.tm; omega, fun q => by have := h.nxb q; omega, fun q => by have := h.inb q; omega, h.hc, hK⟩
/-- One is over, and has done nothing. -/
theorem Cg.early (h : Cg w1 w rg B base c cb pb nb ib K L t R P vo ob nx it tk iv ins) {p : Nat} (hp : p < 4) {d : Dir} {s : GS} (e : P p = some (d, s)) {R' : Rg} (er : gstep c R d s = (R', .early)) (hK : K + 1 ≤ 100000) {L' : List Int} (rl : RgL c R' L')
    (k : Cw w1 w4 rg B base c cb pb nb ib L' (t + 1) (poG (upd P p none) ob) (fun p => (nx p : Int)) iv ins) :
    ∃ vo' it' tk', Cg w1 w4 rg B base c cb pb nb ib (K + 1) L' (t + 1) R' (upd P p none) vo' ob nx it' tk' iv ins := by
  obtain ⟨it', tk', hs⟩ := h.cs.step e hp
  have htl := gstep_tail c R d s
  rw [er] at hs htl
  have hs2 : CS c R' (upd P p none) (voN R vo d s) nx it' tk' ins := hs
  refine ⟨_, it', tk', k, rl, hs2, by have := h.tl; simp only at htl; omega, by have := h.tm; omega, fun q => by have := h.nxb q; omega, fun q => by have := h.inb q; omega, h.hc, hK⟩
/-- One is done. -/
theorem Cg.done (h : Cg w1 w rg B base c cb pb nb ib K L t R P vo ob nx it tk iv ins) {p : Nat} (hp : p < 4) {d : Dir} {s : GS} (e : P p = some (d, s)) {R' : Rg} {x : Int} (er : gstep c R d s = (R', .done x)) (hK : K + 1 ≤ 100000) {L' : List Int} (rl : RgL c R' L') {iv' : Nat → Value}
    (k : Cw w1 w4 rg B base c cb pb nb ib L' (t + 1) (poG (upd P p none) ob) (fun p => (nx p : Int)) iv' (insN ins nx p x)) :
    ∃ vo' it' tk', Cg w1 w4 rg B base c cb pb nb ib (K + 1) L' (t + 1) R' (upd P p none) vo' ob nx it' tk' iv' (insN ins nx p x) := by
  obtain ⟨it', tk', hs⟩ := h.cs.step e hp
  have htl := gstep_tail c R d s
  rw [er] at hs htl
  have hs2 : CS c R' (upd P p none) (voN R vo d s) nx it' tk' (insN ins nx p x) := hs
  refine ⟨_, it', tk', k, rl, hs2, by have := h.tl; simp only at htl; omega, by have := h.tm; omega, fun q => by have := h.nxb q; omega, fun q => ?_, h.hc, hK⟩
  have key : ∀ r (y : Int), (upd ins r (ins r ++ [y]) q).length ≤ K + 1 := fun r y => by
    by_cases g : q = r
    · subst g; rw [upd_same]; have := h.inb q; simp; omega
    · rw [upd_other _ _ _ _ g]; have := h.inb q; omega
  unfold insN
  split
  · exact key 0 _
  · exact key (p - 1) _
/-- One is begun. -/
theorem Cg.begin (h : Cg w1 w rg B base c cb pb nb ib K L t R P vo ob nx it tk iv ins) {p : Nat} (hp : p < 4) (e : P p = none) (hK : K + 1 ≤ 100000) {n : Nat}
    (k : Cw w1 w4 rg B base c cb pb nb ib L t (upd (poG P ob) p (some (n, .s0 (if p < 2 then .put (num p (nx p + 1)) else .take)))) (fun q => (((if p < 2 then upd nx p (nx p + 1) else nx) q : Nat) : Int)) iv ins) :
    Cg w1 w4 rg B base c cb pb nb ib (K + 1) L t R (upd P p (some (if p < 2 then .put (num p (nx p + 1)) else .take, .q0))) vo (upd ob p n) (if p < 2 then upd nx p (nx p + 1) else nx) it tk iv ins := by
  refine ⟨by rw [← poG_new]; exact k, h.rl, h.cs.begin e hp (by have := h.nxb p; omega), by have := h.tl; omega, by have := h.tm; omega, fun q => ?_, fun q => by have := h.inb q; omega, h.hc, hK⟩
  have := h.nxb q
  split
  · by_cases g : q = p
    · subst g; rw [upd_same]; omega
    · rw [upd_other _ _ _ _ g]; omega
  · omega
end
end Go.Proofs.Ytfhbgabblegecaa.Gt
