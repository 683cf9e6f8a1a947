/- A gang at a deque: all that there is of it. -/
import Derived.Test.YtokopocldicnmaaDqCb
import Derived.Deep.RegionHeld3
import Derived.Deep.RegionLaw
import Derived.Deep.DeepCutAuto
namespace Go.Proofs.Ytokopocldicnmaa.Dq
open Go.RowKit

def poG (ow : Option OS) (th : Nat → Option OS) (ob : Nat → Nat) : Nat → Option (Nat × OS)
  | 0 => ow.map fun s => (ob 0, s)
  | p + 1 => (th p).map fun s => (ob (p + 1), s)
theorem upd_upd {α : Type} (f : Nat → α) (p : Nat) (x y : α) : upd (upd f p x) p y = upd f p y := by
  funext q
  by_cases g : q = p
  · subst g; rw [upd_same, upd_same]
  · rw [upd_other _ _ _ _ g, upd_other _ _ _ _ g, upd_other _ _ _ _ g]
theorem poG_on0 (ow : Option OS) (th : Nat → Option OS) (ob : Nat → Nat) (x : Option OS) : upd (poG ow th ob) 0 (x.map fun s => (ob 0, s)) = poG x th ob := by
  funext q
  cases q with
  | zero => rw [upd_same]; rfl
  | succ q => rw [upd_other _ _ _ _ (by omega)]; rfl
theorem poG_onT (ow : Option OS) (th : Nat → Option OS) (ob : Nat → Nat) (i : Nat) (x : Option OS) : upd (poG ow th ob) (i + 1) (x.map fun s => (ob (i + 1), s)) = poG ow (upd th i x) ob := by
  funext q
  cases q with
  | zero => rw [upd_other _ _ _ _ (by omega)]; rfl
  | succ q =>
    by_cases g : q = i
    · subst g; rw [upd_same]; simp only [poG, upd_same]
    · rw [upd_other _ _ _ _ (by omega)]; simp only [poG, upd_other _ _ _ _ g]
theorem poG_new0 (ow : Option OS) (th : Nat → Option OS) (ob : Nat → Nat) (n : Nat) (s : OS) : upd (poG ow th ob) 0 (some (n, s)) = poG (some s) th (upd ob 0 n) := by
  funext q
  cases q with
  | zero => rw [upd_same]; simp only [poG, upd_same, Option.map_some]
  | succ q => rw [upd_other _ _ _ _ (by omega)]; simp only [poG]; rw [upd_other _ _ _ _ (by omega)]
theorem poG_newT (ow : Option OS) (th : Nat → Option OS) (ob : Nat → Nat) (i n : Nat) (s : OS) : upd (poG ow th ob) (i + 1) (some (n, s)) = poG ow (upd th i (some s)) (upd ob (i + 1) n) := by
  funext q
  cases q with
  | zero => rw [upd_other _ _ _ _ (by omega)]; simp only [poG]; rw [upd_other _ _ _ _ (by omega)]
  | succ q =>
    by_cases g : q = i
    · subst g; rw [upd_same]; simp only [poG, upd_same, Option.map_some]
    · rw [upd_other _ _ _ _ (by omega)]; simp only [poG]; rw [upd_other _ _ _ _ g, upd_other _ _ _ _ (by omega)]

/-- All that there is of a gang. -/
structure Gg (w1 w : World) (rg B base c gb tb K : Nat) (L : List Int) (t : Int) (T X : Nat) (f : Nat → Int) (ow : Option OS) (th : Nat → Option OS) (ob : Nat → Nat) (psh : Bool) (nx : Nat) (iv : Nat → Value) (ins : Nat → List Int) (lost most : Int) : Prop where
  gw : Gw w1 w rg B base c gb tb L t (poG ow th ob) psh (nx : Int) iv ins lost most
  di : DI c L T X f (nx : Int) ow th (ins 0) (ins 1) (ins 2)
  ps : ∀ s, ow = some s → psh = pushing ow
  ms : 0 ≤ most ∧ most ≤ c
  lo : 0 ≤ lost ∧ lost ≤ (K : Int)
  tm : t ≤ 1000 + (K : Int)
  nxb : nx ≤ K
  inb : ∀ q, (ins q).length ≤ K
  xb : X ≤ K + 1
  hc : c ≤ 8
  kb : K ≤ 100000

section
variable {w1 w w4 : World} {rg B base c gb tb K : Nat} {L : List Int} {t : Int} {T X : Nat} {f : Nat → Int} {ow : Option OS} {th : Nat → Option OS} {ob : Nat → Nat} {psh : Bool} {nx : Nat} {iv : Nat → Value} {ins : Nat → List Int} {lost most : Int}
theorem own_on {c : Nat} {L : List Int} {T X : Nat} {f : Nat → Int} {nx : Int} {s : OS} (h : OwnOk c L T X f nx (some s)) : s.isO = false := by cases s <;> first | rfl | exact h.elim
theorem th_on {T X : Nat} {f : Nat → Int} {s : OS} (h : ThOk T X f s) : s.isO = false := by cases s <;> first | rfl | exact h.elim
/-- The step of the owner's operation. -/
theorem Gg.step0 (h : Gg w1 w rg B base c gb tb K L t T X f ow th ob psh nx iv ins lost most) {s : OS} (e : ow = some s) :
    Calls Try.prog 53 #[.pointer (some ⟨ob 0, 0, none⟩)] w fun e w' =>
      e = .returned (.bool (stepS 0 c L s).isO) ∧ Hid (Op1 w1 w' (ob 0) rg (B + 1) B (stepS 0 c L s) ∧ Gw w1 w' rg B base c gb tb (stepL 0 c L s) (t + 1) (poG (some (stepS 0 c L s)) th ob) psh (nx : Int) iv ins lost most) := by
  subst e
  have ep : poG (some s) th ob 0 = some (ob 0, s) := rfl
  have hop := h.gw.core.op 0 (ob 0) s (by decide) ep
  refine (h.gw.core.lw.step hop (by have := h.tm; have := h.kb; omega)).mono ?_
  rintro e5 w5 ⟨rfl, l5, q5, o5⟩
  have et : stepT s t = t + 1 := by unfold stepT; rw [own_on h.di.own]; rfl
  rw [et] at l5
  have k := h.gw.step (by decide) ep l5 q5 o5
  rw [show (some (ob 0, stepS 0 c L s)) = ((some (stepS 0 c L s)).map fun s => (ob 0, s)) from rfl, poG_on0] at k
  exact ⟨rfl, Lib.hid ⟨q5, k⟩⟩
/-- The step of a thief's operation. -/
theorem Gg.stepT (h : Gg w1 w rg B base c gb tb K L t T X f ow th ob psh nx iv ins lost most) {i : Nat} (hi : i < 2) {s : OS} (e : th i = some s) :
    Calls Try.prog 53 #[.pointer (some ⟨ob (i + 1), 0, none⟩)] w fun e w' =>
      e = .returned (.bool (stepS 0 c L s).isO) ∧ Hid (Op1 w1 w' (ob (i + 1)) rg (B + 1) B (stepS 0 c L s) ∧ Gw w1 w' rg B base c gb tb (stepL 0 c L s) (t + 1) (poG ow (upd th i (some (stepS 0 c L s))) ob) psh (nx : Int) iv ins lost most) := by
  have ep : poG ow th ob (i + 1) = some (ob (i + 1), s) := by simp only [poG, e, Option.map_some]
  have hop := h.gw.core.op (i + 1) (ob (i + 1)) s (by omega) ep
  refine (h.gw.core.lw.step hop (by have := h.tm; have := h.kb; omega)).mono ?_
  rintro e5 w5 ⟨rfl, l5, q5, o5⟩
  have et : Dq.stepT s t = t + 1 := by unfold Dq.stepT; rw [th_on (h.di.th i s hi e)]; rfl
  rw [et] at l5
  have k := h.gw.step (by omega) ep l5 q5 o5
  rw [show (some (ob (i + 1), stepS 0 c L s)) = ((some (stepS 0 c L s)).map fun s => (ob (i + 1), s)) from rfl, poG_onT] at k
  exact ⟨rfl, Lib.hid ⟨q5, k⟩⟩
theorem Gg.c1 (h : Gg w1 w rg B base c gb tb K L t T X f ow th ob psh nx iv ins lost most) {s : OS} (e : ow = some s) : w.cell? ⟨gb, 1, none⟩ = some (.pointer (some ⟨ob 0, 0, none⟩)) := by
  have := (h.gw.cell 1 (by decide)).1
  subst e; exact this
theorem Gg.c1n (h : Gg w1 w rg B base c gb tb K L t T X f ow th ob psh nx iv ins lost most) (e : ow = none) : w.cell? ⟨gb, 1, none⟩ = some (.pointer none) := by
  have := (h.gw.cell 1 (by decide)).1
  subst e; exact this
theorem Gg.tcs (h : Gg w1 w rg B base c gb tb K L t T X f ow th ob psh nx iv ins lost most) {i : Nat} (hi : i < 2) {s : OS} (e : th i = some s) : w.cell? ⟨tb, i, none⟩ = some (.pointer (some ⟨ob (i + 1), 0, none⟩)) := by
  have := (h.gw.tc i hi).1
  simpa only [poG, e, Option.map_some, opv] using this
theorem Gg.tcn (h : Gg w1 w rg B base c gb tb K L t T X f ow th ob psh nx iv ins lost most) {i : Nat} (hi : i < 2) (e : th i = none) : w.cell? ⟨tb, i, none⟩ = some (.pointer none) := by
  have := (h.gw.tc i hi).1
  simpa only [poG, e, Option.map_none, opv] using this
/-- How many are in. -/
theorem DI.count {c : Nat} {L : List Int} {T X : Nat} {f : Nat → Int} {nx : Int} {th : Nat → Option OS} {I P S : List Int} (h : DI c L T X f nx none th I P S) : (I.length : Int) - P.length - S.length = ((X - T : Nat) : Int) ∧ X - T ≤ c := by
  have := h.perm.length_eq
  simp only [List.length_append, held, List.length_nil, live_length] at this
  have h2 := h.TX
  have h3 := h.cap
  omega
end
end Go.Proofs.Ytokopocldicnmaa.Dq
