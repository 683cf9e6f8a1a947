/- PostHeld: what the cells hold. -/
import Derived.Test.YtmkcmncbiancgaaPoP
import Derived.Test.YtmkcmncbiancgaaRowA
namespace Go.Proofs.Ytmkcmncbiancgaa.Po
open Go.RowKit Go.Proofs.Ytmkcmncbiancgaa

def hdL (A : BA) : Nat → List Int
  | 0 => nxt A 3 (playL (zeros 30) 0 8 4) (.set true)
  | i + 1 => nxt A 6 (hdL A i) (.put false (.put0 (i : Int)))
theorem hd_set (bx mg ng hb rb : Nat) : PRuns ⟨bx, mg, ng, hb, rb, 0, 8, 4⟩ 3 (playL (zeros 30) 0 8 4) (.set true) (hdL ⟨bx, mg, ng, hb, rb, 0, 8, 4⟩ 0) (.over 4 0) := prun_of (by kernel_rfl)
theorem hd_tell (bx mg ng hb rb : Nat) (i : Nat) (hi : i < 7) : PRuns ⟨bx, mg, ng, hb, rb, 0, 8, 4⟩ 6 (hdL ⟨bx, mg, ng, hb, rb, 0, 8, 4⟩ i) (.put false (.put0 (i : Int))) (hdL ⟨bx, mg, ng, hb, rb, 0, 8, 4⟩ (i + 1)) (.over 1 0) := by
  match i, hi with
  | 0, _ => exact prun_of (by kernel_rfl)
  | 1, _ => exact prun_of (by kernel_rfl)
  | 2, _ => exact prun_of (by kernel_rfl)
  | 3, _ => exact prun_of (by kernel_rfl)
  | 4, _ => exact prun_of (by kernel_rfl)
  | 5, _ => exact prun_of (by kernel_rfl)
  | 6, _ => exact prun_of (by kernel_rfl)
  | i + 7, h => omega
def hdP (A : BA) (i : Nat) (v : Int) : List Int := nxt A 7 (hdL A i) (.put true (.put0 v))
def hdQ (A : BA) (i : Nat) (v : Int) : List Int := nxt A 6 (hdP A i v) (.put true (.put0 v))
def hdB (A : BA) (i : Nat) (v : Int) : List Int := nxt A 1 (hdQ A i v) (.stand 2)
def hdN (A : BA) (i : Nat) (v : Int) : List Int := nxt A 5 (hdB A i v) (.whole true .take0)
def hdE (A : BA) (i : Nat) (v : Int) : List Int := nxt A 4 (hdN A i v) (.set true)
def hdM (A : BA) (i : Nat) (v : Int) : List Int := nxt A 5 (hdN A i v) (.whole true .take0)
def hdF (A : BA) (i : Nat) (v : Int) : List Int := nxt A (if i = 0 then 5 else 6) (hdM A i v) (.set false)
/-- All that comes behind the Tells. -/
def HdAll (A : BA) (i : Nat) (v : Int) : Prop :=
  PRuns A 7 (hdL A i) (.put true (.put0 v)) (hdP A i v) (.over 7 0) ∧ PRuns A 6 (hdP A i v) (.put true (.put0 v)) (hdQ A i v) (.over 1 0) ∧ (hdQ A i v).getD 0 0 = 1 ∧
  PRuns A 1 (hdQ A i v) (.stand 2) (hdB A i v) (.over 1 0) ∧ PRuns A 5 (hdB A i v) (.whole true .take0) (hdN A i v) (.over 1 v) ∧ PRuns A 4 (hdN A i v) (.set true) (hdE A i v) (.over 8 0) ∧
  PRuns A 5 (hdN A i v) (.whole true .take0) (hdM A i v) (.over 1 v) ∧ PRuns A (if i = 0 then 5 else 6) (hdM A i v) (.set false) (hdF A i v) (.over (if i = 0 then 4 else 8) 0)
theorem hd_all (bx mg ng hb rb : Nat) (v : Int) (i : Nat) (hi : i < 8) : HdAll ⟨bx, mg, ng, hb, rb, 0, 8, 4⟩ i v := by
  match i, hi with
  | 0, _ => exact ⟨prun_of (by kernel_rfl), prun_of (by kernel_rfl), by kernel_rfl, prun_of (by kernel_rfl), prun_of (by kernel_rfl), prun_of (by kernel_rfl), prun_of (by kernel_rfl), prun_of (by kernel_rfl)⟩
  | 1, _ => exact ⟨prun_of (by kernel_rfl), prun_of (by kernel_rfl), by kernel_rfl, prun_of (by kernel_rfl), prun_of (by kernel_rfl), prun_of (by kernel_rfl), prun_of (by kernel_rfl), prun_of (by kernel_rfl)⟩
  | 2, _ => exact ⟨prun_of (by kernel_rfl), prun_of (by kernel_rfl), by kernel_rfl, prun_of (by kernel_rfl), prun_of (by kernel_rfl), prun_of (by kernel_rfl), prun_of (by kernel_rfl), prun_of (by kernel_rfl)⟩
  | 3, _ => exact ⟨prun_of (by kernel_rfl), prun_of (by kernel_rfl), by kernel_rfl, prun_of (by kernel_rfl), prun_of (by kernel_rfl), prun_of (by kernel_rfl), prun_of (by kernel_rfl), prun_of (by kernel_rfl)⟩
  | 4, _ => exact ⟨prun_of (by kernel_rfl), prun_of (by kernel_rfl), by kernel_rfl, prun_of (by kernel_rfl), prun_of (by kernel_rfl), prun_of (by kernel_rfl), prun_of (by kernel_rfl), prun_of (by kernel_rfl)⟩
  | 5, _ => exact ⟨prun_of (by kernel_rfl), prun_of (by kernel_rfl), by kernel_rfl, prun_of (by kernel_rfl), prun_of (by kernel_rfl), prun_of (by kernel_rfl), prun_of (by kernel_rfl), prun_of (by kernel_rfl)⟩
  | 6, _ => exact ⟨prun_of (by kernel_rfl), prun_of (by kernel_rfl), by kernel_rfl, prun_of (by kernel_rfl), prun_of (by kernel_rfl), prun_of (by kernel_rfl), prun_of (by kernel_rfl), prun_of (by kernel_rfl)⟩
  | 7, _ => exact ⟨prun_of (by kernel_rfl), prun_of (by kernel_rfl), by kernel_rfl, prun_of (by kernel_rfl), prun_of (by kernel_rfl), prun_of (by kernel_rfl), prun_of (by kernel_rfl), prun_of (by kernel_rfl)⟩
  | i + 8, h => omega
end Go.Proofs.Ytmkcmncbiancgaa.Po
