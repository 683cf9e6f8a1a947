/- PostShuts: what the cells hold. -/
import Derived.Test.YtmkcmncbiancgaaPoP
namespace Go.Proofs.Ytmkcmncbiancgaa.Po
open Go.RowKit Go.Proofs.Ytmkcmncbiancgaa

def shL (A : BA) (f : Nat → Int) : Nat → List Int
  | 0 => playL (zeros 30) 0 8 4
  | i + 1 => nxt A (if i = 0 then 7 else 6) (shL A f i) (.put false (.put0 (f i)))
theorem sh_tell (bx mg ng hb rb : Nat) (f : Nat → Int) (i : Nat) (hi : i < 8) : PRuns ⟨bx, mg, ng, hb, rb, 0, 8, 4⟩ (if i = 0 then 7 else 6) (shL ⟨bx, mg, ng, hb, rb, 0, 8, 4⟩ f i) (.put false (.put0 (f i))) (shL ⟨bx, mg, ng, hb, rb, 0, 8, 4⟩ f (i + 1)) (.over (if i = 0 then 7 else 1) 0) := by
  match i, hi with
  | 0, _ => exact prun_of (by kernel_rfl)
  | 1, _ => exact prun_of (by kernel_rfl)
  | 2, _ => exact prun_of (by kernel_rfl)
  | 3, _ => exact prun_of (by kernel_rfl)
  | 4, _ => exact prun_of (by kernel_rfl)
  | 5, _ => exact prun_of (by kernel_rfl)
  | 6, _ => exact prun_of (by kernel_rfl)
  | 7, _ => exact prun_of (by kernel_rfl)
  | i + 8, h => omega
def shB (A : BA) (f : Nat → Int) (i : Nat) : List Int := nxt A 1 (shL A f i) (.stand 2)
def shC (A : BA) (f : Nat → Int) (i : Nat) : List Int := nxt A 2 (shB A f i) (.whole false .close0)
def shD (A : BA) (f : Nat → Int) (i : Nat) : Nat → List Int
  | 0 => shC A f i
  | j + 1 => nxt A 6 (shD A f i j) (.whole false .drain0)
def shE (A : BA) (f : Nat → Int) (i : Nat) : List Int := nxt A 2 (shD A f i i) (.whole false .drain0)
def shF (A : BA) (f : Nat → Int) (i : Nat) : List Int := nxt A 1 (shE A f i) (.stand 4)
def shG (A : BA) (f : Nat → Int) (i : Nat) (v : Int) : List Int := nxt A 6 (shF A f i) (.put true (.put0 v))
theorem sh_drain (bx mg ng hb rb : Nat) (f : Nat → Int) (n i : Nat) (hn : n < 9) (hi : i < n) : PRuns ⟨bx, mg, ng, hb, rb, 0, 8, 4⟩ 6 (shD ⟨bx, mg, ng, hb, rb, 0, 8, 4⟩ f n i) (.whole false .drain0) (shD ⟨bx, mg, ng, hb, rb, 0, 8, 4⟩ f n (i + 1)) (.over 1 (f i)) := by
  match n, i, hn, hi with
  | 1, 0, _, _ => exact prun_of (by kernel_rfl)
  | 2, 0, _, _ => exact prun_of (by kernel_rfl)
  | 2, 1, _, _ => exact prun_of (by kernel_rfl)
  | 3, 0, _, _ => exact prun_of (by kernel_rfl)
  | 3, 1, _, _ => exact prun_of (by kernel_rfl)
  | 3, 2, _, _ => exact prun_of (by kernel_rfl)
  | 4, 0, _, _ => exact prun_of (by kernel_rfl)
  | 4, 1, _, _ => exact prun_of (by kernel_rfl)
  | 4, 2, _, _ => exact prun_of (by kernel_rfl)
  | 4, 3, _, _ => exact prun_of (by kernel_rfl)
  | 5, 0, _, _ => exact prun_of (by kernel_rfl)
  | 5, 1, _, _ => exact prun_of (by kernel_rfl)
  | 5, 2, _, _ => exact prun_of (by kernel_rfl)
  | 5, 3, _, _ => exact prun_of (by kernel_rfl)
  | 5, 4, _, _ => exact prun_of (by kernel_rfl)
  | 6, 0, _, _ => exact prun_of (by kernel_rfl)
  | 6, 1, _, _ => exact prun_of (by kernel_rfl)
  | 6, 2, _, _ => exact prun_of (by kernel_rfl)
  | 6, 3, _, _ => exact prun_of (by kernel_rfl)
  | 6, 4, _, _ => exact prun_of (by kernel_rfl)
  | 6, 5, _, _ => exact prun_of (by kernel_rfl)
  | 7, 0, _, _ => exact prun_of (by kernel_rfl)
  | 7, 1, _, _ => exact prun_of (by kernel_rfl)
  | 7, 2, _, _ => exact prun_of (by kernel_rfl)
  | 7, 3, _, _ => exact prun_of (by kernel_rfl)
  | 7, 4, _, _ => exact prun_of (by kernel_rfl)
  | 7, 5, _, _ => exact prun_of (by kernel_rfl)
  | 7, 6, _, _ => exact prun_of (by kernel_rfl)
  | 8, 0, _, _ => exact prun_of (by kernel_rfl)
  | 8, 1, _, _ => exact prun_of (by kernel_rfl)
  | 8, 2, _, _ => exact prun_of (by kernel_rfl)
  | 8, 3, _, _ => exact prun_of (by kernel_rfl)
  | 8, 4, _, _ => exact prun_of (by kernel_rfl)
  | 8, 5, _, _ => exact prun_of (by kernel_rfl)
  | 8, 6, _, _ => exact prun_of (by kernel_rfl)
  | 8, 7, _, _ => exact prun_of (by kernel_rfl)
  | 0, i, _, h => omega
  | 1, i + 1, _, h => omega
  | 2, i + 2, _, h => omega
  | 3, i + 3, _, h => omega
  | 4, i + 4, _, h => omega
  | 5, i + 5, _, h => omega
  | 6, i + 6, _, h => omega
  | 7, i + 7, _, h => omega
  | 8, i + 8, _, h => omega
  | n + 9, _, h, _ => omega
def ShAll (A : BA) (f : Nat → Int) (i : Nat) (v : Int) : Prop :=
  PRuns A 1 (shL A f i) (.stand 2) (shB A f i) (.over 1 0) ∧ PRuns A 1 (shB A f i) .gone (shB A f i) (.over 4 0) ∧ PRuns A 2 (shB A f i) (.whole false .close0) (shC A f i) (.over 1 0) ∧
  PRuns A 1 (shC A f i) (.put false (.put0 v)) (shC A f i) (.over 3 0) ∧ PRuns A 2 (shD A f i i) (.whole false .drain0) (shE A f i) (.over 5 0) ∧ PRuns A 1 (shE A f i) (.stand 4) (shF A f i) (.over 1 0) ∧
  PRuns A 1 (shF A f i) .gone (shF A f i) (.over 1 0) ∧ PRuns A 6 (shF A f i) (.put true (.put0 v)) (shG A f i v) (.over 1 0) ∧ PRuns A 1 (shG A f i v) (.put false (.put0 v)) (shG A f i v) (.over 3 0) ∧ (shG A f i v).getD 0 0 = 4
theorem sh_all (bx mg ng hb rb : Nat) (f : Nat → Int) (v : Int) (i : Nat) (hi : i < 9) : ShAll ⟨bx, mg, ng, hb, rb, 0, 8, 4⟩ f i v := by
  match i, hi with
  | 0, _ => exact ⟨prun_of (by kernel_rfl), prun_of (by kernel_rfl), prun_of (by kernel_rfl), prun_of (by kernel_rfl), prun_of (by kernel_rfl), prun_of (by kernel_rfl), prun_of (by kernel_rfl), prun_of (by kernel_rfl), prun_of (by kernel_rfl), by kernel_rfl⟩
  | 1, _ => exact ⟨prun_of (by kernel_rfl), prun_of (by kernel_rfl), prun_of (by kernel_rfl), prun_of (by kernel_rfl), prun_of (by kernel_rfl), prun_of (by kernel_rfl), prun_of (by kernel_rfl), prun_of (by kernel_rfl), prun_of (by kernel_rfl), by kernel_rfl⟩
  | 2, _ => exact ⟨prun_of (by kernel_rfl), prun_of (by kernel_rfl), prun_of (by kernel_rfl), prun_of (by kernel_rfl), prun_of (by kernel_rfl), prun_of (by kernel_rfl), prun_of (by kernel_rfl), prun_of (by kernel_rfl), prun_of (by kernel_rfl), by kernel_rfl⟩
  | 3, _ => exact ⟨prun_of (by kernel_rfl), prun_of (by kernel_rfl), prun_of (by kernel_rfl), prun_of (by kernel_rfl), prun_of (by kernel_rfl), prun_of (by kernel_rfl), prun_of (by kernel_rfl), prun_of (by kernel_rfl), prun_of (by kernel_rfl), by kernel_rfl⟩
  | 4, _ => exact ⟨prun_of (by kernel_rfl), prun_of (by kernel_rfl), prun_of (by kernel_rfl), prun_of (by kernel_rfl), prun_of (by kernel_rfl), prun_of (by kernel_rfl), prun_of (by kernel_rfl), prun_of (by kernel_rfl), prun_of (by kernel_rfl), by kernel_rfl⟩
  | 5, _ => exact ⟨prun_of (by kernel_rfl), prun_of (by kernel_rfl), prun_of (by kernel_rfl), prun_of (by kernel_rfl), prun_of (by kernel_rfl), prun_of (by kernel_rfl), prun_of (by kernel_rfl), prun_of (by kernel_rfl), prun_of (by kernel_rfl), by kernel_rfl⟩
  | 6, _ => exact ⟨prun_of (by kernel_rfl), prun_of (by kernel_rfl), prun_of (by kernel_rfl), prun_of (by kernel_rfl), prun_of (by kernel_rfl), prun_of (by kernel_rfl), prun_of (by kernel_rfl), prun_of (by kernel_rfl), prun_of (by kernel_rfl), by kernel_rfl⟩
  | 7, _ => exact ⟨prun_of (by kernel_rfl), prun_of (by kernel_rfl), prun_of (by kernel_rfl), prun_of (by kernel_rfl), prun_of (by kernel_rfl), prun_of (by kernel_rfl), prun_of (by kernel_rfl), prun_of (by kernel_rfl), prun_of (by kernel_rfl), by kernel_rfl⟩
  | 8, _ => exact ⟨prun_of (by kernel_rfl), prun_of (by kernel_rfl), prun_of (by kernel_rfl), prun_of (by kernel_rfl), prun_of (by kernel_rfl), prun_of (by kernel_rfl), prun_of (by kernel_rfl), prun_of (by kernel_rfl), prun_of (by kernel_rfl), by kernel_rfl⟩
  | i + 9, h => omega
end Go.Proofs.Ytmkcmncbiancgaa.Po
