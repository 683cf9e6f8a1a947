/- RingUnfinished: what happens in rings of 2 to 7 slots. -/
import Derived.Test.YtpnpbgcndlfobaaRingUnfinishedW
namespace Go.Proofs.Ytpnpbgcndlfobaa
open Go.RowKit

theorem Runs.step_to {b c n : Nat} {L L1 L' : List Int} {s s1 s' : OS} {T H : Int} (h : s.isO = false) (hT : L.getD b 0 = T) (hH : L.getD (b + 1) 0 = H) (hn : 0 ≤ T ∧ (T < 4611686018427387904 ∨ (9223372036854775808 : Int) ≤ T) ∧ 0 ≤ H ∧ H < 4611686018427387904)
    (hL : stepL b c L s = L1) (hs : stepS b c L s = s1) (hr : Runs b c n L1 s1 L' s') : Runs b c (n + 1) L s L' s' := by
  subst hL hs hT hH
  exact Runs.step h hn hr
theorem Steps.step_to {b c n : Nat} {L L1 L' : List Int} {s s1 s' : OS} {T H : Int} (h : s.isO = false) (hT : L.getD b 0 = T) (hH : L.getD (b + 1) 0 = H) (hn : 0 ≤ T ∧ (T < 4611686018427387904 ∨ (9223372036854775808 : Int) ≤ T) ∧ 0 ≤ H ∧ H < 4611686018427387904)
    (hL : stepL b c L s = L1) (hs : stepS b c L s = s1) (h1 : s1.isO = false) (hr : Steps b c n L1 s1 L' s') : Steps b c (n + 1) L s L' s' := by
  subst hL hs hT hH
  exact Steps.step hn h h1 hr
theorem unf_2_3 (f g : Int) : Unf 2 3 f g [1, 0, 0, 0, 0, 0] [2, 0, 0, 0, 1, g] [9223372036854775810, 0, 0, 0, 1, g] [9223372036854775810, 0, 1, f, 1, g] [9223372036854775810, 1, 2, f, 1, g] [9223372036854775810, 2, 2, f, 2, g] (.put3 f 0) where
  a := by
    rw [show zeros (2 + 2 * 2) = [0, 0, 0, 0, 0, 0] from rfl]
    refine Steps.step_to (T := 0) (H := 0) (L1 := [0, 0, 0, 0, 0, 0]) (s1 := (.put1 f 0)) rfl rfl rfl (by decide) rfl rfl rfl ?_
    refine Steps.step_to (T := 0) (H := 0) (L1 := [0, 0, 0, 0, 0, 0]) (s1 := (.put2 f 0)) rfl rfl rfl (by decide) rfl rfl rfl ?_
    refine Steps.step_to (T := 0) (H := 0) (L1 := [1, 0, 0, 0, 0, 0]) (s1 := (.put3 f 0)) rfl rfl rfl (by decide) rfl rfl rfl ?_
    exact Steps.zero
  r1 := by
    refine Runs.step_to (T := 1) (H := 0) (L1 := [1, 0, 0, 0, 0, 0]) (s1 := (.put1 g 1)) rfl rfl rfl (by decide) rfl rfl ?_
    refine Runs.step_to (T := 1) (H := 0) (L1 := [1, 0, 0, 0, 0, 0]) (s1 := (.put2 g 1)) rfl rfl rfl (by decide) rfl rfl ?_
    refine Runs.step_to (T := 1) (H := 0) (L1 := [2, 0, 0, 0, 0, 0]) (s1 := (.put3 g 1)) rfl rfl rfl (by decide) rfl rfl ?_
    refine Runs.step_to (T := 2) (H := 0) (L1 := [2, 0, 0, 0, 0, g]) (s1 := (.put4 g 1)) rfl rfl rfl (by decide) rfl rfl ?_
    refine Runs.step_to (T := 2) (H := 0) (L1 := [2, 0, 0, 0, 1, g]) (s1 := (.over 1 0 1)) rfl rfl rfl (by decide) rfl rfl ?_
    exact Runs.over rfl
  r2 := by
    refine Runs.step_to (T := 2) (H := 0) (L1 := [2, 0, 0, 0, 1, g]) (s1 := (.close1 2)) rfl rfl rfl (by decide) rfl rfl ?_
    refine Runs.step_to (T := 2) (H := 0) (L1 := [9223372036854775810, 0, 0, 0, 1, g]) (s1 := (.over 1 0 0)) rfl rfl rfl (by decide) rfl rfl ?_
    exact Runs.over rfl
  r3 := by
    refine Runs.step_to (T := 9223372036854775810) (H := 0) (L1 := [9223372036854775810, 0, 0, 0, 1, g]) (s1 := (.drain1 9223372036854775810)) rfl rfl rfl (by decide) rfl rfl ?_
    refine Runs.step_to (T := 9223372036854775810) (H := 0) (L1 := [9223372036854775810, 0, 0, 0, 1, g]) (s1 := (.turn false 0)) rfl rfl rfl (by decide) rfl rfl ?_
    refine Runs.step_to (T := 9223372036854775810) (H := 0) (L1 := [9223372036854775810, 0, 0, 0, 1, g]) (s1 := (.over 4 0 0)) rfl rfl rfl (by decide) rfl rfl ?_
    exact Runs.over rfl
  r4 := by
    refine Runs.step_to (T := 9223372036854775810) (H := 0) (L1 := [9223372036854775810, 0, 0, 0, 1, g]) (s1 := (.turn false 0)) rfl rfl rfl (by decide) rfl rfl ?_
    refine Runs.step_to (T := 9223372036854775810) (H := 0) (L1 := [9223372036854775810, 0, 0, 0, 1, g]) (s1 := (.over 4 0 0)) rfl rfl rfl (by decide) rfl rfl ?_
    exact Runs.over rfl
  r5 := by
    refine Runs.step_to (T := 9223372036854775810) (H := 0) (L1 := [9223372036854775810, 0, 0, 0, 1, g]) (s1 := (.turn true 0)) rfl rfl rfl (by decide) rfl rfl ?_
    refine Runs.step_to (T := 9223372036854775810) (H := 0) (L1 := [9223372036854775810, 0, 0, 0, 1, g]) (s1 := (.over 4 0 0)) rfl rfl rfl (by decide) rfl rfl ?_
    exact Runs.over rfl
  r6 := by
    refine Runs.step_to (T := 9223372036854775810) (H := 0) (L1 := [9223372036854775810, 0, 0, f, 1, g]) (s1 := (.put4 f 0)) rfl rfl rfl (by decide) rfl rfl ?_
    refine Runs.step_to (T := 9223372036854775810) (H := 0) (L1 := [9223372036854775810, 0, 1, f, 1, g]) (s1 := (.over 1 0 0)) rfl rfl rfl (by decide) rfl rfl ?_
    exact Runs.over rfl
  r7 := by
    refine Runs.step_to (T := 9223372036854775810) (H := 0) (L1 := [9223372036854775810, 0, 1, f, 1, g]) (s1 := (.turn true 0)) rfl rfl rfl (by decide) rfl rfl ?_
    refine Runs.step_to (T := 9223372036854775810) (H := 0) (L1 := [9223372036854775810, 0, 1, f, 1, g]) (s1 := (.over 1 0 0)) rfl rfl rfl (by decide) rfl rfl ?_
    exact Runs.over rfl
  r8 := by
    refine Runs.step_to (T := 9223372036854775810) (H := 0) (L1 := [9223372036854775810, 0, 1, f, 1, g]) (s1 := (.drain1 9223372036854775810)) rfl rfl rfl (by decide) rfl rfl ?_
    refine Runs.step_to (T := 9223372036854775810) (H := 0) (L1 := [9223372036854775810, 0, 1, f, 1, g]) (s1 := (.turn false 0)) rfl rfl rfl (by decide) rfl rfl ?_
    refine Runs.step_to (T := 9223372036854775810) (H := 0) (L1 := [9223372036854775810, 0, 1, f, 1, g]) (s1 := (.val 0)) rfl rfl rfl (by decide) rfl rfl ?_
    refine Runs.step_to (T := 9223372036854775810) (H := 0) (L1 := [9223372036854775810, 0, 1, f, 1, g]) (s1 := (.out 0 f)) rfl rfl rfl (by decide) rfl rfl ?_
    refine Runs.step_to (T := 9223372036854775810) (H := 0) (L1 := [9223372036854775810, 0, 2, f, 1, g]) (s1 := (.hd 0 f)) rfl rfl rfl (by decide) rfl rfl ?_
    refine Runs.step_to (T := 9223372036854775810) (H := 0) (L1 := [9223372036854775810, 1, 2, f, 1, g]) (s1 := (.over 1 f 0)) rfl rfl rfl (by decide) rfl rfl ?_
    exact Runs.over rfl
  r9 := by
    refine Runs.step_to (T := 9223372036854775810) (H := 1) (L1 := [9223372036854775810, 1, 2, f, 1, g]) (s1 := (.drain1 9223372036854775810)) rfl rfl rfl (by decide) rfl rfl ?_
    refine Runs.step_to (T := 9223372036854775810) (H := 1) (L1 := [9223372036854775810, 1, 2, f, 1, g]) (s1 := (.turn false 1)) rfl rfl rfl (by decide) rfl rfl ?_
    refine Runs.step_to (T := 9223372036854775810) (H := 1) (L1 := [9223372036854775810, 1, 2, f, 1, g]) (s1 := (.val 1)) rfl rfl rfl (by decide) rfl rfl ?_
    refine Runs.step_to (T := 9223372036854775810) (H := 1) (L1 := [9223372036854775810, 1, 2, f, 1, g]) (s1 := (.out 1 g)) rfl rfl rfl (by decide) rfl rfl ?_
    refine Runs.step_to (T := 9223372036854775810) (H := 1) (L1 := [9223372036854775810, 1, 2, f, 2, g]) (s1 := (.hd 1 g)) rfl rfl rfl (by decide) rfl rfl ?_
    refine Runs.step_to (T := 9223372036854775810) (H := 1) (L1 := [9223372036854775810, 2, 2, f, 2, g]) (s1 := (.over 1 g 0)) rfl rfl rfl (by decide) rfl rfl ?_
    exact Runs.over rfl
  r10 := by
    refine Runs.step_to (T := 9223372036854775810) (H := 2) (L1 := [9223372036854775810, 2, 2, f, 2, g]) (s1 := (.drain1 9223372036854775810)) rfl rfl rfl (by decide) rfl rfl ?_
    refine Runs.step_to (T := 9223372036854775810) (H := 2) (L1 := [9223372036854775810, 2, 2, f, 2, g]) (s1 := (.over 5 0 0)) rfl rfl rfl (by decide) rfl rfl ?_
    exact Runs.over rfl
theorem unf_2_4 (f g : Int) : Unf 2 4 f g [1, 0, 0, f, 0, 0] [2, 0, 0, f, 1, g] [9223372036854775810, 0, 0, f, 1, g] [9223372036854775810, 0, 1, f, 1, g] [9223372036854775810, 1, 2, f, 1, g] [9223372036854775810, 2, 2, f, 2, g] (.put4 f 0) where
  a := by
    rw [show zeros (2 + 2 * 2) = [0, 0, 0, 0, 0, 0] from rfl]
    refine Steps.step_to (T := 0) (H := 0) (L1 := [0, 0, 0, 0, 0, 0]) (s1 := (.put1 f 0)) rfl rfl rfl (by decide) rfl rfl rfl ?_
    refine Steps.step_to (T := 0) (H := 0) (L1 := [0, 0, 0, 0, 0, 0]) (s1 := (.put2 f 0)) rfl rfl rfl (by decide) rfl rfl rfl ?_
    refine Steps.step_to (T := 0) (H := 0) (L1 := [1, 0, 0, 0, 0, 0]) (s1 := (.put3 f 0)) rfl rfl rfl (by decide) rfl rfl rfl ?_
    refine Steps.step_to (T := 1) (H := 0) (L1 := [1, 0, 0, f, 0, 0]) (s1 := (.put4 f 0)) rfl rfl rfl (by decide) rfl rfl rfl ?_
    exact Steps.zero
  r1 := by
    refine Runs.step_to (T := 1) (H := 0) (L1 := [1, 0, 0, f, 0, 0]) (s1 := (.put1 g 1)) rfl rfl rfl (by decide) rfl rfl ?_
    refine Runs.step_to (T := 1) (H := 0) (L1 := [1, 0, 0, f, 0, 0]) (s1 := (.put2 g 1)) rfl rfl rfl (by decide) rfl rfl ?_
    refine Runs.step_to (T := 1) (H := 0) (L1 := [2, 0, 0, f, 0, 0]) (s1 := (.put3 g 1)) rfl rfl rfl (by decide) rfl rfl ?_
    refine Runs.step_to (T := 2) (H := 0) (L1 := [2, 0, 0, f, 0, g]) (s1 := (.put4 g 1)) rfl rfl rfl (by decide) rfl rfl ?_
    refine Runs.step_to (T := 2) (H := 0) (L1 := [2, 0, 0, f, 1, g]) (s1 := (.over 1 0 1)) rfl rfl rfl (by decide) rfl rfl ?_
    exact Runs.over rfl
  r2 := by
    refine Runs.step_to (T := 2) (H := 0) (L1 := [2, 0, 0, f, 1, g]) (s1 := (.close1 2)) rfl rfl rfl (by decide) rfl rfl ?_
    refine Runs.step_to (T := 2) (H := 0) (L1 := [9223372036854775810, 0, 0, f, 1, g]) (s1 := (.over 1 0 0)) rfl rfl rfl (by decide) rfl rfl ?_
    exact Runs.over rfl
  r3 := by
    refine Runs.step_to (T := 9223372036854775810) (H := 0) (L1 := [9223372036854775810, 0, 0, f, 1, g]) (s1 := (.drain1 9223372036854775810)) rfl rfl rfl (by decide) rfl rfl ?_
    refine Runs.step_to (T := 9223372036854775810) (H := 0) (L1 := [9223372036854775810, 0, 0, f, 1, g]) (s1 := (.turn false 0)) rfl rfl rfl (by decide) rfl rfl ?_
    refine Runs.step_to (T := 9223372036854775810) (H := 0) (L1 := [9223372036854775810, 0, 0, f, 1, g]) (s1 := (.over 4 0 0)) rfl rfl rfl (by decide) rfl rfl ?_
    exact Runs.over rfl
  r4 := by
    refine Runs.step_to (T := 9223372036854775810) (H := 0) (L1 := [9223372036854775810, 0, 0, f, 1, g]) (s1 := (.turn false 0)) rfl rfl rfl (by decide) rfl rfl ?_
    refine Runs.step_to (T := 9223372036854775810) (H := 0) (L1 := [9223372036854775810, 0, 0, f, 1, g]) (s1 := (.over 4 0 0)) rfl rfl rfl (by decide) rfl rfl ?_
    exact Runs.over rfl
  r5 := by
    refine Runs.step_to (T := 9223372036854775810) (H := 0) (L1 := [9223372036854775810, 0, 0, f, 1, g]) (s1 := (.turn true 0)) rfl rfl rfl (by decide) rfl rfl ?_
    refine Runs.step_to (T := 9223372036854775810) (H := 0) (L1 := [9223372036854775810, 0, 0, f, 1, g]) (s1 := (.over 4 0 0)) rfl rfl rfl (by decide) rfl rfl ?_
    exact Runs.over rfl
  r6 := by
    refine Runs.step_to (T := 9223372036854775810) (H := 0) (L1 := [9223372036854775810, 0, 1, f, 1, g]) (s1 := (.over 1 0 0)) rfl rfl rfl (by decide) rfl rfl ?_
    exact Runs.over rfl
  r7 := by
    refine Runs.step_to (T := 9223372036854775810) (H := 0) (L1 := [9223372036854775810, 0, 1, f, 1, g]) (s1 := (.turn true 0)) rfl rfl rfl (by decide) rfl rfl ?_
    refine Runs.step_to (T := 9223372036854775810) (H := 0) (L1 := [9223372036854775810, 0, 1, f, 1, g]) (s1 := (.over 1 0 0)) rfl rfl rfl (by decide) rfl rfl ?_
    exact Runs.over rfl
  r8 := by
    refine Runs.step_to (T := 9223372036854775810) (H := 0) (L1 := [9223372036854775810, 0, 1, f, 1, g]) (s1 := (.drain1 9223372036854775810)) rfl rfl rfl (by decide) rfl rfl ?_
    refine Runs.step_to (T := 9223372036854775810) (H := 0) (L1 := [9223372036854775810, 0, 1, f, 1, g]) (s1 := (.turn false 0)) rfl rfl rfl (by decide) rfl rfl ?_
    refine Runs.step_to (T := 9223372036854775810) (H := 0) (L1 := [9223372036854775810, 0, 1, f, 1, g]) (s1 := (.val 0)) rfl rfl rfl (by decide) rfl rfl ?_
    refine Runs.step_to (T := 9223372036854775810) (H := 0) (L1 := [9223372036854775810, 0, 1, f, 1, g]) (s1 := (.out 0 f)) rfl rfl rfl (by decide) rfl rfl ?_
    refine Runs.step_to (T := 9223372036854775810) (H := 0) (L1 := [9223372036854775810, 0, 2, f, 1, g]) (s1 := (.hd 0 f)) rfl rfl rfl (by decide) rfl rfl ?_
    refine Runs.step_to (T := 9223372036854775810) (H := 0) (L1 := [9223372036854775810, 1, 2, f, 1, g]) (s1 := (.over 1 f 0)) rfl rfl rfl (by decide) rfl rfl ?_
    exact Runs.over rfl
  r9 := by
    refine Runs.step_to (T := 9223372036854775810) (H := 1) (L1 := [9223372036854775810, 1, 2, f, 1, g]) (s1 := (.drain1 9223372036854775810)) rfl rfl rfl (by decide) rfl rfl ?_
    refine Runs.step_to (T := 9223372036854775810) (H := 1) (L1 := [9223372036854775810, 1, 2, f, 1, g]) (s1 := (.turn false 1)) rfl rfl rfl (by decide) rfl rfl ?_
    refine Runs.step_to (T := 9223372036854775810) (H := 1) (L1 := [9223372036854775810, 1, 2, f, 1, g]) (s1 := (.val 1)) rfl rfl rfl (by decide) rfl rfl ?_
    refine Runs.step_to (T := 9223372036854775810) (H := 1) (L1 := [9223372036854775810, 1, 2, f, 1, g]) (s1 := (.out 1 g)) rfl rfl rfl (by decide) rfl rfl ?_
    refine Runs.step_to (T := 9223372036854775810) (H := 1) (L1 := [9223372036854775810, 1, 2, f, 2, g]) (s1 := (.hd 1 g)) rfl rfl rfl (by decide) rfl rfl ?_
    refine Runs.step_to (T := 9223372036854775810) (H := 1) (L1 := [9223372036854775810, 2, 2, f, 2, g]) (s1 := (.over 1 g 0)) rfl rfl rfl (by decide) rfl rfl ?_
    exact Runs.over rfl
  r10 := by
    refine Runs.step_to (T := 9223372036854775810) (H := 2) (L1 := [9223372036854775810, 2, 2, f, 2, g]) (s1 := (.drain1 9223372036854775810)) rfl rfl rfl (by decide) rfl rfl ?_
    refine Runs.step_to (T := 9223372036854775810) (H := 2) (L1 := [9223372036854775810, 2, 2, f, 2, g]) (s1 := (.over 5 0 0)) rfl rfl rfl (by decide) rfl rfl ?_
    exact Runs.over rfl
theorem unf_3_3 (f g : Int) : Unf 3 3 f g [1, 0, 0, 0, 0, 0, 0, 0] [2, 0, 0, 0, 1, g, 0, 0] [9223372036854775810, 0, 0, 0, 1, g, 0, 0] [9223372036854775810, 0, 1, f, 1, g, 0, 0] [9223372036854775810, 1, 2, f, 1, g, 0, 0] [9223372036854775810, 2, 2, f, 2, g, 0, 0] (.put3 f 0) where
  a := by
    rw [show zeros (2 + 2 * 3) = [0, 0, 0, 0, 0, 0, 0, 0] from rfl]
    refine Steps.step_to (T := 0) (H := 0) (L1 := [0, 0, 0, 0, 0, 0, 0, 0]) (s1 := (.put1 f 0)) rfl rfl rfl (by decide) rfl rfl rfl ?_
    refine Steps.step_to (T := 0) (H := 0) (L1 := [0, 0, 0, 0, 0, 0, 0, 0]) (s1 := (.put2 f 0)) rfl rfl rfl (by decide) rfl rfl rfl ?_
    refine Steps.step_to (T := 0) (H := 0) (L1 := [1, 0, 0, 0, 0, 0, 0, 0]) (s1 := (.put3 f 0)) rfl rfl rfl (by decide) rfl rfl rfl ?_
    exact Steps.zero
  r1 := by
    refine Runs.step_to (T := 1) (H := 0) (L1 := [1, 0, 0, 0, 0, 0, 0, 0]) (s1 := (.put1 g 1)) rfl rfl rfl (by decide) rfl rfl ?_
    refine Runs.step_to (T := 1) (H := 0) (L1 := [1, 0, 0, 0, 0, 0, 0, 0]) (s1 := (.put2 g 1)) rfl rfl rfl (by decide) rfl rfl ?_
    refine Runs.step_to (T := 1) (H := 0) (L1 := [2, 0, 0, 0, 0, 0, 0, 0]) (s1 := (.put3 g 1)) rfl rfl rfl (by decide) rfl rfl ?_
    refine Runs.step_to (T := 2) (H := 0) (L1 := [2, 0, 0, 0, 0, g, 0, 0]) (s1 := (.put4 g 1)) rfl rfl rfl (by decide) rfl rfl ?_
    refine Runs.step_to (T := 2) (H := 0) (L1 := [2, 0, 0, 0, 1, g, 0, 0]) (s1 := (.over 1 0 1)) rfl rfl rfl (by decide) rfl rfl ?_
    exact Runs.over rfl
  r2 := by
    refine Runs.step_to (T := 2) (H := 0) (L1 := [2, 0, 0, 0, 1, g, 0, 0]) (s1 := (.close1 2)) rfl rfl rfl (by decide) rfl rfl ?_
    refine Runs.step_to (T := 2) (H := 0) (L1 := [9223372036854775810, 0, 0, 0, 1, g, 0, 0]) (s1 := (.over 1 0 0)) rfl rfl rfl (by decide) rfl rfl ?_
    exact Runs.over rfl
  r3 := by
    refine Runs.step_to (T := 9223372036854775810) (H := 0) (L1 := [9223372036854775810, 0, 0, 0, 1, g, 0, 0]) (s1 := (.drain1 9223372036854775810)) rfl rfl rfl (by decide) rfl rfl ?_
    refine Runs.step_to (T := 9223372036854775810) (H := 0) (L1 := [9223372036854775810, 0, 0, 0, 1, g, 0, 0]) (s1 := (.turn false 0)) rfl rfl rfl (by decide) rfl rfl ?_
    refine Runs.step_to (T := 9223372036854775810) (H := 0) (L1 := [9223372036854775810, 0, 0, 0, 1, g, 0, 0]) (s1 := (.over 4 0 0)) rfl rfl rfl (by decide) rfl rfl ?_
    exact Runs.over rfl
  r4 := by
    refine Runs.step_to (T := 9223372036854775810) (H := 0) (L1 := [9223372036854775810, 0, 0, 0, 1, g, 0, 0]) (s1 := (.turn false 0)) rfl rfl rfl (by decide) rfl rfl ?_
    refine Runs.step_to (T := 9223372036854775810) (H := 0) (L1 := [9223372036854775810, 0, 0, 0, 1, g, 0, 0]) (s1 := (.over 4 0 0)) rfl rfl rfl (by decide) rfl rfl ?_
    exact Runs.over rfl
  r5 := by
    refine Runs.step_to (T := 9223372036854775810) (H := 0) (L1 := [9223372036854775810, 0, 0, 0, 1, g, 0, 0]) (s1 := (.turn true 0)) rfl rfl rfl (by decide) rfl rfl ?_
    refine Runs.step_to (T := 9223372036854775810) (H := 0) (L1 := [9223372036854775810, 0, 0, 0, 1, g, 0, 0]) (s1 := (.over 4 0 0)) rfl rfl rfl (by decide) rfl rfl ?_
    exact Runs.over rfl
  r6 := by
    refine Runs.step_to (T := 9223372036854775810) (H := 0) (L1 := [9223372036854775810, 0, 0, f, 1, g, 0, 0]) (s1 := (.put4 f 0)) rfl rfl rfl (by decide) rfl rfl ?_
    refine Runs.step_to (T := 9223372036854775810) (H := 0) (L1 := [9223372036854775810, 0, 1, f, 1, g, 0, 0]) (s1 := (.over 1 0 0)) rfl rfl rfl (by decide) rfl rfl ?_
    exact Runs.over rfl
  r7 := by
    refine Runs.step_to (T := 9223372036854775810) (H := 0) (L1 := [9223372036854775810, 0, 1, f, 1, g, 0, 0]) (s1 := (.turn true 0)) rfl rfl rfl (by decide) rfl rfl ?_
    refine Runs.step_to (T := 9223372036854775810) (H := 0) (L1 := [9223372036854775810, 0, 1, f, 1, g, 0, 0]) (s1 := (.over 1 0 0)) rfl rfl rfl (by decide) rfl rfl ?_
    exact Runs.over rfl
  r8 := by
    refine Runs.step_to (T := 9223372036854775810) (H := 0) (L1 := [9223372036854775810, 0, 1, f, 1, g, 0, 0]) (s1 := (.drain1 9223372036854775810)) rfl rfl rfl (by decide) rfl rfl ?_
    refine Runs.step_to (T := 9223372036854775810) (H := 0) (L1 := [9223372036854775810, 0, 1, f, 1, g, 0, 0]) (s1 := (.turn false 0)) rfl rfl rfl (by decide) rfl rfl ?_
    refine Runs.step_to (T := 9223372036854775810) (H := 0) (L1 := [9223372036854775810, 0, 1, f, 1, g, 0, 0]) (s1 := (.val 0)) rfl rfl rfl (by decide) rfl rfl ?_
    refine Runs.step_to (T := 9223372036854775810) (H := 0) (L1 := [9223372036854775810, 0, 1, f, 1, g, 0, 0]) (s1 := (.out 0 f)) rfl rfl rfl (by decide) rfl rfl ?_
    refine Runs.step_to (T := 9223372036854775810) (H := 0) (L1 := [9223372036854775810, 0, 2, f, 1, g, 0, 0]) (s1 := (.hd 0 f)) rfl rfl rfl (by decide) rfl rfl ?_
    refine Runs.step_to (T := 9223372036854775810) (H := 0) (L1 := [9223372036854775810, 1, 2, f, 1, g, 0, 0]) (s1 := (.over 1 f 0)) rfl rfl rfl (by decide) rfl rfl ?_
    exact Runs.over rfl
  r9 := by
    refine Runs.step_to (T := 9223372036854775810) (H := 1) (L1 := [9223372036854775810, 1, 2, f, 1, g, 0, 0]) (s1 := (.drain1 9223372036854775810)) rfl rfl rfl (by decide) rfl rfl ?_
    refine Runs.step_to (T := 9223372036854775810) (H := 1) (L1 := [9223372036854775810, 1, 2, f, 1, g, 0, 0]) (s1 := (.turn false 1)) rfl rfl rfl (by decide) rfl rfl ?_
    refine Runs.step_to (T := 9223372036854775810) (H := 1) (L1 := [9223372036854775810, 1, 2, f, 1, g, 0, 0]) (s1 := (.val 1)) rfl rfl rfl (by decide) rfl rfl ?_
    refine Runs.step_to (T := 9223372036854775810) (H := 1) (L1 := [9223372036854775810, 1, 2, f, 1, g, 0, 0]) (s1 := (.out 1 g)) rfl rfl rfl (by decide) rfl rfl ?_
    refine Runs.step_to (T := 9223372036854775810) (H := 1) (L1 := [9223372036854775810, 1, 2, f, 2, g, 0, 0]) (s1 := (.hd 1 g)) rfl rfl rfl (by decide) rfl rfl ?_
    refine Runs.step_to (T := 9223372036854775810) (H := 1) (L1 := [9223372036854775810, 2, 2, f, 2, g, 0, 0]) (s1 := (.over 1 g 0)) rfl rfl rfl (by decide) rfl rfl ?_
    exact Runs.over rfl
  r10 := by
    refine Runs.step_to (T := 9223372036854775810) (H := 2) (L1 := [9223372036854775810, 2, 2, f, 2, g, 0, 0]) (s1 := (.drain1 9223372036854775810)) rfl rfl rfl (by decide) rfl rfl ?_
    refine Runs.step_to (T := 9223372036854775810) (H := 2) (L1 := [9223372036854775810, 2, 2, f, 2, g, 0, 0]) (s1 := (.over 5 0 0)) rfl rfl rfl (by decide) rfl rfl ?_
    exact Runs.over rfl
theorem unf_3_4 (f g : Int) : Unf 3 4 f g [1, 0, 0, f, 0, 0, 0, 0] [2, 0, 0, f, 1, g, 0, 0] [9223372036854775810, 0, 0, f, 1, g, 0, 0] [9223372036854775810, 0, 1, f, 1, g, 0, 0] [9223372036854775810, 1, 2, f, 1, g, 0, 0] [9223372036854775810, 2, 2, f, 2, g, 0, 0] (.put4 f 0) where
  a := by
    rw [show zeros (2 + 2 * 3) = [0, 0, 0, 0, 0, 0, 0, 0] from rfl]
    refine Steps.step_to (T := 0) (H := 0) (L1 := [0, 0, 0, 0, 0, 0, 0, 0]) (s1 := (.put1 f 0)) rfl rfl rfl (by decide) rfl rfl rfl ?_
    refine Steps.step_to (T := 0) (H := 0) (L1 := [0, 0, 0, 0, 0, 0, 0, 0]) (s1 := (.put2 f 0)) rfl rfl rfl (by decide) rfl rfl rfl ?_
    refine Steps.step_to (T := 0) (H := 0) (L1 := [1, 0, 0, 0, 0, 0, 0, 0]) (s1 := (.put3 f 0)) rfl rfl rfl (by decide) rfl rfl rfl ?_
    refine Steps.step_to (T := 1) (H := 0) (L1 := [1, 0, 0, f, 0, 0, 0, 0]) (s1 := (.put4 f 0)) rfl rfl rfl (by decide) rfl rfl rfl ?_
    exact Steps.zero
  r1 := by
    refine Runs.step_to (T := 1) (H := 0) (L1 := [1, 0, 0, f, 0, 0, 0, 0]) (s1 := (.put1 g 1)) rfl rfl rfl (by decide) rfl rfl ?_
    refine Runs.step_to (T := 1) (H := 0) (L1 := [1, 0, 0, f, 0, 0, 0, 0]) (s1 := (.put2 g 1)) rfl rfl rfl (by decide) rfl rfl ?_
    refine Runs.step_to (T := 1) (H := 0) (L1 := [2, 0, 0, f, 0, 0, 0, 0]) (s1 := (.put3 g 1)) rfl rfl rfl (by decide) rfl rfl ?_
    refine Runs.step_to (T := 2) (H := 0) (L1 := [2, 0, 0, f, 0, g, 0, 0]) (s1 := (.put4 g 1)) rfl rfl rfl (by decide) rfl rfl ?_
    refine Runs.step_to (T := 2) (H := 0) (L1 := [2, 0, 0, f, 1, g, 0, 0]) (s1 := (.over 1 0 1)) rfl rfl rfl (by decide) rfl rfl ?_
    exact Runs.over rfl
  r2 := by
    refine Runs.step_to (T := 2) (H := 0) (L1 := [2, 0, 0, f, 1, g, 0, 0]) (s1 := (.close1 2)) rfl rfl rfl (by decide) rfl rfl ?_
    refine Runs.step_to (T := 2) (H := 0) (L1 := [9223372036854775810, 0, 0, f, 1, g, 0, 0]) (s1 := (.over 1 0 0)) rfl rfl rfl (by decide) rfl rfl ?_
    exact Runs.over rfl
  r3 := by
    refine Runs.step_to (T := 9223372036854775810) (H := 0) (L1 := [9223372036854775810, 0, 0, f, 1, g, 0, 0]) (s1 := (.drain1 9223372036854775810)) rfl rfl rfl (by decide) rfl rfl ?_
    refine Runs.step_to (T := 9223372036854775810) (H := 0) (L1 := [9223372036854775810, 0, 0, f, 1, g, 0, 0]) (s1 := (.turn false 0)) rfl rfl rfl (by decide) rfl rfl ?_
    refine Runs.step_to (T := 9223372036854775810) (H := 0) (L1 := [9223372036854775810, 0, 0, f, 1, g, 0, 0]) (s1 := (.over 4 0 0)) rfl rfl rfl (by decide) rfl rfl ?_
    exact Runs.over rfl
  r4 := by
    refine Runs.step_to (T := 9223372036854775810) (H := 0) (L1 := [9223372036854775810, 0, 0, f, 1, g, 0, 0]) (s1 := (.turn false 0)) rfl rfl rfl (by decide) rfl rfl ?_
    refine Runs.step_to (T := 9223372036854775810) (H := 0) (L1 := [9223372036854775810, 0, 0, f, 1, g, 0, 0]) (s1 := (.over 4 0 0)) rfl rfl rfl (by decide) rfl rfl ?_
    exact Runs.over rfl
  r5 := by
    refine Runs.step_to (T := 9223372036854775810) (H := 0) (L1 := [9223372036854775810, 0, 0, f, 1, g, 0, 0]) (s1 := (.turn true 0)) rfl rfl rfl (by decide) rfl rfl ?_
    refine Runs.step_to (T := 9223372036854775810) (H := 0) (L1 := [9223372036854775810, 0, 0, f, 1, g, 0, 0]) (s1 := (.over 4 0 0)) rfl rfl rfl (by decide) rfl rfl ?_
    exact Runs.over rfl
  r6 := by
    refine Runs.step_to (T := 9223372036854775810) (H := 0) (L1 := [9223372036854775810, 0, 1, f, 1, g, 0, 0]) (s1 := (.over 1 0 0)) rfl rfl rfl (by decide) rfl rfl ?_
    exact Runs.over rfl
  r7 := by
    refine Runs.step_to (T := 9223372036854775810) (H := 0) (L1 := [9223372036854775810, 0, 1, f, 1, g, 0, 0]) (s1 := (.turn true 0)) rfl rfl rfl (by decide) rfl rfl ?_
    refine Runs.step_to (T := 9223372036854775810) (H := 0) (L1 := [9223372036854775810, 0, 1, f, 1, g, 0, 0]) (s1 := (.over 1 0 0)) rfl rfl rfl (by decide) rfl rfl ?_
    exact Runs.over rfl
  r8 := by
    refine Runs.step_to (T := 9223372036854775810) (H := 0) (L1 := [9223372036854775810, 0, 1, f, 1, g, 0, 0]) (s1 := (.drain1 9223372036854775810)) rfl rfl rfl (by decide) rfl rfl ?_
    refine Runs.step_to (T := 9223372036854775810) (H := 0) (L1 := [9223372036854775810, 0, 1, f, 1, g, 0, 0]) (s1 := (.turn false 0)) rfl rfl rfl (by decide) rfl rfl ?_
    refine Runs.step_to (T := 9223372036854775810) (H := 0) (L1 := [9223372036854775810, 0, 1, f, 1, g, 0, 0]) (s1 := (.val 0)) rfl rfl rfl (by decide) rfl rfl ?_
    refine Runs.step_to (T := 9223372036854775810) (H := 0) (L1 := [9223372036854775810, 0, 1, f, 1, g, 0, 0]) (s1 := (.out 0 f)) rfl rfl rfl (by decide) rfl rfl ?_
    refine Runs.step_to (T := 9223372036854775810) (H := 0) (L1 := [9223372036854775810, 0, 2, f, 1, g, 0, 0]) (s1 := (.hd 0 f)) rfl rfl rfl (by decide) rfl rfl ?_
    refine Runs.step_to (T := 9223372036854775810) (H := 0) (L1 := [9223372036854775810, 1, 2, f, 1, g, 0, 0]) (s1 := (.over 1 f 0)) rfl rfl rfl (by decide) rfl rfl ?_
    exact Runs.over rfl
  r9 := by
    refine Runs.step_to (T := 9223372036854775810) (H := 1) (L1 := [9223372036854775810, 1, 2, f, 1, g, 0, 0]) (s1 := (.drain1 9223372036854775810)) rfl rfl rfl (by decide) rfl rfl ?_
    refine Runs.step_to (T := 9223372036854775810) (H := 1) (L1 := [9223372036854775810, 1, 2, f, 1, g, 0, 0]) (s1 := (.turn false 1)) rfl rfl rfl (by decide) rfl rfl ?_
    refine Runs.step_to (T := 9223372036854775810) (H := 1) (L1 := [9223372036854775810, 1, 2, f, 1, g, 0, 0]) (s1 := (.val 1)) rfl rfl rfl (by decide) rfl rfl ?_
    refine Runs.step_to (T := 9223372036854775810) (H := 1) (L1 := [9223372036854775810, 1, 2, f, 1, g, 0, 0]) (s1 := (.out 1 g)) rfl rfl rfl (by decide) rfl rfl ?_
    refine Runs.step_to (T := 9223372036854775810) (H := 1) (L1 := [9223372036854775810, 1, 2, f, 2, g, 0, 0]) (s1 := (.hd 1 g)) rfl rfl rfl (by decide) rfl rfl ?_
    refine Runs.step_to (T := 9223372036854775810) (H := 1) (L1 := [9223372036854775810, 2, 2, f, 2, g, 0, 0]) (s1 := (.over 1 g 0)) rfl rfl rfl (by decide) rfl rfl ?_
    exact Runs.over rfl
  r10 := by
    refine Runs.step_to (T := 9223372036854775810) (H := 2) (L1 := [9223372036854775810, 2, 2, f, 2, g, 0, 0]) (s1 := (.drain1 9223372036854775810)) rfl rfl rfl (by decide) rfl rfl ?_
    refine Runs.step_to (T := 9223372036854775810) (H := 2) (L1 := [9223372036854775810, 2, 2, f, 2, g, 0, 0]) (s1 := (.over 5 0 0)) rfl rfl rfl (by decide) rfl rfl ?_
    exact Runs.over rfl
theorem unf_4_3 (f g : Int) : Unf 4 3 f g [1, 0, 0, 0, 0, 0, 0, 0, 0, 0] [2, 0, 0, 0, 1, g, 0, 0, 0, 0] [9223372036854775810, 0, 0, 0, 1, g, 0, 0, 0, 0] [9223372036854775810, 0, 1, f, 1, g, 0, 0, 0, 0] [9223372036854775810, 1, 2, f, 1, g, 0, 0, 0, 0] [9223372036854775810, 2, 2, f, 2, g, 0, 0, 0, 0] (.put3 f 0) where
  a := by
    rw [show zeros (2 + 2 * 4) = [0, 0, 0, 0, 0, 0, 0, 0, 0, 0] from rfl]
    refine Steps.step_to (T := 0) (H := 0) (L1 := [0, 0, 0, 0, 0, 0, 0, 0, 0, 0]) (s1 := (.put1 f 0)) rfl rfl rfl (by decide) rfl rfl rfl ?_
    refine Steps.step_to (T := 0) (H := 0) (L1 := [0, 0, 0, 0, 0, 0, 0, 0, 0, 0]) (s1 := (.put2 f 0)) rfl rfl rfl (by decide) rfl rfl rfl ?_
    refine Steps.step_to (T := 0) (H := 0) (L1 := [1, 0, 0, 0, 0, 0, 0, 0, 0, 0]) (s1 := (.put3 f 0)) rfl rfl rfl (by decide) rfl rfl rfl ?_
    exact Steps.zero
  r1 := by
    refine Runs.step_to (T := 1) (H := 0) (L1 := [1, 0, 0, 0, 0, 0, 0, 0, 0, 0]) (s1 := (.put1 g 1)) rfl rfl rfl (by decide) rfl rfl ?_
    refine Runs.step_to (T := 1) (H := 0) (L1 := [1, 0, 0, 0, 0, 0, 0, 0, 0, 0]) (s1 := (.put2 g 1)) rfl rfl rfl (by decide) rfl rfl ?_
    refine Runs.step_to (T := 1) (H := 0) (L1 := [2, 0, 0, 0, 0, 0, 0, 0, 0, 0]) (s1 := (.put3 g 1)) rfl rfl rfl (by decide) rfl rfl ?_
    refine Runs.step_to (T := 2) (H := 0) (L1 := [2, 0, 0, 0, 0, g, 0, 0, 0, 0]) (s1 := (.put4 g 1)) rfl rfl rfl (by decide) rfl rfl ?_
    refine Runs.step_to (T := 2) (H := 0) (L1 := [2, 0, 0, 0, 1, g, 0, 0, 0, 0]) (s1 := (.over 1 0 1)) rfl rfl rfl (by decide) rfl rfl ?_
    exact Runs.over rfl
  r2 := by
    refine Runs.step_to (T := 2) (H := 0) (L1 := [2, 0, 0, 0, 1, g, 0, 0, 0, 0]) (s1 := (.close1 2)) rfl rfl rfl (by decide) rfl rfl ?_
    refine Runs.step_to (T := 2) (H := 0) (L1 := [9223372036854775810, 0, 0, 0, 1, g, 0, 0, 0, 0]) (s1 := (.over 1 0 0)) rfl rfl rfl (by decide) rfl rfl ?_
    exact Runs.over rfl
  r3 := by
    refine Runs.step_to (T := 9223372036854775810) (H := 0) (L1 := [9223372036854775810, 0, 0, 0, 1, g, 0, 0, 0, 0]) (s1 := (.drain1 9223372036854775810)) rfl rfl rfl (by decide) rfl rfl ?_
    refine Runs.step_to (T := 9223372036854775810) (H := 0) (L1 := [9223372036854775810, 0, 0, 0, 1, g, 0, 0, 0, 0]) (s1 := (.turn false 0)) rfl rfl rfl (by decide) rfl rfl ?_
    refine Runs.step_to (T := 9223372036854775810) (H := 0) (L1 := [9223372036854775810, 0, 0, 0, 1, g, 0, 0, 0, 0]) (s1 := (.over 4 0 0)) rfl rfl rfl (by decide) rfl rfl ?_
    exact Runs.over rfl
  r4 := by
    refine Runs.step_to (T := 9223372036854775810) (H := 0) (L1 := [9223372036854775810, 0, 0, 0, 1, g, 0, 0, 0, 0]) (s1 := (.turn false 0)) rfl rfl rfl (by decide) rfl rfl ?_
    refine Runs.step_to (T := 9223372036854775810) (H := 0) (L1 := [9223372036854775810, 0, 0, 0, 1, g, 0, 0, 0, 0]) (s1 := (.over 4 0 0)) rfl rfl rfl (by decide) rfl rfl ?_
    exact Runs.over rfl
  r5 := by
    refine Runs.step_to (T := 9223372036854775810) (H := 0) (L1 := [9223372036854775810, 0, 0, 0, 1, g, 0, 0, 0, 0]) (s1 := (.turn true 0)) rfl rfl rfl (by decide) rfl rfl ?_
    refine Runs.step_to (T := 9223372036854775810) (H := 0) (L1 := [9223372036854775810, 0, 0, 0, 1, g, 0, 0, 0, 0]) (s1 := (.over 4 0 0)) rfl rfl rfl (by decide) rfl rfl ?_
    exact Runs.over rfl
  r6 := by
    refine Runs.step_to (T := 9223372036854775810) (H := 0) (L1 := [9223372036854775810, 0, 0, f, 1, g, 0, 0, 0, 0]) (s1 := (.put4 f 0)) rfl rfl rfl (by decide) rfl rfl ?_
    refine Runs.step_to (T := 9223372036854775810) (H := 0) (L1 := [9223372036854775810, 0, 1, f, 1, g, 0, 0, 0, 0]) (s1 := (.over 1 0 0)) rfl rfl rfl (by decide) rfl rfl ?_
    exact Runs.over rfl
  r7 := by
    refine Runs.step_to (T := 9223372036854775810) (H := 0) (L1 := [9223372036854775810, 0, 1, f, 1, g, 0, 0, 0, 0]) (s1 := (.turn true 0)) rfl rfl rfl (by decide) rfl rfl ?_
    refine Runs.step_to (T := 9223372036854775810) (H := 0) (L1 := [9223372036854775810, 0, 1, f, 1, g, 0, 0, 0, 0]) (s1 := (.over 1 0 0)) rfl rfl rfl (by decide) rfl rfl ?_
    exact Runs.over rfl
  r8 := by
    refine Runs.step_to (T := 9223372036854775810) (H := 0) (L1 := [9223372036854775810, 0, 1, f, 1, g, 0, 0, 0, 0]) (s1 := (.drain1 9223372036854775810)) rfl rfl rfl (by decide) rfl rfl ?_
    refine Runs.step_to (T := 9223372036854775810) (H := 0) (L1 := [9223372036854775810, 0, 1, f, 1, g, 0, 0, 0, 0]) (s1 := (.turn false 0)) rfl rfl rfl (by decide) rfl rfl ?_
    refine Runs.step_to (T := 9223372036854775810) (H := 0) (L1 := [9223372036854775810, 0, 1, f, 1, g, 0, 0, 0, 0]) (s1 := (.val 0)) rfl rfl rfl (by decide) rfl rfl ?_
    refine Runs.step_to (T := 9223372036854775810) (H := 0) (L1 := [9223372036854775810, 0, 1, f, 1, g, 0, 0, 0, 0]) (s1 := (.out 0 f)) rfl rfl rfl (by decide) rfl rfl ?_
    refine Runs.step_to (T := 9223372036854775810) (H := 0) (L1 := [9223372036854775810, 0, 2, f, 1, g, 0, 0, 0, 0]) (s1 := (.hd 0 f)) rfl rfl rfl (by decide) rfl rfl ?_
    refine Runs.step_to (T := 9223372036854775810) (H := 0) (L1 := [9223372036854775810, 1, 2, f, 1, g, 0, 0, 0, 0]) (s1 := (.over 1 f 0)) rfl rfl rfl (by decide) rfl rfl ?_
    exact Runs.over rfl
  r9 := by
    refine Runs.step_to (T := 9223372036854775810) (H := 1) (L1 := [9223372036854775810, 1, 2, f, 1, g, 0, 0, 0, 0]) (s1 := (.drain1 9223372036854775810)) rfl rfl rfl (by decide) rfl rfl ?_
    refine Runs.step_to (T := 9223372036854775810) (H := 1) (L1 := [9223372036854775810, 1, 2, f, 1, g, 0, 0, 0, 0]) (s1 := (.turn false 1)) rfl rfl rfl (by decide) rfl rfl ?_
    refine Runs.step_to (T := 9223372036854775810) (H := 1) (L1 := [9223372036854775810, 1, 2, f, 1, g, 0, 0, 0, 0]) (s1 := (.val 1)) rfl rfl rfl (by decide) rfl rfl ?_
    refine Runs.step_to (T := 9223372036854775810) (H := 1) (L1 := [9223372036854775810, 1, 2, f, 1, g, 0, 0, 0, 0]) (s1 := (.out 1 g)) rfl rfl rfl (by decide) rfl rfl ?_
    refine Runs.step_to (T := 9223372036854775810) (H := 1) (L1 := [9223372036854775810, 1, 2, f, 2, g, 0, 0, 0, 0]) (s1 := (.hd 1 g)) rfl rfl rfl (by decide) rfl rfl ?_
    refine Runs.step_to (T := 9223372036854775810) (H := 1) (L1 := [9223372036854775810, 2, 2, f, 2, g, 0, 0, 0, 0]) (s1 := (.over 1 g 0)) rfl rfl rfl (by decide) rfl rfl ?_
    exact Runs.over rfl
  r10 := by
    refine Runs.step_to (T := 9223372036854775810) (H := 2) (L1 := [9223372036854775810, 2, 2, f, 2, g, 0, 0, 0, 0]) (s1 := (.drain1 9223372036854775810)) rfl rfl rfl (by decide) rfl rfl ?_
    refine Runs.step_to (T := 9223372036854775810) (H := 2) (L1 := [9223372036854775810, 2, 2, f, 2, g, 0, 0, 0, 0]) (s1 := (.over 5 0 0)) rfl rfl rfl (by decide) rfl rfl ?_
    exact Runs.over rfl
theorem unf_4_4 (f g : Int) : Unf 4 4 f g [1, 0, 0, f, 0, 0, 0, 0, 0, 0] [2, 0, 0, f, 1, g, 0, 0, 0, 0] [9223372036854775810, 0, 0, f, 1, g, 0, 0, 0, 0] [9223372036854775810, 0, 1, f, 1, g, 0, 0, 0, 0] [9223372036854775810, 1, 2, f, 1, g, 0, 0, 0, 0] [9223372036854775810, 2, 2, f, 2, g, 0, 0, 0, 0] (.put4 f 0) where
  a := by
    rw [show zeros (2 + 2 * 4) = [0, 0, 0, 0, 0, 0, 0, 0, 0, 0] from rfl]
    refine Steps.step_to (T := 0) (H := 0) (L1 := [0, 0, 0, 0, 0, 0, 0, 0, 0, 0]) (s1 := (.put1 f 0)) rfl rfl rfl (by decide) rfl rfl rfl ?_
    refine Steps.step_to (T := 0) (H := 0) (L1 := [0, 0, 0, 0, 0, 0, 0, 0, 0, 0]) (s1 := (.put2 f 0)) rfl rfl rfl (by decide) rfl rfl rfl ?_
    refine Steps.step_to (T := 0) (H := 0) (L1 := [1, 0, 0, 0, 0, 0, 0, 0, 0, 0]) (s1 := (.put3 f 0)) rfl rfl rfl (by decide) rfl rfl rfl ?_
    refine Steps.step_to (T := 1) (H := 0) (L1 := [1, 0, 0, f, 0, 0, 0, 0, 0, 0]) (s1 := (.put4 f 0)) rfl rfl rfl (by decide) rfl rfl rfl ?_
    exact Steps.zero
  r1 := by
    refine Runs.step_to (T := 1) (H := 0) (L1 := [1, 0, 0, f, 0, 0, 0, 0, 0, 0]) (s1 := (.put1 g 1)) rfl rfl rfl (by decide) rfl rfl ?_
    refine Runs.step_to (T := 1) (H := 0) (L1 := [1, 0, 0, f, 0, 0, 0, 0, 0, 0]) (s1 := (.put2 g 1)) rfl rfl rfl (by decide) rfl rfl ?_
    refine Runs.step_to (T := 1) (H := 0) (L1 := [2, 0, 0, f, 0, 0, 0, 0, 0, 0]) (s1 := (.put3 g 1)) rfl rfl rfl (by decide) rfl rfl ?_
    refine Runs.step_to (T := 2) (H := 0) (L1 := [2, 0, 0, f, 0, g, 0, 0, 0, 0]) (s1 := (.put4 g 1)) rfl rfl rfl (by decide) rfl rfl ?_
    refine Runs.step_to (T := 2) (H := 0) (L1 := [2, 0, 0, f, 1, g, 0, 0, 0, 0]) (s1 := (.over 1 0 1)) rfl rfl rfl (by decide) rfl rfl ?_
    exact Runs.over rfl
  r2 := by
    refine Runs.step_to (T := 2) (H := 0) (L1 := [2, 0, 0, f, 1, g, 0, 0, 0, 0]) (s1 := (.close1 2)) rfl rfl rfl (by decide) rfl rfl ?_
    refine Runs.step_to (T := 2) (H := 0) (L1 := [9223372036854775810, 0, 0, f, 1, g, 0, 0, 0, 0]) (s1 := (.over 1 0 0)) rfl rfl rfl (by decide) rfl rfl ?_
    exact Runs.over rfl
  r3 := by
    refine Runs.step_to (T := 9223372036854775810) (H := 0) (L1 := [9223372036854775810, 0, 0, f, 1, g, 0, 0, 0, 0]) (s1 := (.drain1 9223372036854775810)) rfl rfl rfl (by decide) rfl rfl ?_
    refine Runs.step_to (T := 9223372036854775810) (H := 0) (L1 := [9223372036854775810, 0, 0, f, 1, g, 0, 0, 0, 0]) (s1 := (.turn false 0)) rfl rfl rfl (by decide) rfl rfl ?_
    refine Runs.step_to (T := 9223372036854775810) (H := 0) (L1 := [9223372036854775810, 0, 0, f, 1, g, 0, 0, 0, 0]) (s1 := (.over 4 0 0)) rfl rfl rfl (by decide) rfl rfl ?_
    exact Runs.over rfl
  r4 := by
    refine Runs.step_to (T := 9223372036854775810) (H := 0) (L1 := [9223372036854775810, 0, 0, f, 1, g, 0, 0, 0, 0]) (s1 := (.turn false 0)) rfl rfl rfl (by decide) rfl rfl ?_
    refine Runs.step_to (T := 9223372036854775810) (H := 0) (L1 := [9223372036854775810, 0, 0, f, 1, g, 0, 0, 0, 0]) (s1 := (.over 4 0 0)) rfl rfl rfl (by decide) rfl rfl ?_
    exact Runs.over rfl
  r5 := by
    refine Runs.step_to (T := 9223372036854775810) (H := 0) (L1 := [9223372036854775810, 0, 0, f, 1, g, 0, 0, 0, 0]) (s1 := (.turn true 0)) rfl rfl rfl (by decide) rfl rfl ?_
    refine Runs.step_to (T := 9223372036854775810) (H := 0) (L1 := [9223372036854775810, 0, 0, f, 1, g, 0, 0, 0, 0]) (s1 := (.over 4 0 0)) rfl rfl rfl (by decide) rfl rfl ?_
    exact Runs.over rfl
  r6 := by
    refine Runs.step_to (T := 9223372036854775810) (H := 0) (L1 := [9223372036854775810, 0, 1, f, 1, g, 0, 0, 0, 0]) (s1 := (.over 1 0 0)) rfl rfl rfl (by decide) rfl rfl ?_
    exact Runs.over rfl
  r7 := by
    refine Runs.step_to (T := 9223372036854775810) (H := 0) (L1 := [9223372036854775810, 0, 1, f, 1, g, 0, 0, 0, 0]) (s1 := (.turn true 0)) rfl rfl rfl (by decide) rfl rfl ?_
    refine Runs.step_to (T := 9223372036854775810) (H := 0) (L1 := [9223372036854775810, 0, 1, f, 1, g, 0, 0, 0, 0]) (s1 := (.over 1 0 0)) rfl rfl rfl (by decide) rfl rfl ?_
    exact Runs.over rfl
  r8 := by
    refine Runs.step_to (T := 9223372036854775810) (H := 0) (L1 := [9223372036854775810, 0, 1, f, 1, g, 0, 0, 0, 0]) (s1 := (.drain1 9223372036854775810)) rfl rfl rfl (by decide) rfl rfl ?_
    refine Runs.step_to (T := 9223372036854775810) (H := 0) (L1 := [9223372036854775810, 0, 1, f, 1, g, 0, 0, 0, 0]) (s1 := (.turn false 0)) rfl rfl rfl (by decide) rfl rfl ?_
    refine Runs.step_to (T := 9223372036854775810) (H := 0) (L1 := [9223372036854775810, 0, 1, f, 1, g, 0, 0, 0, 0]) (s1 := (.val 0)) rfl rfl rfl (by decide) rfl rfl ?_
    refine Runs.step_to (T := 9223372036854775810) (H := 0) (L1 := [9223372036854775810, 0, 1, f, 1, g, 0, 0, 0, 0]) (s1 := (.out 0 f)) rfl rfl rfl (by decide) rfl rfl ?_
    refine Runs.step_to (T := 9223372036854775810) (H := 0) (L1 := [9223372036854775810, 0, 2, f, 1, g, 0, 0, 0, 0]) (s1 := (.hd 0 f)) rfl rfl rfl (by decide) rfl rfl ?_
    refine Runs.step_to (T := 9223372036854775810) (H := 0) (L1 := [9223372036854775810, 1, 2, f, 1, g, 0, 0, 0, 0]) (s1 := (.over 1 f 0)) rfl rfl rfl (by decide) rfl rfl ?_
    exact Runs.over rfl
  r9 := by
    refine Runs.step_to (T := 9223372036854775810) (H := 1) (L1 := [9223372036854775810, 1, 2, f, 1, g, 0, 0, 0, 0]) (s1 := (.drain1 9223372036854775810)) rfl rfl rfl (by decide) rfl rfl ?_
    refine Runs.step_to (T := 9223372036854775810) (H := 1) (L1 := [9223372036854775810, 1, 2, f, 1, g, 0, 0, 0, 0]) (s1 := (.turn false 1)) rfl rfl rfl (by decide) rfl rfl ?_
    refine Runs.step_to (T := 9223372036854775810) (H := 1) (L1 := [9223372036854775810, 1, 2, f, 1, g, 0, 0, 0, 0]) (s1 := (.val 1)) rfl rfl rfl (by decide) rfl rfl ?_
    refine Runs.step_to (T := 9223372036854775810) (H := 1) (L1 := [9223372036854775810, 1, 2, f, 1, g, 0, 0, 0, 0]) (s1 := (.out 1 g)) rfl rfl rfl (by decide) rfl rfl ?_
    refine Runs.step_to (T := 9223372036854775810) (H := 1) (L1 := [9223372036854775810, 1, 2, f, 2, g, 0, 0, 0, 0]) (s1 := (.hd 1 g)) rfl rfl rfl (by decide) rfl rfl ?_
    refine Runs.step_to (T := 9223372036854775810) (H := 1) (L1 := [9223372036854775810, 2, 2, f, 2, g, 0, 0, 0, 0]) (s1 := (.over 1 g 0)) rfl rfl rfl (by decide) rfl rfl ?_
    exact Runs.over rfl
  r10 := by
    refine Runs.step_to (T := 9223372036854775810) (H := 2) (L1 := [9223372036854775810, 2, 2, f, 2, g, 0, 0, 0, 0]) (s1 := (.drain1 9223372036854775810)) rfl rfl rfl (by decide) rfl rfl ?_
    refine Runs.step_to (T := 9223372036854775810) (H := 2) (L1 := [9223372036854775810, 2, 2, f, 2, g, 0, 0, 0, 0]) (s1 := (.over 5 0 0)) rfl rfl rfl (by decide) rfl rfl ?_
    exact Runs.over rfl
theorem unf_5_3 (f g : Int) : Unf 5 3 f g [1, 0, 0, 0, 0, 0, 0, 0, 0, 0, 0, 0] [2, 0, 0, 0, 1, g, 0, 0, 0, 0, 0, 0] [9223372036854775810, 0, 0, 0, 1, g, 0, 0, 0, 0, 0, 0] [9223372036854775810, 0, 1, f, 1, g, 0, 0, 0, 0, 0, 0] [9223372036854775810, 1, 2, f, 1, g, 0, 0, 0, 0, 0, 0] [9223372036854775810, 2, 2, f, 2, g, 0, 0, 0, 0, 0, 0] (.put3 f 0) where
  a := by
    rw [show zeros (2 + 2 * 5) = [0, 0, 0, 0, 0, 0, 0, 0, 0, 0, 0, 0] from rfl]
    refine Steps.step_to (T := 0) (H := 0) (L1 := [0, 0, 0, 0, 0, 0, 0, 0, 0, 0, 0, 0]) (s1 := (.put1 f 0)) rfl rfl rfl (by decide) rfl rfl rfl ?_
    refine Steps.step_to (T := 0) (H := 0) (L1 := [0, 0, 0, 0, 0, 0, 0, 0, 0, 0, 0, 0]) (s1 := (.put2 f 0)) rfl rfl rfl (by decide) rfl rfl rfl ?_
    refine Steps.step_to (T := 0) (H := 0) (L1 := [1, 0, 0, 0, 0, 0, 0, 0, 0, 0, 0, 0]) (s1 := (.put3 f 0)) rfl rfl rfl (by decide) rfl rfl rfl ?_
    exact Steps.zero
  r1 := by
    refine Runs.step_to (T := 1) (H := 0) (L1 := [1, 0, 0, 0, 0, 0, 0, 0, 0, 0, 0, 0]) (s1 := (.put1 g 1)) rfl rfl rfl (by decide) rfl rfl ?_
    refine Runs.step_to (T := 1) (H := 0) (L1 := [1, 0, 0, 0, 0, 0, 0, 0, 0, 0, 0, 0]) (s1 := (.put2 g 1)) rfl rfl rfl (by decide) rfl rfl ?_
    refine Runs.step_to (T := 1) (H := 0) (L1 := [2, 0, 0, 0, 0, 0, 0, 0, 0, 0, 0, 0]) (s1 := (.put3 g 1)) rfl rfl rfl (by decide) rfl rfl ?_
    refine Runs.step_to (T := 2) (H := 0) (L1 := [2, 0, 0, 0, 0, g, 0, 0, 0, 0, 0, 0]) (s1 := (.put4 g 1)) rfl rfl rfl (by decide) rfl rfl ?_
    refine Runs.step_to (T := 2) (H := 0) (L1 := [2, 0, 0, 0, 1, g, 0, 0, 0, 0, 0, 0]) (s1 := (.over 1 0 1)) rfl rfl rfl (by decide) rfl rfl ?_
    exact Runs.over rfl
  r2 := by
    refine Runs.step_to (T := 2) (H := 0) (L1 := [2, 0, 0, 0, 1, g, 0, 0, 0, 0, 0, 0]) (s1 := (.close1 2)) rfl rfl rfl (by decide) rfl rfl ?_
    refine Runs.step_to (T := 2) (H := 0) (L1 := [9223372036854775810, 0, 0, 0, 1, g, 0, 0, 0, 0, 0, 0]) (s1 := (.over 1 0 0)) rfl rfl rfl (by decide) rfl rfl ?_
    exact Runs.over rfl
  r3 := by
    refine Runs.step_to (T := 9223372036854775810) (H := 0) (L1 := [9223372036854775810, 0, 0, 0, 1, g, 0, 0, 0, 0, 0, 0]) (s1 := (.drain1 9223372036854775810)) rfl rfl rfl (by decide) rfl rfl ?_
    refine Runs.step_to (T := 9223372036854775810) (H := 0) (L1 := [9223372036854775810, 0, 0, 0, 1, g, 0, 0, 0, 0, 0, 0]) (s1 := (.turn false 0)) rfl rfl rfl (by decide) rfl rfl ?_
    refine Runs.step_to (T := 9223372036854775810) (H := 0) (L1 := [9223372036854775810, 0, 0, 0, 1, g, 0, 0, 0, 0, 0, 0]) (s1 := (.over 4 0 0)) rfl rfl rfl (by decide) rfl rfl ?_
    exact Runs.over rfl
  r4 := by
    refine Runs.step_to (T := 9223372036854775810) (H := 0) (L1 := [9223372036854775810, 0, 0, 0, 1, g, 0, 0, 0, 0, 0, 0]) (s1 := (.turn false 0)) rfl rfl rfl (by decide) rfl rfl ?_
    refine Runs.step_to (T := 9223372036854775810) (H := 0) (L1 := [9223372036854775810, 0, 0, 0, 1, g, 0, 0, 0, 0, 0, 0]) (s1 := (.over 4 0 0)) rfl rfl rfl (by decide) rfl rfl ?_
    exact Runs.over rfl
  r5 := by
    refine Runs.step_to (T := 9223372036854775810) (H := 0) (L1 := [9223372036854775810, 0, 0, 0, 1, g, 0, 0, 0, 0, 0, 0]) (s1 := (.turn true 0)) rfl rfl rfl (by decide) rfl rfl ?_
    refine Runs.step_to (T := 9223372036854775810) (H := 0) (L1 := [9223372036854775810, 0, 0, 0, 1, g, 0, 0, 0, 0, 0, 0]) (s1 := (.over 4 0 0)) rfl rfl rfl (by decide) rfl rfl ?_
    exact Runs.over rfl
  r6 := by
    refine Runs.step_to (T := 9223372036854775810) (H := 0) (L1 := [9223372036854775810, 0, 0, f, 1, g, 0, 0, 0, 0, 0, 0]) (s1 := (.put4 f 0)) rfl rfl rfl (by decide) rfl rfl ?_
    refine Runs.step_to (T := 9223372036854775810) (H := 0) (L1 := [9223372036854775810, 0, 1, f, 1, g, 0, 0, 0, 0, 0, 0]) (s1 := (.over 1 0 0)) rfl rfl rfl (by decide) rfl rfl ?_
    exact Runs.over rfl
  r7 := by
    refine Runs.step_to (T := 9223372036854775810) (H := 0) (L1 := [9223372036854775810, 0, 1, f, 1, g, 0, 0, 0, 0, 0, 0]) (s1 := (.turn true 0)) rfl rfl rfl (by decide) rfl rfl ?_
    refine Runs.step_to (T := 9223372036854775810) (H := 0) (L1 := [9223372036854775810, 0, 1, f, 1, g, 0, 0, 0, 0, 0, 0]) (s1 := (.over 1 0 0)) rfl rfl rfl (by decide) rfl rfl ?_
    exact Runs.over rfl
  r8 := by
    refine Runs.step_to (T := 9223372036854775810) (H := 0) (L1 := [9223372036854775810, 0, 1, f, 1, g, 0, 0, 0, 0, 0, 0]) (s1 := (.drain1 9223372036854775810)) rfl rfl rfl (by decide) rfl rfl ?_
    refine Runs.step_to (T := 9223372036854775810) (H := 0) (L1 := [9223372036854775810, 0, 1, f, 1, g, 0, 0, 0, 0, 0, 0]) (s1 := (.turn false 0)) rfl rfl rfl (by decide) rfl rfl ?_
    refine Runs.step_to (T := 9223372036854775810) (H := 0) (L1 := [9223372036854775810, 0, 1, f, 1, g, 0, 0, 0, 0, 0, 0]) (s1 := (.val 0)) rfl rfl rfl (by decide) rfl rfl ?_
    refine Runs.step_to (T := 9223372036854775810) (H := 0) (L1 := [9223372036854775810, 0, 1, f, 1, g, 0, 0, 0, 0, 0, 0]) (s1 := (.out 0 f)) rfl rfl rfl (by decide) rfl rfl ?_
    refine Runs.step_to (T := 9223372036854775810) (H := 0) (L1 := [9223372036854775810, 0, 2, f, 1, g, 0, 0, 0, 0, 0, 0]) (s1 := (.hd 0 f)) rfl rfl rfl (by decide) rfl rfl ?_
    refine Runs.step_to (T := 9223372036854775810) (H := 0) (L1 := [9223372036854775810, 1, 2, f, 1, g, 0, 0, 0, 0, 0, 0]) (s1 := (.over 1 f 0)) rfl rfl rfl (by decide) rfl rfl ?_
    exact Runs.over rfl
  r9 := by
    refine Runs.step_to (T := 9223372036854775810) (H := 1) (L1 := [9223372036854775810, 1, 2, f, 1, g, 0, 0, 0, 0, 0, 0]) (s1 := (.drain1 9223372036854775810)) rfl rfl rfl (by decide) rfl rfl ?_
    refine Runs.step_to (T := 9223372036854775810) (H := 1) (L1 := [9223372036854775810, 1, 2, f, 1, g, 0, 0, 0, 0, 0, 0]) (s1 := (.turn false 1)) rfl rfl rfl (by decide) rfl rfl ?_
    refine Runs.step_to (T := 9223372036854775810) (H := 1) (L1 := [9223372036854775810, 1, 2, f, 1, g, 0, 0, 0, 0, 0, 0]) (s1 := (.val 1)) rfl rfl rfl (by decide) rfl rfl ?_
    refine Runs.step_to (T := 9223372036854775810) (H := 1) (L1 := [9223372036854775810, 1, 2, f, 1, g, 0, 0, 0, 0, 0, 0]) (s1 := (.out 1 g)) rfl rfl rfl (by decide) rfl rfl ?_
    refine Runs.step_to (T := 9223372036854775810) (H := 1) (L1 := [9223372036854775810, 1, 2, f, 2, g, 0, 0, 0, 0, 0, 0]) (s1 := (.hd 1 g)) rfl rfl rfl (by decide) rfl rfl ?_
    refine Runs.step_to (T := 9223372036854775810) (H := 1) (L1 := [9223372036854775810, 2, 2, f, 2, g, 0, 0, 0, 0, 0, 0]) (s1 := (.over 1 g 0)) rfl rfl rfl (by decide) rfl rfl ?_
    exact Runs.over rfl
  r10 := by
    refine Runs.step_to (T := 9223372036854775810) (H := 2) (L1 := [9223372036854775810, 2, 2, f, 2, g, 0, 0, 0, 0, 0, 0]) (s1 := (.drain1 9223372036854775810)) rfl rfl rfl (by decide) rfl rfl ?_
    refine Runs.step_to (T := 9223372036854775810) (H := 2) (L1 := [9223372036854775810, 2, 2, f, 2, g, 0, 0, 0, 0, 0, 0]) (s1 := (.over 5 0 0)) rfl rfl rfl (by decide) rfl rfl ?_
    exact Runs.over rfl
theorem unf_5_4 (f g : Int) : Unf 5 4 f g [1, 0, 0, f, 0, 0, 0, 0, 0, 0, 0, 0] [2, 0, 0, f, 1, g, 0, 0, 0, 0, 0, 0] [9223372036854775810, 0, 0, f, 1, g, 0, 0, 0, 0, 0, 0] [9223372036854775810, 0, 1, f, 1, g, 0, 0, 0, 0, 0, 0] [9223372036854775810, 1, 2, f, 1, g, 0, 0, 0, 0, 0, 0] [9223372036854775810, 2, 2, f, 2, g, 0, 0, 0, 0, 0, 0] (.put4 f 0) where
  a := by
    rw [show zeros (2 + 2 * 5) = [0, 0, 0, 0, 0, 0, 0, 0, 0, 0, 0, 0] from rfl]
    refine Steps.step_to (T := 0) (H := 0) (L1 := [0, 0, 0, 0, 0, 0, 0, 0, 0, 0, 0, 0]) (s1 := (.put1 f 0)) rfl rfl rfl (by decide) rfl rfl rfl ?_
    refine Steps.step_to (T := 0) (H := 0) (L1 := [0, 0, 0, 0, 0, 0, 0, 0, 0, 0, 0, 0]) (s1 := (.put2 f 0)) rfl rfl rfl (by decide) rfl rfl rfl ?_
    refine Steps.step_to (T := 0) (H := 0) (L1 := [1, 0, 0, 0, 0, 0, 0, 0, 0, 0, 0, 0]) (s1 := (.put3 f 0)) rfl rfl rfl (by decide) rfl rfl rfl ?_
    refine Steps.step_to (T := 1) (H := 0) (L1 := [1, 0, 0, f, 0, 0, 0, 0, 0, 0, 0, 0]) (s1 := (.put4 f 0)) rfl rfl rfl (by decide) rfl rfl rfl ?_
    exact Steps.zero
  r1 := by
    refine Runs.step_to (T := 1) (H := 0) (L1 := [1, 0, 0, f, 0, 0, 0, 0, 0, 0, 0, 0]) (s1 := (.put1 g 1)) rfl rfl rfl (by decide) rfl rfl ?_
    refine Runs.step_to (T := 1) (H := 0) (L1 := [1, 0, 0, f, 0, 0, 0, 0, 0, 0, 0, 0]) (s1 := (.put2 g 1)) rfl rfl rfl (by decide) rfl rfl ?_
    refine Runs.step_to (T := 1) (H := 0) (L1 := [2, 0, 0, f, 0, 0, 0, 0, 0, 0, 0, 0]) (s1 := (.put3 g 1)) rfl rfl rfl (by decide) rfl rfl ?_
    refine Runs.step_to (T := 2) (H := 0) (L1 := [2, 0, 0, f, 0, g, 0, 0, 0, 0, 0, 0]) (s1 := (.put4 g 1)) rfl rfl rfl (by decide) rfl rfl ?_
    refine Runs.step_to (T := 2) (H := 0) (L1 := [2, 0, 0, f, 1, g, 0, 0, 0, 0, 0, 0]) (s1 := (.over 1 0 1)) rfl rfl rfl (by decide) rfl rfl ?_
    exact Runs.over rfl
  r2 := by
    refine Runs.step_to (T := 2) (H := 0) (L1 := [2, 0, 0, f, 1, g, 0, 0, 0, 0, 0, 0]) (s1 := (.close1 2)) rfl rfl rfl (by decide) rfl rfl ?_
    refine Runs.step_to (T := 2) (H := 0) (L1 := [9223372036854775810, 0, 0, f, 1, g, 0, 0, 0, 0, 0, 0]) (s1 := (.over 1 0 0)) rfl rfl rfl (by decide) rfl rfl ?_
    exact Runs.over rfl
  r3 := by
    refine Runs.step_to (T := 9223372036854775810) (H := 0) (L1 := [9223372036854775810, 0, 0, f, 1, g, 0, 0, 0, 0, 0, 0]) (s1 := (.drain1 9223372036854775810)) rfl rfl rfl (by decide) rfl rfl ?_
    refine Runs.step_to (T := 9223372036854775810) (H := 0) (L1 := [9223372036854775810, 0, 0, f, 1, g, 0, 0, 0, 0, 0, 0]) (s1 := (.turn false 0)) rfl rfl rfl (by decide) rfl rfl ?_
    refine Runs.step_to (T := 9223372036854775810) (H := 0) (L1 := [9223372036854775810, 0, 0, f, 1, g, 0, 0, 0, 0, 0, 0]) (s1 := (.over 4 0 0)) rfl rfl rfl (by decide) rfl rfl ?_
    exact Runs.over rfl
  r4 := by
    refine Runs.step_to (T := 9223372036854775810) (H := 0) (L1 := [9223372036854775810, 0, 0, f, 1, g, 0, 0, 0, 0, 0, 0]) (s1 := (.turn false 0)) rfl rfl rfl (by decide) rfl rfl ?_
    refine Runs.step_to (T := 9223372036854775810) (H := 0) (L1 := [9223372036854775810, 0, 0, f, 1, g, 0, 0, 0, 0, 0, 0]) (s1 := (.over 4 0 0)) rfl rfl rfl (by decide) rfl rfl ?_
    exact Runs.over rfl
  r5 := by
    refine Runs.step_to (T := 9223372036854775810) (H := 0) (L1 := [9223372036854775810, 0, 0, f, 1, g, 0, 0, 0, 0, 0, 0]) (s1 := (.turn true 0)) rfl rfl rfl (by decide) rfl rfl ?_
    refine Runs.step_to (T := 9223372036854775810) (H := 0) (L1 := [9223372036854775810, 0, 0, f, 1, g, 0, 0, 0, 0, 0, 0]) (s1 := (.over 4 0 0)) rfl rfl rfl (by decide) rfl rfl ?_
    exact Runs.over rfl
  r6 := by
    refine Runs.step_to (T := 9223372036854775810) (H := 0) (L1 := [9223372036854775810, 0, 1, f, 1, g, 0, 0, 0, 0, 0, 0]) (s1 := (.over 1 0 0)) rfl rfl rfl (by decide) rfl rfl ?_
    exact Runs.over rfl
  r7 := by
    refine Runs.step_to (T := 9223372036854775810) (H := 0) (L1 := [9223372036854775810, 0, 1, f, 1, g, 0, 0, 0, 0, 0, 0]) (s1 := (.turn true 0)) rfl rfl rfl (by decide) rfl rfl ?_
    refine Runs.step_to (T := 9223372036854775810) (H := 0) (L1 := [9223372036854775810, 0, 1, f, 1, g, 0, 0, 0, 0, 0, 0]) (s1 := (.over 1 0 0)) rfl rfl rfl (by decide) rfl rfl ?_
    exact Runs.over rfl
  r8 := by
    refine Runs.step_to (T := 9223372036854775810) (H := 0) (L1 := [9223372036854775810, 0, 1, f, 1, g, 0, 0, 0, 0, 0, 0]) (s1 := (.drain1 9223372036854775810)) rfl rfl rfl (by decide) rfl rfl ?_
    refine Runs.step_to (T := 9223372036854775810) (H := 0) (L1 := [9223372036854775810, 0, 1, f, 1, g, 0, 0, 0, 0, 0, 0]) (s1 := (.turn false 0)) rfl rfl rfl (by decide) rfl rfl ?_
    refine Runs.step_to (T := 9223372036854775810) (H := 0) (L1 := [9223372036854775810, 0, 1, f, 1, g, 0, 0, 0, 0, 0, 0]) (s1 := (.val 0)) rfl rfl rfl (by decide) rfl rfl ?_
    refine Runs.step_to (T := 9223372036854775810) (H := 0) (L1 := [9223372036854775810, 0, 1, f, 1, g, 0, 0, 0, 0, 0, 0]) (s1 := (.out 0 f)) rfl rfl rfl (by decide) rfl rfl ?_
    refine Runs.step_to (T := 9223372036854775810) (H := 0) (L1 := [9223372036854775810, 0, 2, f, 1, g, 0, 0, 0, 0, 0, 0]) (s1 := (.hd 0 f)) rfl rfl rfl (by decide) rfl rfl ?_
    refine Runs.step_to (T := 9223372036854775810) (H := 0) (L1 := [9223372036854775810, 1, 2, f, 1, g, 0, 0, 0, 0, 0, 0]) (s1 := (.over 1 f 0)) rfl rfl rfl (by decide) rfl rfl ?_
    exact Runs.over rfl
  r9 := by
    refine Runs.step_to (T := 9223372036854775810) (H := 1) (L1 := [9223372036854775810, 1, 2, f, 1, g, 0, 0, 0, 0, 0, 0]) (s1 := (.drain1 9223372036854775810)) rfl rfl rfl (by decide) rfl rfl ?_
    refine Runs.step_to (T := 9223372036854775810) (H := 1) (L1 := [9223372036854775810, 1, 2, f, 1, g, 0, 0, 0, 0, 0, 0]) (s1 := (.turn false 1)) rfl rfl rfl (by decide) rfl rfl ?_
    refine Runs.step_to (T := 9223372036854775810) (H := 1) (L1 := [9223372036854775810, 1, 2, f, 1, g, 0, 0, 0, 0, 0, 0]) (s1 := (.val 1)) rfl rfl rfl (by decide) rfl rfl ?_
    refine Runs.step_to (T := 9223372036854775810) (H := 1) (L1 := [9223372036854775810, 1, 2, f, 1, g, 0, 0, 0, 0, 0, 0]) (s1 := (.out 1 g)) rfl rfl rfl (by decide) rfl rfl ?_
    refine Runs.step_to (T := 9223372036854775810) (H := 1) (L1 := [9223372036854775810, 1, 2, f, 2, g, 0, 0, 0, 0, 0, 0]) (s1 := (.hd 1 g)) rfl rfl rfl (by decide) rfl rfl ?_
    refine Runs.step_to (T := 9223372036854775810) (H := 1) (L1 := [9223372036854775810, 2, 2, f, 2, g, 0, 0, 0, 0, 0, 0]) (s1 := (.over 1 g 0)) rfl rfl rfl (by decide) rfl rfl ?_
    exact Runs.over rfl
  r10 := by
    refine Runs.step_to (T := 9223372036854775810) (H := 2) (L1 := [9223372036854775810, 2, 2, f, 2, g, 0, 0, 0, 0, 0, 0]) (s1 := (.drain1 9223372036854775810)) rfl rfl rfl (by decide) rfl rfl ?_
    refine Runs.step_to (T := 9223372036854775810) (H := 2) (L1 := [9223372036854775810, 2, 2, f, 2, g, 0, 0, 0, 0, 0, 0]) (s1 := (.over 5 0 0)) rfl rfl rfl (by decide) rfl rfl ?_
    exact Runs.over rfl
theorem unf_6_3 (f g : Int) : Unf 6 3 f g [1, 0, 0, 0, 0, 0, 0, 0, 0, 0, 0, 0, 0, 0] [2, 0, 0, 0, 1, g, 0, 0, 0, 0, 0, 0, 0, 0] [9223372036854775810, 0, 0, 0, 1, g, 0, 0, 0, 0, 0, 0, 0, 0] [9223372036854775810, 0, 1, f, 1, g, 0, 0, 0, 0, 0, 0, 0, 0] [9223372036854775810, 1, 2, f, 1, g, 0, 0, 0, 0, 0, 0, 0, 0] [9223372036854775810, 2, 2, f, 2, g, 0, 0, 0, 0, 0, 0, 0, 0] (.put3 f 0) where
  a := by
    rw [show zeros (2 + 2 * 6) = [0, 0, 0, 0, 0, 0, 0, 0, 0, 0, 0, 0, 0, 0] from rfl]
    refine Steps.step_to (T := 0) (H := 0) (L1 := [0, 0, 0, 0, 0, 0, 0, 0, 0, 0, 0, 0, 0, 0]) (s1 := (.put1 f 0)) rfl rfl rfl (by decide) rfl rfl rfl ?_
    refine Steps.step_to (T := 0) (H := 0) (L1 := [0, 0, 0, 0, 0, 0, 0, 0, 0, 0, 0, 0, 0, 0]) (s1 := (.put2 f 0)) rfl rfl rfl (by decide) rfl rfl rfl ?_
    refine Steps.step_to (T := 0) (H := 0) (L1 := [1, 0, 0, 0, 0, 0, 0, 0, 0, 0, 0, 0, 0, 0]) (s1 := (.put3 f 0)) rfl rfl rfl (by decide) rfl rfl rfl ?_
    exact Steps.zero
  r1 := by
    refine Runs.step_to (T := 1) (H := 0) (L1 := [1, 0, 0, 0, 0, 0, 0, 0, 0, 0, 0, 0, 0, 0]) (s1 := (.put1 g 1)) rfl rfl rfl (by decide) rfl rfl ?_
    refine Runs.step_to (T := 1) (H := 0) (L1 := [1, 0, 0, 0, 0, 0, 0, 0, 0, 0, 0, 0, 0, 0]) (s1 := (.put2 g 1)) rfl rfl rfl (by decide) rfl rfl ?_
    refine Runs.step_to (T := 1) (H := 0) (L1 := [2, 0, 0, 0, 0, 0, 0, 0, 0, 0, 0, 0, 0, 0]) (s1 := (.put3 g 1)) rfl rfl rfl (by decide) rfl rfl ?_
    refine Runs.step_to (T := 2) (H := 0) (L1 := [2, 0, 0, 0, 0, g, 0, 0, 0, 0, 0, 0, 0, 0]) (s1 := (.put4 g 1)) rfl rfl rfl (by decide) rfl rfl ?_
    refine Runs.step_to (T := 2) (H := 0) (L1 := [2, 0, 0, 0, 1, g, 0, 0, 0, 0, 0, 0, 0, 0]) (s1 := (.over 1 0 1)) rfl rfl rfl (by decide) rfl rfl ?_
    exact Runs.over rfl
  r2 := by
    refine Runs.step_to (T := 2) (H := 0) (L1 := [2, 0, 0, 0, 1, g, 0, 0, 0, 0, 0, 0, 0, 0]) (s1 := (.close1 2)) rfl rfl rfl (by decide) rfl rfl ?_
    refine Runs.step_to (T := 2) (H := 0) (L1 := [9223372036854775810, 0, 0, 0, 1, g, 0, 0, 0, 0, 0, 0, 0, 0]) (s1 := (.over 1 0 0)) rfl rfl rfl (by decide) rfl rfl ?_
    exact Runs.over rfl
  r3 := by
    refine Runs.step_to (T := 9223372036854775810) (H := 0) (L1 := [9223372036854775810, 0, 0, 0, 1, g, 0, 0, 0, 0, 0, 0, 0, 0]) (s1 := (.drain1 9223372036854775810)) rfl rfl rfl (by decide) rfl rfl ?_
    refine Runs.step_to (T := 9223372036854775810) (H := 0) (L1 := [9223372036854775810, 0, 0, 0, 1, g, 0, 0, 0, 0, 0, 0, 0, 0]) (s1 := (.turn false 0)) rfl rfl rfl (by decide) rfl rfl ?_
    refine Runs.step_to (T := 9223372036854775810) (H := 0) (L1 := [9223372036854775810, 0, 0, 0, 1, g, 0, 0, 0, 0, 0, 0, 0, 0]) (s1 := (.over 4 0 0)) rfl rfl rfl (by decide) rfl rfl ?_
    exact Runs.over rfl
  r4 := by
    refine Runs.step_to (T := 9223372036854775810) (H := 0) (L1 := [9223372036854775810, 0, 0, 0, 1, g, 0, 0, 0, 0, 0, 0, 0, 0]) (s1 := (.turn false 0)) rfl rfl rfl (by decide) rfl rfl ?_
    refine Runs.step_to (T := 9223372036854775810) (H := 0) (L1 := [9223372036854775810, 0, 0, 0, 1, g, 0, 0, 0, 0, 0, 0, 0, 0]) (s1 := (.over 4 0 0)) rfl rfl rfl (by decide) rfl rfl ?_
    exact Runs.over rfl
  r5 := by
    refine Runs.step_to (T := 9223372036854775810) (H := 0) (L1 := [9223372036854775810, 0, 0, 0, 1, g, 0, 0, 0, 0, 0, 0, 0, 0]) (s1 := (.turn true 0)) rfl rfl rfl (by decide) rfl rfl ?_
    refine Runs.step_to (T := 9223372036854775810) (H := 0) (L1 := [9223372036854775810, 0, 0, 0, 1, g, 0, 0, 0, 0, 0, 0, 0, 0]) (s1 := (.over 4 0 0)) rfl rfl rfl (by decide) rfl rfl ?_
    exact Runs.over rfl
  r6 := by
    refine Runs.step_to (T := 9223372036854775810) (H := 0) (L1 := [9223372036854775810, 0, 0, f, 1, g, 0, 0, 0, 0, 0, 0, 0, 0]) (s1 := (.put4 f 0)) rfl rfl rfl (by decide) rfl rfl ?_
    refine Runs.step_to (T := 9223372036854775810) (H := 0) (L1 := [9223372036854775810, 0, 1, f, 1, g, 0, 0, 0, 0, 0, 0, 0, 0]) (s1 := (.over 1 0 0)) rfl rfl rfl (by decide) rfl rfl ?_
    exact Runs.over rfl
  r7 := by
    refine Runs.step_to (T := 9223372036854775810) (H := 0) (L1 := [9223372036854775810, 0, 1, f, 1, g, 0, 0, 0, 0, 0, 0, 0, 0]) (s1 := (.turn true 0)) rfl rfl rfl (by decide) rfl rfl ?_
    refine Runs.step_to (T := 9223372036854775810) (H := 0) (L1 := [9223372036854775810, 0, 1, f, 1, g, 0, 0, 0, 0, 0, 0, 0, 0]) (s1 := (.over 1 0 0)) rfl rfl rfl (by decide) rfl rfl ?_
    exact Runs.over rfl
  r8 := by
    refine Runs.step_to (T := 9223372036854775810) (H := 0) (L1 := [9223372036854775810, 0, 1, f, 1, g, 0, 0, 0, 0, 0, 0, 0, 0]) (s1 := (.drain1 9223372036854775810)) rfl rfl rfl (by decide) rfl rfl ?_
    refine Runs.step_to (T := 9223372036854775810) (H := 0) (L1 := [9223372036854775810, 0, 1, f, 1, g, 0, 0, 0, 0, 0, 0, 0, 0]) (s1 := (.turn false 0)) rfl rfl rfl (by decide) rfl rfl ?_
    refine Runs.step_to (T := 9223372036854775810) (H := 0) (L1 := [9223372036854775810, 0, 1, f, 1, g, 0, 0, 0, 0, 0, 0, 0, 0]) (s1 := (.val 0)) rfl rfl rfl (by decide) rfl rfl ?_
    refine Runs.step_to (T := 9223372036854775810) (H := 0) (L1 := [9223372036854775810, 0, 1, f, 1, g, 0, 0, 0, 0, 0, 0, 0, 0]) (s1 := (.out 0 f)) rfl rfl rfl (by decide) rfl rfl ?_
    refine Runs.step_to (T := 9223372036854775810) (H := 0) (L1 := [9223372036854775810, 0, 2, f, 1, g, 0, 0, 0, 0, 0, 0, 0, 0]) (s1 := (.hd 0 f)) rfl rfl rfl (by decide) rfl rfl ?_
    refine Runs.step_to (T := 9223372036854775810) (H := 0) (L1 := [9223372036854775810, 1, 2, f, 1, g, 0, 0, 0, 0, 0, 0, 0, 0]) (s1 := (.over 1 f 0)) rfl rfl rfl (by decide) rfl rfl ?_
    exact Runs.over rfl
  r9 := by
    refine Runs.step_to (T := 9223372036854775810) (H := 1) (L1 := [9223372036854775810, 1, 2, f, 1, g, 0, 0, 0, 0, 0, 0, 0, 0]) (s1 := (.drain1 9223372036854775810)) rfl rfl rfl (by decide) rfl rfl ?_
    refine Runs.step_to (T := 9223372036854775810) (H := 1) (L1 := [9223372036854775810, 1, 2, f, 1, g, 0, 0, 0, 0, 0, 0, 0, 0]) (s1 := (.turn false 1)) rfl rfl rfl (by decide) rfl rfl ?_
    refine Runs.step_to (T := 9223372036854775810) (H := 1) (L1 := [9223372036854775810, 1, 2, f, 1, g, 0, 0, 0, 0, 0, 0, 0, 0]) (s1 := (.val 1)) rfl rfl rfl (by decide) rfl rfl ?_
    refine Runs.step_to (T := 9223372036854775810) (H := 1) (L1 := [9223372036854775810, 1, 2, f, 1, g, 0, 0, 0, 0, 0, 0, 0, 0]) (s1 := (.out 1 g)) rfl rfl rfl (by decide) rfl rfl ?_
    refine Runs.step_to (T := 9223372036854775810) (H := 1) (L1 := [9223372036854775810, 1, 2, f, 2, g, 0, 0, 0, 0, 0, 0, 0, 0]) (s1 := (.hd 1 g)) rfl rfl rfl (by decide) rfl rfl ?_
    refine Runs.step_to (T := 9223372036854775810) (H := 1) (L1 := [9223372036854775810, 2, 2, f, 2, g, 0, 0, 0, 0, 0, 0, 0, 0]) (s1 := (.over 1 g 0)) rfl rfl rfl (by decide) rfl rfl ?_
    exact Runs.over rfl
  r10 := by
    refine Runs.step_to (T := 9223372036854775810) (H := 2) (L1 := [9223372036854775810, 2, 2, f, 2, g, 0, 0, 0, 0, 0, 0, 0, 0]) (s1 := (.drain1 9223372036854775810)) rfl rfl rfl (by decide) rfl rfl ?_
    refine Runs.step_to (T := 9223372036854775810) (H := 2) (L1 := [9223372036854775810, 2, 2, f, 2, g, 0, 0, 0, 0, 0, 0, 0, 0]) (s1 := (.over 5 0 0)) rfl rfl rfl (by decide) rfl rfl ?_
    exact Runs.over rfl
theorem unf_6_4 (f g : Int) : Unf 6 4 f g [1, 0, 0, f, 0, 0, 0, 0, 0, 0, 0, 0, 0, 0] [2, 0, 0, f, 1, g, 0, 0, 0, 0, 0, 0, 0, 0] [9223372036854775810, 0, 0, f, 1, g, 0, 0, 0, 0, 0, 0, 0, 0] [9223372036854775810, 0, 1, f, 1, g, 0, 0, 0, 0, 0, 0, 0, 0] [9223372036854775810, 1, 2, f, 1, g, 0, 0, 0, 0, 0, 0, 0, 0] [9223372036854775810, 2, 2, f, 2, g, 0, 0, 0, 0, 0, 0, 0, 0] (.put4 f 0) where
  a := by
    rw [show zeros (2 + 2 * 6) = [0, 0, 0, 0, 0, 0, 0, 0, 0, 0, 0, 0, 0, 0] from rfl]
    refine Steps.step_to (T := 0) (H := 0) (L1 := [0, 0, 0, 0, 0, 0, 0, 0, 0, 0, 0, 0, 0, 0]) (s1 := (.put1 f 0)) rfl rfl rfl (by decide) rfl rfl rfl ?_
    refine Steps.step_to (T := 0) (H := 0) (L1 := [0, 0, 0, 0, 0, 0, 0, 0, 0, 0, 0, 0, 0, 0]) (s1 := (.put2 f 0)) rfl rfl rfl (by decide) rfl rfl rfl ?_
    refine Steps.step_to (T := 0) (H := 0) (L1 := [1, 0, 0, 0, 0, 0, 0, 0, 0, 0, 0, 0, 0, 0]) (s1 := (.put3 f 0)) rfl rfl rfl (by decide) rfl rfl rfl ?_
    refine Steps.step_to (T := 1) (H := 0) (L1 := [1, 0, 0, f, 0, 0, 0, 0, 0, 0, 0, 0, 0, 0]) (s1 := (.put4 f 0)) rfl rfl rfl (by decide) rfl rfl rfl ?_
    exact Steps.zero
  r1 := by
    refine Runs.step_to (T := 1) (H := 0) (L1 := [1, 0, 0, f, 0, 0, 0, 0, 0, 0, 0, 0, 0, 0]) (s1 := (.put1 g 1)) rfl rfl rfl (by decide) rfl rfl ?_
    refine Runs.step_to (T := 1) (H := 0) (L1 := [1, 0, 0, f, 0, 0, 0, 0, 0, 0, 0, 0, 0, 0]) (s1 := (.put2 g 1)) rfl rfl rfl (by decide) rfl rfl ?_
    refine Runs.step_to (T := 1) (H := 0) (L1 := [2, 0, 0, f, 0, 0, 0, 0, 0, 0, 0, 0, 0, 0]) (s1 := (.put3 g 1)) rfl rfl rfl (by decide) rfl rfl ?_
    refine Runs.step_to (T := 2) (H := 0) (L1 := [2, 0, 0, f, 0, g, 0, 0, 0, 0, 0, 0, 0, 0]) (s1 := (.put4 g 1)) rfl rfl rfl (by decide) rfl rfl ?_
    refine Runs.step_to (T := 2) (H := 0) (L1 := [2, 0, 0, f, 1, g, 0, 0, 0, 0, 0, 0, 0, 0]) (s1 := (.over 1 0 1)) rfl rfl rfl (by decide) rfl rfl ?_
    exact Runs.over rfl
  r2 := by
    refine Runs.step_to (T := 2) (H := 0) (L1 := [2, 0, 0, f, 1, g, 0, 0, 0, 0, 0, 0, 0, 0]) (s1 := (.close1 2)) rfl rfl rfl (by decide) rfl rfl ?_
    refine Runs.step_to (T := 2) (H := 0) (L1 := [9223372036854775810, 0, 0, f, 1, g, 0, 0, 0, 0, 0, 0, 0, 0]) (s1 := (.over 1 0 0)) rfl rfl rfl (by decide) rfl rfl ?_
    exact Runs.over rfl
  r3 := by
    refine Runs.step_to (T := 9223372036854775810) (H := 0) (L1 := [9223372036854775810, 0, 0, f, 1, g, 0, 0, 0, 0, 0, 0, 0, 0]) (s1 := (.drain1 9223372036854775810)) rfl rfl rfl (by decide) rfl rfl ?_
    refine Runs.step_to (T := 9223372036854775810) (H := 0) (L1 := [9223372036854775810, 0, 0, f, 1, g, 0, 0, 0, 0, 0, 0, 0, 0]) (s1 := (.turn false 0)) rfl rfl rfl (by decide) rfl rfl ?_
    refine Runs.step_to (T := 9223372036854775810) (H := 0) (L1 := [9223372036854775810, 0, 0, f, 1, g, 0, 0, 0, 0, 0, 0, 0, 0]) (s1 := (.over 4 0 0)) rfl rfl rfl (by decide) rfl rfl ?_
    exact Runs.over rfl
  r4 := by
    refine Runs.step_to (T := 9223372036854775810) (H := 0) (L1 := [9223372036854775810, 0, 0, f, 1, g, 0, 0, 0, 0, 0, 0, 0, 0]) (s1 := (.turn false 0)) rfl rfl rfl (by decide) rfl rfl ?_
    refine Runs.step_to (T := 9223372036854775810) (H := 0) (L1 := [9223372036854775810, 0, 0, f, 1, g, 0, 0, 0, 0, 0, 0, 0, 0]) (s1 := (.over 4 0 0)) rfl rfl rfl (by decide) rfl rfl ?_
    exact Runs.over rfl
  r5 := by
    refine Runs.step_to (T := 9223372036854775810) (H := 0) (L1 := [9223372036854775810, 0, 0, f, 1, g, 0, 0, 0, 0, 0, 0, 0, 0]) (s1 := (.turn true 0)) rfl rfl rfl (by decide) rfl rfl ?_
    refine Runs.step_to (T := 9223372036854775810) (H := 0) (L1 := [9223372036854775810, 0, 0, f, 1, g, 0, 0, 0, 0, 0, 0, 0, 0]) (s1 := (.over 4 0 0)) rfl rfl rfl (by decide) rfl rfl ?_
    exact Runs.over rfl
  r6 := by
    refine Runs.step_to (T := 9223372036854775810) (H := 0) (L1 := [9223372036854775810, 0, 1, f, 1, g, 0, 0, 0, 0, 0, 0, 0, 0]) (s1 := (.over 1 0 0)) rfl rfl rfl (by decide) rfl rfl ?_
    exact Runs.over rfl
  r7 := by
    refine Runs.step_to (T := 9223372036854775810) (H := 0) (L1 := [9223372036854775810, 0, 1, f, 1, g, 0, 0, 0, 0, 0, 0, 0, 0]) (s1 := (.turn true 0)) rfl rfl rfl (by decide) rfl rfl ?_
    refine Runs.step_to (T := 9223372036854775810) (H := 0) (L1 := [9223372036854775810, 0, 1, f, 1, g, 0, 0, 0, 0, 0, 0, 0, 0]) (s1 := (.over 1 0 0)) rfl rfl rfl (by decide) rfl rfl ?_
    exact Runs.over rfl
  r8 := by
    refine Runs.step_to (T := 9223372036854775810) (H := 0) (L1 := [9223372036854775810, 0, 1, f, 1, g, 0, 0, 0, 0, 0, 0, 0, 0]) (s1 := (.drain1 9223372036854775810)) rfl rfl rfl (by decide) rfl rfl ?_
    refine Runs.step_to (T := 9223372036854775810) (H := 0) (L1 := [9223372036854775810, 0, 1, f, 1, g, 0, 0, 0, 0, 0, 0, 0, 0]) (s1 := (.turn false 0)) rfl rfl rfl (by decide) rfl rfl ?_
    refine Runs.step_to (T := 9223372036854775810) (H := 0) (L1 := [9223372036854775810, 0, 1, f, 1, g, 0, 0, 0, 0, 0, 0, 0, 0]) (s1 := (.val 0)) rfl rfl rfl (by decide) rfl rfl ?_
    refine Runs.step_to (T := 9223372036854775810) (H := 0) (L1 := [9223372036854775810, 0, 1, f, 1, g, 0, 0, 0, 0, 0, 0, 0, 0]) (s1 := (.out 0 f)) rfl rfl rfl (by decide) rfl rfl ?_
    refine Runs.step_to (T := 9223372036854775810) (H := 0) (L1 := [9223372036854775810, 0, 2, f, 1, g, 0, 0, 0, 0, 0, 0, 0, 0]) (s1 := (.hd 0 f)) rfl rfl rfl (by decide) rfl rfl ?_
    refine Runs.step_to (T := 9223372036854775810) (H := 0) (L1 := [9223372036854775810, 1, 2, f, 1, g, 0, 0, 0, 0, 0, 0, 0, 0]) (s1 := (.over 1 f 0)) rfl rfl rfl (by decide) rfl rfl ?_
    exact Runs.over rfl
  r9 := by
    refine Runs.step_to (T := 9223372036854775810) (H := 1) (L1 := [9223372036854775810, 1, 2, f, 1, g, 0, 0, 0, 0, 0, 0, 0, 0]) (s1 := (.drain1 9223372036854775810)) rfl rfl rfl (by decide) rfl rfl ?_
    refine Runs.step_to (T := 9223372036854775810) (H := 1) (L1 := [9223372036854775810, 1, 2, f, 1, g, 0, 0, 0, 0, 0, 0, 0, 0]) (s1 := (.turn false 1)) rfl rfl rfl (by decide) rfl rfl ?_
    refine Runs.step_to (T := 9223372036854775810) (H := 1) (L1 := [9223372036854775810, 1, 2, f, 1, g, 0, 0, 0, 0, 0, 0, 0, 0]) (s1 := (.val 1)) rfl rfl rfl (by decide) rfl rfl ?_
    refine Runs.step_to (T := 9223372036854775810) (H := 1) (L1 := [9223372036854775810, 1, 2, f, 1, g, 0, 0, 0, 0, 0, 0, 0, 0]) (s1 := (.out 1 g)) rfl rfl rfl (by decide) rfl rfl ?_
    refine Runs.step_to (T := 9223372036854775810) (H := 1) (L1 := [9223372036854775810, 1, 2, f, 2, g, 0, 0, 0, 0, 0, 0, 0, 0]) (s1 := (.hd 1 g)) rfl rfl rfl (by decide) rfl rfl ?_
    refine Runs.step_to (T := 9223372036854775810) (H := 1) (L1 := [9223372036854775810, 2, 2, f, 2, g, 0, 0, 0, 0, 0, 0, 0, 0]) (s1 := (.over 1 g 0)) rfl rfl rfl (by decide) rfl rfl ?_
    exact Runs.over rfl
  r10 := by
    refine Runs.step_to (T := 9223372036854775810) (H := 2) (L1 := [9223372036854775810, 2, 2, f, 2, g, 0, 0, 0, 0, 0, 0, 0, 0]) (s1 := (.drain1 9223372036854775810)) rfl rfl rfl (by decide) rfl rfl ?_
    refine Runs.step_to (T := 9223372036854775810) (H := 2) (L1 := [9223372036854775810, 2, 2, f, 2, g, 0, 0, 0, 0, 0, 0, 0, 0]) (s1 := (.over 5 0 0)) rfl rfl rfl (by decide) rfl rfl ?_
    exact Runs.over rfl
theorem unf_7_3 (f g : Int) : Unf 7 3 f g [1, 0, 0, 0, 0, 0, 0, 0, 0, 0, 0, 0, 0, 0, 0, 0] [2, 0, 0, 0, 1, g, 0, 0, 0, 0, 0, 0, 0, 0, 0, 0] [9223372036854775810, 0, 0, 0, 1, g, 0, 0, 0, 0, 0, 0, 0, 0, 0, 0] [9223372036854775810, 0, 1, f, 1, g, 0, 0, 0, 0, 0, 0, 0, 0, 0, 0] [9223372036854775810, 1, 2, f, 1, g, 0, 0, 0, 0, 0, 0, 0, 0, 0, 0] [9223372036854775810, 2, 2, f, 2, g, 0, 0, 0, 0, 0, 0, 0, 0, 0, 0] (.put3 f 0) where
  a := by
    rw [show zeros (2 + 2 * 7) = [0, 0, 0, 0, 0, 0, 0, 0, 0, 0, 0, 0, 0, 0, 0, 0] from rfl]
    refine Steps.step_to (T := 0) (H := 0) (L1 := [0, 0, 0, 0, 0, 0, 0, 0, 0, 0, 0, 0, 0, 0, 0, 0]) (s1 := (.put1 f 0)) rfl rfl rfl (by decide) rfl rfl rfl ?_
    refine Steps.step_to (T := 0) (H := 0) (L1 := [0, 0, 0, 0, 0, 0, 0, 0, 0, 0, 0, 0, 0, 0, 0, 0]) (s1 := (.put2 f 0)) rfl rfl rfl (by decide) rfl rfl rfl ?_
    refine Steps.step_to (T := 0) (H := 0) (L1 := [1, 0, 0, 0, 0, 0, 0, 0, 0, 0, 0, 0, 0, 0, 0, 0]) (s1 := (.put3 f 0)) rfl rfl rfl (by decide) rfl rfl rfl ?_
    exact Steps.zero
  r1 := by
    refine Runs.step_to (T := 1) (H := 0) (L1 := [1, 0, 0, 0, 0, 0, 0, 0, 0, 0, 0, 0, 0, 0, 0, 0]) (s1 := (.put1 g 1)) rfl rfl rfl (by decide) rfl rfl ?_
    refine Runs.step_to (T := 1) (H := 0) (L1 := [1, 0, 0, 0, 0, 0, 0, 0, 0, 0, 0, 0, 0, 0, 0, 0]) (s1 := (.put2 g 1)) rfl rfl rfl (by decide) rfl rfl ?_
    refine Runs.step_to (T := 1) (H := 0) (L1 := [2, 0, 0, 0, 0, 0, 0, 0, 0, 0, 0, 0, 0, 0, 0, 0]) (s1 := (.put3 g 1)) rfl rfl rfl (by decide) rfl rfl ?_
    refine Runs.step_to (T := 2) (H := 0) (L1 := [2, 0, 0, 0, 0, g, 0, 0, 0, 0, 0, 0, 0, 0, 0, 0]) (s1 := (.put4 g 1)) rfl rfl rfl (by decide) rfl rfl ?_
    refine Runs.step_to (T := 2) (H := 0) (L1 := [2, 0, 0, 0, 1, g, 0, 0, 0, 0, 0, 0, 0, 0, 0, 0]) (s1 := (.over 1 0 1)) rfl rfl rfl (by decide) rfl rfl ?_
    exact Runs.over rfl
  r2 := by
    refine Runs.step_to (T := 2) (H := 0) (L1 := [2, 0, 0, 0, 1, g, 0, 0, 0, 0, 0, 0, 0, 0, 0, 0]) (s1 := (.close1 2)) rfl rfl rfl (by decide) rfl rfl ?_
    refine Runs.step_to (T := 2) (H := 0) (L1 := [9223372036854775810, 0, 0, 0, 1, g, 0, 0, 0, 0, 0, 0, 0, 0, 0, 0]) (s1 := (.over 1 0 0)) rfl rfl rfl (by decide) rfl rfl ?_
    exact Runs.over rfl
  r3 := by
    refine Runs.step_to (T := 9223372036854775810) (H := 0) (L1 := [9223372036854775810, 0, 0, 0, 1, g, 0, 0, 0, 0, 0, 0, 0, 0, 0, 0]) (s1 := (.drain1 9223372036854775810)) rfl rfl rfl (by decide) rfl rfl ?_
    refine Runs.step_to (T := 9223372036854775810) (H := 0) (L1 := [9223372036854775810, 0, 0, 0, 1, g, 0, 0, 0, 0, 0, 0, 0, 0, 0, 0]) (s1 := (.turn false 0)) rfl rfl rfl (by decide) rfl rfl ?_
    refine Runs.step_to (T := 9223372036854775810) (H := 0) (L1 := [9223372036854775810, 0, 0, 0, 1, g, 0, 0, 0, 0, 0, 0, 0, 0, 0, 0]) (s1 := (.over 4 0 0)) rfl rfl rfl (by decide) rfl rfl ?_
    exact Runs.over rfl
  r4 := by
    refine Runs.step_to (T := 9223372036854775810) (H := 0) (L1 := [9223372036854775810, 0, 0, 0, 1, g, 0, 0, 0, 0, 0, 0, 0, 0, 0, 0]) (s1 := (.turn false 0)) rfl rfl rfl (by decide) rfl rfl ?_
    refine Runs.step_to (T := 9223372036854775810) (H := 0) (L1 := [9223372036854775810, 0, 0, 0, 1, g, 0, 0, 0, 0, 0, 0, 0, 0, 0, 0]) (s1 := (.over 4 0 0)) rfl rfl rfl (by decide) rfl rfl ?_
    exact Runs.over rfl
  r5 := by
    refine Runs.step_to (T := 9223372036854775810) (H := 0) (L1 := [9223372036854775810, 0, 0, 0, 1, g, 0, 0, 0, 0, 0, 0, 0, 0, 0, 0]) (s1 := (.turn true 0)) rfl rfl rfl (by decide) rfl rfl ?_
    refine Runs.step_to (T := 9223372036854775810) (H := 0) (L1 := [9223372036854775810, 0, 0, 0, 1, g, 0, 0, 0, 0, 0, 0, 0, 0, 0, 0]) (s1 := (.over 4 0 0)) rfl rfl rfl (by decide) rfl rfl ?_
    exact Runs.over rfl
  r6 := by
    refine Runs.step_to (T := 9223372036854775810) (H := 0) (L1 := [9223372036854775810, 0, 0, f, 1, g, 0, 0, 0, 0, 0, 0, 0, 0, 0, 0]) (s1 := (.put4 f 0)) rfl rfl rfl (by decide) rfl rfl ?_
    refine Runs.step_to (T := 9223372036854775810) (H := 0) (L1 := [9223372036854775810, 0, 1, f, 1, g, 0, 0, 0, 0, 0, 0, 0, 0, 0, 0]) (s1 := (.over 1 0 0)) rfl rfl rfl (by decide) rfl rfl ?_
    exact Runs.over rfl
  r7 := by
    refine Runs.step_to (T := 9223372036854775810) (H := 0) (L1 := [9223372036854775810, 0, 1, f, 1, g, 0, 0, 0, 0, 0, 0, 0, 0, 0, 0]) (s1 := (.turn true 0)) rfl rfl rfl (by decide) rfl rfl ?_
    refine Runs.step_to (T := 9223372036854775810) (H := 0) (L1 := [9223372036854775810, 0, 1, f, 1, g, 0, 0, 0, 0, 0, 0, 0, 0, 0, 0]) (s1 := (.over 1 0 0)) rfl rfl rfl (by decide) rfl rfl ?_
    exact Runs.over rfl
  r8 := by
    refine Runs.step_to (T := 9223372036854775810) (H := 0) (L1 := [9223372036854775810, 0, 1, f, 1, g, 0, 0, 0, 0, 0, 0, 0, 0, 0, 0]) (s1 := (.drain1 9223372036854775810)) rfl rfl rfl (by decide) rfl rfl ?_
    refine Runs.step_to (T := 9223372036854775810) (H := 0) (L1 := [9223372036854775810, 0, 1, f, 1, g, 0, 0, 0, 0, 0, 0, 0, 0, 0, 0]) (s1 := (.turn false 0)) rfl rfl rfl (by decide) rfl rfl ?_
    refine Runs.step_to (T := 9223372036854775810) (H := 0) (L1 := [9223372036854775810, 0, 1, f, 1, g, 0, 0, 0, 0, 0, 0, 0, 0, 0, 0]) (s1 := (.val 0)) rfl rfl rfl (by decide) rfl rfl ?_
    refine Runs.step_to (T := 9223372036854775810) (H := 0) (L1 := [9223372036854775810, 0, 1, f, 1, g, 0, 0, 0, 0, 0, 0, 0, 0, 0, 0]) (s1 := (.out 0 f)) rfl rfl rfl (by decide) rfl rfl ?_
    refine Runs.step_to (T := 9223372036854775810) (H := 0) (L1 := [9223372036854775810, 0, 2, f, 1, g, 0, 0, 0, 0, 0, 0, 0, 0, 0, 0]) (s1 := (.hd 0 f)) rfl rfl rfl (by decide) rfl rfl ?_
    refine Runs.step_to (T := 9223372036854775810) (H := 0) (L1 := [9223372036854775810, 1, 2, f, 1, g, 0, 0, 0, 0, 0, 0, 0, 0, 0, 0]) (s1 := (.over 1 f 0)) rfl rfl rfl (by decide) rfl rfl ?_
    exact Runs.over rfl
  r9 := by
    refine Runs.step_to (T := 9223372036854775810) (H := 1) (L1 := [9223372036854775810, 1, 2, f, 1, g, 0, 0, 0, 0, 0, 0, 0, 0, 0, 0]) (s1 := (.drain1 9223372036854775810)) rfl rfl rfl (by decide) rfl rfl ?_
    refine Runs.step_to (T := 9223372036854775810) (H := 1) (L1 := [9223372036854775810, 1, 2, f, 1, g, 0, 0, 0, 0, 0, 0, 0, 0, 0, 0]) (s1 := (.turn false 1)) rfl rfl rfl (by decide) rfl rfl ?_
    refine Runs.step_to (T := 9223372036854775810) (H := 1) (L1 := [9223372036854775810, 1, 2, f, 1, g, 0, 0, 0, 0, 0, 0, 0, 0, 0, 0]) (s1 := (.val 1)) rfl rfl rfl (by decide) rfl rfl ?_
    refine Runs.step_to (T := 9223372036854775810) (H := 1) (L1 := [9223372036854775810, 1, 2, f, 1, g, 0, 0, 0, 0, 0, 0, 0, 0, 0, 0]) (s1 := (.out 1 g)) rfl rfl rfl (by decide) rfl rfl ?_
    refine Runs.step_to (T := 9223372036854775810) (H := 1) (L1 := [9223372036854775810, 1, 2, f, 2, g, 0, 0, 0, 0, 0, 0, 0, 0, 0, 0]) (s1 := (.hd 1 g)) rfl rfl rfl (by decide) rfl rfl ?_
    refine Runs.step_to (T := 9223372036854775810) (H := 1) (L1 := [9223372036854775810, 2, 2, f, 2, g, 0, 0, 0, 0, 0, 0, 0, 0, 0, 0]) (s1 := (.over 1 g 0)) rfl rfl rfl (by decide) rfl rfl ?_
    exact Runs.over rfl
  r10 := by
    refine Runs.step_to (T := 9223372036854775810) (H := 2) (L1 := [9223372036854775810, 2, 2, f, 2, g, 0, 0, 0, 0, 0, 0, 0, 0, 0, 0]) (s1 := (.drain1 9223372036854775810)) rfl rfl rfl (by decide) rfl rfl ?_
    refine Runs.step_to (T := 9223372036854775810) (H := 2) (L1 := [9223372036854775810, 2, 2, f, 2, g, 0, 0, 0, 0, 0, 0, 0, 0, 0, 0]) (s1 := (.over 5 0 0)) rfl rfl rfl (by decide) rfl rfl ?_
    exact Runs.over rfl
theorem unf_7_4 (f g : Int) : Unf 7 4 f g [1, 0, 0, f, 0, 0, 0, 0, 0, 0, 0, 0, 0, 0, 0, 0] [2, 0, 0, f, 1, g, 0, 0, 0, 0, 0, 0, 0, 0, 0, 0] [9223372036854775810, 0, 0, f, 1, g, 0, 0, 0, 0, 0, 0, 0, 0, 0, 0] [9223372036854775810, 0, 1, f, 1, g, 0, 0, 0, 0, 0, 0, 0, 0, 0, 0] [9223372036854775810, 1, 2, f, 1, g, 0, 0, 0, 0, 0, 0, 0, 0, 0, 0] [9223372036854775810, 2, 2, f, 2, g, 0, 0, 0, 0, 0, 0, 0, 0, 0, 0] (.put4 f 0) where
  a := by
    rw [show zeros (2 + 2 * 7) = [0, 0, 0, 0, 0, 0, 0, 0, 0, 0, 0, 0, 0, 0, 0, 0] from rfl]
    refine Steps.step_to (T := 0) (H := 0) (L1 := [0, 0, 0, 0, 0, 0, 0, 0, 0, 0, 0, 0, 0, 0, 0, 0]) (s1 := (.put1 f 0)) rfl rfl rfl (by decide) rfl rfl rfl ?_
    refine Steps.step_to (T := 0) (H := 0) (L1 := [0, 0, 0, 0, 0, 0, 0, 0, 0, 0, 0, 0, 0, 0, 0, 0]) (s1 := (.put2 f 0)) rfl rfl rfl (by decide) rfl rfl rfl ?_
    refine Steps.step_to (T := 0) (H := 0) (L1 := [1, 0, 0, 0, 0, 0, 0, 0, 0, 0, 0, 0, 0, 0, 0, 0]) (s1 := (.put3 f 0)) rfl rfl rfl (by decide) rfl rfl rfl ?_
    refine Steps.step_to (T := 1) (H := 0) (L1 := [1, 0, 0, f, 0, 0, 0, 0, 0, 0, 0, 0, 0, 0, 0, 0]) (s1 := (.put4 f 0)) rfl rfl rfl (by decide) rfl rfl rfl ?_
    exact Steps.zero
  r1 := by
    refine Runs.step_to (T := 1) (H := 0) (L1 := [1, 0, 0, f, 0, 0, 0, 0, 0, 0, 0, 0, 0, 0, 0, 0]) (s1 := (.put1 g 1)) rfl rfl rfl (by decide) rfl rfl ?_
    refine Runs.step_to (T := 1) (H := 0) (L1 := [1, 0, 0, f, 0, 0, 0, 0, 0, 0, 0, 0, 0, 0, 0, 0]) (s1 := (.put2 g 1)) rfl rfl rfl (by decide) rfl rfl ?_
    refine Runs.step_to (T := 1) (H := 0) (L1 := [2, 0, 0, f, 0, 0, 0, 0, 0, 0, 0, 0, 0, 0, 0, 0]) (s1 := (.put3 g 1)) rfl rfl rfl (by decide) rfl rfl ?_
    refine Runs.step_to (T := 2) (H := 0) (L1 := [2, 0, 0, f, 0, g, 0, 0, 0, 0, 0, 0, 0, 0, 0, 0]) (s1 := (.put4 g 1)) rfl rfl rfl (by decide) rfl rfl ?_
    refine Runs.step_to (T := 2) (H := 0) (L1 := [2, 0, 0, f, 1, g, 0, 0, 0, 0, 0, 0, 0, 0, 0, 0]) (s1 := (.over 1 0 1)) rfl rfl rfl (by decide) rfl rfl ?_
    exact Runs.over rfl
  r2 := by
    refine Runs.step_to (T := 2) (H := 0) (L1 := [2, 0, 0, f, 1, g, 0, 0, 0, 0, 0, 0, 0, 0, 0, 0]) (s1 := (.close1 2)) rfl rfl rfl (by decide) rfl rfl ?_
    refine Runs.step_to (T := 2) (H := 0) (L1 := [9223372036854775810, 0, 0, f, 1, g, 0, 0, 0, 0, 0, 0, 0, 0, 0, 0]) (s1 := (.over 1 0 0)) rfl rfl rfl (by decide) rfl rfl ?_
    exact Runs.over rfl
  r3 := by
    refine Runs.step_to (T := 9223372036854775810) (H := 0) (L1 := [9223372036854775810, 0, 0, f, 1, g, 0, 0, 0, 0, 0, 0, 0, 0, 0, 0]) (s1 := (.drain1 9223372036854775810)) rfl rfl rfl (by decide) rfl rfl ?_
    refine Runs.step_to (T := 9223372036854775810) (H := 0) (L1 := [9223372036854775810, 0, 0, f, 1, g, 0, 0, 0, 0, 0, 0, 0, 0, 0, 0]) (s1 := (.turn false 0)) rfl rfl rfl (by decide) rfl rfl ?_
    refine Runs.step_to (T := 9223372036854775810) (H := 0) (L1 := [9223372036854775810, 0, 0, f, 1, g, 0, 0, 0, 0, 0, 0, 0, 0, 0, 0]) (s1 := (.over 4 0 0)) rfl rfl rfl (by decide) rfl rfl ?_
    exact Runs.over rfl
  r4 := by
    refine Runs.step_to (T := 9223372036854775810) (H := 0) (L1 := [9223372036854775810, 0, 0, f, 1, g, 0, 0, 0, 0, 0, 0, 0, 0, 0, 0]) (s1 := (.turn false 0)) rfl rfl rfl (by decide) rfl rfl ?_
    refine Runs.step_to (T := 9223372036854775810) (H := 0) (L1 := [9223372036854775810, 0, 0, f, 1, g, 0, 0, 0, 0, 0, 0, 0, 0, 0, 0]) (s1 := (.over 4 0 0)) rfl rfl rfl (by decide) rfl rfl ?_
    exact Runs.over rfl
  r5 := by
    refine Runs.step_to (T := 9223372036854775810) (H := 0) (L1 := [9223372036854775810, 0, 0, f, 1, g, 0, 0, 0, 0, 0, 0, 0, 0, 0, 0]) (s1 := (.turn true 0)) rfl rfl rfl (by decide) rfl rfl ?_
    refine Runs.step_to (T := 9223372036854775810) (H := 0) (L1 := [9223372036854775810, 0, 0, f, 1, g, 0, 0, 0, 0, 0, 0, 0, 0, 0, 0]) (s1 := (.over 4 0 0)) rfl rfl rfl (by decide) rfl rfl ?_
    exact Runs.over rfl
  r6 := by
    refine Runs.step_to (T := 9223372036854775810) (H := 0) (L1 := [9223372036854775810, 0, 1, f, 1, g, 0, 0, 0, 0, 0, 0, 0, 0, 0, 0]) (s1 := (.over 1 0 0)) rfl rfl rfl (by decide) rfl rfl ?_
    exact Runs.over rfl
  r7 := by
    refine Runs.step_to (T := 9223372036854775810) (H := 0) (L1 := [9223372036854775810, 0, 1, f, 1, g, 0, 0, 0, 0, 0, 0, 0, 0, 0, 0]) (s1 := (.turn true 0)) rfl rfl rfl (by decide) rfl rfl ?_
    refine Runs.step_to (T := 9223372036854775810) (H := 0) (L1 := [9223372036854775810, 0, 1, f, 1, g, 0, 0, 0, 0, 0, 0, 0, 0, 0, 0]) (s1 := (.over 1 0 0)) rfl rfl rfl (by decide) rfl rfl ?_
    exact Runs.over rfl
  r8 := by
    refine Runs.step_to (T := 9223372036854775810) (H := 0) (L1 := [9223372036854775810, 0, 1, f, 1, g, 0, 0, 0, 0, 0, 0, 0, 0, 0, 0]) (s1 := (.drain1 9223372036854775810)) rfl rfl rfl (by decide) rfl rfl ?_
    refine Runs.step_to (T := 9223372036854775810) (H := 0) (L1 := [9223372036854775810, 0, 1, f, 1, g, 0, 0, 0, 0, 0, 0, 0, 0, 0, 0]) (s1 := (.turn false 0)) rfl rfl rfl (by decide) rfl rfl ?_
    refine Runs.step_to (T := 9223372036854775810) (H := 0) (L1 := [9223372036854775810, 0, 1, f, 1, g, 0, 0, 0, 0, 0, 0, 0, 0, 0, 0]) (s1 := (.val 0)) rfl rfl rfl (by decide) rfl rfl ?_
    refine Runs.step_to (T := 9223372036854775810) (H := 0) (L1 := [9223372036854775810, 0, 1, f, 1, g, 0, 0, 0, 0, 0, 0, 0, 0, 0, 0]) (s1 := (.out 0 f)) rfl rfl rfl (by decide) rfl rfl ?_
    refine Runs.step_to (T := 9223372036854775810) (H := 0) (L1 := [9223372036854775810, 0, 2, f, 1, g, 0, 0, 0, 0, 0, 0, 0, 0, 0, 0]) (s1 := (.hd 0 f)) rfl rfl rfl (by decide) rfl rfl ?_
    refine Runs.step_to (T := 9223372036854775810) (H := 0) (L1 := [9223372036854775810, 1, 2, f, 1, g, 0, 0, 0, 0, 0, 0, 0, 0, 0, 0]) (s1 := (.over 1 f 0)) rfl rfl rfl (by decide) rfl rfl ?_
    exact Runs.over rfl
  r9 := by
    refine Runs.step_to (T := 9223372036854775810) (H := 1) (L1 := [9223372036854775810, 1, 2, f, 1, g, 0, 0, 0, 0, 0, 0, 0, 0, 0, 0]) (s1 := (.drain1 9223372036854775810)) rfl rfl rfl (by decide) rfl rfl ?_
    refine Runs.step_to (T := 9223372036854775810) (H := 1) (L1 := [9223372036854775810, 1, 2, f, 1, g, 0, 0, 0, 0, 0, 0, 0, 0, 0, 0]) (s1 := (.turn false 1)) rfl rfl rfl (by decide) rfl rfl ?_
    refine Runs.step_to (T := 9223372036854775810) (H := 1) (L1 := [9223372036854775810, 1, 2, f, 1, g, 0, 0, 0, 0, 0, 0, 0, 0, 0, 0]) (s1 := (.val 1)) rfl rfl rfl (by decide) rfl rfl ?_
    refine Runs.step_to (T := 9223372036854775810) (H := 1) (L1 := [9223372036854775810, 1, 2, f, 1, g, 0, 0, 0, 0, 0, 0, 0, 0, 0, 0]) (s1 := (.out 1 g)) rfl rfl rfl (by decide) rfl rfl ?_
    refine Runs.step_to (T := 9223372036854775810) (H := 1) (L1 := [9223372036854775810, 1, 2, f, 2, g, 0, 0, 0, 0, 0, 0, 0, 0, 0, 0]) (s1 := (.hd 1 g)) rfl rfl rfl (by decide) rfl rfl ?_
    refine Runs.step_to (T := 9223372036854775810) (H := 1) (L1 := [9223372036854775810, 2, 2, f, 2, g, 0, 0, 0, 0, 0, 0, 0, 0, 0, 0]) (s1 := (.over 1 g 0)) rfl rfl rfl (by decide) rfl rfl ?_
    exact Runs.over rfl
  r10 := by
    refine Runs.step_to (T := 9223372036854775810) (H := 2) (L1 := [9223372036854775810, 2, 2, f, 2, g, 0, 0, 0, 0, 0, 0, 0, 0, 0, 0]) (s1 := (.drain1 9223372036854775810)) rfl rfl rfl (by decide) rfl rfl ?_
    refine Runs.step_to (T := 9223372036854775810) (H := 2) (L1 := [9223372036854775810, 2, 2, f, 2, g, 0, 0, 0, 0, 0, 0, 0, 0, 0, 0]) (s1 := (.over 5 0 0)) rfl rfl rfl (by decide) rfl rfl ?_
    exact Runs.over rfl

theorem unf_all (sl st : Int) (f g : Int) (hsl : 0 ≤ sl ∧ sl < 256) (hst : 0 ≤ st ∧ st < 256) (w : World) :
    Calls Try.prog 8 #[.int .u8 sl, .int .u64 f, .int .u64 g, .int .u8 st] w fun e w' => e = .returned (.bool true) ∧ Below w.heap.size w w' := by
  have hs : sl % 6 = 0 ∨ sl % 6 = 1 ∨ sl % 6 = 2 ∨ sl % 6 = 3 ∨ sl % 6 = 4 ∨ sl % 6 = 5 := by omega
  have ht : st % 2 = 0 ∨ st % 2 = 1 := by omega
  rcases hs with e | e | e | e | e | e <;> rcases ht with e' | e'
  · exact unf_walk sl st f g 2 3 _ _ _ _ _ _ _ (by omega) (by omega) (by rw [e]; rfl) (by rw [e']; rfl) hsl hst (unf_2_3 f g) w
  · exact unf_walk sl st f g 2 4 _ _ _ _ _ _ _ (by omega) (by omega) (by rw [e]; rfl) (by rw [e']; rfl) hsl hst (unf_2_4 f g) w
  · exact unf_walk sl st f g 3 3 _ _ _ _ _ _ _ (by omega) (by omega) (by rw [e]; rfl) (by rw [e']; rfl) hsl hst (unf_3_3 f g) w
  · exact unf_walk sl st f g 3 4 _ _ _ _ _ _ _ (by omega) (by omega) (by rw [e]; rfl) (by rw [e']; rfl) hsl hst (unf_3_4 f g) w
  · exact unf_walk sl st f g 4 3 _ _ _ _ _ _ _ (by omega) (by omega) (by rw [e]; rfl) (by rw [e']; rfl) hsl hst (unf_4_3 f g) w
  · exact unf_walk sl st f g 4 4 _ _ _ _ _ _ _ (by omega) (by omega) (by rw [e]; rfl) (by rw [e']; rfl) hsl hst (unf_4_4 f g) w
  · exact unf_walk sl st f g 5 3 _ _ _ _ _ _ _ (by omega) (by omega) (by rw [e]; rfl) (by rw [e']; rfl) hsl hst (unf_5_3 f g) w
  · exact unf_walk sl st f g 5 4 _ _ _ _ _ _ _ (by omega) (by omega) (by rw [e]; rfl) (by rw [e']; rfl) hsl hst (unf_5_4 f g) w
  · exact unf_walk sl st f g 6 3 _ _ _ _ _ _ _ (by omega) (by omega) (by rw [e]; rfl) (by rw [e']; rfl) hsl hst (unf_6_3 f g) w
  · exact unf_walk sl st f g 6 4 _ _ _ _ _ _ _ (by omega) (by omega) (by rw [e]; rfl) (by rw [e']; rfl) hsl hst (unf_6_4 f g) w
  · exact unf_walk sl st f g 7 3 _ _ _ _ _ _ _ (by omega) (by omega) (by rw [e]; rfl) (by rw [e']; rfl) hsl hst (unf_7_3 f g) w
  · exact unf_walk sl st f g 7 4 _ _ _ _ _ _ _ (by omega) (by omega) (by rw [e]; rfl) (by rw [e']; rfl) hsl hst (unf_7_4 f g) w
end Go.Proofs.Ytpnpbgcndlfobaa
