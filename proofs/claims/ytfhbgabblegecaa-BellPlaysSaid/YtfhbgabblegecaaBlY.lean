/- A bell of whom some sleep. -/
import Derived.Test.YtfhbgabblegecaaBlX
namespace Go.Proofs.Ytfhbgabblegecaa.Bl
open Go.RowKit

/-- The cells of n workers, of whom those sleep that are named, of the first k; and one more. -/
def napL (n : Nat) (A : List Bool) (k : Nat) : List Int := (List.range (n + 1)).map fun i => if i < k ∧ i < n ∧ A.getD i false = true then 1 else 0
theorem napL_length (n : Nat) (A : List Bool) (k : Nat) : (napL n A k).length = n + 1 := by simp [napL]
theorem napL_get (n : Nat) (A : List Bool) (k i : Nat) : (napL n A k).getD i 0 = if i < k ∧ i < n ∧ A.getD i false = true then 1 else 0 := by
  unfold napL
  by_cases h : i < n + 1
  · simp [h]
  · simp [h]; intro _ h2; omega
theorem napL_zero (n : Nat) (A : List Bool) : napL n A 0 = zeros (n + 1) := by
  apply List.ext_getElem <;> simp [napL, zeros]
theorem napL_yes (n : Nat) (A : List Bool) (k : Nat) (hk : k < n) (h : A.getD k false = true) : (napL n A k).set k 1 = napL n A (k + 1) := by
  apply List.ext_getElem
  · simp [napL]
  · intro i h1 h2
    simp only [napL, List.getElem_set, List.getElem_map, List.getElem_range]
    by_cases e : k = i
    · subst e; rw [if_pos rfl, if_pos ⟨by omega, hk, h⟩]
    · rw [if_neg e]
      by_cases hh : i < k ∧ i < n ∧ A.getD i false = true
      · rw [if_pos hh, if_pos ⟨by omega, hh.2.1, hh.2.2⟩]
      · rw [if_neg hh, if_neg (fun x => hh ⟨by omega, x.2.1, x.2.2⟩)]
theorem napL_no (n : Nat) (A : List Bool) (k : Nat) (h : A.getD k false = false) : napL n A k = napL n A (k + 1) := by
  apply List.ext_getElem
  · simp [napL]
  · intro i h1 h2
    simp only [napL, List.getElem_map, List.getElem_range]
    by_cases e : k = i
    · subst e; rw [if_neg (fun x => by omega), if_neg (fun x => by rw [h] at x; exact absurd x.2.2 (by decide))]
    · by_cases hh : i < k ∧ i < n ∧ A.getD i false = true
      · rw [if_pos hh, if_pos ⟨by omega, hh.2.1, hh.2.2⟩]
      · rw [if_neg hh, if_neg (fun x => hh ⟨by omega, x.2.1, x.2.2⟩)]
theorem napL_beyond (n : Nat) (A : List Bool) (k : Nat) (h : n ≤ k ∨ A.length ≤ k) : napL n A k = napL n A n := by
  apply List.ext_getElem
  · simp [napL]
  · intro i h1 h2
    simp only [napL, List.getElem_map, List.getElem_range]
    by_cases hh : i < n ∧ A.getD i false = true
    · have : i < A.length := by
        apply Classical.byContradiction; intro hc
        have : A.getD i false = false := by simp [List.getElem?_eq_none (by omega : A.length ≤ i)]
        rw [this] at hh; exact absurd hh.2 (by decide)
      rw [if_pos ⟨by omega, hh.1, hh.2⟩, if_pos ⟨hh.1, hh.1, hh.2⟩]
    · rw [if_neg (fun x => hh ⟨x.2.1, x.2.2⟩), if_neg (fun x => hh ⟨x.2.1, x.2.2⟩)]
theorem napL_nil (n : Nat) : napL n [] n = zeros (n + 1) := by
  rw [← napL_beyond n [] 0 (.inr (Nat.zero_le _)), napL_zero]
theorem run_sleep (n : Nat) (L : List Int) (k x : Nat) (hk : k < n) : Runs 0 n 1 L (bgn .sleep n (k : Int) x) (L.set k 1) (.over 1 (-1)) := by
  rw [bgn_in .sleep n k x hk]
  have h : stepL 0 L (.one .sleep k x (x + 1)) = L.set k 1 := by simp [stepL, acc, Kd.acc, doAcc]
  refine Runs.step rfl ?_
  rw [h]
  exact Runs.over rfl

set_option maxHeartbeats 4000000 in
theorem made_any (w : World) (n : Nat) (hn : 0 < n) (hn2 : n ≤ 8) (a : Option Addr) (A : List Bool) (cap : Nat) (hA : RowBo w a A) (hsz : A.length ≤ 140737488351232) :
    Calls Try.prog 29 #[.int .i64 (n : Int), .slice a A.length cap] w fun e w' => ∃ rg,
      e = .returned (.tuple #[.pointer (some ⟨rg, 0, none⟩), .pointer (some ⟨w.heap.size + 1, 0, none⟩)]) ∧ Hid (∃ t, Lw w w' rg (w.heap.size + 1) w.heap.size 0 n (napL n A n) t ∧ t ≤ 100) := by
  have nw := Lib.hid (new_any ((n : Int) + 1) w)
  rw [show count ((n : Int) + 1) = n + 1 by unfold count; omega] at nw
  have mk := Lib.hid (fun w1 m o => make_fresh w w1 n (n + 1) hn hn2 (by omega) (by omega) m o)
  have g3 : (n : Int) ≤ 8 := by omega
  have hn' := Lib.hid (And.intro hn hn2)
  have hA' := Lib.hid hA
  have hsz' := Lib.hid hsz
  clear hn hn2 hA hsz
  go_enter Try.func29, Try.ntmps29
  go_wp2_with (first
    | (go_at_call 14; refine (nw.out).mono ?_; rintro e w1 ⟨rfl, m1, o1⟩)
    | (go_at_call 15; refine (mk.out _ m1 o1).mono ?_; rintro e w2 ⟨g, rfl, l2⟩))
  have l2' := Lib.hid l2
  clear l2 m1 o1 nw mk
  go_loopw [9] (fun s3 wr => ∃ k : Nat, k ≤ n ∧ k ≤ A.length ∧ s3 = .int .i64 (k : Int) ∧ Hid (∃ t, Lw w wr g (w.heap.size + 1) w.heap.size 0 n (napL n A k) t ∧ t ≤ (n : Int) + (k : Int)))
    (fun s3 _ => n - (intOf s3).toNat)
  case atStart => exact ⟨0, Nat.zero_le _, Nat.zero_le _, rfl, Lib.hid ⟨_, by rw [napL_zero]; exact l2'.out, by omega⟩⟩
  case round =>
    obtain ⟨k, hk1, hk2, rfl, hh⟩ := hrel
    obtain ⟨t, hL, ht⟩ := hh.out
    have hk9 : (k : Int) ≤ 8 := by omega
    by_cases hkn : k < n ∧ k < A.length
    · obtain ⟨b1, off, rfl, hlt, hc⟩ := hA'.out k hkn.2
      have hcell := (World.cell?_of_block (a := ⟨b1, off + k, none⟩) (hL.only.block b1 hlt (fun h => h))).trans (hc k hkn.2)
      have hi1 : (k : Int) < (n : Int) := by omega
      have hi2 : (k : Int) < (A.length : Int) := by omega
      have hsz2 := hsz'.out
      cases hv : A.getD k false with
      | true =>
        rw [hv] at hcell
        have sl := Lib.hid (hL.sleep (k : Int))
        have dn := Lib.hid (fun w3 (h : Lw w w3 g (w.heap.size + 1) w.heap.size 0 n (napL n A k) t) (q : Op1 w w3 (wr.heap.size + 2) g (w.heap.size + 1) w.heap.size n (bgn .sleep n (k : Int) wr.heap.size)) => h.done q (run_sleep n (napL n A k) k _ hkn.1) (by decide) (by omega))
        rw [napL_yes n A k hkn.1 hv] at dn
        have et := Lib.hid ht
        clear hL hkn hk1 hk2 ht hh hc hv hlt
        go_wp2_with (first
          | (go_at_call 34; refine (sl.out).mono ?_; rintro e w3 ⟨rfl, j3, q3, _, _⟩)
          | (go_at_call 36; refine (dn.out _ j3 q3).mono ?_; rintro e w4 ⟨rfl, h4, _, _⟩))
        have h4' := Lib.hid h4
        clear h4 j3 q3
        go_roundw
        case rel => exact ⟨k + 1, by omega, by omega, by go_num, Lib.hid ⟨_, h4'.out, by have := et.out; omega⟩⟩
        case measure => simp [intOf]; omega
      | false =>
        rw [hv] at hcell
        have hL' := Lib.hid hL
        rw [napL_no n A k hv] at hL'
        have et := Lib.hid ht
        clear hL hkn hk1 hk2 ht hh hc hv hlt
        go_wp2
        go_roundw
        case rel => exact ⟨k + 1, by omega, by omega, by go_num, Lib.hid ⟨_, hL'.out, by have := et.out; omega⟩⟩
        case measure => simp [intOf]; omega
    · have hb := napL_beyond n A k (by omega)
      rw [hb] at hL
      have hL' := Lib.hid hL
      have ht' : t ≤ 100 := by omega
      clear hL hh ht hb
      by_cases hi1 : (k : Int) < (n : Int)
      · have hi2 : ¬ ((k : Int) < (A.length : Int)) := by omega
        clear hkn hk1 hk2
        go_wp2
        go_ret2
        exact ⟨_, rfl, Lib.hid ⟨_, hL'.out, ht'⟩⟩
      · clear hkn hk1 hk2
        go_wp2
        go_ret2
        exact ⟨_, rfl, Lib.hid ⟨_, hL'.out, ht'⟩⟩
end Go.Proofs.Ytfhbgabblegecaa.Bl
