/- DequeFirst answers true for every number and every list of picks, and turns nothing that there was: the walk. -/
import Derived.Test.YtokopocldicnmaaDqCj
import Derived.Test.YtokopocldicnmaaDqOnA
import Derived.BigQuiet
import Derived.Deep.QuietTactic
namespace Go.Proofs.Ytokopocldicnmaa.Dq
open Go.RowKit

set_option maxRecDepth 100000 in
set_option maxHeartbeats 8000000 in
theorem first_walk (k : Int) (a : Option Addr) (cap : Nat) (V : List Int) (c : Nat) (w : World) (hc : 1 ≤ c ∧ c ≤ 8) (e1 : 1 + k % 6 = (c : Int)) (hk : 0 ≤ k ∧ k < 256) (hV : RowK .u8 w a V) (hu : ∀ j, 0 ≤ V.getD j 0 ∧ V.getD j 0 < 256) (hr : V.length * 1 ≤ 140737488351232) :
    Calls Try.prog 4 #[.int .u8 k, .slice a V.length cap] w fun e w' => e = .returned (.bool true) ∧ Below w.heap.size w w' := by
  have rn := Lib.hid (fun w1 (o : Only Nil w w1) => run_walk c (by omega) hc.2 a cap V w1 (hV.keep o) hu hr)
  rw [← e1] at rn
  obtain ⟨x1, x2⟩ := hk
  clear hc e1 hV hu
  generalize V.length = len at hr rn ⊢
  go_enter Try.func4, Try.ntmps4
  go_wp2_with (first
    | (go_at_call 15; (with_reducible refine (alive_any _).mono ?_); rintro e w1 ⟨rfl, o1⟩)
    | (go_at_call 16; (with_reducible refine (rn.out _ o1).mono ?_); rintro e w2 ⟨gb, rfl, k2⟩))
  obtain ⟨rg, B, base, tb, K, h3⟩ := k2.out
  obtain ⟨nx, iv, ins, most, D2, F, _⟩ := h3.rd
  have ow := Lib.hid (o1.trans D2.only)
  have D2' := Lib.hid D2
  have srt := Lib.hid (fun i j (hij : i < j) (hj : j < (ins 2).length) => pair_lt F.stl hij hj)
  have n2 := D2.short 2
  have c7 := D2.c7
  obtain ⟨aS, kS, eS, hS⟩ := D2.iu 2 (by decide)
  rw [eS] at c7
  have hS' := Lib.hid hS
  clear k2 h3 D2 F o1 rn eS hS
  generalize hl : (ins 2).length = lS at *
  clear hl
  have n2' : (lS : Int) ≤ 100000 := by omega
  go_loopw [6] (fun s6 wr => ∃ i : Nat, 1 ≤ i ∧ (i ≤ lS ∨ i = 1) ∧ s6 = .int .i64 (i : Int) ∧ ∃ q, wr = w2.drewN q)
    (fun s6 _ => lS - (intOf s6).toNat)
  case atStart => exact ⟨1, Nat.le_refl _, .inr rfl, rfl, 0, rfl⟩
  case round =>
    obtain ⟨i, hi1, hi, rfl, q, rfl⟩ := hrel
    by_cases hil : i < lS
    · have hil' : (i : Int) < (lS : Int) := by omega
      have hg := Lib.hid hil
      obtain ⟨j, hj⟩ : ∃ j, i = j + 1 := ⟨i - 1, by omega⟩
      obtain ⟨g, rfl, _, hc⟩ := hS'.out i hil
      have x0 := hc i hil
      have x1' := hc j (by omega)
      have lt := srt.out j i (by omega) hil
      have hji : (i : Int) - 1 = (j : Int) := by omega
      have hi1i : (1 : Int) ≤ (i : Int) := by omega
      generalize (ins 2).getD i 0 = y at x0 lt
      generalize (ins 2).getD j 0 = z at x1' lt
      have ngt : ¬ (y ≤ z) := by omega
      clear hc lt hi hi1 hj hil
      go_wp2
      go_quiet (fail)
      go_wp2
      go_roundw
      case rel => exact ⟨i + 1, by omega, .inl (by have := hg.out; omega), by go_num, _, rfl⟩
      case measure => have := hg.out; simp [intOf]; omega
    · have hil' : ¬ ((i : Int) < (lS : Int)) := by omega
      clear hi hi1 hil
      go_wp2
      go_ret
      exact ⟨rfl, (ow.out.trans ((Only.refl Nil w2).drewN _)).below (Nat.le_refl _) (fun _ h => h.elim)⟩

theorem first_all (k : Int) (a : Option Addr) (cap : Nat) (V : List Int) (w : World) (hk : 0 ≤ k ∧ k < 256) (hV : RowK .u8 w a V) (hu : ∀ n ∈ V, (Lit.int .u8 n).wf = true) (hr : V.length * 1 ≤ 140737488351232) :
    Calls Try.prog 4 #[.int .u8 k, .slice a V.length cap] w fun e w' => e = .returned (.bool true) ∧ Below w.heap.size w w' :=
  first_walk k a cap V (1 + k % 6).toNat w (by omega) (by omega) hk hV (u8s_of_wf hu) hr
end Go.Proofs.Ytokopocldicnmaa.Dq
