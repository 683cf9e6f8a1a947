/- The document's Next of a gate's operation, whatever it was answered: one contract. -/
import Derived.Test.YtokopocldicnmaaGtNb
namespace Go.Proofs.Ytokopocldicnmaa.Gt
open Go.RowKit

theorem fit_at {c : Nat} {s : OS} {log : List Int} (hf : Fits c s log) (i : Nat) (hi : i < log.length) : Fit (runL c s (log.take i)) (log.getD i 0) := hf i hi
theorem Fits.logOk {c : Nat} {s : OS} {log : List Int} (hf : Fits c s log) : LogOk log := fun i hi => ⟨(hf i hi).1, (hf i hi).2.1⟩
theorem wantOf_agg (b c : Nat) (s : OS) : ∃ (x0 : Bool) (x1 x2 x3 x4 x5 x6 x7 : Int), wantOf b c s = .agg #[.bool x0, .int .i64 x1, .int .i64 x2, .int .u64 x3, .int .u64 x4, .int .i64 x5, .int .u64 x6, .int .u64 x7] := by
  have h : ∀ a, ∃ (x0 : Bool) (x1 x2 x3 x4 x5 x6 x7 : Int), accWant a = .agg #[.bool x0, .int .i64 x1, .int .i64 x2, .int .u64 x3, .int .u64 x4, .int .i64 x5, .int .u64 x6, .int .u64 x7] := by
    intro a
    cases a <;> exact ⟨_, _, _, _, _, _, _, _, rfl⟩
  cases s <;> first | exact ⟨_, _, _, _, _, _, _, _, rfl⟩ | (simp only [wantOf]; exact h _)


theorem rnext_any (w : World) (b c kind : Nat) (v : Int) (a : Option Addr) (cap : Nat) (log : List Int) (hk : 1 ≤ kind ∧ kind ≤ 2) (hc : 0 < c) (hc2 : c ≤ 64) (hb : b ≤ 1000) (hl : LogIn w a log) (hf : Fits c (begin kind v) log) (hlen : log.length ≤ 1000000) :
    Calls Try.prog 31 #[.agg #[.int .i64 (b : Int), .int .i64 (c : Int)], .agg #[.int .i64 (kind : Int), .int .u64 v, .slice a log.length cap]] w fun e w' => e = .returned (wantOf b c (runL c (begin kind v) log)) ∧ Only Nil w w' := by
  have hcases : kind = 1 ∨ kind = 2 := by omega
  rcases hcases with rfl | rfl
  · exact rnext_put w b c v a cap log hc hc2 hb hl hf.logOk hlen
  · refine rnext_take w b c v a cap log hc hc2 hb hl hf.logOk hlen (fun k hk T e => ?_)
    rcases Nat.lt_or_ge (k + 5) log.length with h | h
    · exfalso
      have e4 : runL c (.s0 .take) (log.take (k + 4)) = .s4 .take T (log.getD (k + 3) 0) := by rw [show k + 4 = k + 3 + 1 by omega, runL_take c _ log (k + 3) (by omega), e]; rfl
      have e5 : runL c (.s0 .take) (log.take (k + 5)) = .over 1 (log.getD (k + 3) 0) := by rw [show k + 5 = k + 4 + 1 by omega, runL_take c _ log (k + 4) (by omega), e4]; rfl
      have := hf (k + 5) h
      have e6 : runL c (begin 2 v) (log.take (k + 5)) = .over 1 (log.getD (k + 3) 0) := e5
      rw [e6] at this
      exact this.2.2
    · omega
end Go.Proofs.Ytokopocldicnmaa.Gt
