/- The document's Next, of whatever operation: one contract. -/
import Derived.Test.YtpnpbgcndlfobaaRingJ
import Derived.Test.YtpnpbgcndlfobaaRingK
namespace Go.Proofs.Ytpnpbgcndlfobaa
open Go.RowKit

/-- Where an operation of a kind begins. -/
def begin (kind : Nat) (v : Int) : OS := if kind = 1 then .put0 v else if kind = 2 then .take0 else if kind = 3 then .drain0 else if kind = 4 then .close0 else .look0
/-- What an access may answer an operation that stands so. -/
def Fit (s : OS) (a : Int) : Prop :=
  0 ≤ a ∧ a < 18446744073709551616 ∧ match s with
    | .close1 _ => a = 0 ∨ a = 1
    | .take0 => a < 4611686018427387904
    | .look0 => a < 4611686018427387904
    | .drain1 _ => a < 4611686018427387904
    | _ => True
/-- All that an operation was answered. -/
def Fits (c : Nat) (s : OS) (log : List Int) : Prop := ∀ i, i < log.length → Fit (runL c s (log.take i)) (log.getD i 0)
theorem Fits.ok {c : Nat} {s : OS} {log : List Int} (h : Fits c s log) : LogOk log := fun i hi => ⟨(h i hi).1, (h i hi).2.1⟩

theorem rnext_any (w : World) (b c kind : Nat) (v : Int) (a : Option Addr) (cap : Nat) (log : List Int) (hk : 1 ≤ kind ∧ kind ≤ 5) (hc : 0 < c) (hc2 : c ≤ 64) (hb : b ≤ 1000) (hl : LogIn w a log) (hf : Fits c (begin kind v) log) (hlen : log.length ≤ 1000000) :
    Calls Try.prog 21 #[.agg #[.int .i64 (b : Int), .int .i64 (c : Int)], .agg #[.int .i64 (kind : Int), .int .u64 v, .slice a log.length cap]] w fun e w' => e = .returned (wantOf b c (runL c (begin kind v) log)) ∧ Only Nil w w' := by
  have hok := hf.ok
  have hcases : kind = 1 ∨ kind = 2 ∨ kind = 3 ∨ kind = 4 ∨ kind = 5 := by omega
  rcases hcases with rfl | rfl | rfl | rfl | rfl
  · exact rnext_put w b c v a cap log hc hc2 hb hl hok hlen
  · exact rnext_take w b c v a cap log hc hc2 hb hl hok hlen (fun h => by have := (hf 0 h).2.2; simpa [runL, begin] using this)
  · refine rnext_drain w b c v a cap log hc hc2 hb hl hok hlen (fun h => ?_)
    have h0 := (hf 1 h).2.2
    have e := runL_take c (begin 3 v) log 0 (by omega)
    have e2 : runL c (begin 3 v) (log.take 1) = .drain1 (log.getD 0 0).toNat := e
    rw [e2] at h0
    exact h0
  · exact rnext_close w b c v a cap log hl hok hlen (fun i t hi e => by
      have h0 := (hf i hi).2.2
      have e2 : runL c (begin 4 v) (log.take i) = .close1 t := e
      rw [e2] at h0
      exact h0)
  · exact rnext_look w b c v a cap log hc hc2 hb hl hok hlen (fun h => by have := (hf 0 h).2.2; simpa [runL, begin] using this)
end Go.Proofs.Ytpnpbgcndlfobaa
