/- An operation of the ring: its beginning, its steps, what it tells. -/
import Derived.Test.YtmkcmncbiancgaaRingR
import Derived.Shelf.Abstract
namespace Go.Proofs.Ytmkcmncbiancgaa
open Go.RowKit

theorem over_false {w : World} {ob rg : Nat} {nx : Value} {at_ v val tk : Int} (h : OpC w ob rg nx 0 at_ v val tk) :
    Calls Try.prog 128 #[.pointer (some ⟨ob, 0, none⟩)] w fun e w' => e = .returned (.bool false) ∧ w = w' := by
  obtain ⟨c0, c1, c2, c3, c4, c5, c6⟩ := h.c
  clear h
  go_enter Try.func128, Try.ntmps128
  go_wp2
  go_ret
  exact ⟨rfl, rfl⟩
theorem over_any {w : World} {ob rg : Nat} {nx : Value} {out at_ v val tk : Int} (h : OpC w ob rg nx out at_ v val tk) :
    Calls Try.prog 128 #[.pointer (some ⟨ob, 0, none⟩)] w fun e w' => e = .returned (.bool (out != 0)) ∧ w = w' := by
  obtain ⟨c0, c1, c2, c3, c4, c5, c6⟩ := h.c
  clear h
  go_enter Try.func128, Try.ntmps128
  go_wp2
  go_ret
  exact ⟨rfl, rfl⟩
theorem outcome_any {w : World} {ob rg : Nat} {nx : Value} {out at_ v val tk : Int} (h : OpC w ob rg nx out at_ v val tk) :
    Calls Try.prog 126 #[.pointer (some ⟨ob, 0, none⟩)] w fun e w' => e = .returned (.int .i64 out) ∧ w = w' := by
  obtain ⟨c0, c1, c2, c3, c4, c5, c6⟩ := h.c
  clear h
  go_enter Try.func126, Try.ntmps126
  go_wp2
  go_ret
  exact ⟨rfl, rfl⟩
theorem ovalue_any {w : World} {ob rg : Nat} {nx : Value} {out at_ v val tk : Int} (h : OpC w ob rg nx out at_ v val tk) :
    Calls Try.prog 81 #[.pointer (some ⟨ob, 0, none⟩)] w fun e w' => e = .returned (.int .u64 val) ∧ w = w' := by
  obtain ⟨c0, c1, c2, c3, c4, c5, c6⟩ := h.c
  clear h
  go_enter Try.func81, Try.ntmps81
  go_wp2
  go_ret
  exact ⟨rfl, rfl⟩

/-- Step of an operation that is over. -/
theorem dstep_over {w : World} {ob rg : Nat} {nx : Value} {out at_ v val tk : Int} (h : OpC w ob rg nx out at_ v val tk) (ho : 1 ≤ out) :
    Calls Try.prog 127 #[.pointer (some ⟨ob, 0, none⟩)] w fun e w' => e = .returned (.bool true) ∧ w = w' := by
  have ov := Lib.hid (over_any h)
  have hb : (out != 0) = true := by simp; omega
  rw [hb] at ov
  clear h ho hb
  go_enter Try.func127, Try.ntmps127
  go_wp2_with (go_at_call 128; (with_reducible refine (ov.out).mono ?_); rintro e w1 ⟨rfl, rfl⟩)
  go_ret
  exact ⟨rfl, rfl⟩

set_option maxHeartbeats 1000000 in
/-- Step of one that isn't: what its next method does. -/
theorem dstep_via (f : Nat) {w w0 : World} {ob rg hb rb b c : Nat} {nx' : Value} {at_ v val tk out' at' v' val' tk' : Int} {L' : List Int} {t' : Int}
    (eg : ∀ args w, (callFunc f args).run Try.prog w = .ok (.enter f args) w)
    (ho : OpC w ob rg (mv f ob) 0 at_ v val tk)
    (hf : Calls Try.prog f #[.pointer (some ⟨ob, 0, none⟩)] w fun e w' => e = .returned (.tuple #[]) ∧ St w0 w' ob rg hb rb b c nx' out' at' v' val' tk' L' t') :
    Calls Try.prog 127 #[.pointer (some ⟨ob, 0, none⟩)] w fun e w' => e = .returned (.bool (out' != 0)) ∧ St w0 w' ob rg hb rb b c nx' out' at' v' val' tk' L' t' := by
  have ov := Lib.hid (over_false ho)
  have ov2 := Lib.hid (fun (w' : World) (h : St w0 w' ob rg hb rb b c nx' out' at' v' val' tk' L' t') => over_any h.op)
  have hf' := Lib.hid hf
  obtain ⟨c0, c1, c2, c3, c4, c5, c6⟩ := ho.c
  unfold mv at c1
  clear ho hf
  go_enter Try.func127, Try.ntmps127
  go_wp2_with (first
    | (go_at_call 128; (with_reducible refine (ov.out).mono ?_); rintro e w1 ⟨rfl, rfl⟩)
    | (go_at_fn f; refine (hf'.out).mono ?_; rintro e w2 ⟨rfl, s2⟩)
    | (go_at_call 128; (with_reducible refine (ov2.out _ s2).mono ?_); rintro e w3 ⟨rfl, rfl⟩))
  go_ret
  exact ⟨rfl, s2⟩
end Go.Proofs.Ytmkcmncbiancgaa
