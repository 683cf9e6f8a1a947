/- made: a ring of so many slots. -/
import Derived.Test.YtpnpbgcndlfobaaRingX
namespace Go.Proofs.Ytpnpbgcndlfobaa
open Go.RowKit

set_option maxHeartbeats 1000000 in
theorem made_any (c : Nat) (w : World) (hc : 0 < c) (hc2 : c ≤ 64) :
    Calls Try.prog 30 #[.int .i64 (c : Int)] w fun e w' => ∃ rg, e = .returned (.pointer (some ⟨rg, 0, none⟩)) ∧ Lw w w' rg (w.heap.size + 1) w.heap.size 0 c (zeros (2 + 2 * c)) (2 + 2 * (c : Int)) := by
  have nw := Lib.hid (new_any (2 + 2 * (c : Int)) w)
  rw [show count (2 + 2 * (c : Int)) = 2 + 2 * c by unfold count; omega] at nw
  have mk := Lib.hid (fun w1 m o => make_fresh w w1 c hc hc2 m o)
  have g3 : (c : Int) ≤ 64 := by omega
  clear hc hc2
  go_enter Try.func30, Try.ntmps30
  go_wp2_with (first
    | (go_at_call 11; refine (nw.out).mono ?_; rintro e w1 ⟨rfl, m1, o1⟩)
    | (go_at_call 12; refine (mk.out _ m1 o1).mono ?_; rintro e w2 ⟨g, rfl, l2, o2⟩))
  go_ret
  exact ⟨_, rfl, l2⟩

end Go.Proofs.Ytpnpbgcndlfobaa
