/- A gang at a deque: the owner's step that appends nothing. -/
import Derived.Test.YtokopocldicnmaaDqCd
namespace Go.Proofs.Ytokopocldicnmaa.Dq
open Go.RowKit
section
variable {w1 w w4 : World} {rg B base c gb tb K : Nat} {L : List Int} {t : Int} {T X : Nat} {f : Nat → Int} {ow : Option OS} {th : Nat → Option OS} {ob : Nat → Nat} {psh : Bool} {nx : Nat} {iv : Nat → Value} {ins : Nat → List Int} {lost most : Int}

/-- How many there are by the rows. -/
def cnt (ins : Nat → List Int) : Int := ((ins 0).length : Int) - (ins 1).length - (ins 2).length

set_option maxHeartbeats 4000000 in
theorem cown_on (h : Gg w1 w rg B base c gb tb K L t T X f ow th ob psh nx iv ins lost most) (what : Nat) (hw : what ≤ 1) {s : OS} (e : ow = some s) (hn : (stepS 0 c L s).isO = false) :
    Calls Try.prog 50 #[.pointer (some ⟨gb, 0, none⟩), .int .i64 (what : Int)] w fun e w' => e = .returned (.tuple #[]) ∧ Hid (Gw w1 w' rg B base c gb tb (stepL 0 c L s) (t + 1) (poG (some (stepS 0 c L s)) th ob) psh (nx : Int) iv ins lost most) := by
  have sp := Lib.hid (h.step0 e)
  rw [hn] at sp
  have i2 : (what : Int) ≤ 1 := by omega
  have c1 := h.c1 e
  clear h e hw hn
  go_enter Try.func50, Try.ntmps50
  go_wp2_with (go_at_call 53; (with_reducible refine (sp.out).mono ?_); rintro e w4 ⟨rfl, k4⟩)
  (try simp only [Exit.inBlock, Exit.then])
  refine bodyPost_ret (results_none rfl _ _ _) rfl ?_
  exact ⟨rfl, Lib.hid k4.out.2⟩

end
end Go.Proofs.Ytokopocldicnmaa.Dq
