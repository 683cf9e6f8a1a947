/- The calls that an operation of the ring makes of it: where its cells lie (the accesses are span's). -/
import Derived.Test.YtmkcmncbiancgaaRingE
import Derived.Test.YtmkcmncbiancgaaSpanA
import Derived.Deep.RegionHeld3
import Derived.StillTailTactics
namespace Go.Proofs.Ytmkcmncbiancgaa
open Go.RowKit

/-- World w holds, at block rg, a ring of c slots, over the memory at hb, from the cell b on. -/
structure RgAt (w : World) (rg hb b c : Nat) : Prop where
  head : w.heap[rg]? = some (.cells #[.pointer (some ⟨hb, 0, none⟩), .int .i64 (b : Int), .int .i64 (c : Int)] 107 (0, 0))
theorem RgAt.lt {w : World} {rg hb b c : Nat} (h : RgAt w rg hb b c) : rg < w.heap.size := lt_of_block h.head
theorem RgAt.keep {S : Nat → Prop} {w w' : World} {rg hb b c : Nat} (h : RgAt w rg hb b c) (o : Only S w w') (h1 : ¬ S rg) : RgAt w' rg hb b c := ⟨(o.block rg h.lt h1).trans h.head⟩
theorem RgAt.c0 {w : World} {rg hb b c : Nat} (h : RgAt w rg hb b c) : w.cell? ⟨rg, 0, none⟩ = some (.pointer (some ⟨hb, 0, none⟩)) := by simp [World.cell?, h.head]
theorem RgAt.c1 {w : World} {rg hb b c : Nat} (h : RgAt w rg hb b c) : w.cell? ⟨rg, 1, none⟩ = some (.int .i64 (b : Int)) := by simp [World.cell?, h.head]
theorem RgAt.c2 {w : World} {rg hb b c : Nat} (h : RgAt w rg hb b c) : w.cell? ⟨rg, 2, none⟩ = some (.int .i64 (c : Int)) := by simp [World.cell?, h.head]

/-- The cell of a ticket's turn, counted from the ring's base. -/
def turnIn (c t : Nat) : Nat := 2 + 2 * (t % c)
theorem turnIn_at (b c t : Nat) : b + turnIn c t = turnAt b c t := by unfold turnIn turnAt; omega
theorem turnIn_lt (c t : Nat) (hc : 0 < c) (hc2 : c ≤ 64) : turnIn c t < 200 := by
  have := Nat.mod_lt t hc
  unfold turnIn; omega
theorem turn_any {w : World} {rg hb b c : Nat} (h : RgAt w rg hb b c) (t : Nat) (hc : 0 < c) (hc2 : c ≤ 64) :
    Calls Try.prog 67 #[.pointer (some ⟨rg, 0, none⟩), .int .u64 (t : Int)] w fun e w' => e = .returned (.int .i64 (turnIn c t : Int)) ∧ w = w' := by
  have c2 := h.c2
  have e1 : IntKind.u64.wrap (c : Int) = (c : Int) := by rw [IntKind.wrap_u64]; omega
  have e2 : Int.tmod (t : Int) (c : Int) = ((t % c : Nat) : Int) := rfl
  have e3 : ¬ ((c : Int) = 0) := by omega
  have hm := Nat.mod_lt t hc
  have e4 : (turnIn c t : Int) = 2 + 2 * ((t % c : Nat) : Int) := by unfold turnIn; omega
  rw [e4]
  clear h
  generalize hr : t % c = r at e2 hm ⊢
  have hr' : (r : Int) < 64 := by omega
  go_enter Try.func67, Try.ntmps67
  go_wp2
  go_ret
  exact ⟨rfl, rfl⟩
theorem value_any {w : World} {rg hb b c : Nat} (h : RgAt w rg hb b c) (t : Nat) (hc : 0 < c) (hc2 : c ≤ 64) :
    Calls Try.prog 68 #[.pointer (some ⟨rg, 0, none⟩), .int .u64 (t : Int)] w fun e w' => e = .returned (.int .i64 ((turnIn c t + 1 : Nat) : Int)) ∧ w = w' := by
  have tc := Lib.hid (turn_any h t hc hc2)
  have ht := turnIn_lt c t hc hc2
  rw [show ((turnIn c t + 1 : Nat) : Int) = (turnIn c t : Int) + 1 by omega]
  clear h
  generalize turnIn c t = x at tc ht ⊢
  have hx : (x : Int) < 2000 := by omega
  clear ht hc hc2
  go_enter Try.func68, Try.ntmps68
  go_wp2_with (go_at_call 67; (with_reducible refine (tc.out).mono ?_); rintro e w1 ⟨rfl, rfl⟩)
  go_ret
  exact ⟨rfl, rfl⟩
theorem waits_any {w : World} {rg hb b c : Nat} (h : RgAt w rg hb b c) (t : Nat) (hc : 0 < c) (hc2 : c ≤ 64) (ht : t < 9223372036854775808) :
    Calls Try.prog 98 #[.pointer (some ⟨rg, 0, none⟩), .int .u64 (t : Int)] w fun e w' => e = .returned (.int .u64 (waitAt c t : Int)) ∧ w = w' := by
  have c2 := h.c2
  have e1 : IntKind.u64.wrap (c : Int) = (c : Int) := by rw [IntKind.wrap_u64]; omega
  have e2 : Int.tdiv (t : Int) (c : Int) = ((t / c : Nat) : Int) := rfl
  have e3 : ¬ ((c : Int) = 0) := by omega
  have hm := Nat.div_le_self t c
  have e4 : (waitAt c t : Int) = 2 * ((t / c : Nat) : Int) := by unfold waitAt; omega
  rw [e4]
  clear h
  generalize hr : t / c = r at e2 hm ⊢
  have hr' : (r : Int) < 9223372036854775808 := by omega
  have e5 : IntKind.u64.wrap (2 * (r : Int)) = 2 * (r : Int) := by rw [IntKind.wrap_u64]; omega
  go_enter Try.func98, Try.ntmps98
  go_wp2
  go_ret
  exact ⟨rfl, rfl⟩

end Go.Proofs.Ytmkcmncbiancgaa
