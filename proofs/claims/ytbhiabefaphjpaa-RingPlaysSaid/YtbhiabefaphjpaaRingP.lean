/- The calls that an operation of the ring makes of it: where its cells lie, and the accesses. -/
import Derived.Test.YtbhiabefaphjpaaRingE
import Derived.Deep.RegionHeld3
import Derived.StillTailTactics
namespace Go.Proofs.Ytbhiabefaphjpaa
open Go.RowKit

/-- World w holds, at block rg, a ring of c slots, over the memory at hb, from the cell b on. -/
structure RgAt (w : World) (rg hb b c : Nat) : Prop where
  head : w.heap[rg]? = some (.cells #[.pointer (some ⟨hb, 0, none⟩), .int .i64 (b : Int), .int .i64 (c : Int)] 135 (0, 0))
theorem RgAt.lt {w : World} {rg hb b c : Nat} (h : RgAt w rg hb b c) : rg < w.heap.size := lt_of_block h.head
theorem RgAt.keep {S : Nat → Prop} {w w' : World} {rg hb b c : Nat} (h : RgAt w rg hb b c) (o : Only S w w') (h1 : ¬ S rg) : RgAt w' rg hb b c := ⟨(o.block rg h.lt h1).trans h.head⟩
theorem RgAt.c0 {w : World} {rg hb b c : Nat} (h : RgAt w rg hb b c) : w.cell? ⟨rg, 0, none⟩ = some (.pointer (some ⟨hb, 0, none⟩)) := by simp [World.cell?, h.head]
theorem RgAt.c1 {w : World} {rg hb b c : Nat} (h : RgAt w rg hb b c) : w.cell? ⟨rg, 1, none⟩ = some (.int .i64 (b : Int)) := by simp [World.cell?, h.head]
theorem RgAt.c2 {w : World} {rg hb b c : Nat} (h : RgAt w rg hb b c) : w.cell? ⟨rg, 2, none⟩ = some (.int .i64 (c : Int)) := by simp [World.cell?, h.head]

theorem tail_any {w : World} {rg hb b c : Nat} (h : RgAt w rg hb b c) :
    Calls Try.prog 89 #[.pointer (some ⟨rg, 0, none⟩)] w fun e w' => e = .returned (.int .i64 (b : Int)) ∧ w = w' := by
  have c1 := h.c1
  clear h
  go_enter Try.func89, Try.ntmps89
  go_wp2
  go_ret
  exact ⟨rfl, rfl⟩
theorem head_any {w : World} {rg hb b c : Nat} (h : RgAt w rg hb b c) (hb1 : b ≤ 1000) :
    Calls Try.prog 90 #[.pointer (some ⟨rg, 0, none⟩)] w fun e w' => e = .returned (.int .i64 ((b + 1 : Nat) : Int)) ∧ w = w' := by
  have c1 := h.c1
  have hb' : (b : Int) ≤ 1000 := by omega
  rw [show ((b + 1 : Nat) : Int) = (b : Int) + 1 by omega]
  clear h hb1
  go_enter Try.func90, Try.ntmps90
  go_wp2
  go_ret
  exact ⟨rfl, rfl⟩
theorem turn_any {w : World} {rg hb b c : Nat} (h : RgAt w rg hb b c) (t : Nat) (hc : 0 < c) (hc2 : c ≤ 64) (hb1 : b ≤ 1000) :
    Calls Try.prog 91 #[.pointer (some ⟨rg, 0, none⟩), .int .u64 (t : Int)] w fun e w' => e = .returned (.int .i64 (turnAt b c t : Int)) ∧ Only Nil w w' := by
  have c1 := h.c1
  have c2 := h.c2
  have fin := Lib.hid (Only.refl Nil w)
  have e1 : IntKind.u64.wrap (c : Int) = (c : Int) := by rw [IntKind.wrap_u64]; omega
  have e2 : Int.tmod (t : Int) (c : Int) = ((t % c : Nat) : Int) := rfl
  have e3 : ¬ ((c : Int) = 0) := by omega
  have hm := Nat.mod_lt t hc
  have e4 : (turnAt b c t : Int) = (b : Int) + 2 + 2 * ((t % c : Nat) : Int) := by unfold turnAt; omega
  rw [e4]
  clear h
  generalize hr : t % c = r at e2 hm ⊢
  have hb' : (b : Int) ≤ 1000 := by omega
  have hr' : (r : Int) < 64 := by omega
  go_enter Try.func91, Try.ntmps91
  go_wp2
  go_quiet (fail)
  go_wp2
  go_ret
  exact ⟨rfl, fin.out.drewN _⟩
theorem value_any {w : World} {rg hb b c : Nat} (h : RgAt w rg hb b c) (t : Nat) (hc : 0 < c) (hc2 : c ≤ 64) (hb1 : b ≤ 1000) :
    Calls Try.prog 92 #[.pointer (some ⟨rg, 0, none⟩), .int .u64 (t : Int)] w fun e w' => e = .returned (.int .i64 ((turnAt b c t + 1 : Nat) : Int)) ∧ Only Nil w w' := by
  have tc := Lib.hid (turn_any h t hc hc2 hb1)
  have ht := turnAt_lt b c t hc
  rw [show ((turnAt b c t + 1 : Nat) : Int) = (turnAt b c t : Int) + 1 by omega]
  clear h
  generalize turnAt b c t = x at tc ht ⊢
  have hx : (x : Int) < 2000 := by omega
  clear ht hc hc2 hb1
  go_enter Try.func92, Try.ntmps92
  go_wp2_with (go_at_call 91; (with_reducible refine (tc.out).mono ?_); rintro e w1 ⟨rfl, o1⟩)
  go_ret
  exact ⟨rfl, o1⟩
theorem waits_any {w : World} {rg hb b c : Nat} (h : RgAt w rg hb b c) (t : Nat) (hc : 0 < c) (hc2 : c ≤ 64) (ht : t < 9223372036854775808) :
    Calls Try.prog 134 #[.pointer (some ⟨rg, 0, none⟩), .int .u64 (t : Int)] w fun e w' => e = .returned (.int .u64 (waitAt c t : Int)) ∧ w = w' := by
  have c2 := h.c2
  have e1 : IntKind.u64.wrap (c : Int) = (c : Int) := by rw [IntKind.wrap_u64]; omega
  have e2 : Int.tdiv (t : Int) (c : Int) = ((t / c : Nat) : Int) := rfl
  have e3 : ¬ ((c : Int) = 0) := by omega
  have hm := Nat.div_le_self t c
  have e4 : (waitAt c t : Int) = 2 * ((t / c : Nat) : Int) := by unfold waitAt; omega
  rw [e4]
  clear h
  generalize hr : t / c = r at e2 hm ⊢
  have hr' : (r : Int) < 9223372036854775808 := by omega
  have e5 : IntKind.u64.wrap (2 * (r : Int)) = 2 * (r : Int) := by rw [IntKind.wrap_u64]; omega
  go_enter Try.func134, Try.ntmps134
  go_wp2
  go_ret
  exact ⟨rfl, rfl⟩

section
variable {w : World} {rg hb rb b c : Nat} {L : List Int} {t : Int}
theorem rgload_any (h : RgAt w rg hb b c) (hm : MemAt w hb rb L t) (i : Nat) (hi : i < L.length) (t0 : 0 ≤ t) (t1 : t < 4611686018427387904) :
    Calls Try.prog 124 #[.pointer (some ⟨rg, 0, none⟩), .int .i64 (i : Int)] w fun e w' => e = .returned (.int .u64 (L.getD i 0)) ∧ MemAt w' hb rb L (t + 1) ∧ Only (Blk hb rb) w w' := by
  have c0 := h.c0
  have ld := Lib.hid (load_yes hm i hi t0 t1)
  clear h hm
  generalize L.getD i 0 = x at ld ⊢
  clear t0 t1 hi
  go_enter Try.func124, Try.ntmps124
  go_wp2_with (go_at_call 100; (with_reducible refine (ld.out).mono ?_); rintro e w1 ⟨rfl, h3, o3⟩)
  go_ret
  exact ⟨rfl, h3, o3⟩
theorem rgswap_any (h : RgAt w rg hb b c) (hm : MemAt w hb rb L t) (i : Nat) (o x : Int) (hi : i < L.length) (t0 : 0 ≤ t) (t1 : t < 4611686018427387904) :
    Calls Try.prog 138 #[.pointer (some ⟨rg, 0, none⟩), .int .i64 (i : Int), .int .u64 o, .int .u64 x] w fun e w' => e = .returned (.bool (decide (L.getD i 0 = o))) ∧ MemAt w' hb rb (doAcc L (.swap i o x)).1 (t + 1) ∧ Only (Blk hb rb) w w' := by
  have c0 := h.c0
  simp only [doAcc]
  by_cases he : L.getD i 0 = o
  · rw [if_pos he]
    have ld := Lib.hid (swap_done hm i o x hi he t0 t1)
    rw [decide_eq_true he]
    clear h hm he t0 t1 hi
    go_enter Try.func138, Try.ntmps138
    go_wp2_with (go_at_call 120; (with_reducible refine (ld.out).mono ?_); rintro e w1 ⟨rfl, h3, o3⟩)
    go_ret
    exact ⟨rfl, h3, o3⟩
  · rw [if_neg he]
    have ld := Lib.hid (swap_not hm i o x hi (by simpa using he) t0 t1)
    rw [decide_eq_false he]
    clear h hm he t0 t1 hi
    go_enter Try.func138, Try.ntmps138
    go_wp2_with (go_at_call 120; (with_reducible refine (ld.out).mono ?_); rintro e w1 ⟨rfl, h3, o3⟩)
    go_ret
    exact ⟨rfl, h3, o3⟩
end
end Go.Proofs.Ytbhiabefaphjpaa
