/- The calls of package span: a row of a memory's cells, each by a contract over any world that holds a memory of cells. -/
import Derived.Test.YtmkcmncbiancgaaAccE
import Derived.StillTailTactics
import Derived.IntWalk
namespace Go.Proofs.Ytmkcmncbiancgaa
open Go.RowKit

/-- The row of the memory at hb from the cell b on, as a value. -/
def spanV (hb b : Nat) : Value := .agg #[.pointer (some ⟨hb, 0, none⟩), .int .i64 (b : Int)]

/-- A struct of two numbers that came in by value lies in a block of its own. -/
theorem two_new (w : World) (x y : Value) (ty : TypeId) :
    (w.alloc (.cells #[x, y] ty)).cell? ⟨w.heap.size, 0, none⟩ = some x ∧ (w.alloc (.cells #[x, y] ty)).cell? ⟨w.heap.size, 1, none⟩ = some y := by
  have hn := heap_new w (.cells #[x, y] ty)
  constructor
  · unfold World.cell?; rw [hn]; rfl
  · unfold World.cell?; rw [hn]; rfl
section
variable {w : World} {hb rb b : Nat} {L : List Int} {t : Int}
theorem sload_any (hm : MemAt w hb rb L t) (k : Int) (i : Nat) (hk : (b : Int) + k = (i : Int)) (hi : i < L.length) (hb1 : b ≤ 1000000) (k0 : 0 ≤ k) (k1 : k ≤ 1000000) (t0 : 0 ≤ t) (t1 : t < 4611686018427387904) :
    Calls Try.prog 64 #[spanV hb b, .int .i64 k] w fun e w' => e = .returned (.int .u64 (L.getD i 0)) ∧ MemAt w' hb rb L (t + 1) ∧ Only (Blk hb rb) w w' := by
  unfold spanV
  have hw : IntKind.i64.wrap ((b : Int) + k) = (b : Int) + k := IntWalk.i64_in _ (by omega)
  have h2 := hm.keep ((Only.refl Nil w).alloc (.cells #[.pointer (some ⟨hb, 0, none⟩), .int .i64 (b : Int)] 78)) (fun h => h) (fun h => h)
  have o2 := Lib.hid ((Only.refl (Blk hb rb) w).alloc (.cells #[.pointer (some ⟨hb, 0, none⟩), .int .i64 (b : Int)] 78))
  obtain ⟨c0, c1⟩ := two_new w (.pointer (some ⟨hb, 0, none⟩)) (.int .i64 (b : Int)) 78
  have ld := Lib.hid (load_yes h2 i hi t0 t1)
  simp only [← hk] at ld
  clear hm hk h2
  generalize L.getD i 0 = x at ld ⊢
  clear t0 t1 hi hb1 k0 k1
  go_enter Try.func64, Try.ntmps64
  go_wp2_with (go_at_call 84; refine ld.out.mono ?_; rintro e w1 ⟨rfl, h3, o3⟩)
  go_ret
  exact ⟨rfl, h3, o2.out.trans o3⟩
theorem sstore_any (hm : MemAt w hb rb L t) (k : Int) (i : Nat) (x : Int) (hk : (b : Int) + k = (i : Int)) (hi : i < L.length) (hb1 : b ≤ 1000000) (k0 : 0 ≤ k) (k1 : k ≤ 1000000) (t0 : 0 ≤ t) (t1 : t < 4611686018427387904) :
    Calls Try.prog 39 #[spanV hb b, .int .i64 k, .int .u64 x] w fun e w' => e = .returned (.tuple #[]) ∧ MemAt w' hb rb (L.set i x) (t + 1) ∧ Only (Blk hb rb) w w' := by
  unfold spanV
  have hw : IntKind.i64.wrap ((b : Int) + k) = (b : Int) + k := IntWalk.i64_in _ (by omega)
  have h2 := hm.keep ((Only.refl Nil w).alloc (.cells #[.pointer (some ⟨hb, 0, none⟩), .int .i64 (b : Int)] 78)) (fun h => h) (fun h => h)
  have o2 := Lib.hid ((Only.refl (Blk hb rb) w).alloc (.cells #[.pointer (some ⟨hb, 0, none⟩), .int .i64 (b : Int)] 78))
  obtain ⟨c0, c1⟩ := two_new w (.pointer (some ⟨hb, 0, none⟩)) (.int .i64 (b : Int)) 78
  have ld := Lib.hid (store_yes h2 i x hi t0 t1)
  simp only [← hk] at ld
  clear hm hk h2
  clear t0 t1 hi hb1 k0 k1
  go_enter Try.func39, Try.ntmps39
  go_wp2_with (go_at_call 11; refine ld.out.mono ?_; rintro e w1 ⟨rfl, h3, o3⟩)
  go_end0
  exact ⟨rfl, h3, o2.out.trans o3⟩
theorem sswap_any (hm : MemAt w hb rb L t) (k : Int) (i : Nat) (o x : Int) (hk : (b : Int) + k = (i : Int)) (hi : i < L.length) (hb1 : b ≤ 1000000) (k0 : 0 ≤ k) (k1 : k ≤ 1000000) (t0 : 0 ≤ t) (t1 : t < 4611686018427387904) :
    Calls Try.prog 61 #[spanV hb b, .int .i64 k, .int .u64 o, .int .u64 x] w fun e w' => e = .returned (.bool (decide (L.getD i 0 = o))) ∧ MemAt w' hb rb (doAcc L (.swap i o x)).1 (t + 1) ∧ Only (Blk hb rb) w w' := by
  unfold spanV
  have hw : IntKind.i64.wrap ((b : Int) + k) = (b : Int) + k := IntWalk.i64_in _ (by omega)
  simp only [doAcc]
  by_cases he : L.getD i 0 = o
  · rw [if_pos he]
    have h2 := hm.keep ((Only.refl Nil w).alloc (.cells #[.pointer (some ⟨hb, 0, none⟩), .int .i64 (b : Int)] 78)) (fun h => h) (fun h => h)
    have o2 := Lib.hid ((Only.refl (Blk hb rb) w).alloc (.cells #[.pointer (some ⟨hb, 0, none⟩), .int .i64 (b : Int)] 78))
    obtain ⟨c0, c1⟩ := two_new w (.pointer (some ⟨hb, 0, none⟩)) (.int .i64 (b : Int)) 78
    have ld := Lib.hid (swap_done h2 i o x hi he t0 t1)
    simp only [← hk] at ld
    clear hm hk h2
    rw [decide_eq_true he]
    clear he t0 t1 hi hb1 k0 k1
    go_enter Try.func61, Try.ntmps61
    go_wp2_with (go_at_call 83; refine ld.out.mono ?_; rintro e w1 ⟨rfl, h3, o3⟩)
    go_ret
    exact ⟨rfl, h3, o2.out.trans o3⟩
  · rw [if_neg he]
    have h2 := hm.keep ((Only.refl Nil w).alloc (.cells #[.pointer (some ⟨hb, 0, none⟩), .int .i64 (b : Int)] 78)) (fun h => h) (fun h => h)
    have o2 := Lib.hid ((Only.refl (Blk hb rb) w).alloc (.cells #[.pointer (some ⟨hb, 0, none⟩), .int .i64 (b : Int)] 78))
    obtain ⟨c0, c1⟩ := two_new w (.pointer (some ⟨hb, 0, none⟩)) (.int .i64 (b : Int)) 78
    have ld := Lib.hid (swap_not h2 i o x hi (by simpa using he) t0 t1)
    simp only [← hk] at ld
    clear hm hk h2
    rw [decide_eq_false he]
    clear he t0 t1 hi hb1 k0 k1
    go_enter Try.func61, Try.ntmps61
    go_wp2_with (go_at_call 83; refine ld.out.mono ?_; rintro e w1 ⟨rfl, h3, o3⟩)
    go_ret
    exact ⟨rfl, h3, o2.out.trans o3⟩
end
end Go.Proofs.Ytmkcmncbiancgaa
