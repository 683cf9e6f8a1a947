/- The ring's beginnings: an operation begun; a ring made. -/
import Derived.Test.YtmkcmncbiancgaaRingT
import Derived.LoopTactic
import Derived.Deep.DeepCutAuto
namespace Go.Proofs.Ytmkcmncbiancgaa
open Go.RowKit

/-- What is new may turn. -/
theorem Only.next {S T : Nat → Prop} {a b c : World} (h : Only S a b) (k : Only T b c) (hT : ∀ i, T i → i < a.heap.size → S i) : Only S a c :=
  ⟨k.os.trans h.os, k.tape.trans h.tape, k.output.trans h.output, Nat.le_trans h.size k.size, fun i hi hs => (k.block i (Nat.lt_of_lt_of_le hi h.size) (fun t => hs (hT i t hi))).trans (h.block i hi hs)⟩
theorem op_new (w : World) (rg : Nat) (nx : Value) (v : Int) : OpC (w.alloc (.cells [.pointer (some ⟨rg, 0, none⟩), nx, .int .i64 0, .int .u64 0, .int .u64 v, .int .u64 0, .int .u64 0].toArray 116)) w.heap.size rg nx 0 0 v 0 0 := ⟨heap_new w _⟩

set_option maxHeartbeats 1000000 in
theorem dput_any (w : World) (rg : Nat) (v : Int) :
    Calls Try.prog 55 #[.pointer (some ⟨rg, 0, none⟩), .int .u64 v] w fun e w' => e = .returned (.pointer (some ⟨w.heap.size, 0, none⟩)) ∧ OpIn w' w.heap.size rg (.put0 v) ∧ Only Nil w w' ∧ w.heap.size < w'.heap.size := by
  have hmf : ∀ (fn : Fn) (first cap : Array Value) (w : World), (Instr.makeFunc fn first cap).run Try.prog w = .ok (.func fn first cap) w := fun _ _ _ _ => rfl
  have n' := Lib.hid (op_new w rg (mv 78 w.heap.size) v)
  have o' := Lib.hid ((Only.refl Nil w).alloc (.cells [.pointer (some ⟨rg, 0, none⟩), mv 78 w.heap.size, .int .i64 0, .int .u64 0, .int .u64 v, .int .u64 0, .int .u64 0].toArray 116))
  go_enter Try.func55, Try.ntmps55
  go_wp2
  go_ret
  exact ⟨rfl, ⟨_, _, _, n'.out, ⟨rfl, rfl⟩⟩, o'.out, n'.out.lt⟩

set_option maxHeartbeats 1000000 in
theorem dtake_any (w : World) (rg : Nat) :
    Calls Try.prog 59 #[.pointer (some ⟨rg, 0, none⟩)] w fun e w' => e = .returned (.pointer (some ⟨w.heap.size, 0, none⟩)) ∧ OpIn w' w.heap.size rg .take0 ∧ Only Nil w w' ∧ w.heap.size < w'.heap.size := by
  have hmf : ∀ (fn : Fn) (first cap : Array Value) (w : World), (Instr.makeFunc fn first cap).run Try.prog w = .ok (.func fn first cap) w := fun _ _ _ _ => rfl
  have n' := Lib.hid (op_new w rg (mv 82 w.heap.size) 0)
  have o' := Lib.hid ((Only.refl Nil w).alloc (.cells [.pointer (some ⟨rg, 0, none⟩), mv 82 w.heap.size, .int .i64 0, .int .u64 0, .int .u64 0, .int .u64 0, .int .u64 0].toArray 116))
  go_enter Try.func59, Try.ntmps59
  go_wp2
  go_ret
  exact ⟨rfl, ⟨_, _, _, n'.out, rfl⟩, o'.out, n'.out.lt⟩

set_option maxHeartbeats 1000000 in
theorem ddrain_any (w : World) (rg : Nat) :
    Calls Try.prog 66 #[.pointer (some ⟨rg, 0, none⟩)] w fun e w' => e = .returned (.pointer (some ⟨w.heap.size, 0, none⟩)) ∧ OpIn w' w.heap.size rg .drain0 ∧ Only Nil w w' ∧ w.heap.size < w'.heap.size := by
  have hmf : ∀ (fn : Fn) (first cap : Array Value) (w : World), (Instr.makeFunc fn first cap).run Try.prog w = .ok (.func fn first cap) w := fun _ _ _ _ => rfl
  have n' := Lib.hid (op_new w rg (mv 86 w.heap.size) 0)
  have o' := Lib.hid ((Only.refl Nil w).alloc (.cells [.pointer (some ⟨rg, 0, none⟩), mv 86 w.heap.size, .int .i64 0, .int .u64 0, .int .u64 0, .int .u64 0, .int .u64 0].toArray 116))
  go_enter Try.func66, Try.ntmps66
  go_wp2
  go_ret
  exact ⟨rfl, ⟨_, _, _, n'.out, rfl⟩, o'.out, n'.out.lt⟩

set_option maxHeartbeats 1000000 in
theorem dclose_any (w : World) (rg : Nat) :
    Calls Try.prog 65 #[.pointer (some ⟨rg, 0, none⟩)] w fun e w' => e = .returned (.pointer (some ⟨w.heap.size, 0, none⟩)) ∧ OpIn w' w.heap.size rg .close0 ∧ Only Nil w w' ∧ w.heap.size < w'.heap.size := by
  have hmf : ∀ (fn : Fn) (first cap : Array Value) (w : World), (Instr.makeFunc fn first cap).run Try.prog w = .ok (.func fn first cap) w := fun _ _ _ _ => rfl
  have n' := Lib.hid (op_new w rg (mv 85 w.heap.size) 0)
  have o' := Lib.hid ((Only.refl Nil w).alloc (.cells [.pointer (some ⟨rg, 0, none⟩), mv 85 w.heap.size, .int .i64 0, .int .u64 0, .int .u64 0, .int .u64 0, .int .u64 0].toArray 116))
  go_enter Try.func65, Try.ntmps65
  go_wp2
  go_ret
  exact ⟨rfl, ⟨_, _, _, n'.out, rfl⟩, o'.out, n'.out.lt⟩

set_option maxHeartbeats 1000000 in
theorem dlook_any (w : World) (rg : Nat) :
    Calls Try.prog 72 #[.pointer (some ⟨rg, 0, none⟩)] w fun e w' => e = .returned (.pointer (some ⟨w.heap.size, 0, none⟩)) ∧ OpIn w' w.heap.size rg .look0 ∧ Only Nil w w' ∧ w.heap.size < w'.heap.size := by
  have hmf : ∀ (fn : Fn) (first cap : Array Value) (w : World), (Instr.makeFunc fn first cap).run Try.prog w = .ok (.func fn first cap) w := fun _ _ _ _ => rfl
  have n' := Lib.hid (op_new w rg (mv 87 w.heap.size) 0)
  have o' := Lib.hid ((Only.refl Nil w).alloc (.cells [.pointer (some ⟨rg, 0, none⟩), mv 87 w.heap.size, .int .i64 0, .int .u64 0, .int .u64 0, .int .u64 0, .int .u64 0].toArray 116))
  go_enter Try.func72, Try.ntmps72
  go_wp2
  go_ret
  exact ⟨rfl, ⟨_, _, _, n'.out, rfl⟩, o'.out, n'.out.lt⟩

theorem size_yes (w : World) (c : Nat) (hc : 0 < c) (hc2 : c ≤ 64) :
    Calls Try.prog 41 #[.int .i64 (c : Int)] w fun e w' => e = .returned (.int .i64 (2 + 2 * (c : Int))) ∧ w = w' := by
  have h1 : ¬ ((c : Int) < 1) := by omega
  have h2 : ¬ ((64 : Int) < (c : Int)) := by omega
  have h3 : (c : Int) ≤ 64 := by omega
  go_enter Try.func41, Try.ntmps41
  go_wp2
  go_ret
  exact ⟨rfl, rfl⟩
theorem size_no (w : World) (c : Int) (hc : c < 1 ∨ 64 < c) :
    Calls Try.prog 41 #[.int .i64 c] w fun e w' => e = .returned (.int .i64 0) ∧ w = w' := by
  by_cases h1 : c < 1
  · clear hc
    go_enter Try.func41, Try.ntmps41
    go_wp2
    go_ret
    exact ⟨rfl, rfl⟩
  · have h2 : 64 < c := by omega
    clear hc
    go_enter Try.func41, Try.ntmps41
    go_wp2
    go_ret
    exact ⟨rfl, rfl⟩
end Go.Proofs.Ytmkcmncbiancgaa
