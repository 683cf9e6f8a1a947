/- tree: Cut. -/
import Derived.Test.YtkeaenkkencmdaaTrE
set_option linter.unusedSimpArgs false
set_option linter.unusedVariables false
namespace Go.Proofs.Ytkeaenkkencmdaa.Tr
open Go.RowKit Go.Proofs.Ytkeaenkkencmdaa Go.Maps

def optB : Option Nat → Value
  | none => .pointer none
  | some q => .pointer (some ⟨q, 0, none⟩)
/-- Behind leave: p's child between a and n is linked no more. -/
def leaveW (w : World) (p : Nat) (a n : Option Nat) : World :=
  match a, n with
  | none, none => (w.setCell ⟨p, 2, none⟩ (.pointer none)).setCell ⟨p, 3, none⟩ (.pointer none)
  | none, some n => (w.setCell ⟨p, 2, none⟩ (.pointer (some ⟨n, 0, none⟩))).setCell ⟨n, 4, none⟩ (.pointer none)
  | some a, none => (w.setCell ⟨a, 5, none⟩ (.pointer none)).setCell ⟨p, 3, none⟩ (.pointer (some ⟨a, 0, none⟩))
  | some a, some n => (w.setCell ⟨a, 5, none⟩ (.pointer (some ⟨n, 0, none⟩))).setCell ⟨n, 4, none⟩ (.pointer (some ⟨a, 0, none⟩))
/-- The same world, but for its draws. -/
structure Sw (w w' : World) : Prop where
  heap : w'.heap = w.heap
  os : w'.os = w.os
  tape : w'.tape = w.tape
  output : w'.output = w.output

set_option maxRecDepth 100000 in
set_option maxHeartbeats 1000000 in
theorem leave_nn {w : World} {m p : Nat} {vp : Array Value} (m1 : w.cell? ⟨m, 1, none⟩ = some (.pointer (some ⟨p, 0, none⟩))) (m4 : w.cell? ⟨m, 4, none⟩ = some (.pointer none)) (m5 : w.cell? ⟨m, 5, none⟩ = some (.pointer none))
    (hp : w.heap[p]? = some (.cells vp 53 (0, 0))) {v2 : Value} (p2 : w.cell? ⟨p, 2, none⟩ = some v2) {v3 : Value} (p3 : w.cell? ⟨p, 3, none⟩ = some v3) (hne : p ≠ m) :
    Calls Try.prog 24 #[.pointer (some ⟨m, 0, none⟩)] w fun e w' => e = .returned (.tuple #[]) ∧ Sw (leaveW w p none none) w' := by
  have f2 : w.frozen? ⟨p, 2, none⟩ = false := blk_free hp
  have f3 : w.frozen? ⟨p, 3, none⟩ = false := blk_free hp
  unfold leaveW
  clear hp
  go_enter Try.func24, Try.ntmps24
  go_wp2
  go_region
  all_goals (try go_wp2)
  go_region
  all_goals (try go_wp2)
  all_goals (go_end0)
  all_goals (exact ⟨rfl, rfl, rfl, rfl, rfl⟩)

set_option maxRecDepth 100000 in
set_option maxHeartbeats 1000000 in
theorem leave_ns {w : World} {m p n : Nat} {vp : Array Value} {vn : Array Value} (m1 : w.cell? ⟨m, 1, none⟩ = some (.pointer (some ⟨p, 0, none⟩))) (m4 : w.cell? ⟨m, 4, none⟩ = some (.pointer none)) (m5 : w.cell? ⟨m, 5, none⟩ = some (.pointer (some ⟨n, 0, none⟩)))
    (hp : w.heap[p]? = some (.cells vp 53 (0, 0))) {v2 : Value} (p2 : w.cell? ⟨p, 2, none⟩ = some v2) (hn : w.heap[n]? = some (.cells vn 53 (0, 0))) {v4 : Value} (n4 : w.cell? ⟨n, 4, none⟩ = some v4) (hnm : n ≠ m) (hnp : n ≠ p) (hne : p ≠ m) :
    Calls Try.prog 24 #[.pointer (some ⟨m, 0, none⟩)] w fun e w' => e = .returned (.tuple #[]) ∧ Sw (leaveW w p none (some n)) w' := by
  have f2 : w.frozen? ⟨p, 2, none⟩ = false := blk_free hp
  have f4 : w.frozen? ⟨n, 4, none⟩ = false := blk_free hn
  unfold leaveW
  clear hp hn
  go_enter Try.func24, Try.ntmps24
  go_wp2
  go_region
  all_goals (try go_wp2)
  go_region
  all_goals (try go_wp2)
  all_goals (go_end0)
  all_goals (exact ⟨rfl, rfl, rfl, rfl, rfl⟩)

set_option maxRecDepth 100000 in
set_option maxHeartbeats 1000000 in
theorem leave_sn {w : World} {m p a : Nat} {vp : Array Value} {va : Array Value} (m1 : w.cell? ⟨m, 1, none⟩ = some (.pointer (some ⟨p, 0, none⟩))) (m4 : w.cell? ⟨m, 4, none⟩ = some (.pointer (some ⟨a, 0, none⟩))) (m5 : w.cell? ⟨m, 5, none⟩ = some (.pointer none))
    (hp : w.heap[p]? = some (.cells vp 53 (0, 0))) (ha : w.heap[a]? = some (.cells va 53 (0, 0))) {v5 : Value} (a5 : w.cell? ⟨a, 5, none⟩ = some v5) (ham : a ≠ m) (hap : a ≠ p) {v3 : Value} (p3 : w.cell? ⟨p, 3, none⟩ = some v3) (hne : p ≠ m) :
    Calls Try.prog 24 #[.pointer (some ⟨m, 0, none⟩)] w fun e w' => e = .returned (.tuple #[]) ∧ Sw (leaveW w p (some a) none) w' := by
  have f5 : w.frozen? ⟨a, 5, none⟩ = false := blk_free ha
  have f3 : w.frozen? ⟨p, 3, none⟩ = false := blk_free hp
  unfold leaveW
  clear hp ha
  go_enter Try.func24, Try.ntmps24
  go_wp2
  go_region
  all_goals (try go_wp2)
  go_region
  all_goals (try go_wp2)
  all_goals (go_end0)
  all_goals (exact ⟨rfl, rfl, rfl, rfl, rfl⟩)

set_option maxRecDepth 100000 in
set_option maxHeartbeats 1000000 in
theorem leave_ss {w : World} {m p a n : Nat} {vp : Array Value} {va : Array Value} {vn : Array Value} (m1 : w.cell? ⟨m, 1, none⟩ = some (.pointer (some ⟨p, 0, none⟩))) (m4 : w.cell? ⟨m, 4, none⟩ = some (.pointer (some ⟨a, 0, none⟩))) (m5 : w.cell? ⟨m, 5, none⟩ = some (.pointer (some ⟨n, 0, none⟩)))
    (hp : w.heap[p]? = some (.cells vp 53 (0, 0))) (ha : w.heap[a]? = some (.cells va 53 (0, 0))) {v5 : Value} (a5 : w.cell? ⟨a, 5, none⟩ = some v5) (ham : a ≠ m) (hap : a ≠ p) (hn : w.heap[n]? = some (.cells vn 53 (0, 0))) {v4 : Value} (n4 : w.cell? ⟨n, 4, none⟩ = some v4) (hnm : n ≠ m) (hnp : n ≠ p) (han : a ≠ n) (hne : p ≠ m) :
    Calls Try.prog 24 #[.pointer (some ⟨m, 0, none⟩)] w fun e w' => e = .returned (.tuple #[]) ∧ Sw (leaveW w p (some a) (some n)) w' := by
  have f5 : w.frozen? ⟨a, 5, none⟩ = false := blk_free ha
  have f4 : w.frozen? ⟨n, 4, none⟩ = false := blk_free hn
  unfold leaveW
  clear hp ha hn
  go_enter Try.func24, Try.ntmps24
  go_wp2
  go_region
  all_goals (try go_wp2)
  go_region
  all_goals (try go_wp2)
  all_goals (go_end0)
  all_goals (exact ⟨rfl, rfl, rfl, rfl, rfl⟩)

end Go.Proofs.Ytkeaenkkencmdaa.Tr
