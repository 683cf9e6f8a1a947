/- LotOrders: the walk. -/
import Derived.Test.YtokopocldicnmaaLtH
namespace Go.Proofs.Ytokopocldicnmaa.Lt
open Go.RowKit Go.Proofs.Ytokopocldicnmaa

theorem both_order (d : Nat) (n s : Int) (hd : d < 18446744073709551616) : ∃ (k : Nat) (X : List Nat), k ≤ 7 ∧ X.length = k ∧
    (∀ w, Calls Try.prog 41 #[.int .u64 (d : Int), .int .i64 n, .int .i64 s] w fun e w' => ∃ v, e = .returned v ∧ Hid (w'.ownsRow w.heap.size 3 1 v k (nv X)) ∧ Only Nil w w') ∧
    (∀ w, Calls Try.prog 42 #[.int .u64 (d : Int), .int .i64 n, .int .i64 s] w fun e w' => ∃ v, e = .returned v ∧ Hid (w'.ownsRow w.heap.size 3 1 v k (nv X)) ∧ Only Nil w w') := by
  by_cases h : There n s
  · obtain ⟨h1, h2, h3, h4⟩ := h
    obtain ⟨n', rfl⟩ : ∃ n' : Nat, n = (n' : Int) := ⟨n.toNat, by omega⟩
    obtain ⟨s', rfl⟩ : ∃ s' : Nat, s = (s' : Int) := ⟨s.toNat, by omega⟩
    exact ⟨n' - 1, ord (n' - 1) d (upTo n' s'), by omega, ord_length _ _ _, fun w => order_yes d n' s' hd (by omega) (by omega) (by omega) w, fun w => rorder_yes d n' s' hd (by omega) (by omega) (by omega) w⟩
  · refine ⟨0, [], by omega, rfl, fun w => order_no d n s h w, fun w => (rorder_no d n s h w).mono ?_⟩
    rintro e w' ⟨rfl, o⟩
    exact ⟨_, rfl, Lib.hid (World.ownsRow_nil _ _ _ _), o⟩
theorem both_ways (n : Int) : ∃ r : Int, (∀ w, Calls Try.prog 43 #[.int .i64 n] w fun e w' => e = .returned (.int .i64 r) ∧ w = w') ∧ (∀ w, Calls Try.prog 44 #[.int .i64 n] w fun e w' => e = .returned (.int .i64 r) ∧ w = w') := by
  by_cases h : 1 ≤ n ∧ n ≤ 8
  · obtain ⟨n', rfl⟩ : ∃ n' : Nat, n = (n' : Int) := ⟨n.toNat, by omega⟩
    exact ⟨_, fun w => ways_yes n' (by omega) (by omega) w, fun w => rways_yes n' (by omega) (by omega) w⟩
  · exact ⟨0, fun w => ways_no n h w, fun w => rways_no n h w⟩

set_option maxRecDepth 100000 in
set_option maxHeartbeats 2000000 in
theorem orders_all (z n s : Int) (w : World) (hz : 0 ≤ z ∧ z < 18446744073709551616) :
    Calls Try.prog 10 #[.int .u64 z, .int .i64 n, .int .i64 s] w fun e w' => e = .returned (.bool true) ∧ Below w.heap.size w w' := by
  obtain ⟨D, rfl⟩ : ∃ D : Nat, z = (D : Int) := ⟨z.toNat, by omega⟩
  obtain ⟨k, X, hk, hX, oa, ob⟩ := both_order D n s (by omega)
  obtain ⟨r, wa, wb⟩ := both_ways n
  have hX' := Lib.hid hX
  have hk1 : k ≤ 1000000 := by omega
  have oa' := Lib.hid oa
  have ob' := Lib.hid ob
  have wa' := Lib.hid wa
  have wb' := Lib.hid wb
  clear oa ob wa wb hX hk hz
  go_enter Try.func10, Try.ntmps10
  go_wp2_with (first
    | (go_at_call 39; (with_reducible refine (alive_any _).mono ?_); rintro e w1 ⟨rfl, k1⟩; have q1 := Lib.hid k1; clear k1)
    | (go_at_call 41; (with_reducible refine (oa'.out _).mono ?_); rintro e w3 ⟨v3, rfl, h3, k3⟩; obtain ⟨a3, c3, rfl, i3, _⟩ := own_nin h3.out; have i3' := Lib.hid i3; have q3 := Lib.hid (q1.out.trans k3); clear i3 k3 h3)
    | (go_at_call 42; (with_reducible refine (ob'.out _).mono ?_); rintro e w5 ⟨v5, rfl, h5, k5⟩; obtain ⟨a5, c5, rfl, i5, _⟩ := own_nin h5.out; have i5' := Lib.hid i5; have i3a := Lib.hid (i3'.out.nil k5); have q5 := Lib.hid (q3.out.trans k5); clear i5 k5 h5)
    | (go_at_call 40; (with_reducible refine (ints_yes _ _ _ k _ _ X hX'.out i3a.out i5'.out hk1).mono ?_); rintro e w8 ⟨rfl, k8⟩; have q8 := Lib.hid (q5.out.trans k8); clear k8)
    | (go_at_call 43; (with_reducible refine (wa'.out _).mono ?_); rintro e w9 ⟨rfl, rfl⟩)
    | (go_at_call 44; (with_reducible refine (wb'.out _).mono ?_); rintro e w10 ⟨rfl, rfl⟩))
  go_ret
  exact ⟨rfl, q8.out.below (Nat.le_refl _) (fun _ h => h.elim)⟩
end Go.Proofs.Ytokopocldicnmaa.Lt
