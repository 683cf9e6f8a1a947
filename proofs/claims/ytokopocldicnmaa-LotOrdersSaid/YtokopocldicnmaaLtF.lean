/- lot: the document's examples. -/
import Derived.Test.YtokopocldicnmaaLtE
namespace Go.Proofs.Ytokopocldicnmaa.Lt
open Go.RowKit Go.Proofs.Ytokopocldicnmaa

theorem nin_new (w : World) (X : List Nat) (t : TypeId) : NIn (w.alloc (.cells (nv X).toArray t (0, 0))) (some ⟨w.heap.size, 0, none⟩) X := by
  intro i hi
  refine ⟨w.heap.size, rfl, by simp, fun j hj => ?_⟩
  have := heap_new w (.cells (nv X).toArray t (0, 0))
  simp only [World.cell?, this]
  simp [nv, hj]

section
variable (w : World) (a : Option Addr) (c : Nat)
theorem r3 (h : NIn w a [2, 0, 3]) : Calls Try.prog 45 #[.slice a 3 c, .int .i64 4, .int .i64 1] w fun e w' => e = .returned (.tuple #[.int .u64 1, .bool true]) ∧ Only Nil w w' :=
  rank_yes 4 1 (by decide) (by decide) (by decide) a c [2, 0, 3] rfl w h
theorem r2 : Calls Try.prog 45 #[.slice a 2 c, .int .i64 4, .int .i64 1] w fun e w' => e = .returned (.tuple #[.int .u64 0, .bool false]) ∧ Only Nil w w' :=
  rank_len 4 1 (by decide) (by decide) (by decide) a 2 c (by decide) w
theorem o1 : Calls Try.prog 41 #[.int .u64 1, .int .i64 4, .int .i64 1] w fun e w' => ∃ v, e = .returned v ∧ Hid (w'.ownsRow w.heap.size 3 1 v 3 (nv [2, 0, 3])) ∧ Only Nil w w' :=
  order_yes 1 4 1 (by decide) (by decide) (by decide) (by decide) w
theorem o5 : Calls Try.prog 41 #[.int .u64 5, .int .i64 4, .int .i64 1] w fun e w' => ∃ v, e = .returned v ∧ Hid (w'.ownsRow w.heap.size 3 1 v 3 (nv [3, 2, 0])) ∧ Only Nil w w' :=
  order_yes 5 4 1 (by decide) (by decide) (by decide) (by decide) w
theorem wy4 : Calls Try.prog 43 #[.int .i64 4] w fun e w' => e = .returned (.int .i64 6) ∧ w = w' := ways_yes 4 (by decide) (by decide) w
theorem wy9 : Calls Try.prog 43 #[.int .i64 9] w fun e w' => e = .returned (.int .i64 0) ∧ w = w' := ways_no 9 (by decide) w
end

theorem n203 (w : World) : NIn (w.alloc (.cells #[.int .i64 2, .int .i64 0, .int .i64 3] 3)) (some ⟨w.heap.size, 0, none⟩) [2, 0, 3] := nin_new w [2, 0, 3] _
theorem n320 (w : World) : NIn (w.alloc (.cells #[.int .i64 3, .int .i64 2, .int .i64 0] 3)) (some ⟨w.heap.size, 0, none⟩) [3, 2, 0] := nin_new w [3, 2, 0] _
set_option maxRecDepth 100000 in
set_option maxHeartbeats 1000000 in
theorem alive_any (w : World) : Calls Try.prog 39 #[] w fun e w' => e = .returned (.bool true) ∧ Only Nil w w' := by
  have hq := Lib.hid (Only.refl Nil w)
  go_enter Try.func39, Try.ntmps39
  go_wp2_with (first
    | (go_at_call 45; (with_reducible refine (r3 _ _ _ (n203 _)).mono ?_); rintro e w1 ⟨rfl, k1⟩; have q1 := Lib.hid ((hq.out.alloc _).trans k1); clear k1)
    | (go_at_call 45; (with_reducible refine (r2 _ _ _).mono ?_); rintro e w2 ⟨rfl, k2⟩; have q2 := Lib.hid ((q1.out.alloc _).trans k2); clear k2)
    | (go_at_call 41; (with_reducible refine (o1 _).mono ?_); rintro e w3 ⟨v3, rfl, h3, k3⟩; obtain ⟨a3, c3, rfl, i3, _⟩ := own_nin h3.out; have i3' := Lib.hid i3; clear i3; have q3 := Lib.hid (q2.out.trans k3); clear k3)
    | (go_at_call 40; (with_reducible refine (ints_yes _ _ _ 3 _ _ [2, 0, 3] rfl (i3'.out.nil ((Only.refl Nil _).alloc _)) (n203 _) (by decide)).mono ?_); rintro e w4 ⟨rfl, k4⟩; have q4 := Lib.hid ((q3.out.alloc _).trans k4); clear k4)
    | (go_at_call 41; (with_reducible refine (o5 _).mono ?_); rintro e w5 ⟨v5, rfl, h5, k5⟩; obtain ⟨a5, c5, rfl, i5, _⟩ := own_nin h5.out; have i5' := Lib.hid i5; clear i5; have q5 := Lib.hid (q4.out.trans k5); clear k5)
    | (go_at_call 40; (with_reducible refine (ints_yes _ _ _ 3 _ _ [3, 2, 0] rfl (i5'.out.nil ((Only.refl Nil _).alloc _)) (n320 _) (by decide)).mono ?_); rintro e w6 ⟨rfl, k6⟩; have q6 := Lib.hid ((q5.out.alloc _).trans k6); clear k6)
    | (go_at_call 43; (with_reducible refine (wy4 _).mono ?_); rintro e w7 ⟨rfl, rfl⟩)
    | (go_at_call 43; (with_reducible refine (wy9 _).mono ?_); rintro e w8 ⟨rfl, rfl⟩))
  go_ret
  exact ⟨rfl, q6.out⟩
end Go.Proofs.Ytokopocldicnmaa.Lt
