/- WheelBounds: the walk. -/
import Derived.Test.YtpmgmdlfnlmieaaWhN
import Derived.Test.YtpmgmdlfnlmieaaRowA
namespace Go.Proofs.Ytpmgmdlfnlmieaa.Wh
open Go.RowKit Go.Proofs.Ytpmgmdlfnlmieaa

set_option maxRecDepth 100000 in
set_option maxHeartbeats 4000000 in
theorem bounds_all (x : Nat) (d : Int) (hx : x < 18446744073709551616) (w : World) :
    Calls Try.prog 7 #[.int .u64 (x : Int), .int .i64 d] w fun e w' => e = .returned (.bool true) ∧ Below w.heap.size w w' := by
  obtain ⟨y, hy, hy2, e1⟩ : ∃ y : Nat, y ≠ x ∧ y < 18446744073709551616 ∧ IntKind.u64.wrap ((x : Int) + 1) = (y : Int) := by
    refine ⟨(x + 1) % 18446744073709551616, by omega, Nat.mod_lt _ (by decide), ?_⟩
    rw [IntKind.wrap_u64]; omega
  have m1 := Lib.hid (fun w1 (o : Only Nil w w1) => mine_new w w1 o)
  have m2 := Lib.hid (fun w1 B (h : Mine w w1 B 0 0 []) => show Calls Try.prog 12 #[.pointer (some ⟨B, 0, none⟩), .int .u64 (x : Int), .int .i64 7] w1 fun e w' => e = .returned (.int .i64 0) ∧ Mine w w' B 0 1 [⟨x, 7, 0⟩] from
    mine_add_ok h x 7 (by simp) (by decide) (by decide) (by decide) (by decide) hx)
  by_cases hd : d < 1 ∨ 4095 < d
  · have m3 := Lib.hid (fun w1 B (h : Mine w w1 B 0 1 [⟨x, 7, 0⟩]) (z : Int) => mine_add_bad h z d hd)
    have m4 := Lib.hid (fun w1 B (h : Mine w w1 B 0 1 [⟨x, 7, 0⟩]) => mine_due_no h y (by simp; exact fun e => hy e.symm))
    have m5 := Lib.hid (fun w1 B (h : Mine w w1 B 0 1 [⟨x, 7, 0⟩]) => show Calls Try.prog 20 #[.pointer (some ⟨B, 0, none⟩)] w1 fun e w' => e = .returned (.int .i64 1) ∧ Mine w w' B 0 1 [⟨x, 7, 0⟩] from mine_len h)
    have hd2 : d < 1 ∨ ¬ (d < 1) ∧ 4095 < d := by omega
    clear hd hy hy2 hx
    rcases hd2 with hd2 | ⟨hd2, hd3⟩
    all_goals
      go_enter Try.func7, Try.ntmps7
      go_wp2_with (first
        | (go_at_call 9; (with_reducible refine (alive_any _).mono ?_); rintro e w1 ⟨rfl, h⟩; have o1 := Lib.hid h; clear h)
        | (go_at_call 10; (with_reducible refine (m1.out _ o1.out).mono ?_); rintro e w2 ⟨rfl, h⟩; have k2 := Lib.hid h; clear h; generalize w1.heap.size = B at *)
        | (go_at_call 12; (with_reducible refine (m2.out _ _ k2.out).mono ?_); rintro e w3 ⟨rfl, h⟩; have k3 := Lib.hid h; clear h)
        | (go_at_call 24; (with_reducible refine (m4.out _ _ k4.out).mono ?_); rintro e w5 ⟨rfl, h⟩; have k5 := Lib.hid h; clear h)
        | (go_at_call 12; (with_reducible refine (m3.out _ _ k5.out _).mono ?_); rintro e w6 ⟨rfl, h⟩; have k6 := Lib.hid h; clear h)
        | (go_at_call 12; (with_reducible refine (m3.out _ _ k3.out _).mono ?_); rintro e w4 ⟨rfl, h⟩; have k4 := Lib.hid h; clear h)
        | (go_at_call 20; (with_reducible refine (m5.out _ _ k6.out).mono ?_); rintro e w7 ⟨rfl, h⟩; have k7 := Lib.hid h; clear h))
      go_ret
      exact ⟨rfl, k7.out.only.below (Nat.le_refl _) (fun _ h => h.elim)⟩
  · obtain ⟨D, rfl⟩ := Int.eq_ofNat_of_zero_le (show 0 ≤ d by omega)
    have m3 := Lib.hid (fun w1 B (h : Mine w w1 B 0 1 [⟨x, 7, 0⟩]) => show Calls Try.prog 12 #[.pointer (some ⟨B, 0, none⟩), .int .u64 (y : Int), .int .i64 (D : Int)] w1 fun e w' => e = .returned (.int .i64 0) ∧ Mine w w' B 0 2 [⟨x, 7, 0⟩, ⟨y, 0 + D, 1⟩] from
      mine_add_ok h y D (by simp; exact fun e => hy e.symm) (by simp) (by omega) (by omega) (by decide) hy2)
    have m4 := Lib.hid (fun w1 B (h : Mine w w1 B 0 2 [⟨x, 7, 0⟩, ⟨y, 0 + D, 1⟩]) => show Calls Try.prog 24 #[.pointer (some ⟨B, 0, none⟩), .int .u64 (y : Int)] w1 fun e w' => e = .returned (.tuple #[.int .i64 (D : Int), .bool true]) ∧ Mine w w' B 0 2 [⟨x, 7, 0⟩, ⟨y, 0 + D, 1⟩] from by
      have := mine_due_yes h ⟨y, 0 + D, 1⟩ (by simp)
      rwa [show (((⟨y, 0 + D, 1⟩ : Tm).due : Nat) : Int) = (D : Int) by simp] at this)
    have m6 := Lib.hid (fun w1 B (h : Mine w w1 B 0 2 [⟨x, 7, 0⟩, ⟨y, 0 + D, 1⟩]) => show Calls Try.prog 12 #[.pointer (some ⟨B, 0, none⟩), .int .u64 (x : Int), .int .i64 (D : Int)] w1 fun e w' => e = .returned (.int .i64 3) ∧ Mine w w' B 0 2 [⟨x, 7, 0⟩, ⟨y, 0 + D, 1⟩] from
      mine_add_there h ⟨x, 7, 0⟩ (by simp) D (by omega) (by omega))
    have m5 := Lib.hid (fun w1 B (h : Mine w w1 B 0 2 [⟨x, 7, 0⟩, ⟨y, 0 + D, 1⟩]) => show Calls Try.prog 20 #[.pointer (some ⟨B, 0, none⟩)] w1 fun e w' => e = .returned (.int .i64 2) ∧ Mine w w' B 0 2 [⟨x, 7, 0⟩, ⟨y, 0 + D, 1⟩] from mine_len h)
    have hd2 : ¬ ((D : Int) < 1) := by omega
    have hd3 : ¬ (4095 < (D : Int)) := by omega
    clear hd hy hy2 hx
    go_enter Try.func7, Try.ntmps7
    go_wp2_with (first
      | (go_at_call 9; (with_reducible refine (alive_any _).mono ?_); rintro e w1 ⟨rfl, h⟩; have o1 := Lib.hid h; clear h)
      | (go_at_call 10; (with_reducible refine (m1.out _ o1.out).mono ?_); rintro e w2 ⟨rfl, h⟩; have k2 := Lib.hid h; clear h; generalize w1.heap.size = B at *)
      | (go_at_call 12; (with_reducible refine (m2.out _ _ k2.out).mono ?_); rintro e w3 ⟨rfl, h⟩; have k3 := Lib.hid h; clear h)
      | (go_at_call 24; (with_reducible refine (m4.out _ _ k4.out).mono ?_); rintro e w5 ⟨rfl, h⟩; have k5 := Lib.hid h; clear h)
      | (go_at_call 12; (with_reducible refine (m6.out _ _ k5.out).mono ?_); rintro e w6 ⟨rfl, h⟩; have k6 := Lib.hid h; clear h)
      | (go_at_call 12; (with_reducible refine (m3.out _ _ k3.out).mono ?_); rintro e w4 ⟨rfl, h⟩; have k4 := Lib.hid h; clear h)
      | (go_at_call 20; (with_reducible refine (m5.out _ _ k6.out).mono ?_); rintro e w7 ⟨rfl, h⟩; have k7 := Lib.hid h; clear h))
    go_ret
    exact ⟨rfl, k7.out.only.below (Nat.le_refl _) (fun _ h => h.elim)⟩

theorem bounds_row (x d : Int) (w : World) (hx : 0 ≤ x ∧ x < 18446744073709551616) :
    Calls Try.prog 7 #[.int .u64 x, .int .i64 d] w fun e w' => e = .returned (.bool true) ∧ Below w.heap.size w w' := by
  obtain ⟨X, rfl⟩ := Int.eq_ofNat_of_zero_le hx.1
  exact bounds_all X d (by omega) w
end Go.Proofs.Ytpmgmdlfnlmieaa.Wh
