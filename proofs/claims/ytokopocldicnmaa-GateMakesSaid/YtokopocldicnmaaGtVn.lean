/- A gate that is not made: nil, too few or too many slots, no room. -/
import Derived.Test.YtokopocldicnmaaGtV
namespace Go.Proofs.Ytokopocldicnmaa.Gt
open Go.RowKit

theorem rgsize_no (w : World) (c : Int) (hc : c < 1 ∨ 64 < c) :
    Calls Try.prog 73 #[.int .i64 c] w fun e w' => e = .returned (.int .i64 0) ∧ w = w' := by
  by_cases h1 : c < 1
  · clear hc
    go_enter Try.func73, Try.ntmps73
    go_wp2
    go_ret
    exact ⟨rfl, rfl⟩
  · have h2 : 64 < c := by omega
    clear hc
    go_enter Try.func73, Try.ntmps73
    go_wp2
    go_ret
    exact ⟨rfl, rfl⟩
section
variable {w : World} {dq hb rb c : Nat} {L : List Int} {t : Int}
theorem gmake_nil (w : World) (b c : Int) :
    Calls Try.prog 21 #[.pointer none, .int .i64 b, .int .i64 c] w fun e w' => e = .returned (.tuple #[.pointer none, .int .i64 1]) ∧ Only Nil w w' := by
  have sz : ∃ x : Int, Hid (∀ w', Calls Try.prog 36 #[.int .i64 c] w' fun e w'' => e = .returned (.int .i64 x) ∧ w' = w'') := by
    by_cases hc : c < 1 ∨ 64 < c
    · exact ⟨0, Lib.hid (fun w' => gsize_any w' c 0 (rgsize_no w' c hc))⟩
    · obtain ⟨n, rfl⟩ := Int.eq_ofNat_of_zero_le (show 0 ≤ c by omega)
      exact ⟨2 + 2 * (n : Int), Lib.hid (fun w' => gsize_any w' (n : Int) (2 + 2 * (n : Int)) (rgsize_yes w' n (by omega) (by omega)))⟩
  obtain ⟨x, sz⟩ := sz
  have at' := Lib.hid (at_nil w b x)
  go_enter Try.func21, Try.ntmps21
  go_wp2_with (first
    | (go_at_call 36; refine (sz.out _).mono ?_; rintro e w1 ⟨rfl, rfl⟩)
    | (go_at_call 57; refine at'.out.mono ?_; rintro e w2 ⟨rfl, o2⟩))
  go_ret2
  exact ⟨rfl, o2.alloc _⟩
theorem gmake_bad (w : World) (hb : Nat) (b c : Int) (hc : c < 1 ∨ 64 < c) :
    Calls Try.prog 21 #[.pointer (some ⟨hb, 0, none⟩), .int .i64 b, .int .i64 c] w fun e w' => e = .returned (.tuple #[.pointer none, .int .i64 1]) ∧ Only Nil w w' := by
  have sz := Lib.hid (fun w' => gsize_any w' c 0 (rgsize_no w' c hc))
  have at' := Lib.hid (at_low w hb b 0 (by decide))
  clear hc
  go_enter Try.func21, Try.ntmps21
  go_wp2_with (first
    | (go_at_call 36; refine (sz.out _).mono ?_; rintro e w1 ⟨rfl, rfl⟩)
    | (go_at_call 57; refine at'.out.mono ?_; rintro e w2 ⟨rfl, o2⟩))
  go_ret2
  exact ⟨rfl, o2.alloc _⟩
theorem gmake_no (h : MemAt w hb rb L t) (b : Int) (hc : 0 < c) (hc2 : c ≤ 64) (hL2 : L.length ≤ 65536) (hn : b < 0 ∨ (L.length : Int) - (2 + 2 * (c : Int)) < b) :
    Calls Try.prog 21 #[.pointer (some ⟨hb, 0, none⟩), .int .i64 b, .int .i64 (c : Int)] w fun e w' => e = .returned (.tuple #[.pointer none, .int .i64 1]) ∧ Only Nil w w' := by
  have sz := Lib.hid (fun w' => gsize_any w' (c : Int) (2 + 2 * (c : Int)) (rgsize_yes w' c hc hc2))
  have at' := Lib.hid (at_no h b (2 + 2 * (c : Int)) (by omega) (by omega) hL2 hn)
  clear hc hn hc2 hL2 h
  go_enter Try.func21, Try.ntmps21
  go_wp2_with (first
    | (go_at_call 36; refine (sz.out _).mono ?_; rintro e w1 ⟨rfl, rfl⟩)
    | (go_at_call 57; refine at'.out.mono ?_; rintro e w2 ⟨rfl, o2⟩))
  go_ret2
  exact ⟨rfl, o2.alloc _⟩
end
end Go.Proofs.Ytokopocldicnmaa.Gt
