/- CellsSizes answers true for every number, and turns nothing that there was: the walk. -/
import Derived.Test.YtcbmnnpanclclaaCellsD
namespace Go.Proofs.Ytcbmnnpanclclaa
open Go.RowKit

theorem count_any (n : Int) (w : World) : Calls Try.prog 26 #[.int .i64 n] w fun e w' => e = .returned (.int .i64 (count n)) ∧ w = w' := by
  by_cases h1 : n < 0
  · have e : (count n : Int) = 0 := by unfold count; omega
    rw [e]
    go_enter Try.func26, Try.ntmps26
    go_wp2
    go_ret
    exact ⟨rfl, rfl⟩
  by_cases h2 : 65536 < n
  · have e : (count n : Int) = 65536 := by unfold count; omega
    rw [e]
    go_enter Try.func26, Try.ntmps26
    go_wp2
    go_ret
    exact ⟨rfl, rfl⟩
  · have e : (count n : Int) = n := by unfold count; omega
    rw [e]
    clear e
    go_enter Try.func26, Try.ntmps26
    go_wp2
    go_ret
    exact ⟨rfl, rfl⟩

section
variable {w : World} {hb rb : Nat} {k : Nat}
theorem sz_len (h : MemAt w hb rb (zeros k) 0) : Calls Try.prog 12 #[.pointer (some ⟨hb, 0, none⟩)] w fun e w' => e = .returned (.int .i64 k) ∧ w = w' := by
  have := len_any h
  rwa [length_zeros] at this
theorem sz_at (h : MemAt w hb rb (zeros k) 0) : Calls Try.prog 15 #[.pointer (some ⟨hb, 0, none⟩), .int .i64 k, .int .u64 1] w fun e w' => e = .returned (.int .i64 1) ∧ w = w' :=
  store_no h k 1 (.inr (by rw [length_zeros]; exact Int.le_refl _))
theorem sz_at0 (h : MemAt w hb rb (zeros 0) 0) : Calls Try.prog 15 #[.pointer (some ⟨hb, 0, none⟩), .int .i64 0, .int .u64 1] w fun e w' => e = .returned (.int .i64 1) ∧ w = w' := sz_at h
theorem sz_at1 {j : Nat} (h : MemAt w hb rb (zeros (j + 1)) 0) : Calls Try.prog 15 #[.pointer (some ⟨hb, 0, none⟩), .int .i64 ((j : Int) + 1), .int .u64 1] w fun e w' => e = .returned (.int .i64 1) ∧ w = w' := sz_at h
theorem sz_below (h : MemAt w hb rb (zeros k) 0) : Calls Try.prog 15 #[.pointer (some ⟨hb, 0, none⟩), .int .i64 (-1), .int .u64 1] w fun e w' => e = .returned (.int .i64 1) ∧ w = w' :=
  store_no h (-1) 1 (.inl (by decide))
theorem sz_store {j : Nat} (h : MemAt w hb rb (zeros (j + 1)) 0) : Calls Try.prog 15 #[.pointer (some ⟨hb, 0, none⟩), .int .i64 j, .int .u64 5] w fun e w' =>
    e = .returned (.int .i64 0) ∧ MemAt w' hb rb ((zeros (j + 1)).set j 5) 1 ∧ Only (Blk hb rb) w w' :=
  store_yes h j 5 (by rw [length_zeros]; omega) (by decide) (by decide)
theorem sz_peek {j : Nat} (h : MemAt w hb rb ((zeros (j + 1)).set j 5) 1) : Calls Try.prog 18 #[.pointer (some ⟨hb, 0, none⟩), .int .i64 j] w fun e w' => e = .returned (.int .u64 5) ∧ w = w' := by
  have := peek_yes h j (by simp [length_zeros])
  rwa [getD_set_self _ _ _ (by simp [length_zeros])] at this
end

theorem sizes_zero (n : Int) (w : World) (hn : count n = 0) : Calls Try.prog 4 #[.int .i64 n] w fun e w' => e = .returned (.bool true) ∧ Below w.heap.size w w' := by
  have cn := fun w => count_any n w
  have nn := fun w => new_any n w
  rw [hn] at cn nn
  have cn' := Lib.hid cn
  have nn' := Lib.hid nn
  clear cn nn hn
  go_enter Try.func4, Try.ntmps4
  go_wp2_with (first
    | (go_at_call 10; (with_reducible refine (nn'.out _).mono ?_); rintro e w1 ⟨rfl, h1, o1⟩)
    | (go_at_call 9; (with_reducible refine (alive_any _).mono ?_); rintro e w2 ⟨rfl, o2⟩; have h2 := h1.keep o2 (fun h => h) (fun h => h))
    | (go_at_call 26; (with_reducible refine (cn'.out _).mono ?_); rintro e w3 ⟨rfl, rfl⟩)
    | (go_at_call 12; (with_reducible refine (sz_len (by assumption)).mono ?_); rintro e w3 ⟨rfl, rfl⟩)
    | (go_at_call 15; (with_reducible refine (sz_at0 (by assumption)).mono ?_); rintro e w3 ⟨rfl, rfl⟩)
    | (go_at_call 15; (with_reducible refine (sz_below (by assumption)).mono ?_); rintro e w3 ⟨rfl, rfl⟩)
    | (go_at_call 25; (with_reducible refine (all_any (by assumption) (by simp [zeros])).mono ?_); rintro e w3 ⟨rfl, h3, s3, o3⟩))
  go_ret
  exact ⟨rfl, ((o1.trans o2).trans o3).below (Nat.le_refl _) (fun _ h => h.elim)⟩

theorem sizes_more (n : Int) (j : Nat) (hj : (j : Int) ≤ 65536) (w : World) (hn : count n = j + 1) : Calls Try.prog 4 #[.int .i64 n] w fun e w' => e = .returned (.bool true) ∧ Below w.heap.size w w' := by
  have cn := fun w => count_any n w
  have nn := fun w => new_any n w
  rw [hn] at cn nn
  simp only [Int.natCast_add, Int.cast_ofNat_Int] at cn
  have cn' := Lib.hid cn
  have nn' := Lib.hid nn
  clear cn nn hn
  go_enter Try.func4, Try.ntmps4
  go_wp2_with (first
    | (go_at_call 10; (with_reducible refine (nn'.out _).mono ?_); rintro e w1 ⟨rfl, h1, o1⟩)
    | (go_at_call 9; (with_reducible refine (alive_any _).mono ?_); rintro e w2 ⟨rfl, o2⟩; have h2 := h1.keep o2 (fun h => h) (fun h => h))
    | (go_at_call 26; (with_reducible refine (cn'.out _).mono ?_); rintro e w3 ⟨rfl, rfl⟩)
    | (go_at_call 12; (with_reducible refine (sz_len (by assumption)).mono ?_); rintro e w3 ⟨rfl, rfl⟩)
    | (go_at_call 15; (with_reducible refine (sz_at1 (by assumption)).mono ?_); rintro e w3 ⟨rfl, rfl⟩)
    | (go_at_call 15; (with_reducible refine (sz_below (by assumption)).mono ?_); rintro e w3 ⟨rfl, rfl⟩)
    | (go_at_call 15; (with_reducible refine (sz_store (by assumption)).mono ?_); rintro e w4 ⟨rfl, h4, o4⟩)
    | (go_at_call 18; (with_reducible refine (sz_peek (by assumption)).mono ?_); rintro e w3 ⟨rfl, rfl⟩)
    | (go_at_call 23; (with_reducible refine (touched_any (by assumption)).mono ?_); rintro e w3 ⟨rfl, rfl⟩))
  go_ret
  exact ⟨rfl, (((o1.trans o2).nilTo _).trans o4).below (Nat.le_refl _) (fun _ h => by rcases h with rfl | rfl <;> omega)⟩
end Go.Proofs.Ytcbmnnpanclclaa
