/- The statements' own check of the document's examples (alive) answers true, and turns nothing that there was. -/
import Derived.Test.YtcbmnnpanclclaaCellsC
namespace Go.Proofs.Ytcbmnnpanclclaa
open Go.RowKit

theorem Only.fresh {S : Nat → Prop} {w w' : World} (h : Only S w w') (hS : ∀ k, S k → w.heap.size ≤ k) : Only Nil w w' :=
  ⟨h.os, h.tape, h.output, h.size, fun k hk _ => h.block k hk (fun s => by have := hS k s; omega)⟩
theorem Only.nilTo {w w' : World} (h : Only Nil w w') (S : Nat → Prop) : Only S w w' := h.mono (fun _ hk => hk.elim)

section
variable {w : World} {hb rb : Nat}

theorem al_new (w : World) : Calls Try.prog 10 #[.int .i64 2] w fun e w' =>
    e = .returned (.pointer (some ⟨w.heap.size + 1, 0, none⟩)) ∧ MemAt w' (w.heap.size + 1) w.heap.size [0, 0] 0 ∧ Only (Blk (w.heap.size + 1) w.heap.size) w w' :=
  (new_any 2 w).mono fun _ _ ⟨a, b, c⟩ => ⟨a, b, c.nilTo _⟩
theorem al_len (h : MemAt w hb rb [0, 0] 0) : Calls Try.prog 12 #[.pointer (some ⟨hb, 0, none⟩)] w fun e w' => e = .returned (.int .i64 2) ∧ w = w' := len_any h
theorem al_store (h : MemAt w hb rb [0, 0] 0) : Calls Try.prog 15 #[.pointer (some ⟨hb, 0, none⟩), .int .i64 0, .int .u64 7] w fun e w' =>
    e = .returned (.int .i64 0) ∧ MemAt w' hb rb [7, 0] 1 ∧ Only (Blk hb rb) w w' := store_yes h 0 7 (by decide) (by decide) (by decide)
theorem al_swap1 (h : MemAt w hb rb [7, 0] 1) : Calls Try.prog 16 #[.pointer (some ⟨hb, 0, none⟩), .int .i64 0, .int .u64 7, .int .u64 9] w fun e w' =>
    e = .returned (.tuple #[.bool true, .int .i64 0]) ∧ MemAt w' hb rb [9, 0] 2 ∧ Only (Blk hb rb) w w' := swap_done h 0 7 9 (by decide) rfl (by decide) (by decide)
theorem al_swap2 (h : MemAt w hb rb [9, 0] 2) : Calls Try.prog 16 #[.pointer (some ⟨hb, 0, none⟩), .int .i64 0, .int .u64 7, .int .u64 1] w fun e w' =>
    e = .returned (.tuple #[.bool false, .int .i64 0]) ∧ MemAt w' hb rb [9, 0] 3 ∧ Only (Blk hb rb) w w' := swap_not h 0 7 1 (by decide) (by decide) (by decide) (by decide)
theorem al_add (h : MemAt w hb rb [9, 0] 3) : Calls Try.prog 17 #[.pointer (some ⟨hb, 0, none⟩), .int .i64 0, .int .u64 1] w fun e w' =>
    e = .returned (.tuple #[.int .u64 10, .int .i64 0]) ∧ MemAt w' hb rb [10, 0] 4 ∧ Only (Blk hb rb) w w' := by
  have := add_yes h 0 1 (by decide) (by decide) (by decide)
  have e : sum64 (List.getD [9, 0] 0 0) 1 = 10 := by decide +kernel
  rw [e] at this
  exact this
theorem al_load (h : MemAt w hb rb [10, 0] 4) : Calls Try.prog 14 #[.pointer (some ⟨hb, 0, none⟩), .int .i64 2] w fun e w' =>
    e = .returned (.tuple #[.int .u64 0, .int .i64 1]) ∧ w = w' := load_no h 2 (.inr (by decide))
theorem al_touched (h : MemAt w hb rb [10, 0] 4) : Calls Try.prog 23 #[.pointer (some ⟨hb, 0, none⟩)] w fun e w' => e = .returned (.int .i64 4) ∧ w = w' := touched_any h
theorem al_peek0 (h : MemAt w hb rb [10, 0] 4) : Calls Try.prog 18 #[.pointer (some ⟨hb, 0, none⟩), .int .i64 0] w fun e w' => e = .returned (.int .u64 10) ∧ w = w' := peek_yes h 0 (by decide)
theorem al_peek1 (h : MemAt w hb rb [10, 0] 4) : Calls Try.prog 18 #[.pointer (some ⟨hb, 0, none⟩), .int .i64 1] w fun e w' => e = .returned (.int .u64 0) ∧ w = w' := peek_yes h 1 (by decide)
end

set_option maxHeartbeats 1000000 in
theorem alive_any (w : World) : Calls Try.prog 9 #[] w fun e w' => e = .returned (.bool true) ∧ Only Nil w w' := by
  go_enter Try.func9, Try.ntmps9
  go_wp2_with (first
    | (go_at_call 10; (with_reducible refine (al_new _).mono ?_); rintro e w1 ⟨rfl, h1, o1⟩)
    | (go_at_call 12; (with_reducible refine (al_len (by assumption)).mono ?_); rintro e w1 ⟨rfl, rfl⟩)
    | (go_at_call 15; (with_reducible refine (al_store (by assumption)).mono ?_); rintro e w2 ⟨rfl, h2, o2⟩)
    | (go_at_call 16; (with_reducible refine (al_swap1 (by assumption)).mono ?_); rintro e w3 ⟨rfl, h3, o3⟩)
    | (go_at_call 16; (with_reducible refine (al_swap2 (by assumption)).mono ?_); rintro e w4 ⟨rfl, h4, o4⟩)
    | (go_at_call 17; (with_reducible refine (al_add (by assumption)).mono ?_); rintro e w5 ⟨rfl, h5, o5⟩)
    | (go_at_call 14; (with_reducible refine (al_load (by assumption)).mono ?_); rintro e w6 ⟨rfl, rfl⟩)
    | (go_at_call 23; (with_reducible refine (al_touched (by assumption)).mono ?_); rintro e w6 ⟨rfl, rfl⟩)
    | (go_at_call 18; (with_reducible refine (al_peek0 (by assumption)).mono ?_); rintro e w6 ⟨rfl, rfl⟩)
    | (go_at_call 18; (with_reducible refine (al_peek1 (by assumption)).mono ?_); rintro e w6 ⟨rfl, rfl⟩))
  go_ret
  exact ⟨rfl, ((((o1.trans o2).trans o3).trans o4).trans o5).fresh (fun k hk => by rcases hk with rfl | rfl <;> omega)⟩

end Go.Proofs.Ytcbmnnpanclclaa
