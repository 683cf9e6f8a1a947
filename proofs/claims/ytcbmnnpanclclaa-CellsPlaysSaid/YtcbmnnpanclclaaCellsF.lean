/- A memory of cells that is filled from a slice: New and Store as a loop meets them. -/
import Derived.Test.YtcbmnnpanclclaaCellsE
namespace Go.Proofs.Ytcbmnnpanclclaa
open Go.RowKit

theorem ke_new (L : List Int) (hL : L.length ≤ 300) (w : World) : Calls Try.prog 10 #[.int .i64 L.length] w fun e w' =>
    e = .returned (.pointer (some ⟨w.heap.size + 1, 0, none⟩)) ∧ MemAt w' (w.heap.size + 1) w.heap.size (fill L 0) 0 ∧ Only Nil w w' := by
  have := new_any L.length w
  have e : count L.length = L.length := by unfold count; omega
  rw [e, ← fill_zero] at this
  exact this
theorem ke_store {w : World} {hb rb : Nat} {L : List Int} {k : Nat} (h : MemAt w hb rb (fill L k) k) (hk : k < L.length) (hl : L.length ≤ 300) :
    Calls Try.prog 15 #[.pointer (some ⟨hb, 0, none⟩), .int .i64 k, .int .u64 (L.getD k 0)] w fun e w' =>
      e = .returned (.int .i64 0) ∧ MemAt w' hb rb (fill L (k + 1)) ((k : Int) + 1) ∧ Only (Blk hb rb) w w' := by
  have := store_yes h k (L.getD k 0) (by rw [fill_length _ _ (by omega)]; exact hk) (by omega) (by omega)
  rwa [fill_set _ _ hk] at this

theorem cell_u64s {w : World} {b : Nat} {M : List Int} (h : w.heap[b]? = some (.cells (u64s M) 32 (0, 0))) (i : Nat) (hi : i < M.length) : w.cell? ⟨b, i, none⟩ = some (.int .u64 (M.getD i 0)) := by
  have := u64s_get M i hi
  simp only [World.cell?, h]; simpa using this

end Go.Proofs.Ytcbmnnpanclclaa
