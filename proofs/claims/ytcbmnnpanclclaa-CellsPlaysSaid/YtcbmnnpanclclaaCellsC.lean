/- The calls of package cells, the rest: New and All, which make blocks; and the document's own examples. -/
import Derived.Test.YtcbmnnpanclclaaCellsB
import Derived.Deep.OwnRows
import Derived.Laws.CopyOwn
import Derived.Lib.MinMax
namespace Go.Proofs.Ytcbmnnpanclclaa
open Go.RowKit

theorem Only.ofBelow {w w' : World} (h : Below w.heap.size w w') (S : Nat → Prop) : Only S w w' := ⟨h.os, h.tape, h.output, h.size, fun k hk _ => h.block k hk⟩

/-- Nothing that there was has turned. -/
def Nil (_ : Nat) : Prop := False

/-- How many cells a memory for n has. -/
def count (n : Int) : Nat := (min (max n 0) 65536).toNat
theorem count_eq (n : Int) : min (max n 0) 65536 = (count n : Int) := by unfold count; omega
theorem count_le (n : Int) : count n ≤ 65536 := by unfold count; omega

def zeros (n : Nat) : List Int := List.replicate n 0
theorem length_zeros (n : Nat) : (zeros n).length = n := by simp [zeros]
theorem getD_zeros (n i : Nat) : (zeros n).getD i 0 = 0 := by
  simp [zeros, List.getD_eq_getElem?_getD, List.getElem?_replicate]; split <;> rfl

theorem made_u64s (n : Nat) : madeCells #[.int .u64 0] n = u64s (zeros n) := by
  apply Array.ext
  · simp [u64s, size_madeCells, zeros]
  · intro i h1 h2
    have : i < n := by simpa [size_madeCells] using h1
    simp [madeCells, u64s, zeros, Nat.mod_one]

theorem Try.infoU64 : (Try.prog.info? 32).map (fun i => (i.zero, i.size, i.bytes)) = some (some (.int .u64 0), 1, 8) := by kernel_rfl

theorem heap_new (w : World) (o : Obj) : (w.alloc o).heap[w.heap.size]? = some o := by
  show (w.heap.push o)[w.heap.size]? = _
  simp

theorem new_fin (w : World) (k : Nat) :
    MemAt ((w.alloc (.cells (u64s (zeros k)) 32)).alloc (.cells #[.slice (some ⟨w.heap.size, 0, none⟩) k k, .int .i64 0] 56)) (w.heap.size + 1) w.heap.size (zeros k) 0
      ∧ Only Nil w ((w.alloc (.cells (u64s (zeros k)) 32)).alloc (.cells #[.slice (some ⟨w.heap.size, 0, none⟩) k k, .int .i64 0] 56)) := by
  refine ⟨⟨?_, ?_, by omega⟩, ((Only.refl _ _).alloc _).alloc _⟩
  · rw [length_zeros]
    have := heap_new (w.alloc (.cells (u64s (zeros k)) 32)) (.cells #[.slice (some ⟨w.heap.size, 0, none⟩) k k, .int .i64 0] 56)
    simpa using this
  · rw [Below.heap_alloc _ _ _ (by simp)]
    exact heap_new _ _

theorem new_any (n : Int) (w : World) :
    Calls Try.prog 10 #[.int .i64 n] w fun e w' =>
      e = .returned (.pointer (some ⟨w.heap.size + 1, 0, none⟩)) ∧ MemAt w' (w.heap.size + 1) w.heap.size (zeros (count n)) 0 ∧ Only Nil w w' := by
  have hk := count_eq n
  have hle := count_le n
  generalize hc : count n = k at hk hle ⊢
  clear hc
  have hmk := fun (w : World) => run_make_row' (P := Try.prog) 29 32 (.int .u64 0) 8 Try.underlying29 Try.infoU64 rfl .i64 .i64 k (by omega) (by omega) w
  simp only [made_u64s] at hmk
  have fin := Lib.hid (new_fin w k)
  go_enter Try.func10, Try.ntmps10
  go_wp2
  go_ret
  exact ⟨rfl, fin.out.1, fin.out.2⟩

theorem splice_all (Z : List Value) (L : List Int) (h : Z.length = L.length) : (splice Z 0 (L.map (Value.int .u64))).toArray = u64s L := by
  simp [splice, u64s, h]

theorem u64s_list (L : List Int) : ((u64s L).toList).toArray = u64s L := by simp

/-- All answers a row of its own. -/
theorem all_any {w : World} {hb rb : Nat} {L : List Int} {t : Int} (h : MemAt w hb rb L t) (hL : L.length ≤ 65536) :
    Calls Try.prog 25 #[.pointer (some ⟨hb, 0, none⟩)] w fun e w' =>
      e = .returned (.slice (some ⟨w.heap.size, 0, none⟩) L.length L.length) ∧ w'.heap[w.heap.size]? = some (.cells (u64s L) 32 (0, 0)) ∧ w.heap.size < w'.heap.size ∧ Only Nil w w' := by
  have c0 := h.c0
  have hmk := fun (w : World) => run_make_row' (P := Try.prog) 29 32 (.int .u64 0) 8 Try.underlying29 Try.infoU64 rfl .i64 .i64 L.length (by omega) (by omega) w
  simp only [made_u64s] at hmk
  have c0' : (w.alloc (.cells (u64s (zeros L.length)) 32)).cell? ⟨hb, 0, none⟩ = some (.slice (some ⟨rb, 0, none⟩) L.length L.length) := (h.alloc _).c0
  have hg := Lib.hid (heap_new w (.cells (u64s (zeros L.length)) 32))
  have hB := Lib.hid ((Below.refl w.heap.size w).alloc (Nat.le_refl _) (.cells (u64s (zeros L.length)) 32))
  have hsrc : Hid (∀ (j : Nat) (v : Value), (L.map (Value.int .u64))[j]? = some v → (w.alloc (.cells (u64s (zeros L.length)) 32)).cell? (Addr.add ⟨rb, 0, none⟩ j) = some v) := by
    intro j v hj
    have hlt : j < L.length := by
      have := (List.getElem?_eq_some_iff.1 hj).1
      simpa using this
    have := (h.alloc (.cells (u64s (zeros L.length)) 32)).ci j hlt
    have e : v = .int .u64 (L.getD j 0) := by
      rw [List.getElem?_map, List.getElem?_eq_getElem hlt] at hj
      simp at hj
      rw [← hj]; simp [hlt]
    rw [e]
    by_cases h0 : j = 0
    · subst h0; simpa [Addr.add] using this
    · simpa [Addr.add, h0] using this
  have hu := Try.underlying29
  go_enter Try.func25, Try.ntmps25
  go_wp2_with (refine wpList_copy_splice rfl (.tmp 10) (.tmp 14) 29 29 rfl 32 hu (by kernel_rfl) _ _ _ _ _ _ rfl rfl w.heap.size 0 (u64s (zeros L.length)).toList 32 ?hg (L.map (Value.int .u64)) ?hn (fun _ => ⟨rfl, _, rfl, hsrc.out⟩) ?hfit ?h1 w.heap.size w ?hb (Nat.le_refl _) ?_)
  case hg => rw [u64s_list]; exact hg.out
  case hn => simp
  case hfit => simp [u64s_size, length_zeros]
  case h1 => intro v hv; obtain ⟨x, _, rfl⟩ := List.mem_map.1 hv; rfl
  case hb => exact hB.out
  intro w2 hg2 hb2
  have hs := Lib.hid hb2.size
  go_wp2
  go_ret
  refine ⟨rfl, ?_, ?_, Only.ofBelow hb2 _⟩
  · have := hg2.out
    rw [splice_all _ _ (by simp [u64s_size, length_zeros])] at this
    exact this
  · exact lt_of_block hg2.out

end Go.Proofs.Ytcbmnnpanclclaa
