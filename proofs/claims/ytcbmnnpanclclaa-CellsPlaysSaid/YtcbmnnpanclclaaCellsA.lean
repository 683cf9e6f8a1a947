/- The calls of package cells, each by a contract over any world that holds a memory of cells. -/
import Derived.Test.YtcbmnnpanclclaaRows
import Derived.WalkKit
import Derived.WalkSpells
import Derived.WalkLawsBesides
import Derived.OneCell
import Derived.BigQuiet
import Derived.Deep.QuietTactic
import Derived.Outline
import Derived.Lib.Hide
namespace Go.Proofs.Ytcbmnnpanclclaa
open Go.RowKit

/-- The numbers of a row of cells, as values. -/
def u64s (L : List Int) : Array Value := (L.map (Value.int .u64)).toArray

theorem u64s_size (L : List Int) : (u64s L).size = L.length := by simp [u64s]
theorem u64s_get (L : List Int) (i : Nat) (hi : i < L.length) : (u64s L)[i]? = some (.int .u64 (L.getD i 0)) := by
  simp [u64s, List.getElem?_eq_getElem hi]
theorem u64s_set (L : List Int) (i : Nat) (v : Int) : (u64s L).setIfInBounds i (.int .u64 v) = u64s (L.set i v) := by
  simp [u64s, List.map_set]

/-- World w holds, at block hb, a memory whose cells lie in block rb and hold L; t accesses were counted. -/
structure MemAt (w : World) (hb rb : Nat) (L : List Int) (t : Int) : Prop where
  head : w.heap[hb]? = some (.cells #[.slice (some ⟨rb, 0, none⟩) L.length L.length, .int .i64 t] 56 (0, 0))
  row : w.heap[rb]? = some (.cells (u64s L) 32 (0, 0))
  ne : hb ≠ rb

/-- Nothing but the blocks of S has turned between w and w'; new blocks may have come. -/
structure Only (S : Nat → Prop) (w w' : World) : Prop where
  os : w'.os = w.os
  tape : w'.tape = w.tape
  output : w'.output = w.output
  size : w.heap.size ≤ w'.heap.size
  block : ∀ k, k < w.heap.size → ¬ S k → w'.heap[k]? = w.heap[k]?

theorem Only.refl (S : Nat → Prop) (w : World) : Only S w w := ⟨rfl, rfl, rfl, Nat.le_refl _, fun _ _ _ => rfl⟩
theorem Only.trans {S : Nat → Prop} {a b c : World} (h : Only S a b) (k : Only S b c) : Only S a c :=
  ⟨k.os.trans h.os, k.tape.trans h.tape, k.output.trans h.output, Nat.le_trans h.size k.size, fun i hi hs => (k.block i (Nat.lt_of_lt_of_le hi h.size) hs).trans (h.block i hi hs)⟩
theorem Only.mono {S T : Nat → Prop} {w w' : World} (h : Only S w w') (hS : ∀ k, S k → T k) : Only T w w' :=
  ⟨h.os, h.tape, h.output, h.size, fun k hk ht => h.block k hk (fun hs => ht (hS k hs))⟩
theorem Only.setCell {S : Nat → Prop} {a w : World} (h : Only S a w) {p : Addr} (hp : S p.block) (u : Value) : Only S a (w.setCell p u) :=
  h.trans ⟨rfl, rfl, rfl, by simp [World.setCell], fun k _ hs => Below.heap_setCell _ _ _ _ (fun e => hs (e ▸ hp))⟩
theorem Only.alloc {S : Nat → Prop} {a w : World} (h : Only S a w) (o : Obj) : Only S a (w.alloc o) :=
  h.trans ⟨rfl, rfl, rfl, by simp, fun k hk _ => Below.heap_alloc _ _ _ hk⟩
theorem Only.drew {S : Nat → Prop} {a w : World} (h : Only S a w) : Only S a w.drew := ⟨h.os, h.tape, h.output, h.size, h.block⟩
theorem Only.drewN {S : Nat → Prop} {a w : World} (h : Only S a w) (n : Nat) : Only S a (w.drewN n) := ⟨h.os, h.tape, h.output, h.size, h.block⟩
theorem Only.below {S : Nat → Prop} {w w' : World} (h : Only S w w') {B : Nat} (hB : B ≤ w.heap.size) (hS : ∀ k, S k → B ≤ k) : Below B w w' :=
  ⟨h.os, h.tape, h.output, h.size, fun k hk => h.block k (by omega) (fun s => by have := hS k s; omega)⟩

theorem MemAt.lt_hb {w : World} {hb rb : Nat} {L : List Int} {t : Int} (h : MemAt w hb rb L t) : hb < w.heap.size := lt_of_block h.head
theorem MemAt.lt_rb {w : World} {hb rb : Nat} {L : List Int} {t : Int} (h : MemAt w hb rb L t) : rb < w.heap.size := lt_of_block h.row
theorem MemAt.keep {S : Nat → Prop} {w w' : World} {hb rb : Nat} {L : List Int} {t : Int} (h : MemAt w hb rb L t) (o : Only S w w') (h1 : ¬ S hb) (h2 : ¬ S rb) : MemAt w' hb rb L t :=
  ⟨(o.block hb h.lt_hb h1).trans h.head, (o.block rb h.lt_rb h2).trans h.row, h.ne⟩
theorem MemAt.drewN {w : World} {hb rb : Nat} {L : List Int} {t : Int} (h : MemAt w hb rb L t) (n : Nat) : MemAt (w.drewN n) hb rb L t := ⟨h.head, h.row, h.ne⟩
theorem MemAt.drew {w : World} {hb rb : Nat} {L : List Int} {t : Int} (h : MemAt w hb rb L t) : MemAt w.drew hb rb L t := ⟨h.head, h.row, h.ne⟩
theorem MemAt.alloc {w : World} {hb rb : Nat} {L : List Int} {t : Int} (h : MemAt w hb rb L t) (o : Obj) : MemAt (w.alloc o) hb rb L t :=
  ⟨(Below.heap_alloc _ _ _ h.lt_hb).trans h.head, (Below.heap_alloc _ _ _ h.lt_rb).trans h.row, h.ne⟩

theorem heap_setCell_self {w : World} {b o : Nat} {vs : Array Value} {t : TypeId} {m : Nat × Nat} (u : Value) (h : w.heap[b]? = some (.cells vs t m)) :
    (w.setCell ⟨b, o, none⟩ u).heap[b]? = some (.cells (vs.setIfInBounds o u) t m) := by
  have hlt := lt_of_block h
  have h' : w.heap[b] = .cells vs t m := by simpa [Array.getElem?_eq_getElem hlt] using h
  show (w.heap.modify b _)[b]? = _
  rw [Array.getElem?_eq_getElem (by simpa using hlt), Array.getElem_modify_self, h']
  rfl

theorem MemAt.touch {w : World} {hb rb : Nat} {L : List Int} {t : Int} (h : MemAt w hb rb L t) (t' : Int) : MemAt (w.setCell ⟨hb, 1, none⟩ (.int .i64 t')) hb rb L t' :=
  ⟨by rw [heap_setCell_self _ h.head]; rfl, by rw [Below.heap_setCell _ _ _ _ (fun e => h.ne e.symm)]; exact h.row, h.ne⟩
theorem MemAt.store {w : World} {hb rb : Nat} {L : List Int} {t : Int} (h : MemAt w hb rb L t) (i : Nat) (v : Int) : MemAt (w.setCell ⟨rb, i, none⟩ (.int .u64 v)) hb rb (L.set i v) t :=
  ⟨by rw [Below.heap_setCell _ _ _ _ h.ne, List.length_set]; exact h.head, by rw [heap_setCell_self _ h.row, u64s_set], h.ne⟩

theorem MemAt.c0 {w : World} {hb rb : Nat} {L : List Int} {t : Int} (h : MemAt w hb rb L t) : w.cell? ⟨hb, 0, none⟩ = some (.slice (some ⟨rb, 0, none⟩) L.length L.length) := by simp [World.cell?, h.head]
theorem MemAt.c1 {w : World} {hb rb : Nat} {L : List Int} {t : Int} (h : MemAt w hb rb L t) : w.cell? ⟨hb, 1, none⟩ = some (.int .i64 t) := by simp [World.cell?, h.head]
theorem MemAt.f1 {w : World} {hb rb : Nat} {L : List Int} {t : Int} (h : MemAt w hb rb L t) : w.frozen? ⟨hb, 1, none⟩ = false := by simp [World.frozen?, h.head]
theorem MemAt.ci {w : World} {hb rb : Nat} {L : List Int} {t : Int} (h : MemAt w hb rb L t) (i : Nat) (hi : i < L.length) : w.cell? ⟨rb, i, none⟩ = some (.int .u64 (L.getD i 0)) := by
  have := u64s_get L i hi
  simp only [World.cell?, h.row]; simpa using this
theorem MemAt.fi {w : World} {hb rb : Nat} {L : List Int} {t : Int} (h : MemAt w hb rb L t) (i : Nat) : w.frozen? ⟨rb, i, none⟩ = false := by
  simp only [World.frozen?, h.row]; simp

/-- has, of a cell that there is. -/
theorem has_yes {w : World} {hb rb : Nat} {L : List Int} {t : Int} (h : MemAt w hb rb L t) (i : Nat) (hi : i < L.length) :
    Calls Try.prog 28 #[.pointer (some ⟨hb, 0, none⟩), .int .i64 i] w fun e w' => e = .returned (.bool true) ∧ w = w' := by
  have c0 := h.c0
  have h0 : (0 : Int) ≤ (i : Int) := by omega
  have h1 : (i : Int) < (L.length : Int) := by omega
  clear h
  go_enter Try.func28, Try.ntmps28
  go_wp2
  go_ret
  exact ⟨rfl, rfl⟩

/-- has, of a cell that there isn't. -/
theorem has_no {w : World} {hb rb : Nat} {L : List Int} {t : Int} (h : MemAt w hb rb L t) (i : Int) (hi : i < 0 ∨ (L.length : Int) ≤ i) :
    Calls Try.prog 28 #[.pointer (some ⟨hb, 0, none⟩), .int .i64 i] w fun e w' => e = .returned (.bool false) ∧ w = w' := by
  have c0 := h.c0
  clear h
  by_cases h0 : i < 0
  · have hd : decide (0 ≤ i) = false := by simp; omega
    clear hi
    go_enter Try.func28, Try.ntmps28
    go_wp2
    go_ret
    exact ⟨rfl, rfl⟩
  · have hd : 0 ≤ i := by omega
    have he : ¬ i < (L.length : Int) := by omega
    clear hi h0
    go_enter Try.func28, Try.ntmps28
    go_wp2
    go_ret
    exact ⟨rfl, rfl⟩

/-- access, of a cell that there is: it is counted, and pointed to. -/
theorem access_yes {w : World} {hb rb : Nat} {L : List Int} {t : Int} (h : MemAt w hb rb L t) (i : Nat) (hi : i < L.length) (t0 : 0 ≤ t) (t1 : t < 4611686018427387904) :
    Calls Try.prog 27 #[.pointer (some ⟨hb, 0, none⟩), .int .i64 i] w fun e w' => e = .returned (.pointer (some ⟨rb, i, none⟩)) ∧ w.setCell ⟨hb, 1, none⟩ (.int .i64 (t + 1)) = w' := by
  have c0 := h.c0
  have c1 := h.c1
  have f1 := h.f1
  have h0 : (0 : Int) ≤ (i : Int) := by omega
  have h1 : (i : Int) < (L.length : Int) := by omega
  go_enter Try.func27, Try.ntmps27
  go_wp2_with (go_at_call 28; refine (has_yes h i hi).mono ?_; rintro e w' ⟨rfl, rfl⟩)
  go_ret
  exact ⟨rfl, rfl⟩

/-- access, of a cell that there isn't. -/
theorem access_no {w : World} {hb rb : Nat} {L : List Int} {t : Int} (h : MemAt w hb rb L t) (i : Int) (hi : i < 0 ∨ (L.length : Int) ≤ i) :
    Calls Try.prog 27 #[.pointer (some ⟨hb, 0, none⟩), .int .i64 i] w fun e w' => e = .returned (.pointer none) ∧ w = w' := by
  have hi' := Lib.hid hi
  clear hi
  go_enter Try.func27, Try.ntmps27
  go_wp2_with (go_at_call 28; refine (has_no h i hi'.out).mono ?_; rintro e w' ⟨rfl, rfl⟩)
  go_ret
  exact ⟨rfl, rfl⟩
end Go.Proofs.Ytcbmnnpanclclaa
