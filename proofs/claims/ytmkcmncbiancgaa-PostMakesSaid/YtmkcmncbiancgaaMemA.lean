/- The calls of package cells that a ring makes, each by a contract over any world that holds a memory of cells. -/
import Derived.Test.YtmkcmncbiancgaaRows
import Derived.WalkKit
import Derived.WalkSpells
import Derived.WalkLawsBesides
import Derived.OneCell
import Derived.BigQuiet
import Derived.Deep.QuietTactic
import Derived.Outline
import Derived.Lib.Hide
import Derived.Deep.OwnRows
import Derived.Laws.CopyOwn
import Derived.Lib.MinMax
import Derived.LoopTactic
import Derived.RegionTactic
import Derived.BigRegion
namespace Go.Proofs.Ytmkcmncbiancgaa
open Go.RowKit

/-- The numbers of a row of cells, as values. -/
def u64s (L : List Int) : Array Value := (L.map (Value.int .u64)).toArray

theorem u64s_size (L : List Int) : (u64s L).size = L.length := by simp [u64s]
theorem u64s_get (L : List Int) (i : Nat) (hi : i < L.length) : (u64s L)[i]? = some (.int .u64 (L.getD i 0)) := by
  simp [u64s, List.getElem?_eq_getElem hi]
theorem u64s_set (L : List Int) (i : Nat) (v : Int) : (u64s L).setIfInBounds i (.int .u64 v) = u64s (L.set i v) := by
  simp [u64s, List.map_set]

/-- World w holds, at block hb, a memory whose cells lie in block rb and hold L; t accesses were counted. -/
structure MemAt (w : World) (hb rb : Nat) (L : List Int) (t : Int) : Prop where
  head : w.heap[hb]? = some (.cells #[.slice (some ⟨rb, 0, none⟩) L.length L.length, .int .i64 t] 74 (0, 0))
  row : w.heap[rb]? = some (.cells (u64s L) 28 (0, 0))
  ne : hb ≠ rb

/-- Nothing but the blocks of S has turned between w and w'; new blocks may have come. -/
structure Only (S : Nat → Prop) (w w' : World) : Prop where
  os : w'.os = w.os
  tape : w'.tape = w.tape
  output : w'.output = w.output
  size : w.heap.size ≤ w'.heap.size
  block : ∀ k, k < w.heap.size → ¬ S k → w'.heap[k]? = w.heap[k]?

theorem Only.refl (S : Nat → Prop) (w : World) : Only S w w := ⟨rfl, rfl, rfl, Nat.le_refl _, fun _ _ _ => rfl⟩
theorem Only.trans {S : Nat → Prop} {a b c : World} (h : Only S a b) (k : Only S b c) : Only S a c :=
  ⟨k.os.trans h.os, k.tape.trans h.tape, k.output.trans h.output, Nat.le_trans h.size k.size, fun i hi hs => (k.block i (Nat.lt_of_lt_of_le hi h.size) hs).trans (h.block i hi hs)⟩
theorem Only.mono {S T : Nat → Prop} {w w' : World} (h : Only S w w') (hS : ∀ k, S k → T k) : Only T w w' :=
  ⟨h.os, h.tape, h.output, h.size, fun k hk ht => h.block k hk (fun hs => ht (hS k hs))⟩
theorem Only.setCell {S : Nat → Prop} {a w : World} (h : Only S a w) {p : Addr} (hp : S p.block) (u : Value) : Only S a (w.setCell p u) :=
  h.trans ⟨rfl, rfl, rfl, by simp [World.setCell], fun k _ hs => Below.heap_setCell _ _ _ _ (fun e => hs (e ▸ hp))⟩
theorem Only.alloc {S : Nat → Prop} {a w : World} (h : Only S a w) (o : Obj) : Only S a (w.alloc o) :=
  h.trans ⟨rfl, rfl, rfl, by simp, fun k hk _ => Below.heap_alloc _ _ _ hk⟩
theorem Only.drew {S : Nat → Prop} {a w : World} (h : Only S a w) : Only S a w.drew := ⟨h.os, h.tape, h.output, h.size, h.block⟩
theorem Only.drewN {S : Nat → Prop} {a w : World} (h : Only S a w) (n : Nat) : Only S a (w.drewN n) := ⟨h.os, h.tape, h.output, h.size, h.block⟩
theorem Only.below {S : Nat → Prop} {w w' : World} (h : Only S w w') {B : Nat} (hB : B ≤ w.heap.size) (hS : ∀ k, S k → B ≤ k) : Below B w w' :=
  ⟨h.os, h.tape, h.output, h.size, fun k hk => h.block k (by omega) (fun s => by have := hS k s; omega)⟩

theorem MemAt.lt_hb {w : World} {hb rb : Nat} {L : List Int} {t : Int} (h : MemAt w hb rb L t) : hb < w.heap.size := lt_of_block h.head
theorem MemAt.lt_rb {w : World} {hb rb : Nat} {L : List Int} {t : Int} (h : MemAt w hb rb L t) : rb < w.heap.size := lt_of_block h.row
theorem MemAt.keep {S : Nat → Prop} {w w' : World} {hb rb : Nat} {L : List Int} {t : Int} (h : MemAt w hb rb L t) (o : Only S w w') (h1 : ¬ S hb) (h2 : ¬ S rb) : MemAt w' hb rb L t :=
  ⟨(o.block hb h.lt_hb h1).trans h.head, (o.block rb h.lt_rb h2).trans h.row, h.ne⟩
theorem MemAt.drewN {w : World} {hb rb : Nat} {L : List Int} {t : Int} (h : MemAt w hb rb L t) (n : Nat) : MemAt (w.drewN n) hb rb L t := ⟨h.head, h.row, h.ne⟩
theorem MemAt.drew {w : World} {hb rb : Nat} {L : List Int} {t : Int} (h : MemAt w hb rb L t) : MemAt w.drew hb rb L t := ⟨h.head, h.row, h.ne⟩
theorem MemAt.alloc {w : World} {hb rb : Nat} {L : List Int} {t : Int} (h : MemAt w hb rb L t) (o : Obj) : MemAt (w.alloc o) hb rb L t :=
  ⟨(Below.heap_alloc _ _ _ h.lt_hb).trans h.head, (Below.heap_alloc _ _ _ h.lt_rb).trans h.row, h.ne⟩

theorem heap_setCell_self {w : World} {b o : Nat} {vs : Array Value} {t : TypeId} {m : Nat × Nat} (u : Value) (h : w.heap[b]? = some (.cells vs t m)) :
    (w.setCell ⟨b, o, none⟩ u).heap[b]? = some (.cells (vs.setIfInBounds o u) t m) := by
  have hlt := lt_of_block h
  have h' : w.heap[b] = .cells vs t m := by simpa [Array.getElem?_eq_getElem hlt] using h
  show (w.heap.modify b _)[b]? = _
  rw [Array.getElem?_eq_getElem (by simpa using hlt), Array.getElem_modify_self, h']
  rfl

theorem MemAt.touch {w : World} {hb rb : Nat} {L : List Int} {t : Int} (h : MemAt w hb rb L t) (t' : Int) : MemAt (w.setCell ⟨hb, 1, none⟩ (.int .i64 t')) hb rb L t' :=
  ⟨by rw [heap_setCell_self _ h.head]; rfl, by rw [Below.heap_setCell _ _ _ _ (fun e => h.ne e.symm)]; exact h.row, h.ne⟩
theorem MemAt.store {w : World} {hb rb : Nat} {L : List Int} {t : Int} (h : MemAt w hb rb L t) (i : Nat) (v : Int) : MemAt (w.setCell ⟨rb, i, none⟩ (.int .u64 v)) hb rb (L.set i v) t :=
  ⟨by rw [Below.heap_setCell _ _ _ _ h.ne, List.length_set]; exact h.head, by rw [heap_setCell_self _ h.row, u64s_set], h.ne⟩

theorem MemAt.c0 {w : World} {hb rb : Nat} {L : List Int} {t : Int} (h : MemAt w hb rb L t) : w.cell? ⟨hb, 0, none⟩ = some (.slice (some ⟨rb, 0, none⟩) L.length L.length) := by simp [World.cell?, h.head]
theorem MemAt.c1 {w : World} {hb rb : Nat} {L : List Int} {t : Int} (h : MemAt w hb rb L t) : w.cell? ⟨hb, 1, none⟩ = some (.int .i64 t) := by simp [World.cell?, h.head]
theorem MemAt.f1 {w : World} {hb rb : Nat} {L : List Int} {t : Int} (h : MemAt w hb rb L t) : w.frozen? ⟨hb, 1, none⟩ = false := by simp [World.frozen?, h.head]
theorem MemAt.ci {w : World} {hb rb : Nat} {L : List Int} {t : Int} (h : MemAt w hb rb L t) (i : Nat) (hi : i < L.length) : w.cell? ⟨rb, i, none⟩ = some (.int .u64 (L.getD i 0)) := by
  have := u64s_get L i hi
  simp only [World.cell?, h.row]; simpa using this
theorem MemAt.fi {w : World} {hb rb : Nat} {L : List Int} {t : Int} (h : MemAt w hb rb L t) (i : Nat) : w.frozen? ⟨rb, i, none⟩ = false := by
  simp only [World.frozen?, h.row]; simp

/-- has, of a cell that there is. -/
theorem has_yes {w : World} {hb rb : Nat} {L : List Int} {t : Int} (h : MemAt w hb rb L t) (i : Nat) (hi : i < L.length) :
    Calls Try.prog 47 #[.pointer (some ⟨hb, 0, none⟩), .int .i64 i] w fun e w' => e = .returned (.bool true) ∧ w = w' := by
  have c0 := h.c0
  have h0 : (0 : Int) ≤ (i : Int) := by omega
  have h1 : (i : Int) < (L.length : Int) := by omega
  clear h
  go_enter Try.func47, Try.ntmps47
  go_wp2
  go_ret
  exact ⟨rfl, rfl⟩

/-- has, of a cell that there isn't. -/
theorem has_no {w : World} {hb rb : Nat} {L : List Int} {t : Int} (h : MemAt w hb rb L t) (i : Int) (hi : i < 0 ∨ (L.length : Int) ≤ i) :
    Calls Try.prog 47 #[.pointer (some ⟨hb, 0, none⟩), .int .i64 i] w fun e w' => e = .returned (.bool false) ∧ w = w' := by
  have c0 := h.c0
  clear h
  by_cases h0 : i < 0
  · have hd : decide (0 ≤ i) = false := by simp; omega
    clear hi
    go_enter Try.func47, Try.ntmps47
    go_wp2
    go_ret
    exact ⟨rfl, rfl⟩
  · have hd : 0 ≤ i := by omega
    have he : ¬ i < (L.length : Int) := by omega
    clear hi h0
    go_enter Try.func47, Try.ntmps47
    go_wp2
    go_ret
    exact ⟨rfl, rfl⟩

/-- access, of a cell that there is: it is counted, and pointed to. -/
theorem access_yes {w : World} {hb rb : Nat} {L : List Int} {t : Int} (h : MemAt w hb rb L t) (i : Nat) (hi : i < L.length) (t0 : 0 ≤ t) (t1 : t < 4611686018427387904) :
    Calls Try.prog 37 #[.pointer (some ⟨hb, 0, none⟩), .int .i64 i] w fun e w' => e = .returned (.pointer (some ⟨rb, i, none⟩)) ∧ w.setCell ⟨hb, 1, none⟩ (.int .i64 (t + 1)) = w' := by
  have c0 := h.c0
  have c1 := h.c1
  have f1 := h.f1
  have h0 : (0 : Int) ≤ (i : Int) := by omega
  have h1 : (i : Int) < (L.length : Int) := by omega
  go_enter Try.func37, Try.ntmps37
  go_wp2_with (go_at_call 47; refine (has_yes h i hi).mono ?_; rintro e w' ⟨rfl, rfl⟩)
  go_ret
  exact ⟨rfl, rfl⟩

/-- access, of a cell that there isn't. -/
theorem access_no {w : World} {hb rb : Nat} {L : List Int} {t : Int} (h : MemAt w hb rb L t) (i : Int) (hi : i < 0 ∨ (L.length : Int) ≤ i) :
    Calls Try.prog 37 #[.pointer (some ⟨hb, 0, none⟩), .int .i64 i] w fun e w' => e = .returned (.pointer none) ∧ w = w' := by
  have hi' := Lib.hid hi
  clear hi
  go_enter Try.func37, Try.ntmps37
  go_wp2_with (go_at_call 47; refine (has_no h i hi'.out).mono ?_; rintro e w' ⟨rfl, rfl⟩)
  go_ret
  exact ⟨rfl, rfl⟩

/-- What a call may turn that makes an access of the memory at hb and rb. -/
def Blk (hb rb : Nat) (k : Nat) : Prop := k = hb ∨ k = rb
theorem Blk.l (hb rb : Nat) : Blk hb rb hb := .inl rfl
theorem Blk.r (hb rb : Nat) : Blk hb rb rb := .inr rfl

/-- A number of 64 bits. -/
def U64 (v : Int) : Prop := 0 ≤ v ∧ v < 18446744073709551616

theorem getD_set_self (L : List Int) (i : Nat) (v : Int) (hi : i < L.length) : (L.set i v).getD i 0 = v := by simp [hi]

set_option maxHeartbeats 400000 in
theorem load_yes {w : World} {hb rb : Nat} {L : List Int} {t : Int} (h : MemAt w hb rb L t) (i : Nat) (hi : i < L.length) (t0 : 0 ≤ t) (t1 : t < 4611686018427387904) :
    Calls Try.prog 84 #[.pointer (some ⟨hb, 0, none⟩), .int .i64 i] w fun e w' =>
      e = .returned (.tuple #[.int .u64 (L.getD i 0), .int .i64 0]) ∧ MemAt w' hb rb L (t + 1) ∧ Only (Blk hb rb) w w' := by
  have ci := (h.touch (t + 1)).ci i hi
  have fin := And.intro (h.touch (t + 1)) ((Only.refl (Blk hb rb) w).setCell (p := ⟨hb, 1, none⟩) (Blk.l hb rb) (.int .i64 (t + 1)))
  have fin' := Lib.hid fin
  clear fin
  generalize L.getD i 0 = x at ci ⊢
  go_enter Try.func84, Try.ntmps84
  go_wp2_with (go_at_call 37; refine (access_yes h i hi t0 t1).mono ?_; rintro e w' ⟨rfl, rfl⟩)
  go_ret2
  exact ⟨rfl, fin'.out.1, fin'.out.2⟩

theorem load_no {w : World} {hb rb : Nat} {L : List Int} {t : Int} (h : MemAt w hb rb L t) (i : Int) (hi : i < 0 ∨ (L.length : Int) ≤ i) :
    Calls Try.prog 84 #[.pointer (some ⟨hb, 0, none⟩), .int .i64 i] w fun e w' => e = .returned (.tuple #[.int .u64 0, .int .i64 1]) ∧ w = w' := by
  have hi' := Lib.hid hi
  clear hi
  go_enter Try.func84, Try.ntmps84
  go_wp2_with (go_at_call 37; refine (access_no h i hi'.out).mono ?_; rintro e w' ⟨rfl, rfl⟩)
  go_ret2
  exact ⟨rfl, rfl⟩

set_option maxHeartbeats 400000 in
theorem store_yes {w : World} {hb rb : Nat} {L : List Int} {t : Int} (h : MemAt w hb rb L t) (i : Nat) (v : Int) (hi : i < L.length) (t0 : 0 ≤ t) (t1 : t < 4611686018427387904) :
    Calls Try.prog 11 #[.pointer (some ⟨hb, 0, none⟩), .int .i64 i, .int .u64 v] w fun e w' =>
      e = .returned (.int .i64 0) ∧ MemAt w' hb rb (L.set i v) (t + 1) ∧ Only (Blk hb rb) w w' := by
  have ci := (h.touch (t + 1)).ci i hi
  have fi := (h.touch (t + 1)).fi i
  have fin := And.intro ((h.touch (t + 1)).store i v) (((Only.refl (Blk hb rb) w).setCell (p := ⟨hb, 1, none⟩) (Blk.l hb rb) (.int .i64 (t + 1))).setCell (p := ⟨rb, i, none⟩) (Blk.r hb rb) (.int .u64 v))
  have fin' := Lib.hid fin
  clear fin
  go_enter Try.func11, Try.ntmps11
  go_wp2_with (go_at_call 37; refine (access_yes h i hi t0 t1).mono ?_; rintro e w' ⟨rfl, rfl⟩)
  go_ret
  exact ⟨rfl, fin'.out.1, fin'.out.2⟩

theorem store_no {w : World} {hb rb : Nat} {L : List Int} {t : Int} (h : MemAt w hb rb L t) (i : Int) (v : Int) (hi : i < 0 ∨ (L.length : Int) ≤ i) :
    Calls Try.prog 11 #[.pointer (some ⟨hb, 0, none⟩), .int .i64 i, .int .u64 v] w fun e w' => e = .returned (.int .i64 1) ∧ w = w' := by
  have hi' := Lib.hid hi
  clear hi
  go_enter Try.func11, Try.ntmps11
  go_wp2_with (go_at_call 37; refine (access_no h i hi'.out).mono ?_; rintro e w' ⟨rfl, rfl⟩)
  go_ret
  exact ⟨rfl, rfl⟩

set_option maxHeartbeats 400000 in
theorem swap_done {w : World} {hb rb : Nat} {L : List Int} {t : Int} (h : MemAt w hb rb L t) (i : Nat) (o v : Int) (hi : i < L.length) (ho : L.getD i 0 = o) (t0 : 0 ≤ t) (t1 : t < 4611686018427387904) :
    Calls Try.prog 83 #[.pointer (some ⟨hb, 0, none⟩), .int .i64 i, .int .u64 o, .int .u64 v] w fun e w' =>
      e = .returned (.tuple #[.bool true, .int .i64 0]) ∧ MemAt w' hb rb (L.set i v) (t + 1) ∧ Only (Blk hb rb) w w' := by
  have ci := (h.touch (t + 1)).ci i hi
  rw [ho] at ci
  clear ho
  have fi := (h.touch (t + 1)).fi i
  have fin := And.intro ((h.touch (t + 1)).store i v) (((Only.refl (Blk hb rb) w).setCell (p := ⟨hb, 1, none⟩) (Blk.l hb rb) (.int .i64 (t + 1))).setCell (p := ⟨rb, i, none⟩) (Blk.r hb rb) (.int .u64 v))
  have fin' := Lib.hid fin
  clear fin
  go_enter Try.func83, Try.ntmps83
  go_wp2_with (go_at_call 37; refine (access_yes h i hi t0 t1).mono ?_; rintro e w' ⟨rfl, rfl⟩)
  go_ret2
  exact ⟨rfl, fin'.out.1, fin'.out.2⟩

set_option maxHeartbeats 400000 in
theorem swap_not {w : World} {hb rb : Nat} {L : List Int} {t : Int} (h : MemAt w hb rb L t) (i : Nat) (o v : Int) (hi : i < L.length) (ho : (L.getD i 0 != o) = true) (t0 : 0 ≤ t) (t1 : t < 4611686018427387904) :
    Calls Try.prog 83 #[.pointer (some ⟨hb, 0, none⟩), .int .i64 i, .int .u64 o, .int .u64 v] w fun e w' =>
      e = .returned (.tuple #[.bool false, .int .i64 0]) ∧ MemAt w' hb rb L (t + 1) ∧ Only (Blk hb rb) w w' := by
  have ci := (h.touch (t + 1)).ci i hi
  generalize L.getD i 0 = x at ho ci
  have fin := And.intro (h.touch (t + 1)) ((Only.refl (Blk hb rb) w).setCell (p := ⟨hb, 1, none⟩) (Blk.l hb rb) (.int .i64 (t + 1)))
  have fin' := Lib.hid fin
  clear fin
  go_enter Try.func83, Try.ntmps83
  go_wp2_with (go_at_call 37; refine (access_yes h i hi t0 t1).mono ?_; rintro e w' ⟨rfl, rfl⟩)
  go_ret2
  exact ⟨rfl, fin'.out.1, fin'.out.2⟩

theorem swap_no {w : World} {hb rb : Nat} {L : List Int} {t : Int} (h : MemAt w hb rb L t) (i : Int) (o v : Int) (hi : i < 0 ∨ (L.length : Int) ≤ i) :
    Calls Try.prog 83 #[.pointer (some ⟨hb, 0, none⟩), .int .i64 i, .int .u64 o, .int .u64 v] w fun e w' => e = .returned (.tuple #[.bool false, .int .i64 1]) ∧ w = w' := by
  have hi' := Lib.hid hi
  clear hi
  go_enter Try.func83, Try.ntmps83
  go_wp2_with (go_at_call 37; refine (access_no h i hi'.out).mono ?_; rintro e w' ⟨rfl, rfl⟩)
  go_ret2
  exact ⟨rfl, rfl⟩

/-- The sum of two numbers of 64 bits, as Go has it. -/
def sum64 (a b : Int) : Int := IntKind.u64.wrap (a + b)


theorem len_any {w : World} {hb rb : Nat} {L : List Int} {t : Int} (h : MemAt w hb rb L t) :
    Calls Try.prog 10 #[.pointer (some ⟨hb, 0, none⟩)] w fun e w' => e = .returned (.int .i64 L.length) ∧ w = w' := by
  have c0 := h.c0
  clear h
  go_enter Try.func10, Try.ntmps10
  go_wp2
  go_ret
  exact ⟨rfl, rfl⟩

theorem Only.ofBelow {w w' : World} (h : Below w.heap.size w w') (S : Nat → Prop) : Only S w w' := ⟨h.os, h.tape, h.output, h.size, fun k hk _ => h.block k hk⟩

/-- Nothing that there was has turned. -/
def Nil (_ : Nat) : Prop := False

/-- How many cells a memory for n has. -/
def count (n : Int) : Nat := (min (max n 0) 65536).toNat
theorem count_eq (n : Int) : min (max n 0) 65536 = (count n : Int) := by unfold count; omega
theorem count_le (n : Int) : count n ≤ 65536 := by unfold count; omega

def zeros (n : Nat) : List Int := List.replicate n 0
theorem length_zeros (n : Nat) : (zeros n).length = n := by simp [zeros]
theorem getD_zeros (n i : Nat) : (zeros n).getD i 0 = 0 := by
  simp [zeros, List.getD_eq_getElem?_getD, List.getElem?_replicate]; split <;> rfl

theorem made_u64s (n : Nat) : madeCells #[.int .u64 0] n = u64s (zeros n) := by
  apply Array.ext
  · simp [u64s, size_madeCells, zeros]
  · intro i h1 h2
    have : i < n := by simpa [size_madeCells] using h1
    simp [madeCells, u64s, zeros, Nat.mod_one]

theorem Try.infoU64 : (Try.prog.info? 28).map (fun i => (i.zero, i.size, i.bytes)) = some (some (.int .u64 0), 1, 8) := by kernel_rfl

theorem heap_new (w : World) (o : Obj) : (w.alloc o).heap[w.heap.size]? = some o := by
  show (w.heap.push o)[w.heap.size]? = _
  simp

theorem new_fin (w : World) (k : Nat) :
    MemAt ((w.alloc (.cells (u64s (zeros k)) 28)).alloc (.cells #[.slice (some ⟨w.heap.size, 0, none⟩) k k, .int .i64 0] 74)) (w.heap.size + 1) w.heap.size (zeros k) 0
      ∧ Only Nil w ((w.alloc (.cells (u64s (zeros k)) 28)).alloc (.cells #[.slice (some ⟨w.heap.size, 0, none⟩) k k, .int .i64 0] 74)) := by
  refine ⟨⟨?_, ?_, by omega⟩, ((Only.refl _ _).alloc _).alloc _⟩
  · rw [length_zeros]
    have := heap_new (w.alloc (.cells (u64s (zeros k)) 28)) (.cells #[.slice (some ⟨w.heap.size, 0, none⟩) k k, .int .i64 0] 74)
    simpa using this
  · rw [Below.heap_alloc _ _ _ (by simp)]
    exact heap_new _ _

theorem new_any (n : Int) (w : World) :
    Calls Try.prog 9 #[.int .i64 n] w fun e w' =>
      e = .returned (.pointer (some ⟨w.heap.size + 1, 0, none⟩)) ∧ MemAt w' (w.heap.size + 1) w.heap.size (zeros (count n)) 0 ∧ Only Nil w w' := by
  have hk := count_eq n
  have hle := count_le n
  generalize hc : count n = k at hk hle ⊢
  clear hc
  have hmk := fun (w : World) => run_make_row' (P := Try.prog) 35 28 (.int .u64 0) 8 Try.underlying35 Try.infoU64 rfl .i64 .i64 k (by omega) (by omega) w
  simp only [made_u64s] at hmk
  have fin := Lib.hid (new_fin w k)
  go_enter Try.func9, Try.ntmps9
  go_wp2
  go_ret
  exact ⟨rfl, fin.out.1, fin.out.2⟩

theorem splice_all (Z : List Value) (L : List Int) (h : Z.length = L.length) : (splice Z 0 (L.map (Value.int .u64))).toArray = u64s L := by
  simp [splice, u64s, h]

theorem u64s_list (L : List Int) : ((u64s L).toList).toArray = u64s L := by simp

/-- All answers a row of its own. -/
theorem all_any {w : World} {hb rb : Nat} {L : List Int} {t : Int} (h : MemAt w hb rb L t) (hL : L.length ≤ 65536) :
    Calls Try.prog 16 #[.pointer (some ⟨hb, 0, none⟩)] w fun e w' =>
      e = .returned (.slice (some ⟨w.heap.size, 0, none⟩) L.length L.length) ∧ w'.heap[w.heap.size]? = some (.cells (u64s L) 28 (0, 0)) ∧ w.heap.size < w'.heap.size ∧ Only Nil w w' := by
  have c0 := h.c0
  have hmk := fun (w : World) => run_make_row' (P := Try.prog) 35 28 (.int .u64 0) 8 Try.underlying35 Try.infoU64 rfl .i64 .i64 L.length (by omega) (by omega) w
  simp only [made_u64s] at hmk
  have c0' : (w.alloc (.cells (u64s (zeros L.length)) 28)).cell? ⟨hb, 0, none⟩ = some (.slice (some ⟨rb, 0, none⟩) L.length L.length) := (h.alloc _).c0
  have hg := Lib.hid (heap_new w (.cells (u64s (zeros L.length)) 28))
  have hB := Lib.hid ((Below.refl w.heap.size w).alloc (Nat.le_refl _) (.cells (u64s (zeros L.length)) 28))
  have hsrc : Hid (∀ (j : Nat) (v : Value), (L.map (Value.int .u64))[j]? = some v → (w.alloc (.cells (u64s (zeros L.length)) 28)).cell? (Addr.add ⟨rb, 0, none⟩ j) = some v) := by
    intro j v hj
    have hlt : j < L.length := by
      have := (List.getElem?_eq_some_iff.1 hj).1
      simpa using this
    have := (h.alloc (.cells (u64s (zeros L.length)) 28)).ci j hlt
    have e : v = .int .u64 (L.getD j 0) := by
      rw [List.getElem?_map, List.getElem?_eq_getElem hlt] at hj
      simp at hj
      rw [← hj]; simp [hlt]
    rw [e]
    by_cases h0 : j = 0
    · subst h0; simpa [Addr.add] using this
    · simpa [Addr.add, h0] using this
  have hu := Try.underlying35
  go_enter Try.func16, Try.ntmps16
  go_wp2_with (refine wpList_copy_splice rfl (.tmp 10) (.tmp 14) 35 35 rfl 28 hu (by kernel_rfl) _ _ _ _ _ _ rfl rfl w.heap.size 0 (u64s (zeros L.length)).toList 28 ?hg (L.map (Value.int .u64)) ?hn (fun _ => ⟨rfl, _, rfl, hsrc.out⟩) ?hfit ?h1 w.heap.size w ?hb (Nat.le_refl _) ?_)
  case hg => rw [u64s_list]; exact hg.out
  case hn => simp
  case hfit => simp [u64s_size, length_zeros]
  case h1 => intro v hv; obtain ⟨x, _, rfl⟩ := List.mem_map.1 hv; rfl
  case hb => exact hB.out
  intro w2 hg2 hb2
  have hs := Lib.hid hb2.size
  go_wp2
  go_ret
  refine ⟨rfl, ?_, ?_, Only.ofBelow hb2 _⟩
  · have := hg2.out
    rw [splice_all _ _ (by simp [u64s_size, length_zeros])] at this
    exact this
  · exact lt_of_block hg2.out

end Go.Proofs.Ytmkcmncbiancgaa
