/- The document's own memory of cells (package trouperef01), as a ring's own answer uses it, each of its calls by a contract. -/
import Derived.Test.YtmkcmncbiancgaaMemA
namespace Go.Proofs.Ytmkcmncbiancgaa
open Go.RowKit

theorem Only.fresh {S : Nat → Prop} {w w' : World} (h : Only S w w') (hS : ∀ k, S k → w.heap.size ≤ k) : Only Nil w w' :=
  ⟨h.os, h.tape, h.output, h.size, fun k hk _ => h.block k hk (fun s => by have := hS k s; omega)⟩
theorem Only.nilTo {w w' : World} (h : Only Nil w w') (S : Nat → Prop) : Only S w w' := h.mono (fun _ hk => hk.elim)

/-- A callee that turns nothing, met in a region that draws. -/
theorem quiet_same {P : Program} {f : FuncId} {args : Array Value} {w : World} {n : Nat} {v : Value}
    (h : Calls P f args (w.drewN n) fun e w' => e = .returned v ∧ w.drewN n = w') : Calls P f args (w.drewN n) fun e w'' => e = .returned v ∧ ∃ m, w'' = w.drewN m :=
  h.mono fun _ _ ⟨he, hm⟩ => ⟨he, n, hm.symm⟩

/-- A step of this call's own memory leaves what there was. -/
theorem Only.under {hb rb B : Nat} {w w' : World} (o : Only (Blk hb rb) w w') (hB : B ≤ w.heap.size) (h1 : B ≤ hb) (h2 : B ≤ rb) : Below B w w' :=
  o.below hB (fun _ hk => by rcases hk with rfl | rfl <;> assumption)

theorem cell_u64s {w : World} {b : Nat} {M : List Int} (h : w.heap[b]? = some (.cells (u64s M) 28 (0, 0))) (i : Nat) (hi : i < M.length) : w.cell? ⟨b, i, none⟩ = some (.int .u64 (M.getD i 0)) := by
  have := u64s_get M i hi
  simp only [World.cell?, h]; simpa using this

/-- World w holds, at block hb, the document's memory: its numbers L in block rb; t accesses were counted. -/
structure RefAt (w : World) (hb rb : Nat) (L : List Int) (t : Int) : Prop where
  head : w.heap[hb]? = some (.cells #[.slice (some ⟨rb, 0, none⟩) L.length L.length, .int .i64 t] 37 (0, 0))
  row : w.heap[rb]? = some (.cells (u64s L) 28 (0, 0))
  ne : hb ≠ rb

section
variable {w w' : World} {hb rb : Nat} {L : List Int} {t : Int}
theorem RefAt.lt_hb (h : RefAt w hb rb L t) : hb < w.heap.size := lt_of_block h.head
theorem RefAt.lt_rb (h : RefAt w hb rb L t) : rb < w.heap.size := lt_of_block h.row
theorem RefAt.keep {S : Nat → Prop} (h : RefAt w hb rb L t) (o : Only S w w') (h1 : ¬ S hb) (h2 : ¬ S rb) : RefAt w' hb rb L t :=
  ⟨(o.block hb h.lt_hb h1).trans h.head, (o.block rb h.lt_rb h2).trans h.row, h.ne⟩
theorem RefAt.drewN (h : RefAt w hb rb L t) (n : Nat) : RefAt (w.drewN n) hb rb L t := ⟨h.head, h.row, h.ne⟩
theorem RefAt.drew (h : RefAt w hb rb L t) : RefAt w.drew hb rb L t := ⟨h.head, h.row, h.ne⟩
theorem RefAt.touch (h : RefAt w hb rb L t) (t' : Int) : RefAt (w.setCell ⟨hb, 1, none⟩ (.int .i64 t')) hb rb L t' :=
  ⟨by rw [heap_setCell_self _ h.head]; rfl, by rw [Below.heap_setCell _ _ _ _ (fun e => h.ne e.symm)]; exact h.row, h.ne⟩
theorem RefAt.store (h : RefAt w hb rb L t) (i : Nat) (v : Int) : RefAt (w.setCell ⟨rb, i, none⟩ (.int .u64 v)) hb rb (L.set i v) t :=
  ⟨by rw [Below.heap_setCell _ _ _ _ h.ne, List.length_set]; exact h.head, by rw [heap_setCell_self _ h.row, u64s_set], h.ne⟩
theorem RefAt.c0 (h : RefAt w hb rb L t) : w.cell? ⟨hb, 0, none⟩ = some (.slice (some ⟨rb, 0, none⟩) L.length L.length) := by simp [World.cell?, h.head]
theorem RefAt.c1 (h : RefAt w hb rb L t) : w.cell? ⟨hb, 1, none⟩ = some (.int .i64 t) := by simp [World.cell?, h.head]
theorem RefAt.f1 (h : RefAt w hb rb L t) : w.frozen? ⟨hb, 1, none⟩ = false := by simp [World.frozen?, h.head]
theorem RefAt.ci (h : RefAt w hb rb L t) (i : Nat) (hi : i < L.length) : w.cell? ⟨rb, i, none⟩ = some (.int .u64 (L.getD i 0)) := by
  have := u64s_get L i hi
  simp only [World.cell?, h.row]; simpa using this
theorem RefAt.fi (h : RefAt w hb rb L t) (i : Nat) : w.frozen? ⟨rb, i, none⟩ = false := by
  simp only [World.frozen?, h.row]; simp
theorem heap_setCell_far {w : World} {b : Nat} {x : Option Obj} (h : w.heap[b]? = x) (p : Addr) (hp : b ≠ p.block) (u : Value) : (w.setCell p u).heap[b]? = x := (Below.heap_setCell _ _ _ _ hp).trans h





end

theorem rnew_fin (w : World) (k : Nat) :
    RefAt ((w.alloc (.cells (u64s (zeros k)) 28)).alloc (.cells #[.slice (some ⟨w.heap.size, 0, none⟩) k k, .int .i64 0] 37)) (w.heap.size + 1) w.heap.size (zeros k) 0
      ∧ Only Nil w ((w.alloc (.cells (u64s (zeros k)) 28)).alloc (.cells #[.slice (some ⟨w.heap.size, 0, none⟩) k k, .int .i64 0] 37)) := by
  refine ⟨⟨?_, ?_, by omega⟩, ((Only.refl _ _).alloc _).alloc _⟩
  · rw [length_zeros]
    have := heap_new (w.alloc (.cells (u64s (zeros k)) 28)) (.cells #[.slice (some ⟨w.heap.size, 0, none⟩) k k, .int .i64 0] 37)
    simpa using this
  · rw [Below.heap_alloc _ _ _ (by simp)]
    exact heap_new _ _

theorem rcount_any (n : Int) (w : World) : Calls Try.prog 42 #[.int .i64 n] w fun e w' => e = .returned (.int .i64 (count n)) ∧ w = w' := by
  by_cases h1 : n < 0
  · have e : (count n : Int) = 0 := by unfold count; omega
    rw [e]
    go_enter Try.func42, Try.ntmps42
    go_wp2
    go_ret
    exact ⟨rfl, rfl⟩
  by_cases h2 : 65536 < n
  · have e : (count n : Int) = 65536 := by unfold count; omega
    rw [e]
    go_enter Try.func42, Try.ntmps42
    go_wp2
    go_ret
    exact ⟨rfl, rfl⟩
  · have e : (count n : Int) = n := by unfold count; omega
    rw [e]
    clear e
    go_enter Try.func42, Try.ntmps42
    go_wp2
    go_ret
    exact ⟨rfl, rfl⟩

theorem rnew_any (n : Int) (w : World) :
    Calls Try.prog 14 #[.int .i64 n] w fun e w' =>
      e = .returned (.pointer (some ⟨w.heap.size + 1, 0, none⟩)) ∧ RefAt w' (w.heap.size + 1) w.heap.size (zeros (count n)) 0 ∧ Only Nil w w' := by
  have cn := fun w => rcount_any n w
  have hle := count_le n
  generalize hc : count n = k at cn hle ⊢
  clear hc
  have cn' := Lib.hid cn
  clear cn
  have hmk := fun (w : World) => run_make_row' (P := Try.prog) 35 28 (.int .u64 0) 8 Try.underlying35 Try.infoU64 rfl .i64 .i64 k (by omega) (by omega) w
  simp only [made_u64s] at hmk
  have fin := Lib.hid (rnew_fin w k)
  go_enter Try.func14, Try.ntmps14
  go_wp2_with (go_at_call 42; (with_reducible refine (cn'.out _).mono ?_); rintro e w' ⟨rfl, rfl⟩)
  go_ret
  exact ⟨rfl, fin.out.1, fin.out.2⟩

/-- Same, of two rows that hold the same numbers. -/
theorem same_yes (w : World) (b c : Nat) (L : List Int) (hb : w.heap[b]? = some (.cells (u64s L) 28 (0, 0))) (hc : w.heap[c]? = some (.cells (u64s L) 28 (0, 0))) (hL : L.length ≤ 65536) :
    Calls Try.prog 15 #[.slice (some ⟨b, 0, none⟩) L.length L.length, .slice (some ⟨c, 0, none⟩) L.length L.length] w fun e w' => e = .returned (.bool true) ∧ Only Nil w w' := by
  have cb := Lib.hid (cell_u64s hb)
  have cc := Lib.hid (cell_u64s hc)
  clear hb hc
  generalize hlen : L.length = len at hL cb cc ⊢
  clear hlen
  have hl2 : (len : Int) ≤ 65536 := by omega
  go_enter Try.func15, Try.ntmps15
  go_wp2
  go_loopw [5] (fun i wr => ∃ (k n : Nat), k ≤ len ∧ i = .int .i64 k ∧ wr = w.drewN n)
    (fun i _ => len - (intOf i).toNat)
  case atStart => exact ⟨0, 0, Nat.zero_le _, rfl, rfl⟩
  case round =>
    obtain ⟨k, n, hk, rfl, rfl⟩ := hrel
    by_cases hlt : k < len
    · have h1 : w.cell? ⟨b, k, none⟩ = some (.int .u64 (L.getD k 0)) := cb.out k hlt
      have h2 : w.cell? ⟨c, k, none⟩ = some (.int .u64 (L.getD k 0)) := cc.out k hlt
      generalize L.getD k 0 = x at h1 h2
      go_wp2
      go_quiet (fail)
      go_wp2
      go_roundw
      case rel => exact ⟨k + 1, _, by omega, by go_num, rfl⟩
      case measure => simp [intOf]; omega
    · go_wp2
      go_ret
      exact ⟨rfl, (Only.refl _ _).drewN _⟩
end Go.Proofs.Ytmkcmncbiancgaa
