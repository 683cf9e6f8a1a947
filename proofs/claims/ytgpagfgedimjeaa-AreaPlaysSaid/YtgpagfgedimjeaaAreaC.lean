/- Regions (a row of its own), and the search for the first gap that fits. -/
import Derived.Test.YtgpagfgedimjeaaAreaB
import Derived.Lib.Walk
import Derived.Laws.ResultCell
namespace Go.Proofs.Ytgpagfgedimjeaa
open Go.RowKit

theorem Try.make_regs (k : Nat) (hk : k ≤ 65536) (w : World) : (Instr.makeSlice 44 (.int .i64 (k : Int)) (.int .i64 (k : Int))).run Try.prog w =
    .ok (.slice (some ⟨w.heap.size, 0, none⟩) k k) (w.alloc (.cells (madeCells (Value.agg #[.int .i64 0, .int .i64 0]).cells (k * 2)) 47)) := by
  obtain ⟨i, hi, hz, hs, hb⟩ := info_parts Try.infoReg
  have := run_make (P := Try.prog) w 44 47 i _ Try.underlying44 hi hz .i64 .i64 (k : Int) (k : Int) (by omega) (Int.le_refl _) (by rw [hb]; omega) (by omega)
  rw [hs] at this
  simpa using this

theorem splice_all (Z : List Value) (X : List Value) (h : Z.length = X.length) : splice Z 0 X = X := by
  simp [splice, h]

set_option maxHeartbeats 400000 in
/-- Regions answers a row of its own. -/
theorem regions_any {w : World} {hb : Nat} {a : Option Addr} {cap n : Nat} {L : List Reg} (h : AreaAt w hb a cap n L) :
    Calls Try.prog 21 #[.pointer (some ⟨hb, 0, none⟩)] w fun e w' =>
      e = .returned (.slice (some ⟨w.heap.size, 0, none⟩) L.length L.length) ∧ w'.heap[w.heap.size]? = some (.cells (regs L).toArray 47 (0, 0)) ∧ Only Nil w w' := by
  have c1 := h.c1
  have hmk := Try.make_regs L.length h.len
  obtain ⟨Z, hZ⟩ : ∃ Z : List Value, madeCells (Value.agg #[.int .i64 0, .int .i64 0]).cells (L.length * 2) = Z.toArray := ⟨_, (by simp : _ = (madeCells (Value.agg #[.int .i64 0, .int .i64 0]).cells (L.length * 2)).toList.toArray)⟩
  have hZl : Hid (Z.length = (regs L).length) := Lib.hid (by
    have : Z.toArray.size = L.length * 2 := by rw [← hZ]; exact size_madeCells _ _
    rw [regs_length]; simpa using this)
  rw [hZ] at hmk
  clear hZ
  have k1 : (w.alloc (.cells Z.toArray 47)).cell? ⟨hb, 1, none⟩ = some (.slice a L.length cap) := (h.alloc _).c1
  have hg := Lib.hid (heap_new w (.cells Z.toArray 47))
  have ho := Lib.hid ((Only.refl Nil w).alloc (.cells Z.toArray 47))
  have hA := Lib.hid (h.alloc (.cells Z.toArray 47))
  have lle := h.len
  have hrl := Lib.hid (regs_length L)
  obtain ⟨R, hR⟩ : ∃ R, R = regs L := ⟨_, rfl⟩
  have hR' := Lib.hid hR
  rw [← hR] at hZl hrl ⊢
  have hpos : Hid (∀ sp : Option Addr, sp = a → 0 < L.length → ∃ ad, sp = some ad ∧ ∀ j v, R[j]? = some v → (w.alloc (.cells Z.toArray 47)).cell? (ad.add j) = some v) := by
    rintro sp rfl h0
    rcases hA.out.row.2 with ⟨_, e⟩ | ⟨g, c, cur, hv, _, hg, _⟩
    · omega
    · simp only [Value.slice.injEq] at hv
      obtain ⟨rfl, _, rfl⟩ := hv
      rw [hR]
      exact ⟨_, rfl, fun j v hj => hA.out.row.cells rfl j v hj⟩
  clear hR h
  generalize hlen : L.length = len at c1 hmk k1 lle hpos hrl ⊢
  clear hlen
  have lle' : (len : Int) ≤ 65536 := by omega
  have hu := Try.underlying44
  go_enter Try.func21, Try.ntmps21
  go_wp2_with (refine wpList_copy2 rfl (.tmp 10) (.tmp 14) 44 44 rfl 47 hu Try.sizeReg _ _ _ _ _ _ rfl rfl w.heap.size 0 Z 47 ?hg len ?hm R ?hn (fun h0 => ⟨rfl, hpos.out _ rfl h0⟩) ?hfit ?h1 ?_)
  case hg => exact hg.out
  case hm => simp
  case hn => exact hrl.out
  case hfit => rw [hZl.out]; omega
  case h1 => rw [hR'.out]; exact regs_one L
  intro w2 hg2 ho2
  go_wp2
  go_ret
  refine ⟨rfl, ?_, ho.out.then (ho2.out) (fun i hi hlt => by omega)⟩
  rw [hg2.out, splice_all _ _ hZl.out]

/-- The search's own closure, where the gap fits. -/
theorem gap_yes (w : World) (b l base : Nat) (k : Int) (B K : Nat) (hB : w.heap[B]? = some (.cells #[.int .i64 (base : Int)] 3 (0, 0))) (hK : w.heap[K]? = some (.cells #[.int .i64 k] 3 (0, 0)))
    (h1 : b ≤ 65536) (h2 : base ≤ 65536) (hk : k ≤ (b : Int) - (base : Int)) :
    Calls Try.prog 33 #[.agg #[.int .i64 (b : Int), .int .i64 (l : Int)], .pointer (some ⟨B, 0, none⟩), .pointer (some ⟨K, 0, none⟩)] w fun e w' => e = .returned (.bool true) ∧ Only Nil w w' := by
  have cB : w.cell? ⟨B, 0, none⟩ = some (.int .i64 (base : Int)) := by simp [World.cell?, hB]
  have cK : w.cell? ⟨K, 0, none⟩ = some (.int .i64 k) := by simp [World.cell?, hK]
  have l1 := lt_of_block hB
  have l2 := lt_of_block hK
  have n1 : B ≠ w.heap.size := by have := lt_of_block hB; omega
  have n2 : K ≠ w.heap.size := by have := lt_of_block hK; omega
  have fin := Lib.hid ((Only.refl Nil w).alloc (.cells #[.int .i64 (b : Int), .int .i64 (l : Int)] 47))
  clear hB hK
  have h1' : (b : Int) ≤ 65536 := by omega
  have h2' : (base : Int) ≤ 65536 := by omega
  go_enter Try.func33, Try.ntmps33
  go_wp2
  go_ret
  exact ⟨rfl, fin.out⟩

/-- .. and where it doesn't: base goes on behind the region. -/
theorem gap_no (w : World) (b l base : Nat) (k : Int) (B K : Nat) (hB : w.heap[B]? = some (.cells #[.int .i64 (base : Int)] 3 (0, 0))) (hK : w.heap[K]? = some (.cells #[.int .i64 k] 3 (0, 0)))
    (h1 : b + l ≤ 65536) (h2 : base ≤ 65536) (hk : ¬ k ≤ (b : Int) - (base : Int)) :
    Calls Try.prog 33 #[.agg #[.int .i64 (b : Int), .int .i64 (l : Int)], .pointer (some ⟨B, 0, none⟩), .pointer (some ⟨K, 0, none⟩)] w fun e w' =>
      e = .returned (.bool false) ∧ w'.heap[B]? = some (.cells #[.int .i64 ((b + l : Nat) : Int)] 3 (0, 0)) ∧ Only (fun q => q = B) w w' := by
  have cB : w.cell? ⟨B, 0, none⟩ = some (.int .i64 (base : Int)) := by simp [World.cell?, hB]
  have cK : w.cell? ⟨K, 0, none⟩ = some (.int .i64 k) := by simp [World.cell?, hK]
  have fB : w.frozen? ⟨B, 0, none⟩ = false := by simp [World.frozen?, hB]
  have l1 := lt_of_block hB
  have l2 := lt_of_block hK
  have n1 : B ≠ w.heap.size := by have := lt_of_block hB; omega
  have n2 : K ≠ w.heap.size := by have := lt_of_block hK; omega
  have fin := Lib.hid (And.intro ((Below.heap_alloc (w.setCell ⟨B, 0, none⟩ (.int .i64 ((b : Int) + (l : Int)))) (.cells #[.int .i64 (b : Int), .int .i64 (l : Int)] 47) B (by simpa [World.setCell] using l1)).trans (heap_setCell_self (o := 0) (.int .i64 ((b : Int) + (l : Int))) hB))
    (((Only.refl (fun q => q = B) w).setCell (p := ⟨B, 0, none⟩) rfl (.int .i64 ((b : Int) + (l : Int)))).alloc (.cells #[.int .i64 (b : Int), .int .i64 (l : Int)] 47)))
  clear hB hK
  have h1' : (b : Int) + (l : Int) ≤ 65536 := by omega
  have h2' : (base : Int) ≤ 65536 := by omega
  have h3 : ((b + l : Nat) : Int) = (b : Int) + (l : Int) := by omega
  rw [h3]
  clear h3
  go_enter Try.func33, Try.ntmps33
  go_wp2
  go_ret
  exact ⟨rfl, fin.out.1, fin.out.2⟩
end Go.Proofs.Ytgpagfgedimjeaa
