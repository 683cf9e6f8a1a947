/- room, where no gap ahead of a region fits. -/
import Derived.Test.YtgpagfgedimjeaaAreaD
namespace Go.Proofs.Ytgpagfgedimjeaa
open Go.RowKit

set_option maxHeartbeats 1000000 in
/-- room, where no gap ahead of a region fits: the last one is asked. -/
theorem room_end {w : World} {hb : Nat} {a : Option Addr} {cap n : Nat} {L : List Reg} (h : AreaAt w hb a cap n L) (k : Int) (hno : ∀ j, j < L.length → ¬ Fits L n k j) :
    Calls Try.prog 28 #[.pointer (some ⟨hb, 0, none⟩), .int .i64 k] w fun e w' =>
      e = .returned (.tuple #[.int .i64 (endAt L L.length : Int), .int .i64 (L.length : Int), .bool (decide (k ≤ (n : Int) - (endAt L L.length : Int)))]) ∧ Only Nil w w' := by
  obtain ⟨hA, hB, hK, hO⟩ := room_start h k
  have cc := Lib.hid (idx_no (cap := cap) hA.regs hA.ok hA.nle (w.heap.size + 1) w.heap.size k hB hK (fun b e => by have := h.lt_a b e; omega) (by omega) hno)
  have c1 := hA.c1
  have hA' := Lib.hid hA
  have hO' := Lib.hid hO
  have hK' := Lib.hid hK
  have lth := h.lt_hb
  have lta := Lib.hid h.lt_a
  have nle := h.nle
  have ele := h.ok.fin
  have lle := h.len
  clear hA hB hK hO h hno
  generalize hE : endAt L L.length = E at cc ele ⊢
  clear hE
  have nle' : (n : Int) ≤ 65536 := by omega
  have ele' : (E : Int) ≤ 65536 := by omega
  go_enter Try.func28, Try.ntmps28
  go_wp2_with (go_at_call 32; (with_reducible refine (cc.out).mono ?_); rintro e w' ⟨rfl, hB, o'⟩)
  have cB : w'.cell? ⟨w.heap.size + 1, 0, none⟩ = some (.int .i64 (E : Int)) := by simp [World.cell?, hB]
  have fB : w'.frozen? ⟨w.heap.size + 1, 0, none⟩ = false := by simp [World.frozen?, hB]
  have kA := hA'.out.keep o' (fun q hq ho => by
    rcases ho with e | ⟨b, e, e2⟩
    · omega
    · have := lta.out b e; omega)
  have k0 := kA.c0
  have k1 := kA.c1
  have hKw := (o'.block w.heap.size (lt_of_block hK'.out) (by omega)).trans hK'.out
  have cK : w'.cell? ⟨w.heap.size, 0, none⟩ = some (.int .i64 k) := by simp [World.cell?, hKw]
  have hB' := Lib.hid hB
  have o2 := Lib.hid (hO'.out.then o' (fun q hq hl => by omega))
  clear c1 hB kA hKw o'
  have n1 : hb ≠ w.heap.size + 1 := by omega
  have n3 : w.heap.size ≤ w.heap.size := Nat.le_refl _
  generalize hK2 : w.heap.size = K at *
  go_region
  go_wp2
  refine bodyPost_ret (results_c3 rfl _ _ (K + 1) (.int .i64 (E : Int)) Try.isAgg3 rfl ?_) rfl ?_
  · exact cell_of_heap (heap_setCell_self (o := 0) _ hB'.out)
  · exact ⟨rfl, (o2.out.then ((Only.refl (fun q => q = K + 1) w').setCell (p := ⟨K + 1, 0, none⟩) rfl _) (fun q hq hl => by omega)).drew⟩
end Go.Proofs.Ytgpagfgedimjeaa
