/- A box of a law's own; Peek. -/
import Derived.Test.YtmkcmncbiancgaaPoO
namespace Go.Proofs.Ytmkcmncbiancgaa.Po
open Go.RowKit Go.Proofs.Ytmkcmncbiancgaa

theorem peek_any {w : World} {hb rb : Nat} {L : List Int} {t : Int} (h : MemAt w hb rb L t) (i : Nat) (hi : i < L.length) :
    Calls Try.prog 22 #[ptr hb, .int .i64 (i : Int)] w fun e w' => e = .returned (.int .u64 (L.getD i 0)) ∧ w = w' := by
  have c0 := h.c0
  have ci := h.ci i hi
  have h0 : (0 : Int) ≤ (i : Int) := by omega
  have h1 : (i : Int) < (L.length : Int) := by omega
  generalize L.getD i 0 = x at ci ⊢
  go_enter Try.func22, Try.ntmps22
  go_wp2_with (go_at_call 47; refine (has_yes h i hi).mono ?_; rintro e w' ⟨rfl, rfl⟩)
  go_ret
  exact ⟨rfl, rfl⟩
/-- A law's box over a memory of its own. -/
def mdA (w : World) (bx mg ng c d : Nat) : BA := ⟨bx, mg, ng, w.heap.size + 1, w.heap.size, 0, c, d⟩
theorem made_any (w : World) (c d : Nat) (hc : 0 < c) (hc2 : c ≤ 8) (hd : 0 < d) (hd2 : d ≤ 8) :
    Calls Try.prog 18 #[.int .i64 (c : Int), .int .i64 (d : Int)] w fun e w2 => ∃ bx mg ng,
      e = .returned (.tuple #[ptr bx, ptr (w.heap.size + 1)]) ∧ Hid (Lw w w2 (mdA w bx mg ng c d) (playL (zeros (6 + 2 * c + 2 * d)) 0 c d) 1000) := by
  have nw := Lib.hid (_root_.Go.Proofs.Ytmkcmncbiancgaa.new_any (6 + 2 * (c : Int) + 2 * (d : Int)) w)
  have ec : count (6 + 2 * (c : Int) + 2 * (d : Int)) = 6 + 2 * c + 2 * d := by rw [show 6 + 2 * (c : Int) + 2 * (d : Int) = ((6 + 2 * c + 2 * d : Nat) : Int) by omega]; unfold count; omega
  rw [ec] at nw
  have sz := Lib.hid (psize_yes w c d hc (by omega) hd (by omega))
  have mk := Lib.hid (fun w1 m o => make_fresh (w0 := w) (w1 := w1) (c := c) (d := d) (m := 6 + 2 * c + 2 * d) hc (by omega) hd (by omega) (Nat.le_refl _) (by omega) m o)
  clear hc hc2 hd hd2 ec
  go_enter Try.func18, Try.ntmps18
  go_wp2_with (first
    | (go_at_call 13; refine (sz.out).mono ?_; rintro e w0 ⟨rfl, rfl⟩)
    | (go_at_call 9; refine (nw.out).mono ?_; rintro e w1 ⟨rfl, m1, o1⟩)
    | (go_at_call 12; refine (mk.out _ m1 o1).mono ?_; rintro e w2 ⟨bx, mg, ng, rfl, h0⟩))
  go_ret2
  exact ⟨bx, mg, ng, rfl, h0⟩
/-- Peek at a law's box. -/
theorem Lw.peek {w0 w : World} {A : BA} {L : List Int} {N : Int} (h : Lw w0 w A L N) (x : Int) (hx : L.getD 0 0 = x) : Calls Try.prog 22 #[ptr A.hb, .int .i64 0] w fun e w' => e = .returned (.int .u64 x) ∧ w = w' := by
  obtain ⟨t, b, _⟩ := h.bx
  subst hx
  exact peek_any b.mem 0 (by have := b.b0; omega)
end Go.Proofs.Ytmkcmncbiancgaa.Po
