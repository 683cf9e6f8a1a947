/- An area of a call's own; the statements' own check of the document's examples (alive). -/
import Derived.Test.YtgpagfgedimjeaaAreaK
namespace Go.Proofs.Ytgpagfgedimjeaa
open Go.RowKit

/-- An area whose blocks all lie from B on. -/
structure Mine (B : Nat) (w : World) (hb : Nat) (a : Option Addr) (cap n : Nat) (L : List Reg) : Prop where
  at_ : AreaAt w hb a cap n L
  hb_ : B ≤ hb
  a_ : ∀ x, a = some x → B ≤ x.block

section
variable {B : Nat} {w w' : World} {hb : Nat} {a a' : Option Addr} {cap cap' n : Nat} {L L' : List Reg}
theorem Mine.size (h : Mine B w hb a cap n L) : B ≤ w.heap.size := Nat.le_trans h.hb_ (Nat.le_of_lt h.at_.lt_hb)
theorem Mine.own (h : Mine B w hb a cap n L) : ∀ k, Own hb a k → B ≤ k := by
  intro k hk
  rcases hk with rfl | ⟨b, e, rfl⟩
  · exact h.hb_
  · exact h.a_ b e
theorem Mine.keep {S : Nat → Prop} (h : Mine B w hb a cap n L) (o : Only S w w') (hS : ∀ k, S k → ¬ Own hb a k) : Mine B w' hb a cap n L := ⟨h.at_.keep o hS, h.hb_, h.a_⟩
theorem Mine.drewN (h : Mine B w hb a cap n L) (q : Nat) : Mine B (w.drewN q) hb a cap n L := ⟨h.at_.drewN q, h.hb_, h.a_⟩
theorem Mine.next (h : Mine B w hb a cap n L) (h' : AreaAt w' hb a' cap' n L') (hn : SameOrNew w a a') : Mine B w' hb a' cap' n L' := by
  refine ⟨h', h.hb_, fun x e => ?_⟩
  rcases hn x e with ⟨y, e1, e2⟩ | hge
  · rw [e2]; exact h.a_ y e1
  · exact Nat.le_trans h.size hge
theorem Mine.under (h : Mine B w hb a cap n L) (o : Only (Own hb a) w w') : Below B w w' := o.below h.size h.own
theorem Mine.none (h : Mine B w hb a cap n L) (o : Only Nil w w') : Mine B w' hb a cap n L := h.keep o (fun _ h => h.elim)

theorem m_take (h : Mine B w hb a cap n L) (k : Nat) (hk : 1 ≤ k) (i : Nat) (hi : i ≤ L.length) (hf : Fits L n k i) (hno : ∀ j, j < i → ¬ Fits L n k j) :
    Calls Try.prog 13 #[.pointer (some ⟨hb, 0, none⟩), .int .i64 (k : Int)] w fun e w' =>
      ∃ a' cap', e = .returned (.tuple #[.int .i64 (endAt L i : Int), .int .i64 0]) ∧ Mine B w' hb a' cap' n (ins L i (endAt L i, k)) ∧ Below B w w' := by
  refine (take_yes h.at_ k hk i hi hf hno).mono ?_
  rintro e w' ⟨a', cap', rfl, h', o, s⟩
  exact ⟨a', cap', rfl, h.next h' s, h.under o⟩
theorem m_full (h : Mine B w hb a cap n L) (k : Int) (hk : 1 ≤ k) (hno : ∀ i, i ≤ L.length → ¬ Fits L n k i) :
    Calls Try.prog 13 #[.pointer (some ⟨hb, 0, none⟩), .int .i64 k] w fun e w' => e = .returned (.tuple #[.int .i64 0, .int .i64 4]) ∧ Mine B w' hb a cap n L ∧ Below B w w' := by
  refine (take_full h.at_ k hk hno).mono ?_
  rintro e w' ⟨rfl, o⟩
  exact ⟨rfl, h.none o, h.under (o.nilTo _)⟩
theorem m_give (h : Mine B w hb a cap n L) (i : Nat) (hi : i < L.length) :
    Calls Try.prog 11 #[.pointer (some ⟨hb, 0, none⟩), .int .i64 ((regAt L i).1 : Int)] w fun e w' =>
      e = .returned (.int .i64 0) ∧ Mine B w' hb a cap n (del L i) ∧ Below B w w' := by
  refine (give_yes h.at_ i hi).mono ?_
  rintro e w' ⟨rfl, h', o⟩
  exact ⟨rfl, ⟨h', h.hb_, h.a_⟩, h.under o⟩
theorem m_gone (h : Mine B w hb a cap n L) (x : Int) (hno : ∀ i, i < L.length → ((regAt L i).1 : Int) ≠ x) :
    Calls Try.prog 11 #[.pointer (some ⟨hb, 0, none⟩), .int .i64 x] w fun e w' => e = .returned (.int .i64 2) ∧ Mine B w' hb a cap n L ∧ Below B w w' := by
  refine (give_no h.at_ x hno).mono ?_
  rintro e w' ⟨rfl, o⟩
  exact ⟨rfl, h.none o, h.under (o.nilTo _)⟩
theorem m_free (h : Mine B w hb a cap n L) :
    Calls Try.prog 15 #[.pointer (some ⟨hb, 0, none⟩)] w fun e w' => e = .returned (.int .i64 ((n : Int) - (total L : Int))) ∧ Mine B w' hb a cap n L ∧ Below B w w' := by
  refine (free_any h.at_).mono ?_
  rintro e w' ⟨rfl, o⟩
  exact ⟨rfl, h.none o, h.under (o.nilTo _)⟩
end
theorem m_new (n : Int) (w : World) :
    Calls Try.prog 9 #[.int .i64 n] w fun e w' =>
      e = .returned (.pointer (some ⟨w.heap.size, 0, none⟩)) ∧ Mine w.heap.size w' w.heap.size none 0 (count n) [] ∧ Below w.heap.size w w' := by
  refine (new_any n w).mono ?_
  rintro e w' ⟨rfl, h, o⟩
  exact ⟨rfl, ⟨h, Nat.le_refl _, fun x e => by simp at e⟩, o.below (Nat.le_refl _) (fun _ h => h.elim)⟩

section
variable {B : Nat} {w : World} {hb : Nat} {a : Option Addr} {cap : Nat}
theorem al_new (w : World) : Calls Try.prog 9 #[.int .i64 10] w fun e w' =>
    e = .returned (.pointer (some ⟨w.heap.size, 0, none⟩)) ∧ Mine w.heap.size w' w.heap.size none 0 10 [] ∧ Below w.heap.size w w' := m_new 10 w
theorem al_free0 (h : Mine B w hb a cap 10 []) : Calls Try.prog 15 #[.pointer (some ⟨hb, 0, none⟩)] w fun e w' =>
    e = .returned (.int .i64 10) ∧ Mine B w' hb a cap 10 [] ∧ Below B w w' := m_free h
theorem al_take1 (h : Mine B w hb a cap 10 []) : Calls Try.prog 13 #[.pointer (some ⟨hb, 0, none⟩), .int .i64 3] w fun e w' =>
    ∃ a' cap', e = .returned (.tuple #[.int .i64 0, .int .i64 0]) ∧ Mine B w' hb a' cap' 10 [(0, 3)] ∧ Below B w w' := m_take h 3 (by decide) 0 (by decide) (by unfold Fits; decide) (fun j hj => by omega)
theorem al_take2 (h : Mine B w hb a cap 10 [(0, 3)]) : Calls Try.prog 13 #[.pointer (some ⟨hb, 0, none⟩), .int .i64 4] w fun e w' =>
    ∃ a' cap', e = .returned (.tuple #[.int .i64 3, .int .i64 0]) ∧ Mine B w' hb a' cap' 10 [(0, 3), (3, 4)] ∧ Below B w w' := m_take h 4 (by decide) 1 (by decide) (by unfold Fits; decide) (fun j hj => by
      obtain rfl : j = 0 := by omega
      unfold Fits; decide)
theorem al_take3 (h : Mine B w hb a cap 10 [(0, 3), (3, 4)]) : Calls Try.prog 13 #[.pointer (some ⟨hb, 0, none⟩), .int .i64 4] w fun e w' =>
    e = .returned (.tuple #[.int .i64 0, .int .i64 4]) ∧ Mine B w' hb a cap 10 [(0, 3), (3, 4)] ∧ Below B w w' := m_full h 4 (by decide) (fun j hj => by
      have : j = 0 ∨ j = 1 ∨ j = 2 := by simp at hj; omega
      rcases this with rfl | rfl | rfl <;> (unfold Fits; decide))
theorem al_take4 (h : Mine B w hb a cap 10 [(0, 3), (3, 4)]) : Calls Try.prog 13 #[.pointer (some ⟨hb, 0, none⟩), .int .i64 3] w fun e w' =>
    ∃ a' cap', e = .returned (.tuple #[.int .i64 7, .int .i64 0]) ∧ Mine B w' hb a' cap' 10 [(0, 3), (3, 4), (7, 3)] ∧ Below B w w' := m_take h 3 (by decide) 2 (by decide) (by unfold Fits; decide) (fun j hj => by
      have : j = 0 ∨ j = 1 := by omega
      rcases this with rfl | rfl <;> (unfold Fits; decide))
theorem al_give (h : Mine B w hb a cap 10 [(0, 3), (3, 4), (7, 3)]) : Calls Try.prog 11 #[.pointer (some ⟨hb, 0, none⟩), .int .i64 3] w fun e w' =>
    e = .returned (.int .i64 0) ∧ Mine B w' hb a cap 10 [(0, 3), (7, 3)] ∧ Below B w w' := m_give h 1 (by decide)
theorem al_take5 (h : Mine B w hb a cap 10 [(0, 3), (7, 3)]) : Calls Try.prog 13 #[.pointer (some ⟨hb, 0, none⟩), .int .i64 2] w fun e w' =>
    ∃ a' cap', e = .returned (.tuple #[.int .i64 3, .int .i64 0]) ∧ Mine B w' hb a' cap' 10 [(0, 3), (3, 2), (7, 3)] ∧ Below B w w' := m_take h 2 (by decide) 1 (by decide) (by unfold Fits; decide) (fun j hj => by
      obtain rfl : j = 0 := by omega
      unfold Fits; decide)
theorem al_gone (h : Mine B w hb a cap 10 [(0, 3), (3, 2), (7, 3)]) : Calls Try.prog 11 #[.pointer (some ⟨hb, 0, none⟩), .int .i64 4] w fun e w' =>
    e = .returned (.int .i64 2) ∧ Mine B w' hb a cap 10 [(0, 3), (3, 2), (7, 3)] ∧ Below B w w' := m_gone h 4 (fun j hj => by
      have : j = 0 ∨ j = 1 ∨ j = 2 := by simp at hj; omega
      rcases this with rfl | rfl | rfl <;> decide)
theorem al_free (h : Mine B w hb a cap 10 [(0, 3), (3, 2), (7, 3)]) : Calls Try.prog 15 #[.pointer (some ⟨hb, 0, none⟩)] w fun e w' =>
    e = .returned (.int .i64 2) ∧ Mine B w' hb a cap 10 [(0, 3), (3, 2), (7, 3)] ∧ Below B w w' := m_free h
end

set_option maxHeartbeats 1000000 in
theorem alive_any (w : World) : Calls Try.prog 8 #[] w fun e w' => e = .returned (.bool true) ∧ Below w.heap.size w w' := by
  go_enter Try.func8, Try.ntmps8
  go_wp2_with (first
    | (go_at_call 9; (with_reducible refine (al_new _).mono ?_); rintro e w1 ⟨rfl, h1, b1⟩)
    | (go_at_call 15; (with_reducible refine (al_free0 (by assumption)).mono ?_); rintro e w2 ⟨rfl, h2, b2⟩; clear h1)
    | (go_at_call 13; (with_reducible refine (al_take1 (by assumption)).mono ?_); rintro e w3 ⟨a3, c3, rfl, h3, b3⟩; clear h2)
    | (go_at_call 13; (with_reducible refine (al_take2 (by assumption)).mono ?_); rintro e w4 ⟨a4, c4, rfl, h4, b4⟩; clear h3)
    | (go_at_call 13; (with_reducible refine (al_take3 (by assumption)).mono ?_); rintro e w5 ⟨rfl, h5, b5⟩; clear h4)
    | (go_at_call 13; (with_reducible refine (al_take4 (by assumption)).mono ?_); rintro e w6 ⟨a6, c6, rfl, h6, b6⟩; clear h5)
    | (go_at_call 11; (with_reducible refine (al_give (by assumption)).mono ?_); rintro e w7 ⟨rfl, h7, b7⟩; clear h6)
    | (go_at_call 13; (with_reducible refine (al_take5 (by assumption)).mono ?_); rintro e w8 ⟨a8, c8, rfl, h8, b8⟩; clear h7)
    | (go_at_call 11; (with_reducible refine (al_gone (by assumption)).mono ?_); rintro e w9 ⟨rfl, h9, b9⟩; clear h8)
    | (go_at_call 15; (with_reducible refine (al_free (by assumption)).mono ?_); rintro e w10 ⟨rfl, h10, b10⟩))
  go_ret
  exact ⟨rfl, ((((((((b1.trans b2).trans b3).trans b4).trans b5).trans b6).trans b7).trans b8).trans b9).trans b10⟩
end Go.Proofs.Ytgpagfgedimjeaa
