/- Rows of a call's own: one cell an element. (Of no layer.) -/
import Derived.Test.YtmkcmncbiancgaaAccE
import Derived.Test.YtmkcmncbiancgaaRowA
import Derived.OwnWalk
namespace Go.Proofs.Ytmkcmncbiancgaa
open Go.RowKit

theorem RowK.keep {k : IntKind} {w w' : World} {a : Option Addr} {L : List Int} (h : RowK k w a L) (o : Only Nil w w') : RowK k w' a L := h.later (o.below (Nat.le_refl _) (fun _ h => h.elim))

/-- A row of n cells. -/
def rowC (n : Nat) (g : Nat → Value) : Array Value := ((List.range n).map g).toArray
theorem rowC_size (n : Nat) (g : Nat → Value) : (rowC n g).size = n := by simp [rowC]
theorem rowC_get (n : Nat) (g : Nat → Value) (i : Nat) (hi : i < n) : (rowC n g)[i]? = some (g i) := by simp [rowC, hi]
theorem rowC_set (n : Nat) (g : Nat → Value) (i : Nat) (x : Value) : (rowC n g).setIfInBounds i x = rowC n (upd g i x) := by
  apply Array.ext
  · simp [rowC]
  · intro j h1 h2
    have hj : j < n := by simpa [rowC] using h1
    by_cases e : i = j
    · subst e; simp [rowC, upd]
    · have e2 : ¬ j = i := fun h => e h.symm
      simp [rowC, upd, e, e2]
theorem rowC_congr {n : Nat} {g h : Nat → Value} (e : ∀ i, i < n → g i = h i) : rowC n g = rowC n h := by
  unfold rowC
  congr 1
  apply List.map_congr_left
  intro i hi
  exact e i (by simpa using hi)
theorem made_row (z : Value) (n : Nat) : madeCells #[z] n = rowC n (fun _ => z) := by
  apply Array.ext
  · simp [rowC, size_madeCells]
  · intro i h1 h2
    simp [madeCells, rowC, Nat.mod_one]
theorem row_cell {w : World} {b n : Nat} {g : Nat → Value} {t : TypeId} (h : w.heap[b]? = some (.cells (rowC n g) t (0, 0))) (i : Nat) (hi : i < n) : w.cell? ⟨b, i, none⟩ = some (g i) := by
  have := rowC_get n g i hi
  simp only [World.cell?, h]; simpa using this
theorem row_frozen {w : World} {b n : Nat} {g : Nat → Value} {t : TypeId} (h : w.heap[b]? = some (.cells (rowC n g) t (0, 0))) (i : Nat) : w.frozen? ⟨b, i, none⟩ = false := by
  simp only [World.frozen?, h]; simp
theorem row_set {w : World} {b n : Nat} {g : Nat → Value} {t : TypeId} (h : w.heap[b]? = some (.cells (rowC n g) t (0, 0))) (i : Nat) (x : Value) : (w.setCell ⟨b, i, none⟩ x).heap[b]? = some (.cells (rowC n (upd g i x)) t (0, 0)) := by
  rw [heap_setCell_self _ h, rowC_set]

/-- Blocks of unlike types are two. -/
theorem blk_ne {w : World} {a b : Nat} {x y : Array Value} {t u : TypeId} {m m' : Nat × Nat} (h : w.heap[a]? = some (.cells x t m)) (h' : w.heap[b]? = some (.cells y u m')) (ht : t ≠ u) : a ≠ b := by
  rintro rfl
  rw [h] at h'
  injection h' with h'
  injection h' with _ e
  exact ht e
theorem own_ne {w : World} {base : Nat} {e : TypeId} {s n g : Nat} {v : Value} {xs : List Value} {y : Array Value} {t : TypeId} {m : Nat × Nat} (h : w.ownsRow base e s v n xs) (hg : w.heap[g]? = some (.cells y t m)) (ht : e ≠ t) : ¬ (some g = v.ownBlock) := by
  rcases h.2 with ⟨rfl, _⟩ | ⟨g', cap, cur, rfl, _, hh, _⟩
  · simp [Value.ownBlock]
  · intro he
    have : g = g' := by simpa [Value.ownBlock] using he
    subst this
    exact blk_ne hh hg ht rfl
theorem own_keep {S : Nat → Prop} {w w' : World} {base : Nat} {e : TypeId} {s n : Nat} {v : Value} {xs : List Value} (h : w.ownsRow base e s v n xs) (o : Only S w w') (hS : ∀ k, some k = v.ownBlock → ¬ S k) : w'.ownsRow base e s v n xs := by
  refine ⟨h.1, h.2.imp id ?_⟩
  rintro ⟨g, c, cur, h1, h2, h3, h4⟩
  exact ⟨g, c, cur, h1, h2, (o.block g (lt_of_block h3) (hS g (by rw [h1]; rfl))).trans h3, h4⟩
theorem Only.ofGrown {w w' : World} {row : Option Nat} (h : w.grownBy w' row) : Only (fun k => some k = row) w w' := ⟨h.os, h.tape, h.output, h.size, h.block⟩
theorem own_slice_n {w : World} {b : Nat} {e : TypeId} {s : Nat} {v : Value} {n : Nat} {xs : List Value} (h : w.ownsRow b e s v n xs) : ∃ a c, v = .slice a n c := by
  rcases h.2 with ⟨rfl, rfl⟩ | ⟨g, c, _, h, _⟩
  · exact ⟨none, 0, rfl⟩
  · exact ⟨_, c, h⟩
theorem own_block {w : World} {base : Nat} {e : TypeId} {n : Nat} {v : Value} {g : Nat → Value} (h : w.ownsRow base e 1 v n ((List.range n).map g)) (hn : 0 < n) :
    ∃ b cap cur, v = .slice (some ⟨b, 0, none⟩) n cap ∧ base ≤ b ∧ w.heap[b]? = some (.cells cur e (0, 0)) ∧ ∀ j, j < n → w.cell? ⟨b, j, none⟩ = some (g j) := by
  rcases h.2 with ⟨_, h0⟩ | ⟨b, cap, cur, rfl, h2, h3, _, _, _, _⟩
  · omega
  · refine ⟨b, cap, cur, rfl, h2, h3, fun j hj => ?_⟩
    rw [h.cellAt j (by omega)]
    simp [hj]
theorem add_zero_block (b j : Nat) : (⟨b, 0, none⟩ : Addr).add j = ⟨b, j, none⟩ := by
  by_cases h : j = 0
  · subst h; simp [Addr.add]
  · simp [Addr.add, h]
theorem src_one {w : World} {b : Nat} {u : Value} {t : TypeId} (h : w.heap[b]? = some (.cells #[u] t (0, 0))) : ∀ j v, [u][j]? = some v → w.cell? ((⟨b, 0, none⟩ : Addr).add j) = some v := by
  intro j v hj
  rw [add_zero_block]
  match j, hj with
  | 0, hj => simp at hj; subst hj; simp [World.cell?, h]
  | j + 1, hj => simp at hj

theorem Try.infoInt : (Try.prog.info? 3).map (fun i => (i.zero, i.size, i.bytes)) = some (some (.int .i64 0), 1, 8) := by kernel_rfl
theorem Try.infoBool : (Try.prog.info? 4).map (fun i => (i.zero, i.size, i.bytes)) = some (some (.bool false), 1, 1) := by kernel_rfl
end Go.Proofs.Ytmkcmncbiancgaa
