/- parse, the document's reader in memory; word, must, one. -/
import Derived.Test.YtnkokonkbklelaaGreatDoorPpA
import Derived.Test.YtnkokonkbklelaaGreatDoorPsM4
set_option linter.unusedSimpArgs false
set_option linter.unusedVariables false
namespace Go.Proofs.YtnkokonkbklelaaGreatDoor.Ps
open Go.RowKit Go.Proofs.YtnkokonkbklelaaGreatDoor Lx

/-- A number's token begins with a digit. -/
def Dg (X : Tks) : Prop := ∀ x ∈ X, x.1.k = 2 → ∃ c r, x.1.w = c :: r ∧ isDi c = true
/-- The document's reader at R, over the tokens X: it stands at st. -/
def Tx (w : World) (R : Nat) (X : Tks) (st : DSt) : Prop :=
  ∃ a n c, w.heap[R]? = some (.cells #[.slice a n c, .int .i64 ((X.length - st.2.length : Nat) : Int), .bool st.1] 63 (0, 0)) ∧ X.length = n ∧ n ≤ 20000 ∧ st.2 <:+ X ∧ TIn w R a X ∧ Dg X
section
variable {w w' : World} {R O : Nat} {X : Tks} {st : DSt}
theorem Tx.lt (h : Tx w R X st) : R < w.heap.size := by obtain ⟨a, n, c, h1, _⟩ := h; exact lt_of_block h1
theorem Tx.suf (h : Tx w R X st) : st.2 <:+ X := by obtain ⟨a, n, c, _, _, _, h4, _⟩ := h; exact h4
theorem Tx.dg (h : Tx w R X st) : Dg X := by obtain ⟨a, n, c, _, _, _, _, _, h6⟩ := h; exact h6
theorem Tx.few (h : Tx w R X st) : X.length ≤ 20000 := by obtain ⟨a, n, c, _, h2, h3, _⟩ := h; omega
theorem Tx.keep (h : Tx w R X st) (o : Only Nil w w') : Tx w' R X st := by
  obtain ⟨a, n, c, h1, h2, h3, h4, h5, h6⟩ := h
  exact ⟨a, n, c, (o.block R (lt_of_block h1) (fun q => q.elim)).trans h1, h2, h3, h4, h5.keep o (fun b _ _ q => q.elim), h6⟩
theorem Tx.keepO (h : Tx w R X st) (o : Only (At O) w w') (hO : R < O) : Tx w' R X st := by
  obtain ⟨a, n, c, h1, h2, h3, h4, h5, h6⟩ := h
  exact ⟨a, n, c, (o.block R (lt_of_block h1) (fun q => by unfold At at q; omega)).trans h1, h2, h3, h4, h5.keep o (fun b hb _ q => by unfold At at q; omega), h6⟩
theorem cells_set {w : World} {b o : Nat} {vs : Array Value} {t : TypeId} (h : w.heap[b]? = some (.cells vs t (0, 0))) (u : Value) : (w.setCell ⟨b, o, none⟩ u).heap[b]? = some (.cells (vs.setIfInBounds o u) t (0, 0)) := heap_setCell_self u h
theorem at_only (w : World) (R o : Nat) (u : Value) : Only (At R) w (w.setCell ⟨R, o, none⟩ u) := (Only.refl (At R) w).setCell (p := ⟨R, o, none⟩) rfl u
theorem Tx.set1 (h : Tx w R X st) {T : Tks} (hT : T <:+ X) : Tx (w.setCell ⟨R, 1, none⟩ (.int .i64 ((X.length - T.length : Nat) : Int))) R X (st.1, T) := by
  obtain ⟨a, n, c, h1, h2, h3, h4, h5, h6⟩ := h
  exact ⟨a, n, c, cells_set h1 _, h2, h3, hT, h5.keep (at_only w R 1 _) (fun b hb _ q => by unfold At at q; omega), h6⟩
theorem Tx.set2 (h : Tx w R X st) (b : Bool) : Tx (w.setCell ⟨R, 2, none⟩ (.bool b)) R X (b, st.2) := by
  obtain ⟨a, n, c, h1, h2, h3, h4, h5, h6⟩ := h
  exact ⟨a, n, c, cells_set h1 _, h2, h3, h4, h5.keep (at_only w R 2 _) (fun b hb _ q => by unfold At at q; omega), h6⟩
theorem Tx.f (h : Tx w R X st) (k : Nat) : w.frozen? ⟨R, k, none⟩ = false := by obtain ⟨a, n, c, h1, _⟩ := h; exact frozen_blk h1 k
theorem Tx.c1 (h : Tx w R X st) : w.cell? ⟨R, 1, none⟩ = some (.int .i64 ((X.length - st.2.length : Nat) : Int)) := by obtain ⟨a, n, c, h1, _⟩ := h; simp [World.cell?, h1]
theorem Tx.c2 (h : Tx w R X st) : w.cell? ⟨R, 2, none⟩ = some (.bool st.1) := by obtain ⟨a, n, c, h1, _⟩ := h; simp [World.cell?, h1]
theorem Tx.c0 (h : Tx w R X st) : ∃ a c, w.cell? ⟨R, 0, none⟩ = some (.slice a X.length c) ∧ TIn w R a X := by
  obtain ⟨a, n, c, h1, h2, _, _, h5, _⟩ := h
  refine ⟨a, c, ?_, h5⟩
  rw [h2]; simp [World.cell?, h1]
/-- The token that comes next, in memory. -/
theorem Tx.head {b : Bool} {x : Tok × Nat} {r : Tks} (h : Tx w R X (b, x :: r)) : ∃ g off n c q, w.cell? ⟨R, 0, none⟩ = some (.slice (some ⟨g, off, none⟩) n c) ∧ w.cell? ⟨R, 1, none⟩ = some (.int .i64 (q : Nat)) ∧ q < n ∧ n ≤ 20000 ∧ g ≠ R ∧ g < R ∧ q = X.length - (r.length + 1) ∧ X.length - r.length = q + 1 ∧
    w.cell? ⟨g, off + q * 4, none⟩ = some (.int .i64 (x.1.k : Nat)) ∧ w.cell? ⟨g, off + (q * 4 + 1), none⟩ = some (.string (bs x.1.w)) ∧ w.cell? ⟨g, off + (q * 4 + 2), none⟩ = some (.int .i64 (x.1.n : Nat)) ∧ w.cell? ⟨g, off + (q * 4 + 3), none⟩ = some (.int .i64 (x.2 : Nat)) := by
  have h1 := h.c1
  have few := h.few
  obtain ⟨a, c, h0, ht⟩ := h.c0
  obtain ⟨pre, hp⟩ := h.suf
  simp only at hp h1
  have hl : X.length = pre.length + (r.length + 1) := by rw [← hp]; simp
  obtain ⟨g, off, rfl, hg, hgR, hc⟩ := ht pre.length (by omega)
  obtain ⟨d0, d1, d2, d3⟩ := hc pre.length (by omega)
  have e : X.getD pre.length default = x := by rw [← hp]; simp
  rw [e] at d0 d1 d2 d3
  have e1 : X.length - (x :: r).length = pre.length := by simp; omega
  rw [e1] at h1
  exact ⟨g, off, X.length, c, pre.length, h0, h1, by omega, few, by omega, hgR, by omega, by omega, d0, d1, d2, d3⟩
theorem Tx.none {b : Bool} (h : Tx w R X (b, [])) : ∃ a n c, w.cell? ⟨R, 0, none⟩ = some (.slice a n c) ∧ w.cell? ⟨R, 1, none⟩ = some (.int .i64 (n : Nat)) ∧ n ≤ 20000 := by
  have h1 := h.c1
  obtain ⟨a, c, h0, _⟩ := h.c0
  simp only [List.length_nil, Nat.sub_zero] at h1
  exact ⟨a, _, c, h0, h1, h.few⟩
theorem Tx.tail {b : Bool} {x : Tok × Nat} {r : Tks} (h : Tx w R X (b, x :: r)) : r <:+ X := (List.suffix_cons x r).trans h.suf
end
/-- No digit stands ahead in it. -/
def NoDg (s : Wd) : Prop := ∀ c r, s = c :: r → isDi c = false
theorem dg_ne {X : Tks} (h : Dg X) {x : Tok × Nat} (hx : x ∈ X) (hk : x.1.k = 2) {s : Wd} (hs : NoDg s) : x.1.w ≠ s := by
  obtain ⟨c, r, e, hd⟩ := h x hx hk
  rw [e]
  intro e2
  have := hs c r e2.symm
  rw [hd] at this
  cases this
theorem suf_mem {x : Tok × Nat} {r X : Tks} (h : x :: r <:+ X) : x ∈ X := h.subset List.mem_cons_self

/-- The state behind a word that may stand next. -/
def dWs (s : Wd) (st : DSt) : DSt := if dW s st = true then (false, st.2.tail) else st
/-- What word comes to. -/
def WordP (w : World) (R : Nat) (X : Tks) (s : Wd) (st : DSt) (e : Ending) (w' : World) : Prop := e = .returned (.bool (dW s st)) ∧ Tx w' R X (dWs s st) ∧ Only (At R) w w'
end Go.Proofs.YtnkokonkbklelaaGreatDoor.Ps
