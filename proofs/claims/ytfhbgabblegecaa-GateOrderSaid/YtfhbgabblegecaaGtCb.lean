/- A crowd at a gate: its own struct and rows beside the gate; each elementary change. -/
import Derived.Test.YtfhbgabblegecaaGtCa
namespace Go.Proofs.Ytfhbgabblegecaa.Gt
open Go.RowKit

/-- The crowd's struct. -/
def cbv (rg pb nb ib : Nat) (v0 : Value) : Array Value :=
  [.pointer (some ⟨rg, 0, none⟩), .slice (some ⟨pb, 0, none⟩) 4 4, .slice (some ⟨nb, 0, none⟩) 2 2, v0, .slice (some ⟨ib, 0, none⟩) 2 2, .int .i64 0].toArray

/-- The gate, the operations, the rows; the struct and its three rows. -/
structure Cw (w1 w : World) (rg B base c cb pb nb ib : Nat) (L : List Int) (t : Int) (po : Nat → Option (Nat × OS)) (nx : Nat → Int) (iv : Nat → Value) (ins : Nat → List Int) : Prop where
  core : Core w1 w rg B base c L t po iv ins
  cbh : w.heap[cb]? = some (.cells (cbv rg pb nb ib (iv 0)) 78 (0, 0))
  pbh : w.heap[pb]? = some (.cells (rowC 4 fun p => opv (po p)) 114 (0, 0))
  nbh : w.heap[nb]? = some (.cells (rowC 2 fun p => .int .u64 (nx p)) 40 (0, 0))
  ibh : w.heap[ib]? = some (.cells (rowC 2 fun q => iv (q + 1)) 41 (0, 0))
  nbB : nb ≠ B
  nbl : nb < base
  g1 : w1.heap.size ≤ cb
  g2 : w1.heap.size ≤ pb
  g3 : w1.heap.size ≤ nb
  g4 : w1.heap.size ≤ ib

section
variable {w1 w w' : World} {rg B base c cb pb nb ib : Nat} {L L' : List Int} {t t' : Int} {po : Nat → Option (Nat × OS)} {nx : Nat → Int} {iv : Nat → Value} {ins : Nat → List Int}

theorem Cw.cells (h : Cw w1 w rg B base c cb pb nb ib L t po nx iv ins) :
    w.cell? ⟨cb, 0, none⟩ = some (.pointer (some ⟨rg, 0, none⟩)) ∧ w.cell? ⟨cb, 1, none⟩ = some (.slice (some ⟨pb, 0, none⟩) 4 4) ∧ w.cell? ⟨cb, 2, none⟩ = some (.slice (some ⟨nb, 0, none⟩) 2 2) ∧ w.cell? ⟨cb, 3, none⟩ = some (iv 0) ∧
    w.cell? ⟨cb, 4, none⟩ = some (.slice (some ⟨ib, 0, none⟩) 2 2) ∧ w.frozen? ⟨cb, 3, none⟩ = false := by
  simp [World.cell?, World.frozen?, h.cbh, cbv]
theorem Cw.pc (h : Cw w1 w rg B base c cb pb nb ib L t po nx iv ins) (p : Nat) (hp : p < 4) : w.cell? ⟨pb, p, none⟩ = some (opv (po p)) ∧ w.frozen? ⟨pb, p, none⟩ = false := ⟨row_cell h.pbh p hp, row_frozen h.pbh p⟩
theorem Cw.nc (h : Cw w1 w rg B base c cb pb nb ib L t po nx iv ins) (p : Nat) (hp : p < 2) : w.cell? ⟨nb, p, none⟩ = some (.int .u64 (nx p)) ∧ w.frozen? ⟨nb, p, none⟩ = false := ⟨row_cell h.nbh p hp, row_frozen h.nbh p⟩
theorem Cw.ic (h : Cw w1 w rg B base c cb pb nb ib L t po nx iv ins) (q : Nat) (hq : q < 2) : w.cell? ⟨ib, q, none⟩ = some (iv (q + 1)) ∧ w.frozen? ⟨ib, q, none⟩ = false := ⟨row_cell h.ibh q hq, row_frozen h.ibh q⟩

theorem Cw.apc (h : Cw w1 w rg B base c cb pb nb ib L t po nx iv ins) : Apart w1 rg B po iv cb := h.core.apart h.cbh h.g1 (by decide) (by decide) (by decide) (by decide)
theorem Cw.app (h : Cw w1 w rg B base c cb pb nb ib L t po nx iv ins) : Apart w1 rg B po iv pb := h.core.apart h.pbh h.g2 (by decide) (by decide) (by decide) (by decide)
theorem Cw.apn (h : Cw w1 w rg B base c cb pb nb ib L t po nx iv ins) : Apart w1 rg B po iv nb := h.core.apartN h.nbh h.g3 h.nbl h.nbB
theorem Cw.api (h : Cw w1 w rg B base c cb pb nb ib L t po nx iv ins) : Apart w1 rg B po iv ib := h.core.apart h.ibh h.g4 (by decide) (by decide) (by decide) (by decide)
theorem Cw.ne (h : Cw w1 w rg B base c cb pb nb ib L t po nx iv ins) : cb ≠ pb ∧ cb ≠ nb ∧ cb ≠ ib ∧ pb ≠ nb ∧ pb ≠ ib ∧ nb ≠ ib :=
  ⟨blk_ne h.cbh h.pbh (by decide), blk_ne h.cbh h.nbh (by decide), blk_ne h.cbh h.ibh (by decide), blk_ne h.pbh h.nbh (by decide), blk_ne h.pbh h.ibh (by decide), blk_ne h.nbh h.ibh (by decide)⟩

/-- Where none of the four blocks turns. -/
theorem Cw.rows (h : Cw w1 w rg B base c cb pb nb ib L t po nx iv ins) {S : Nat → Prop} (o : Only S w w') (n1 : ¬ S cb) (n2 : ¬ S pb) (n3 : ¬ S nb) (n4 : ¬ S ib) {L' : List Int} {t' : Int} {po' : Nat → Option (Nat × OS)}
    (k : Core w1 w' rg B base c L' t' po' iv ins) (e1 : ∀ p, opv (po' p) = opv (po p)) : Cw w1 w' rg B base c cb pb nb ib L' t' po' nx iv ins := by
  refine ⟨k, (o.block cb (lt_of_block h.cbh) n1).trans h.cbh, ?_, (o.block nb (lt_of_block h.nbh) n3).trans h.nbh, (o.block ib (lt_of_block h.ibh) n4).trans h.ibh, h.nbB, h.nbl, h.g1, h.g2, h.g3, h.g4⟩
  rw [show (fun p => opv (po' p)) = (fun p => opv (po p)) from funext e1]; exact (o.block pb (lt_of_block h.pbh) n2).trans h.pbh
theorem Cw.nil (h : Cw w1 w rg B base c cb pb nb ib L t po nx iv ins) (o : Only Nil w w') : Cw w1 w' rg B base c cb pb nb ib L t po nx iv ins :=
  h.rows o (fun z => z) (fun z => z) (fun z => z) (fun z => z) (h.core.nil o) (fun _ => rfl)
theorem Cw.drewN (h : Cw w1 w rg B base c cb pb nb ib L t po nx iv ins) (n : Nat) : Cw w1 (w.drewN n) rg B base c cb pb nb ib L t po nx iv ins := h.nil ((Only.refl Nil w).drewN n)

theorem Cw.ob_free (h : Cw w1 w rg B base c cb pb nb ib L t po nx iv ins) {ob : Nat} {s : OS} (q : Op1 w1 w ob rg (B + 1) B s) : ¬ OB (B + 1) B ob cb ∧ ¬ OB (B + 1) B ob pb ∧ ¬ OB (B + 1) B ob nb ∧ ¬ OB (B + 1) B ob ib := by
  have a1 := h.apc; have a2 := h.app; have a3 := h.apn; have a4 := h.api
  refine ⟨fun z => ?_, fun z => ?_, fun z => ?_, fun z => ?_⟩ <;> rcases z with (z | z) | z
  · exact a1.2.2.2.1 z
  · exact a1.2.2.1 z
  · exact q.ne h.cbh (by decide) z.symm
  · exact a2.2.2.2.1 z
  · exact a2.2.2.1 z
  · exact q.ne h.pbh (by decide) z.symm
  · exact a3.2.2.2.1 z
  · exact a3.2.2.1 z
  · exact q.ne h.nbh (by decide) z.symm
  · exact a4.2.2.2.1 z
  · exact a4.2.2.1 z
  · exact q.ne h.ibh (by decide) z.symm

theorem Cw.step (h : Cw w1 w rg B base c cb pb nb ib L t po nx iv ins) {p ob : Nat} {s s' : OS} (hp : p < 4) (e : po p = some (ob, s))
    (l4 : Lw w1 w' rg (B + 1) B 0 c L' t') (q4 : Op1 w1 w' ob rg (B + 1) B s') (o4 : Only (OB (B + 1) B ob) w w') : Cw w1 w' rg B base c cb pb nb ib L' t' (upd po p (some (ob, s'))) nx iv ins := by
  obtain ⟨n1, n2, n3, n4⟩ := h.ob_free (h.core.op p ob s hp e)
  refine h.rows o4 n1 n2 n3 n4 (h.core.step hp e l4 q4 o4) (fun q => ?_)
  by_cases g : q = p
  · subst g; rw [upd_same, e]; rfl
  · rw [upd_other _ _ _ _ g]

/-- A store to one cell of one of the four blocks leaves the other three. -/
theorem only_cell (w : World) (b i : Nat) (x : Value) : Only (fun k => k = b) w (w.setCell ⟨b, i, none⟩ x) := (Only.refl (fun k => k = b) w).setCell (p := ⟨b, i, none⟩) rfl x
theorem Cw.kpb (h : Cw w1 w rg B base c cb pb nb ib L t po nx iv ins) (i : Nat) (x : Value) {po' : Nat → Option (Nat × OS)} (e : ∀ p, p < 4 → (if p = i then x else opv (po p)) = opv (po' p)) (k : Core w1 (w.setCell ⟨pb, i, none⟩ x) rg B base c L t po' iv ins) :
    Cw w1 (w.setCell ⟨pb, i, none⟩ x) rg B base c cb pb nb ib L t po' nx iv ins := by
  have o := only_cell w pb i x
  obtain ⟨a1, _, _, a4, a5, _⟩ := h.ne
  refine ⟨k, (o.block cb (lt_of_block h.cbh) a1).trans h.cbh, ?_, (o.block nb (lt_of_block h.nbh) (fun z => a4 z.symm)).trans h.nbh, (o.block ib (lt_of_block h.ibh) (fun z => a5 z.symm)).trans h.ibh, h.nbB, h.nbl, h.g1, h.g2, h.g3, h.g4⟩
  rw [row_set h.pbh]
  congr 2
  exact rowC_congr (fun p hp => e p hp)
theorem Cw.drop (h : Cw w1 w rg B base c cb pb nb ib L t po nx iv ins) (p : Nat) : Cw w1 (w.setCell ⟨pb, p, none⟩ (.pointer none)) rg B base c cb pb nb ib L t (upd po p none) nx iv ins := by
  refine h.kpb p _ (fun q _ => ?_) ((h.core.keep (only_cell w pb p _) (fun k z => by rw [z]; exact h.app)).drop p)
  by_cases g : q = p
  · subst g; rw [if_pos rfl, upd_same]; rfl
  · rw [if_neg g, upd_other _ _ _ _ g]
theorem Cw.begin (h : Cw w1 w rg B base c cb pb nb ib L t po nx iv ins) {p : Nat} {s : OS} (q3 : Op1 w1 w' w.heap.size rg (B + 1) B s) (o3 : Only Nil w w') :
    Cw w1 (w'.setCell ⟨pb, p, none⟩ (.pointer (some ⟨w.heap.size, 0, none⟩))) rg B base c cb pb nb ib L t (upd po p (some (w.heap.size, s))) nx iv ins := by
  have h' := h.nil o3
  refine h'.kpb p _ (fun q _ => ?_) ((h.core.begin q3 o3).keep (only_cell w' pb p _) (fun k z => ?_))
  · by_cases g : q = p
    · subst g; rw [if_pos rfl, upd_same]; rfl
    · rw [if_neg g, upd_other _ _ _ _ g]
  · rw [z]
    obtain ⟨a1, a2, a3, a4, a5, a6⟩ := h'.app
    refine ⟨a1, a2, a3, a4, fun q ob s2 hq e => ?_, a6⟩
    by_cases g : q = p
    · subst g; rw [upd_same] at e; simp at e; rw [← e.1]; have := lt_of_block h.pbh; omega
    · rw [upd_other _ _ _ _ g] at e; exact a5 q ob s2 hq e
theorem Cw.next (h : Cw w1 w rg B base c cb pb nb ib L t po nx iv ins) (p : Nat) (y : Int) : Cw w1 (w.setCell ⟨nb, p, none⟩ (.int .u64 y)) rg B base c cb pb nb ib L t po (upd nx p y) iv ins := by
  have o := only_cell w nb p (.int .u64 y)
  obtain ⟨_, a2, _, a4, _, a6⟩ := h.ne
  refine ⟨h.core.keep o (fun k z => by rw [z]; exact h.apn), (o.block cb (lt_of_block h.cbh) a2).trans h.cbh, (o.block pb (lt_of_block h.pbh) a4).trans h.pbh, ?_, (o.block ib (lt_of_block h.ibh) (fun z => a6 z.symm)).trans h.ibh, h.nbB, h.nbl, h.g1, h.g2, h.g3, h.g4⟩
  rw [row_set h.nbh]
  congr 2
  apply rowC_congr
  intro q _
  by_cases g : q = p
  · subst g; rw [upd_same, upd_same]
  · rw [upd_other _ _ _ _ g, upd_other _ _ _ _ g]
/-- What the blocks hold while row p grows. -/
theorem Cw.grown (h : Cw w1 w rg B base c cb pb nb ib L t po nx iv ins) {p : Nat} (hp : p < 3) (gr : w.grownBy w' (iv p).ownBlock) :
    w'.heap[cb]? = some (.cells (cbv rg pb nb ib (iv 0)) 78 (0, 0)) ∧ w'.heap[pb]? = some (.cells (rowC 4 fun p => opv (po p)) 114 (0, 0)) ∧ w'.heap[nb]? = some (.cells (rowC 2 fun p => .int .u64 (nx p)) 40 (0, 0)) ∧ w'.heap[ib]? = some (.cells (rowC 2 fun q => iv (q + 1)) 41 (0, 0)) := by
  have o := Only.ofGrown gr
  have a1 := h.apc.2.2.2.2.2 p hp
  have a2 := h.app.2.2.2.2.2 p hp
  have a3 := h.apn.2.2.2.2.2 p hp
  have a4 := h.api.2.2.2.2.2 p hp
  exact ⟨(o.block cb (lt_of_block h.cbh) (fun z => a1 z.symm)).trans h.cbh, (o.block pb (lt_of_block h.pbh) (fun z => a2 z.symm)).trans h.pbh, (o.block nb (lt_of_block h.nbh) (fun z => a3 z.symm)).trans h.nbh, (o.block ib (lt_of_block h.ibh) (fun z => a4 z.symm)).trans h.ibh⟩
/-- One more is in: the row grown, and kept. -/
theorem Cw.growIn (h : Cw w1 w rg B base c cb pb nb ib L t po nx iv ins) {g cap : Nat} {x : Int}
    (own : w'.ownsRow base 40 1 (.slice (some ⟨g, 0, none⟩) ((ins 0).length + 1) cap) ((ins 0).length + 1) (uv (ins 0) ++ [.int .u64 x])) (gr : w.grownBy w' (iv 0).ownBlock) (hat : (iv 0).ownBlock = some g ∨ g = w.heap.size) :
    (w'.cell? ⟨cb, 3, none⟩ = some (iv 0) ∧ w'.frozen? ⟨cb, 3, none⟩ = false) ∧
    Cw w1 (w'.setCell ⟨cb, 3, none⟩ (.slice (some ⟨g, 0, none⟩) ((ins 0).length + 1) cap)) rg B base c cb pb nb ib L t po nx (upd iv 0 (.slice (some ⟨g, 0, none⟩) ((ins 0).length + 1) cap)) (upd ins 0 (ins 0 ++ [x])) := by
  have k := h.core.grow (by decide) own gr hat
  obtain ⟨c1, c2, c3, c4⟩ := h.grown (by decide) gr
  refine ⟨by simp [World.cell?, World.frozen?, c1, cbv], ?_⟩
  have o2 := only_cell w' cb 3 (.slice (some ⟨g, 0, none⟩) ((ins 0).length + 1) cap)
  obtain ⟨n1, n2, n3, _, _, _⟩ := h.ne
  refine ⟨k.keep o2 (fun k2 z => by rw [z]; exact k.apart c1 h.g1 (by decide) (by decide) (by decide) (by decide)), ?_, (o2.block pb (lt_of_block c2) (fun z => n1 z.symm)).trans c2, (o2.block nb (lt_of_block c3) (fun z => n2 z.symm)).trans c3, ?_, h.nbB, h.nbl, h.g1, h.g2, h.g3, h.g4⟩
  · rw [heap_setCell_self _ c1, upd_same]; rfl
  · rw [show (fun q => upd iv 0 (Value.slice (some ⟨g, 0, none⟩) ((ins 0).length + 1) cap) (q + 1)) = (fun q => iv (q + 1)) from funext (fun q => upd_other _ _ _ _ (by omega))]
    exact (o2.block ib (lt_of_block c4) (fun z => n3 z.symm)).trans c4
/-- One more was taken, by the q-th: the row grown, and kept. -/
theorem Cw.growTk (h : Cw w1 w rg B base c cb pb nb ib L t po nx iv ins) {q : Nat} (hq : q < 2) {g cap : Nat} {x : Int}
    (own : w'.ownsRow base 40 1 (.slice (some ⟨g, 0, none⟩) ((ins (q + 1)).length + 1) cap) ((ins (q + 1)).length + 1) (uv (ins (q + 1)) ++ [.int .u64 x])) (gr : w.grownBy w' (iv (q + 1)).ownBlock) (hat : (iv (q + 1)).ownBlock = some g ∨ g = w.heap.size) :
    (w'.cell? ⟨ib, q, none⟩ = some (iv (q + 1)) ∧ w'.frozen? ⟨ib, q, none⟩ = false ∧ w'.cell? ⟨cb, 4, none⟩ = some (.slice (some ⟨ib, 0, none⟩) 2 2)) ∧
    Cw w1 (w'.setCell ⟨ib, q, none⟩ (.slice (some ⟨g, 0, none⟩) ((ins (q + 1)).length + 1) cap)) rg B base c cb pb nb ib L t po nx (upd iv (q + 1) (.slice (some ⟨g, 0, none⟩) ((ins (q + 1)).length + 1) cap)) (upd ins (q + 1) (ins (q + 1) ++ [x])) := by
  have k := h.core.grow (p := q + 1) (by omega) own gr hat
  obtain ⟨c1, c2, c3, c4⟩ := h.grown (p := q + 1) (by omega) gr
  refine ⟨⟨row_cell c4 q hq, row_frozen c4 q, by simp [World.cell?, c1, cbv]⟩, ?_⟩
  have o2 := only_cell w' ib q (.slice (some ⟨g, 0, none⟩) ((ins (q + 1)).length + 1) cap)
  obtain ⟨_, _, n3, _, n5, n6⟩ := h.ne
  refine ⟨k.keep o2 (fun k2 z => by rw [z]; exact k.apart c4 h.g4 (by decide) (by decide) (by decide) (by decide)), ?_, (o2.block pb (lt_of_block c2) n5).trans c2, (o2.block nb (lt_of_block c3) n6).trans c3, ?_, h.nbB, h.nbl, h.g1, h.g2, h.g3, h.g4⟩
  · rw [upd_other _ _ _ _ (show 0 ≠ q + 1 by omega)]; exact (o2.block cb (lt_of_block c1) n3).trans c1
  · rw [row_set c4]
    congr 2
    apply rowC_congr
    intro j _
    by_cases e : j = q
    · subst e; rw [upd_same, upd_same]
    · rw [upd_other _ _ _ _ e, upd_other _ _ _ _ (by omega)]
end
end Go.Proofs.Ytfhbgabblegecaa.Gt
