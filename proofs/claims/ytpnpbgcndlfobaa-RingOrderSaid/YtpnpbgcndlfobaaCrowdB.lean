/- A crowd: its own struct and rows beside the ring; each elementary change. -/
import Derived.Test.YtpnpbgcndlfobaaCrowdA
namespace Go.Proofs.Ytpnpbgcndlfobaa
open Go.RowKit

/-- The crowd's struct. -/
def cbv (rg pb nb ib : Nat) (tk : Value) (st : Int) (ta : Value) (mo ct : Int) : Array Value :=
  [.pointer (some ⟨rg, 0, none⟩), .slice (some ⟨pb, 0, none⟩) 3 3, .slice (some ⟨nb, 0, none⟩) 3 3, .slice (some ⟨ib, 0, none⟩) 3 3, tk, .int .i64 st, ta, .int .i64 mo, .int .i64 ct].toArray

/-- The ring, the operations, the rows; the struct and its three rows. -/
structure Cw (w1 w : World) (rg B base c cb pb nb ib : Nat) (L : List Int) (t : Int) (po : Nat → Option (Nat × OS)) (tto : Option (Nat × OS)) (nx : Nat → Int) (iv : Nat → Value) (st : Int) (ta : Value) (mo ct : Int) (ins : Nat → List Int) (taken : List Int) : Prop where
  core : Core w1 w rg B base c L t po tto iv ta ins taken
  cbh : w.heap[cb]? = some (.cells (cbv rg pb nb ib (opv tto) st ta mo ct) 65 (0, 0))
  pbh : w.heap[pb]? = some (.cells (rowC 3 fun p => opv (po p)) 40 (0, 0))
  nbh : w.heap[nb]? = some (.cells (rowC 3 fun p => .int .u64 (nx p)) 37 (0, 0))
  ibh : w.heap[ib]? = some (.cells (rowC 3 iv) 42 (0, 0))
  nbB : nb ≠ B
  nbl : nb < base
  g1 : w1.heap.size ≤ cb
  g2 : w1.heap.size ≤ pb
  g3 : w1.heap.size ≤ nb
  g4 : w1.heap.size ≤ ib

section
variable {w1 w w' : World} {rg B base c cb pb nb ib : Nat} {L L' : List Int} {t t' : Int} {po : Nat → Option (Nat × OS)} {tto : Option (Nat × OS)} {nx : Nat → Int} {iv : Nat → Value} {st : Int} {ta : Value} {mo ct : Int} {ins : Nat → List Int} {taken : List Int}

theorem Cw.cells (h : Cw w1 w rg B base c cb pb nb ib L t po tto nx iv st ta mo ct ins taken) :
    w.cell? ⟨cb, 0, none⟩ = some (.pointer (some ⟨rg, 0, none⟩)) ∧ w.cell? ⟨cb, 1, none⟩ = some (.slice (some ⟨pb, 0, none⟩) 3 3) ∧ w.cell? ⟨cb, 2, none⟩ = some (.slice (some ⟨nb, 0, none⟩) 3 3) ∧ w.cell? ⟨cb, 3, none⟩ = some (.slice (some ⟨ib, 0, none⟩) 3 3) ∧
    w.cell? ⟨cb, 4, none⟩ = some (opv tto) ∧ w.cell? ⟨cb, 5, none⟩ = some (.int .i64 st) ∧ w.cell? ⟨cb, 6, none⟩ = some ta ∧ w.cell? ⟨cb, 7, none⟩ = some (.int .i64 mo) ∧ w.cell? ⟨cb, 8, none⟩ = some (.int .i64 ct) := by
  simp [World.cell?, h.cbh, cbv]
theorem Cw.frees (h : Cw w1 w rg B base c cb pb nb ib L t po tto nx iv st ta mo ct ins taken) : w.frozen? ⟨cb, 4, none⟩ = false ∧ w.frozen? ⟨cb, 5, none⟩ = false ∧ w.frozen? ⟨cb, 6, none⟩ = false ∧ w.frozen? ⟨cb, 7, none⟩ = false ∧ w.frozen? ⟨cb, 8, none⟩ = false := by
  simp [World.frozen?, h.cbh, cbv]
theorem Cw.pc (h : Cw w1 w rg B base c cb pb nb ib L t po tto nx iv st ta mo ct ins taken) (p : Nat) (hp : p < 3) : w.cell? ⟨pb, p, none⟩ = some (opv (po p)) ∧ w.frozen? ⟨pb, p, none⟩ = false := ⟨row_cell h.pbh p hp, row_frozen h.pbh p⟩
theorem Cw.nc (h : Cw w1 w rg B base c cb pb nb ib L t po tto nx iv st ta mo ct ins taken) (p : Nat) (hp : p < 3) : w.cell? ⟨nb, p, none⟩ = some (.int .u64 (nx p)) ∧ w.frozen? ⟨nb, p, none⟩ = false := ⟨row_cell h.nbh p hp, row_frozen h.nbh p⟩
theorem Cw.ic (h : Cw w1 w rg B base c cb pb nb ib L t po tto nx iv st ta mo ct ins taken) (p : Nat) (hp : p < 3) : w.cell? ⟨ib, p, none⟩ = some (iv p) ∧ w.frozen? ⟨ib, p, none⟩ = false := ⟨row_cell h.ibh p hp, row_frozen h.ibh p⟩

theorem Cw.apc (h : Cw w1 w rg B base c cb pb nb ib L t po tto nx iv st ta mo ct ins taken) : Apart w1 rg B po tto iv ta cb := h.core.apart h.cbh h.g1 (by decide) (by decide) (by decide) (by decide)
theorem Cw.app (h : Cw w1 w rg B base c cb pb nb ib L t po tto nx iv st ta mo ct ins taken) : Apart w1 rg B po tto iv ta pb := h.core.apart h.pbh h.g2 (by decide) (by decide) (by decide) (by decide)
theorem Cw.apn (h : Cw w1 w rg B base c cb pb nb ib L t po tto nx iv st ta mo ct ins taken) : Apart w1 rg B po tto iv ta nb := h.core.apartN h.nbh h.g3 h.nbl h.nbB
theorem Cw.api (h : Cw w1 w rg B base c cb pb nb ib L t po tto nx iv st ta mo ct ins taken) : Apart w1 rg B po tto iv ta ib := h.core.apart h.ibh h.g4 (by decide) (by decide) (by decide) (by decide)
theorem Cw.ne (h : Cw w1 w rg B base c cb pb nb ib L t po tto nx iv st ta mo ct ins taken) : cb ≠ pb ∧ cb ≠ nb ∧ cb ≠ ib ∧ pb ≠ nb ∧ pb ≠ ib ∧ nb ≠ ib :=
  ⟨blk_ne h.cbh h.pbh (by decide), blk_ne h.cbh h.nbh (by decide), blk_ne h.cbh h.ibh (by decide), blk_ne h.pbh h.nbh (by decide), blk_ne h.pbh h.ibh (by decide), blk_ne h.nbh h.ibh (by decide)⟩

/-- Where none of the four blocks turns. -/
theorem Cw.rows (h : Cw w1 w rg B base c cb pb nb ib L t po tto nx iv st ta mo ct ins taken) {S : Nat → Prop} (o : Only S w w') (n1 : ¬ S cb) (n2 : ¬ S pb) (n3 : ¬ S nb) (n4 : ¬ S ib) {L' : List Int} {t' : Int} {po' : Nat → Option (Nat × OS)} {tto' : Option (Nat × OS)} {iv' : Nat → Value} {ta' : Value} {ins' : Nat → List Int} {taken' : List Int}
    (k : Core w1 w' rg B base c L' t' po' tto' iv' ta' ins' taken') (e1 : ∀ p, opv (po' p) = opv (po p)) (e2 : opv tto' = opv tto) (e3 : ∀ p, iv' p = iv p) (e4 : ta' = ta) : Cw w1 w' rg B base c cb pb nb ib L' t' po' tto' nx iv' st ta' mo ct ins' taken' := by
  subst e4
  have e3' : iv' = iv := funext e3
  subst e3'
  refine ⟨k, ?_, ?_, (o.block nb (lt_of_block h.nbh) n3).trans h.nbh, (o.block ib (lt_of_block h.ibh) n4).trans h.ibh, h.nbB, h.nbl, h.g1, h.g2, h.g3, h.g4⟩
  · rw [e2]; exact (o.block cb (lt_of_block h.cbh) n1).trans h.cbh
  · rw [show (fun p => opv (po' p)) = (fun p => opv (po p)) from funext e1]; exact (o.block pb (lt_of_block h.pbh) n2).trans h.pbh
theorem Cw.nil (h : Cw w1 w rg B base c cb pb nb ib L t po tto nx iv st ta mo ct ins taken) (o : Only Nil w w') : Cw w1 w' rg B base c cb pb nb ib L t po tto nx iv st ta mo ct ins taken :=
  h.rows o (fun z => z) (fun z => z) (fun z => z) (fun z => z) (h.core.nil o) (fun _ => rfl) rfl (fun _ => rfl) rfl
theorem Cw.drewN (h : Cw w1 w rg B base c cb pb nb ib L t po tto nx iv st ta mo ct ins taken) (n : Nat) : Cw w1 (w.drewN n) rg B base c cb pb nb ib L t po tto nx iv st ta mo ct ins taken := h.nil ((Only.refl Nil w).drewN n)

theorem Cw.ob_free (h : Cw w1 w rg B base c cb pb nb ib L t po tto nx iv st ta mo ct ins taken) {ob : Nat} {s : OS} (q : Op1 w1 w ob rg (B + 1) B s) : ¬ OB (B + 1) B ob cb ∧ ¬ OB (B + 1) B ob pb ∧ ¬ OB (B + 1) B ob nb ∧ ¬ OB (B + 1) B ob ib := by
  have a1 := h.apc; have a2 := h.app; have a3 := h.apn; have a4 := h.api
  refine ⟨fun z => ?_, fun z => ?_, fun z => ?_, fun z => ?_⟩ <;> rcases z with (z | z) | z
  · exact a1.2.2.2.1 z
  · exact a1.2.2.1 z
  · exact q.ne h.cbh (by decide) z.symm
  · exact a2.2.2.2.1 z
  · exact a2.2.2.1 z
  · exact q.ne h.pbh (by decide) z.symm
  · exact a3.2.2.2.1 z
  · exact a3.2.2.1 z
  · exact q.ne h.nbh (by decide) z.symm
  · exact a4.2.2.2.1 z
  · exact a4.2.2.1 z
  · exact q.ne h.ibh (by decide) z.symm

theorem Cw.step (h : Cw w1 w rg B base c cb pb nb ib L t po tto nx iv st ta mo ct ins taken) {p ob : Nat} {s s' : OS} (hp : p < 3) (e : po p = some (ob, s))
    (l4 : Lw w1 w' rg (B + 1) B 0 c L' t') (q4 : Op1 w1 w' ob rg (B + 1) B s') (o4 : Only (OB (B + 1) B ob) w w') : Cw w1 w' rg B base c cb pb nb ib L' t' (upd po p (some (ob, s'))) tto nx iv st ta mo ct ins taken := by
  obtain ⟨n1, n2, n3, n4⟩ := h.ob_free (h.core.op p ob s hp e)
  refine h.rows o4 n1 n2 n3 n4 (h.core.step hp e l4 q4 o4) (fun q => ?_) rfl (fun _ => rfl) rfl
  by_cases g : q = p
  · subst g; rw [upd_same, e]; rfl
  · rw [upd_other _ _ _ _ g]
theorem Cw.stepT (h : Cw w1 w rg B base c cb pb nb ib L t po tto nx iv st ta mo ct ins taken) {ob : Nat} {s s' : OS} (e : tto = some (ob, s))
    (l4 : Lw w1 w' rg (B + 1) B 0 c L' t') (q4 : Op1 w1 w' ob rg (B + 1) B s') (o4 : Only (OB (B + 1) B ob) w w') : Cw w1 w' rg B base c cb pb nb ib L' t' po (some (ob, s')) nx iv st ta mo ct ins taken := by
  obtain ⟨n1, n2, n3, n4⟩ := h.ob_free (h.core.tk ob s e)
  exact h.rows o4 n1 n2 n3 n4 (h.core.stepT e l4 q4 o4) (fun q => rfl) (by rw [e]; rfl) (fun _ => rfl) rfl

/-- A store to one cell of one of the four blocks leaves the other three. -/
theorem only_cell (w : World) (b i : Nat) (x : Value) : Only (fun k => k = b) w (w.setCell ⟨b, i, none⟩ x) := (Only.refl (fun k => k = b) w).setCell (p := ⟨b, i, none⟩) rfl x
theorem Cw.cb' (h : Cw w1 w rg B base c cb pb nb ib L t po tto nx iv st ta mo ct ins taken) (i : Nat) (x : Value) {tto' : Option (Nat × OS)} {st' : Int} {ta' : Value} {mo' ct' : Int} {taken' : List Int} {iv' : Nat → Value}
    (e : (cbv rg pb nb ib (opv tto) st ta mo ct).setIfInBounds i x = cbv rg pb nb ib (opv tto') st' ta' mo' ct') (hiv : iv' = iv) (k : Core w1 (w.setCell ⟨cb, i, none⟩ x) rg B base c L t po tto' iv' ta' ins taken') :
    Cw w1 (w.setCell ⟨cb, i, none⟩ x) rg B base c cb pb nb ib L t po tto' nx iv' st' ta' mo' ct' ins taken' := by
  subst hiv
  have o := only_cell w cb i x
  obtain ⟨a1, a2, a3, _, _, _⟩ := h.ne
  exact ⟨k, by rw [heap_setCell_self _ h.cbh, e], (o.block pb (lt_of_block h.pbh) (fun z => a1 z.symm)).trans h.pbh, (o.block nb (lt_of_block h.nbh) (fun z => a2 z.symm)).trans h.nbh, (o.block ib (lt_of_block h.ibh) (fun z => a3 z.symm)).trans h.ibh, h.nbB, h.nbl, h.g1, h.g2, h.g3, h.g4⟩
theorem Cw.kcb (h : Cw w1 w rg B base c cb pb nb ib L t po tto nx iv st ta mo ct ins taken) (i : Nat) (x : Value) : Core w1 (w.setCell ⟨cb, i, none⟩ x) rg B base c L t po tto iv ta ins taken :=
  h.core.keep (only_cell w cb i x) (fun k z => by rw [z]; exact h.apc)
theorem Cw.setSt (h : Cw w1 w rg B base c cb pb nb ib L t po tto nx iv st ta mo ct ins taken) (y : Int) : Cw w1 (w.setCell ⟨cb, 5, none⟩ (.int .i64 y)) rg B base c cb pb nb ib L t po tto nx iv y ta mo ct ins taken := h.cb' 5 _ rfl rfl (h.kcb 5 _)
theorem Cw.setMo (h : Cw w1 w rg B base c cb pb nb ib L t po tto nx iv st ta mo ct ins taken) (y : Int) : Cw w1 (w.setCell ⟨cb, 7, none⟩ (.int .i64 y)) rg B base c cb pb nb ib L t po tto nx iv st ta y ct ins taken := h.cb' 7 _ rfl rfl (h.kcb 7 _)
theorem Cw.setCt (h : Cw w1 w rg B base c cb pb nb ib L t po tto nx iv st ta mo ct ins taken) (y : Int) : Cw w1 (w.setCell ⟨cb, 8, none⟩ (.int .i64 y)) rg B base c cb pb nb ib L t po tto nx iv st ta mo y ins taken := h.cb' 8 _ rfl rfl (h.kcb 8 _)
theorem Cw.dropT (h : Cw w1 w rg B base c cb pb nb ib L t po tto nx iv st ta mo ct ins taken) : Cw w1 (w.setCell ⟨cb, 4, none⟩ (.pointer none)) rg B base c cb pb nb ib L t po none nx iv st ta mo ct ins taken := h.cb' 4 _ rfl rfl (h.kcb 4 _).dropT
theorem Cw.beginT (h : Cw w1 w rg B base c cb pb nb ib L t po tto nx iv st ta mo ct ins taken) {s : OS} (q3 : Op1 w1 w' w.heap.size rg (B + 1) B s) (o3 : Only Nil w w') :
    Cw w1 (w'.setCell ⟨cb, 4, none⟩ (.pointer (some ⟨w.heap.size, 0, none⟩))) rg B base c cb pb nb ib L t po (some (w.heap.size, s)) nx iv st ta mo ct ins taken := by
  have h' := h.nil o3
  refine h'.cb' 4 _ rfl rfl ((h.core.beginT q3 o3).keep (only_cell w' cb 4 _) (fun k z => ?_))
  rw [z]
  obtain ⟨a1, a2, a3, a4, a5, a6, a7, a8⟩ := h'.apc
  refine ⟨a1, a2, a3, a4, a5, fun ob s2 e => ?_, a7, a8⟩
  simp at e; rw [← e.1]; have := lt_of_block h.cbh; omega

theorem Cw.kpb (h : Cw w1 w rg B base c cb pb nb ib L t po tto nx iv st ta mo ct ins taken) (i : Nat) (x : Value) {po' : Nat → Option (Nat × OS)} (e : ∀ p, p < 3 → (if p = i then x else opv (po p)) = opv (po' p)) (k : Core w1 (w.setCell ⟨pb, i, none⟩ x) rg B base c L t po' tto iv ta ins taken) :
    Cw w1 (w.setCell ⟨pb, i, none⟩ x) rg B base c cb pb nb ib L t po' tto nx iv st ta mo ct ins taken := by
  have o := only_cell w pb i x
  obtain ⟨a1, _, _, a4, a5, _⟩ := h.ne
  refine ⟨k, (o.block cb (lt_of_block h.cbh) a1).trans h.cbh, ?_, (o.block nb (lt_of_block h.nbh) (fun z => a4 z.symm)).trans h.nbh, (o.block ib (lt_of_block h.ibh) (fun z => a5 z.symm)).trans h.ibh, h.nbB, h.nbl, h.g1, h.g2, h.g3, h.g4⟩
  rw [row_set h.pbh]
  congr 2
  exact rowC_congr (fun p hp => e p hp)
theorem Cw.drop (h : Cw w1 w rg B base c cb pb nb ib L t po tto nx iv st ta mo ct ins taken) (p : Nat) : Cw w1 (w.setCell ⟨pb, p, none⟩ (.pointer none)) rg B base c cb pb nb ib L t (upd po p none) tto nx iv st ta mo ct ins taken := by
  refine h.kpb p _ (fun q _ => ?_) ((h.core.keep (only_cell w pb p _) (fun k z => by rw [z]; exact h.app)).drop p)
  by_cases g : q = p
  · subst g; rw [if_pos rfl, upd_same]; rfl
  · rw [if_neg g, upd_other _ _ _ _ g]
theorem Cw.begin (h : Cw w1 w rg B base c cb pb nb ib L t po tto nx iv st ta mo ct ins taken) {p : Nat} {s : OS} (q3 : Op1 w1 w' w.heap.size rg (B + 1) B s) (o3 : Only Nil w w') :
    Cw w1 (w'.setCell ⟨pb, p, none⟩ (.pointer (some ⟨w.heap.size, 0, none⟩))) rg B base c cb pb nb ib L t (upd po p (some (w.heap.size, s))) tto nx iv st ta mo ct ins taken := by
  have h' := h.nil o3
  refine h'.kpb p _ (fun q _ => ?_) ((h.core.begin q3 o3).keep (only_cell w' pb p _) (fun k z => ?_))
  · by_cases g : q = p
    · subst g; rw [if_pos rfl, upd_same]; rfl
    · rw [if_neg g, upd_other _ _ _ _ g]
  · rw [z]
    obtain ⟨a1, a2, a3, a4, a5, a6, a7, a8⟩ := h'.app
    refine ⟨a1, a2, a3, a4, fun q ob s2 hq e => ?_, a6, a7, a8⟩
    by_cases g : q = p
    · subst g; rw [upd_same] at e; simp at e; rw [← e.1]; have := lt_of_block h.pbh; omega
    · rw [upd_other _ _ _ _ g] at e; exact a5 q ob s2 hq e
theorem Cw.next (h : Cw w1 w rg B base c cb pb nb ib L t po tto nx iv st ta mo ct ins taken) (p : Nat) (y : Int) : Cw w1 (w.setCell ⟨nb, p, none⟩ (.int .u64 y)) rg B base c cb pb nb ib L t po tto (upd nx p y) iv st ta mo ct ins taken := by
  have o := only_cell w nb p (.int .u64 y)
  obtain ⟨_, a2, _, a4, _, a6⟩ := h.ne
  refine ⟨h.core.keep o (fun k z => by rw [z]; exact h.apn), (o.block cb (lt_of_block h.cbh) a2).trans h.cbh, (o.block pb (lt_of_block h.pbh) a4).trans h.pbh, ?_, (o.block ib (lt_of_block h.ibh) (fun z => a6 z.symm)).trans h.ibh, h.nbB, h.nbl, h.g1, h.g2, h.g3, h.g4⟩
  rw [row_set h.nbh]
  congr 2
  apply rowC_congr
  intro q _
  by_cases g : q = p
  · subst g; rw [upd_same, upd_same]
  · rw [upd_other _ _ _ _ g, upd_other _ _ _ _ g]
/-- One more is in: the row grown, and kept. -/
theorem Cw.grow (h : Cw w1 w rg B base c cb pb nb ib L t po tto nx iv st ta mo ct ins taken) {p : Nat} (hp : p < 3) {g cap : Nat} {x : Int}
    (own : w'.ownsRow base 37 1 (.slice (some ⟨g, 0, none⟩) ((ins p).length + 1) cap) ((ins p).length + 1) (uv (ins p) ++ [.int .u64 x])) (gr : w.grownBy w' (iv p).ownBlock) (hat : (iv p).ownBlock = some g ∨ g = w.heap.size) :
    (w'.cell? ⟨ib, p, none⟩ = some (iv p) ∧ w'.frozen? ⟨ib, p, none⟩ = false ∧ w'.cell? ⟨cb, 3, none⟩ = some (.slice (some ⟨ib, 0, none⟩) 3 3) ∧ w'.cell? ⟨cb, 2, none⟩ = some (.slice (some ⟨nb, 0, none⟩) 3 3) ∧ w'.cell? ⟨nb, p, none⟩ = some (.int .u64 (nx p))) ∧ Cw w1 (w'.setCell ⟨ib, p, none⟩ (.slice (some ⟨g, 0, none⟩) ((ins p).length + 1) cap)) rg B base c cb pb nb ib L t po tto nx (upd iv p (.slice (some ⟨g, 0, none⟩) ((ins p).length + 1) cap)) st ta mo ct (upd ins p (ins p ++ [x])) taken := by
  have o := Only.ofGrown gr
  have a1 := h.apc.2.2.2.2.2.2.1 p hp
  have a2 := h.app.2.2.2.2.2.2.1 p hp
  have a3 := h.apn.2.2.2.2.2.2.1 p hp
  have a4 := h.api.2.2.2.2.2.2.1 p hp
  have k := h.core.grow hp own gr hat
  have c1 := (o.block cb (lt_of_block h.cbh) (fun z => a1 z.symm)).trans h.cbh
  have c2 := (o.block pb (lt_of_block h.pbh) (fun z => a2 z.symm)).trans h.pbh
  have c3 := (o.block nb (lt_of_block h.nbh) (fun z => a3 z.symm)).trans h.nbh
  have c4 := (o.block ib (lt_of_block h.ibh) (fun z => a4 z.symm)).trans h.ibh
  refine ⟨⟨row_cell c4 p hp, row_frozen c4 p, by simp [World.cell?, c1, cbv], by simp [World.cell?, c1, cbv], row_cell c3 p hp⟩, ?_⟩
  have o2 := only_cell w' ib p (.slice (some ⟨g, 0, none⟩) ((ins p).length + 1) cap)
  obtain ⟨_, _, n3, _, n5, n6⟩ := h.ne
  refine ⟨k.keep o2 (fun k2 z => by rw [z]; exact k.apart c4 h.g4 (by decide) (by decide) (by decide) (by decide)), (o2.block cb (lt_of_block c1) n3).trans c1, (o2.block pb (lt_of_block c2) n5).trans c2, (o2.block nb (lt_of_block c3) n6).trans c3, ?_, h.nbB, h.nbl, h.g1, h.g2, h.g3, h.g4⟩
  rw [row_set c4]
/-- One more was taken: the row grown, and kept. -/
theorem Cw.growT (h : Cw w1 w rg B base c cb pb nb ib L t po tto nx iv st ta mo ct ins taken) {g cap : Nat} {x : Int}
    (own : w'.ownsRow base 37 1 (.slice (some ⟨g, 0, none⟩) (taken.length + 1) cap) (taken.length + 1) (uv taken ++ [.int .u64 x])) (gr : w.grownBy w' ta.ownBlock) (hat : ta.ownBlock = some g ∨ g = w.heap.size) :
    (w'.cell? ⟨cb, 6, none⟩ = some ta ∧ w'.frozen? ⟨cb, 6, none⟩ = false ∧ w'.cell? ⟨cb, 4, none⟩ = some (opv tto)) ∧ Cw w1 (w'.setCell ⟨cb, 6, none⟩ (.slice (some ⟨g, 0, none⟩) (taken.length + 1) cap)) rg B base c cb pb nb ib L t po tto nx iv st (.slice (some ⟨g, 0, none⟩) (taken.length + 1) cap) mo ct ins (taken ++ [x]) := by
  have o := Only.ofGrown gr
  have a1 := h.apc.2.2.2.2.2.2.2
  have a2 := h.app.2.2.2.2.2.2.2
  have a3 := h.apn.2.2.2.2.2.2.2
  have a4 := h.api.2.2.2.2.2.2.2
  have k := h.core.growT own gr hat
  have c1 := (o.block cb (lt_of_block h.cbh) (fun z => a1 z.symm)).trans h.cbh
  have c2 := (o.block pb (lt_of_block h.pbh) (fun z => a2 z.symm)).trans h.pbh
  have c3 := (o.block nb (lt_of_block h.nbh) (fun z => a3 z.symm)).trans h.nbh
  have c4 := (o.block ib (lt_of_block h.ibh) (fun z => a4 z.symm)).trans h.ibh
  refine ⟨by simp [World.cell?, World.frozen?, c1, cbv], ?_⟩
  have o2 := only_cell w' cb 6 (.slice (some ⟨g, 0, none⟩) (taken.length + 1) cap)
  obtain ⟨n1, n2, n3, _, _, _⟩ := h.ne
  refine ⟨k.keep o2 (fun k2 z => by rw [z]; exact k.apart c1 h.g1 (by decide) (by decide) (by decide) (by decide)), ?_, (o2.block pb (lt_of_block c2) (fun z => n1 z.symm)).trans c2, (o2.block nb (lt_of_block c3) (fun z => n2 z.symm)).trans c3, (o2.block ib (lt_of_block c4) (fun z => n3 z.symm)).trans c4, h.nbB, h.nbl, h.g1, h.g2, h.g3, h.g4⟩
  rw [heap_setCell_self _ c1]; rfl
end
end Go.Proofs.Ytpnpbgcndlfobaa
