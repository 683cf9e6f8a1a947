/- A gang at a deque: its own struct and the thieves' row beside the deque; each elementary change. -/
import Derived.Test.YtokopocldicnmaaDqCa
namespace Go.Proofs.Ytokopocldicnmaa.Dq
open Go.RowKit

/-- The gang's struct, cell by cell. -/
def gf (rg tb : Nat) (ow : Value) (psh : Bool) (nx : Int) (iv : Nat → Value) (lost most : Int) : Nat → Value
  | 0 => .pointer (some ⟨rg, 0, none⟩)
  | 1 => ow
  | 2 => .bool psh
  | 3 => .int .u64 nx
  | 4 => iv 0
  | 5 => iv 1
  | 6 => .slice (some ⟨tb, 0, none⟩) 2 2
  | 7 => iv 2
  | 8 => .int .i64 lost
  | _ => .int .i64 most
theorem ten {P : Nat → Prop} (h0 : P 0) (h1 : P 1) (h2 : P 2) (h3 : P 3) (h4 : P 4) (h5 : P 5) (h6 : P 6) (h7 : P 7) (h8 : P 8) (h9 : P 9) : ∀ i, i < 10 → P i := by
  intro i hi
  match i, hi with
  | 0, _ => exact h0
  | 1, _ => exact h1
  | 2, _ => exact h2
  | 3, _ => exact h3
  | 4, _ => exact h4
  | 5, _ => exact h5
  | 6, _ => exact h6
  | 7, _ => exact h7
  | 8, _ => exact h8
  | 9, _ => exact h9
  | i + 10, h => omega

/-- The deque, the operations, the rows; the struct and the thieves' row. -/
structure Gw (w1 w : World) (rg B base c gb tb : Nat) (L : List Int) (t : Int) (po : Nat → Option (Nat × OS)) (psh : Bool) (nx : Int) (iv : Nat → Value) (ins : Nat → List Int) (lost most : Int) : Prop where
  core : Core w1 w rg B base c L t po iv ins
  gbh : w.heap[gb]? = some (.cells (rowC 10 (gf rg tb (opv (po 0)) psh nx iv lost most)) 32 (0, 0))
  tbh : w.heap[tb]? = some (.cells (rowC 2 fun q => opv (po (q + 1))) 27 (0, 0))
  g1 : w1.heap.size ≤ gb
  g2 : w1.heap.size ≤ tb

section
variable {w1 w w' : World} {rg B base c gb tb : Nat} {L L' : List Int} {t t' : Int} {po : Nat → Option (Nat × OS)} {psh : Bool} {nx : Int} {iv : Nat → Value} {ins : Nat → List Int} {lost most : Int}

theorem only_cell (w : World) (b o : Nat) (x : Value) : Only (fun k => k = b) w (w.setCell ⟨b, o, none⟩ x) := (Only.refl (fun k => k = b) w).setCell (p := ⟨b, o, none⟩) rfl x
theorem Gw.cell (h : Gw w1 w rg B base c gb tb L t po psh nx iv ins lost most) (i : Nat) (hi : i < 10) : w.cell? ⟨gb, i, none⟩ = some (gf rg tb (opv (po 0)) psh nx iv lost most i) ∧ w.frozen? ⟨gb, i, none⟩ = false := ⟨row_cell h.gbh i hi, row_frozen h.gbh i⟩
theorem Gw.tc (h : Gw w1 w rg B base c gb tb L t po psh nx iv ins lost most) (q : Nat) (hq : q < 2) : w.cell? ⟨tb, q, none⟩ = some (opv (po (q + 1))) ∧ w.frozen? ⟨tb, q, none⟩ = false := ⟨row_cell h.tbh q hq, row_frozen h.tbh q⟩
theorem Gw.apg (h : Gw w1 w rg B base c gb tb L t po psh nx iv ins lost most) : Apart w1 rg B po iv gb := h.core.apart h.gbh h.g1 (by decide) (by decide) (by decide) (by decide)
theorem Gw.apt (h : Gw w1 w rg B base c gb tb L t po psh nx iv ins lost most) : Apart w1 rg B po iv tb := h.core.apart h.tbh h.g2 (by decide) (by decide) (by decide) (by decide)
theorem Gw.ne (h : Gw w1 w rg B base c gb tb L t po psh nx iv ins lost most) : gb ≠ tb := blk_ne h.gbh h.tbh (by decide)

/-- Where neither block turns. -/
theorem Gw.rows (h : Gw w1 w rg B base c gb tb L t po psh nx iv ins lost most) {S : Nat → Prop} (o : Only S w w') (n1 : ¬ S gb) (n2 : ¬ S tb) {L' : List Int} {t' : Int} {po' : Nat → Option (Nat × OS)}
    (k : Core w1 w' rg B base c L' t' po' iv ins) (e : ∀ p, opv (po' p) = opv (po p)) : Gw w1 w' rg B base c gb tb L' t' po' psh nx iv ins lost most := by
  refine ⟨k, ?_, ?_, h.g1, h.g2⟩
  · rw [e 0]; exact (o.block gb (lt_of_block h.gbh) n1).trans h.gbh
  · rw [show (fun q => opv (po' (q + 1))) = (fun q => opv (po (q + 1))) from funext (fun q => e (q + 1))]; exact (o.block tb (lt_of_block h.tbh) n2).trans h.tbh
theorem Gw.nil (h : Gw w1 w rg B base c gb tb L t po psh nx iv ins lost most) (o : Only Nil w w') : Gw w1 w' rg B base c gb tb L t po psh nx iv ins lost most :=
  h.rows o (fun z => z) (fun z => z) (h.core.nil o) (fun _ => rfl)
theorem Gw.drewN (h : Gw w1 w rg B base c gb tb L t po psh nx iv ins lost most) (n : Nat) : Gw w1 (w.drewN n) rg B base c gb tb L t po psh nx iv ins lost most := h.nil ((Only.refl Nil w).drewN n)
theorem Gw.ob_free (h : Gw w1 w rg B base c gb tb L t po psh nx iv ins lost most) {ob : Nat} {s : OS} (q : Op1 w1 w ob rg (B + 1) B s) : ¬ OB (B + 1) B ob gb ∧ ¬ OB (B + 1) B ob tb := by
  have a1 := h.apg; have a2 := h.apt
  refine ⟨fun z => ?_, fun z => ?_⟩ <;> rcases z with (z | z) | z
  · exact a1.2.2.2.1 z
  · exact a1.2.2.1 z
  · exact q.ne h.gbh (by decide) z.symm
  · exact a2.2.2.2.1 z
  · exact a2.2.2.1 z
  · exact q.ne h.tbh (by decide) z.symm
theorem Gw.step (h : Gw w1 w rg B base c gb tb L t po psh nx iv ins lost most) {p ob : Nat} {s s' : OS} (hp : p < 3) (e : po p = some (ob, s))
    (l4 : Lw w1 w' rg (B + 1) B 0 c L' t') (q4 : Op1 w1 w' ob rg (B + 1) B s') (o4 : Only (OB (B + 1) B ob) w w') : Gw w1 w' rg B base c gb tb L' t' (upd po p (some (ob, s'))) psh nx iv ins lost most := by
  obtain ⟨n1, n2⟩ := h.ob_free (h.core.op p ob s hp e)
  refine h.rows o4 n1 n2 (h.core.step hp e l4 q4 o4) (fun q => ?_)
  by_cases g : q = p
  · subst g; rw [upd_same, e]; rfl
  · rw [upd_other _ _ _ _ g]
/-- One of the struct's own cells turns. -/
theorem Gw.put (h : Gw w1 w rg B base c gb tb L t po psh nx iv ins lost most) (i : Nat) (x : Value) {psh' : Bool} {nx' lost' most' : Int}
    (e : ∀ j, j < 10 → upd (gf rg tb (opv (po 0)) psh nx iv lost most) i x j = gf rg tb (opv (po 0)) psh' nx' iv lost' most' j) : Gw w1 (w.setCell ⟨gb, i, none⟩ x) rg B base c gb tb L t po psh' nx' iv ins lost' most' := by
  have o := only_cell w gb i x
  refine ⟨h.core.keep o (fun k z => by rw [z]; exact h.apg), ?_, (o.block tb (lt_of_block h.tbh) (fun z => h.ne z.symm)).trans h.tbh, h.g1, h.g2⟩
  rw [row_set h.gbh, rowC_congr e]
theorem Gw.setPush (h : Gw w1 w rg B base c gb tb L t po psh nx iv ins lost most) (b : Bool) : Gw w1 (w.setCell ⟨gb, 2, none⟩ (.bool b)) rg B base c gb tb L t po b nx iv ins lost most := h.put 2 _ (ten rfl rfl rfl rfl rfl rfl rfl rfl rfl rfl)
theorem Gw.setNext (h : Gw w1 w rg B base c gb tb L t po psh nx iv ins lost most) (x : Int) : Gw w1 (w.setCell ⟨gb, 3, none⟩ (.int .u64 x)) rg B base c gb tb L t po psh x iv ins lost most := h.put 3 _ (ten rfl rfl rfl rfl rfl rfl rfl rfl rfl rfl)
theorem Gw.setLost (h : Gw w1 w rg B base c gb tb L t po psh nx iv ins lost most) (x : Int) : Gw w1 (w.setCell ⟨gb, 8, none⟩ (.int .i64 x)) rg B base c gb tb L t po psh nx iv ins x most := h.put 8 _ (ten rfl rfl rfl rfl rfl rfl rfl rfl rfl rfl)
theorem Gw.setMost (h : Gw w1 w rg B base c gb tb L t po psh nx iv ins lost most) (x : Int) : Gw w1 (w.setCell ⟨gb, 9, none⟩ (.int .i64 x)) rg B base c gb tb L t po psh nx iv ins lost x := h.put 9 _ (ten rfl rfl rfl rfl rfl rfl rfl rfl rfl rfl)
/-- The owner's cell turns, and the operation that it means. -/
theorem Gw.own0 (h : Gw w1 w rg B base c gb tb L t po psh nx iv ins lost most) (y : Option (Nat × OS)) (k : Core w1 (w.setCell ⟨gb, 1, none⟩ (opv y)) rg B base c L t (upd po 0 y) iv ins) : Gw w1 (w.setCell ⟨gb, 1, none⟩ (opv y)) rg B base c gb tb L t (upd po 0 y) psh nx iv ins lost most := by
  have o := only_cell w gb 1 (opv y)
  refine ⟨k, ?_, ?_, h.g1, h.g2⟩
  · rw [row_set h.gbh, rowC_congr (ten (P := fun j => upd (gf rg tb (opv (po 0)) psh nx iv lost most) 1 (opv y) j = gf rg tb (opv (upd po 0 y 0)) psh nx iv lost most j) rfl rfl rfl rfl rfl rfl rfl rfl rfl rfl)]
  · rw [show (fun q => opv (upd po 0 y (q + 1))) = (fun q => opv (po (q + 1))) from funext (fun q => by rw [upd_other _ _ _ _ (by omega)])]
    exact (o.block tb (lt_of_block h.tbh) (fun z => h.ne z.symm)).trans h.tbh
theorem Gw.drop0 (h : Gw w1 w rg B base c gb tb L t po psh nx iv ins lost most) : Gw w1 (w.setCell ⟨gb, 1, none⟩ (.pointer none)) rg B base c gb tb L t (upd po 0 none) psh nx iv ins lost most :=
  h.own0 none ((h.core.drop 0).keep (only_cell w gb 1 _) (fun k z => by
    rw [z]
    obtain ⟨a1, a2, a3, a4, a5, a6⟩ := h.apg
    refine ⟨a1, a2, a3, a4, fun q ob s2 hq e => ?_, a6⟩
    by_cases g : q = 0
    · subst g; rw [upd_same] at e; simp at e
    · rw [upd_other _ _ _ _ g] at e; exact a5 q ob s2 hq e))
theorem Gw.begin0 (h : Gw w1 w rg B base c gb tb L t po psh nx iv ins lost most) {s : OS} (q3 : Op1 w1 w' w.heap.size rg (B + 1) B s) (o3 : Only Nil w w') :
    Gw w1 (w'.setCell ⟨gb, 1, none⟩ (.pointer (some ⟨w.heap.size, 0, none⟩))) rg B base c gb tb L t (upd po 0 (some (w.heap.size, s))) psh nx iv ins lost most := by
  have h' := h.nil o3
  refine h'.own0 (some (w.heap.size, s)) ((h.core.begin q3 o3).keep (only_cell w' gb 1 _) (fun k z => ?_))
  rw [z]
  obtain ⟨a1, a2, a3, a4, a5, a6⟩ := h'.apg
  refine ⟨a1, a2, a3, a4, fun q ob s2 hq e => ?_, a6⟩
  by_cases g : q = 0
  · subst g; rw [upd_same] at e; simp at e; rw [← e.1]; have := lt_of_block h.gbh; omega
  · rw [upd_other _ _ _ _ g] at e; exact a5 q ob s2 hq e
/-- A thief's cell turns, and the operation that it means. -/
theorem Gw.ownT (h : Gw w1 w rg B base c gb tb L t po psh nx iv ins lost most) (i : Nat) (y : Option (Nat × OS)) (k : Core w1 (w.setCell ⟨tb, i, none⟩ (opv y)) rg B base c L t (upd po (i + 1) y) iv ins) : Gw w1 (w.setCell ⟨tb, i, none⟩ (opv y)) rg B base c gb tb L t (upd po (i + 1) y) psh nx iv ins lost most := by
  have o := only_cell w tb i (opv y)
  refine ⟨k, ?_, ?_, h.g1, h.g2⟩
  · rw [upd_other _ _ _ _ (by omega)]; exact (o.block gb (lt_of_block h.gbh) h.ne).trans h.gbh
  · rw [row_set h.tbh]
    congr 2
    apply rowC_congr
    intro q _
    by_cases g : q = i
    · subst g; rw [upd_same, upd_same]
    · rw [upd_other _ _ _ _ g, upd_other _ _ _ _ (by omega)]
theorem Gw.dropT (h : Gw w1 w rg B base c gb tb L t po psh nx iv ins lost most) (i : Nat) : Gw w1 (w.setCell ⟨tb, i, none⟩ (.pointer none)) rg B base c gb tb L t (upd po (i + 1) none) psh nx iv ins lost most :=
  h.ownT i none ((h.core.drop (i + 1)).keep (only_cell w tb i _) (fun k z => by
    rw [z]
    obtain ⟨a1, a2, a3, a4, a5, a6⟩ := h.apt
    refine ⟨a1, a2, a3, a4, fun q ob s2 hq e => ?_, a6⟩
    by_cases g : q = i + 1
    · subst g; rw [upd_same] at e; simp at e
    · rw [upd_other _ _ _ _ g] at e; exact a5 q ob s2 hq e))
theorem Gw.beginT (h : Gw w1 w rg B base c gb tb L t po psh nx iv ins lost most) (i : Nat) {s : OS} (q3 : Op1 w1 w' w.heap.size rg (B + 1) B s) (o3 : Only Nil w w') :
    Gw w1 (w'.setCell ⟨tb, i, none⟩ (.pointer (some ⟨w.heap.size, 0, none⟩))) rg B base c gb tb L t (upd po (i + 1) (some (w.heap.size, s))) psh nx iv ins lost most := by
  have h' := h.nil o3
  refine h'.ownT i (some (w.heap.size, s)) ((h.core.begin q3 o3).keep (only_cell w' tb i _) (fun k z => ?_))
  rw [z]
  obtain ⟨a1, a2, a3, a4, a5, a6⟩ := h'.apt
  refine ⟨a1, a2, a3, a4, fun q ob s2 hq e => ?_, a6⟩
  by_cases g : q = i + 1
  · subst g; rw [upd_same] at e; simp at e; rw [← e.1]; have := lt_of_block h.tbh; omega
  · rw [upd_other _ _ _ _ g] at e; exact a5 q ob s2 hq e
/-- Which of the struct's cells a row lies in. -/
def rc (r : Nat) : Nat := if r = 2 then 7 else r + 4
/-- What the blocks hold while a row grows. -/
theorem Gw.grown (h : Gw w1 w rg B base c gb tb L t po psh nx iv ins lost most) {r : Nat} (hr : r < 3) (gr : w.grownBy w' (iv r).ownBlock) :
    w'.heap[gb]? = some (.cells (rowC 10 (gf rg tb (opv (po 0)) psh nx iv lost most)) 32 (0, 0)) ∧ w'.heap[tb]? = some (.cells (rowC 2 fun q => opv (po (q + 1))) 27 (0, 0)) := by
  have o := Only.ofGrown gr
  have a1 := h.apg.2.2.2.2.2 r hr
  have a2 := h.apt.2.2.2.2.2 r hr
  exact ⟨(o.block gb (lt_of_block h.gbh) (fun z => a1 z.symm)).trans h.gbh, (o.block tb (lt_of_block h.tbh) (fun z => a2 z.symm)).trans h.tbh⟩
/-- One more is in a row: the row grown, and kept. -/
theorem Gw.grow (h : Gw w1 w rg B base c gb tb L t po psh nx iv ins lost most) {r : Nat} (hr : r < 3) {g cap : Nat} {x : Int}
    (own : w'.ownsRow base 28 1 (.slice (some ⟨g, 0, none⟩) ((ins r).length + 1) cap) ((ins r).length + 1) (uv (ins r) ++ [.int .u64 x])) (gr : w.grownBy w' (iv r).ownBlock) (hat : (iv r).ownBlock = some g ∨ g = w.heap.size) :
    (∀ i, i < 10 → w'.cell? ⟨gb, i, none⟩ = some (gf rg tb (opv (po 0)) psh nx iv lost most i) ∧ w'.frozen? ⟨gb, i, none⟩ = false) ∧ (∀ q, q < 2 → w'.cell? ⟨tb, q, none⟩ = some (opv (po (q + 1)))) ∧
    Gw w1 (w'.setCell ⟨gb, rc r, none⟩ (.slice (some ⟨g, 0, none⟩) ((ins r).length + 1) cap)) rg B base c gb tb L t po psh nx (upd iv r (.slice (some ⟨g, 0, none⟩) ((ins r).length + 1) cap)) (upd ins r (ins r ++ [x])) lost most := by
  have k := h.core.grow hr own gr hat
  obtain ⟨c1, c2⟩ := h.grown hr gr
  refine ⟨fun i hi => ⟨row_cell c1 i hi, row_frozen c1 i⟩, fun q hq => row_cell c2 q hq, ?_⟩
  have o2 := only_cell w' gb (rc r) (.slice (some ⟨g, 0, none⟩) ((ins r).length + 1) cap)
  refine ⟨k.keep o2 (fun k2 z => by rw [z]; exact k.apart c1 h.g1 (by decide) (by decide) (by decide) (by decide)), ?_, (o2.block tb (lt_of_block c2) (fun z => h.ne z.symm)).trans c2, h.g1, h.g2⟩
  rw [row_set c1]
  congr 2
  apply rowC_congr
  match r, hr with
  | 0, _ => exact ten rfl rfl rfl rfl rfl rfl rfl rfl rfl rfl
  | 1, _ => exact ten rfl rfl rfl rfl rfl rfl rfl rfl rfl rfl
  | 2, _ => exact ten rfl rfl rfl rfl rfl rfl rfl rfl rfl rfl
end
end Go.Proofs.Ytokopocldicnmaa.Dq
