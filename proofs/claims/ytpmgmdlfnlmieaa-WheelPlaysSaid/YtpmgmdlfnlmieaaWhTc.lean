/- wheel, the document's: rows that grow; Add. -/
import Derived.Test.YtpmgmdlfnlmieaaWhTb
namespace Go.Proofs.Ytpmgmdlfnlmieaa.Wh
open Go.RowKit Go.Proofs.Ytpmgmdlfnlmieaa

theorem Try.infoInt : (Try.prog.info? 3).map (fun i => (i.zero, i.size, i.bytes)) = some (some (.int .i64 0), 1, 8) := by kernel_rfl

/-- The Wheels that lie in the blocks of K, with the cells that K says. -/
def Kept (w : World) (K : Nat → Array Value → Prop) : Prop := ∀ q cs, K q cs → w.heap[q]? = some (.cells cs 29 (0, 0))
/-- A Wheel of the document's that is being made at O; those of K lie beside it. -/
structure Mk (w0 w : World) (K : Nat → Array Value → Prop) (O : Nat) (n : Int) (i d : Value) (I D : List Tm) : Prop where
  out : OutAt w0 w O n i d I D
  box : Kept w K
  ne : ∀ q cs, K q cs → q ≠ O
/-- The six cells, and the ends. -/
def Six (w : World) (B O : Nat) (n0 : Int) (i0 d0 : Value) (n : Int) (i d : Value) : Prop :=
  (w.cell? ⟨B, 0, none⟩ = some (.int .i64 n0) ∧ w.cell? ⟨B, 1, none⟩ = some i0 ∧ w.cell? ⟨B, 2, none⟩ = some d0 ∧ B < w.heap.size) ∧
  (w.cell? ⟨O, 0, none⟩ = some (.int .i64 n) ∧ w.cell? ⟨O, 1, none⟩ = some i ∧ w.cell? ⟨O, 2, none⟩ = some d ∧ w.frozen? ⟨O, 0, none⟩ = false ∧ w.frozen? ⟨O, 1, none⟩ = false ∧ w.frozen? ⟨O, 2, none⟩ = false ∧ O < w.heap.size)
theorem six_of {w : World} {B O : Nat} {n0 : Int} {i0 d0 : Value} {n : Int} {i d : Value} (hb : w.heap[B]? = some (.cells #[.int .i64 n0, i0, d0] 29 (0, 0))) (ho : w.heap[O]? = some (.cells #[.int .i64 n, i, d] 29 (0, 0))) : Six w B O n0 i0 d0 n i d :=
  ⟨⟨by simp [World.cell?, hb], by simp [World.cell?, hb], by simp [World.cell?, hb], lt_of_block hb⟩,
   ⟨by simp [World.cell?, ho], by simp [World.cell?, ho], by simp [World.cell?, ho], by simp [World.frozen?, ho], by simp [World.frozen?, ho], by simp [World.frozen?, ho], lt_of_block ho⟩⟩

section
variable {w0 w X : World} {K : Nat → Array Value → Prop} {O : Nat} {n : Int} {i d : Value} {I D : List Tm}
theorem Mk.nil (h : Mk w0 w K O n i d I D) (o : Only Nil w X) : Mk w0 X K O n i d I D := ⟨h.out.nil o, fun q cs hq => (o.block q (lt_of_block (h.box q cs hq)) (fun h => h.elim)).trans (h.box q cs hq), h.ne⟩

theorem Mk.step1 {w5 : World} {a a' : Option Addr} {len c len' c' : Nat} {I' : List Tm} (h : Mk w0 w K O n i d I D) (oX : Only Nil w X) (hi : i = .slice a len c) (ho : w5.ownsRow 0 30 1 (.slice a' len' c') len' (ids I')) (hon : Only (RowOf a) X w5) (hsn : SameOrNew X a a') :
    (Kept w5 K ∧ w5.heap[O]? = some (.cells #[.int .i64 n, i, d] 29 (0, 0))) ∧ Mk w0 (w5.setCell ⟨O, 1, none⟩ (.slice a' len' c')) K O n (.slice a' len' c') d I' D := by
  obtain ⟨h1, h2⟩ := h.out.setId oX hi ho hon hsn
  have hX := h.nil oX
  have hb : Kept w5 K := fun q cs hq => (hon.block q (lt_of_block (hX.box q cs hq)) (by
    rintro ⟨x, rfl, hx⟩
    exact own_ne hX.out.ri (hX.box q cs hq) (by decide) (by rw [hi, hx]; rfl))).trans (hX.box q cs hq)
  exact ⟨⟨hb, h1⟩, h2, fun q cs hq => by rw [Below.heap_setCell _ _ _ _ (h.ne q cs hq)]; exact hb q cs hq, h.ne⟩
theorem Mk.step2 {w5 : World} {a a' : Option Addr} {len c len' c' : Nat} {D' : List Tm} (h : Mk w0 w K O n i d I D) (oX : Only Nil w X) (hi : d = .slice a len c) (ho : w5.ownsRow 0 3 1 (.slice a' len' c') len' (dues D')) (hon : Only (RowOf a) X w5) (hsn : SameOrNew X a a') :
    (Kept w5 K ∧ w5.heap[O]? = some (.cells #[.int .i64 n, i, d] 29 (0, 0))) ∧ Mk w0 (w5.setCell ⟨O, 2, none⟩ (.slice a' len' c')) K O n i (.slice a' len' c') I D' := by
  obtain ⟨h1, h2⟩ := h.out.setDue oX hi ho hon hsn
  have hX := h.nil oX
  have hb : Kept w5 K := fun q cs hq => (hon.block q (lt_of_block (hX.box q cs hq)) (by
    rintro ⟨x, rfl, hx⟩
    exact own_ne hX.out.rd (hX.box q cs hq) (by decide) (by rw [hi, hx]; rfl))).trans (hX.box q cs hq)
  exact ⟨⟨hb, h1⟩, h2, fun q cs hq => by rw [Below.heap_setCell _ _ _ _ (h.ne q cs hq)]; exact hb q cs hq, h.ne⟩

/-- An id more. -/
theorem Mk.pushId (h : Mk w0 w K O n i d I D) (few : I.length ≤ 60000) (oX : Only Nil w X) (q : Nat) (t : Tm) (hq : X.heap[q]? = some (.cells #[.int .u64 (t.id : Int)] 30 (0, 0))) :
    ∃ a' c' w', (Builtin.append_ #[26, 26] 26 #[i, .slice (some ⟨q, 0, none⟩) 1 1]).run Try.prog X = .ok (.slice a' (I.length + 1) c') w' ∧ Hid ((Kept w' K ∧ w'.heap[O]? = some (.cells #[.int .i64 n, i, d] 29 (0, 0))) ∧ Mk w0 (w'.setCell ⟨O, 1, none⟩ (.slice a' (I.length + 1) c')) K O n (.slice a' (I.length + 1) c') d (I ++ [t]) D) := by
  have hX := h.nil oX
  obtain ⟨a, c, hi⟩ := own_slice_n hX.out.ri
  have hr := hX.out.ri
  rw [hi] at hr ⊢
  obtain ⟨a', c', w', h1, h2, h3, h4⟩ := run_append_end (P := Try.prog) (t := 26) (ty := 26) Try.underlying26 Try.infoU64 rfl hr ⟨q, 0, none⟩ [.int .u64 (t.id : Int)] rfl (by intro u hu; simp at hu; subst hu; rfl) (fun j u hj => by
    rw [add_lit0, Nat.zero_add, cell_of_row X q _ _ _ _ hq]
    simpa using hj) (by omega) (by decide)
  refine ⟨a', c', w', h1, Lib.hid ?_⟩
  have := h.step1 (I' := I ++ [t]) oX hi (by rw [ids_append]; exact h2) h3 h4
  rw [hi] at this
  exact this
/-- A due tick more. -/
theorem Mk.pushDue (h : Mk w0 w K O n i d I D) (few : D.length ≤ 60000) (oX : Only Nil w X) (q : Nat) (t : Tm) (hq : X.heap[q]? = some (.cells #[.int .i64 (t.due : Int)] 3 (0, 0))) :
    ∃ a' c' w', (Builtin.append_ #[27, 27] 27 #[d, .slice (some ⟨q, 0, none⟩) 1 1]).run Try.prog X = .ok (.slice a' (D.length + 1) c') w' ∧ Hid ((Kept w' K ∧ w'.heap[O]? = some (.cells #[.int .i64 n, i, d] 29 (0, 0))) ∧ Mk w0 (w'.setCell ⟨O, 2, none⟩ (.slice a' (D.length + 1) c')) K O n i (.slice a' (D.length + 1) c') I (D ++ [t])) := by
  have hX := h.nil oX
  obtain ⟨a, c, hi⟩ := own_slice_n hX.out.rd
  have hr := hX.out.rd
  rw [hi] at hr ⊢
  obtain ⟨a', c', w', h1, h2, h3, h4⟩ := run_append_end (P := Try.prog) (t := 27) (ty := 27) Try.underlying27 Try.infoInt rfl hr ⟨q, 0, none⟩ [.int .i64 (t.due : Int)] rfl (by intro u hu; simp at hu; subst hu; rfl) (fun j u hj => by
    rw [add_lit0, Nat.zero_add, cell_of_row X q _ _ _ _ hq]
    simpa using hj) (by omega) (by decide)
  refine ⟨a', c', w', h1, Lib.hid ?_⟩
  have := h.step2 (D' := D ++ [t]) oX hi (by rw [dues_append]; exact h2) h3 h4
  rw [hi] at this
  exact this
/-- All ids of a row that there is. -/
theorem Mk.copyId {L : List Tm} {x : Value} (h : Mk w0 w K O n (.slice none 0 0) d [] D) (few : L.length ≤ 60000) (hx : w0.ownsRow 0 30 1 x L.length (ids L)) :
    ∃ a' c' w', (Builtin.append_ #[26, 26] 26 #[.slice none 0 0, x]).run Try.prog w = .ok (.slice a' L.length c') w' ∧ Hid ((Kept w' K ∧ w'.heap[O]? = some (.cells #[.int .i64 n, .slice none 0 0, d] 29 (0, 0))) ∧ Mk w0 (w'.setCell ⟨O, 1, none⟩ (.slice a' L.length c')) K O n (.slice a' L.length c') d L D) := by
  obtain ⟨a', c', w', h1, h2, h3, h4⟩ := run_append_copy (P := Try.prog) (t := 26) (ty := 26) Try.underlying26 Try.infoU64 rfl (by decide) (own_keep hx h.out.only (fun _ _ h => h)) (by omega)
  exact ⟨a', c', w', h1, Lib.hid (h.step1 (X := w) (Only.refl _ _) rfl h2 (h3.nilTo _) (fun y hy => .inr (h4 y hy)))⟩
theorem Mk.copyDue {L : List Tm} {x : Value} (h : Mk w0 w K O n i (.slice none 0 0) I []) (few : L.length ≤ 60000) (hx : w0.ownsRow 0 3 1 x L.length (dues L)) :
    ∃ a' c' w', (Builtin.append_ #[27, 27] 27 #[.slice none 0 0, x]).run Try.prog w = .ok (.slice a' L.length c') w' ∧ Hid ((Kept w' K ∧ w'.heap[O]? = some (.cells #[.int .i64 n, i, .slice none 0 0] 29 (0, 0))) ∧ Mk w0 (w'.setCell ⟨O, 2, none⟩ (.slice a' L.length c')) K O n i (.slice a' L.length c') I L) := by
  obtain ⟨a', c', w', h1, h2, h3, h4⟩ := run_append_copy (P := Try.prog) (t := 27) (ty := 27) Try.underlying27 Try.infoInt rfl (by decide) (own_keep hx h.out.only (fun _ _ h => h)) (by omega)
  exact ⟨a', c', w', h1, Lib.hid (h.step2 (X := w) (Only.refl _ _) rfl h2 (h3.nilTo _) (fun y hy => .inr (h4 y hy)))⟩
end

theorem set3_heap {w : World} {q : Nat} {x0 x1 x2 : Value} {t : TypeId} (h : w.heap[q]? = some (.cells #[x0, x1, x2] t (0, 0))) (y0 y1 y2 : Value) :
    ((((w.setCell ⟨q, 0, none⟩ y0).setCell ⟨q, 1, none⟩ y1).setCell ⟨q, 2, none⟩ y2)).heap[q]? = some (.cells #[y0, y1, y2] t (0, 0)) := by
  rw [heap_setCell_self _ (heap_setCell_self _ (heap_setCell_self _ h))]; rfl

theorem radd_bad (w : World) (n : Nat) (i d : Value) (id x : Int) (hx : x < 1 ∨ 4095 < x) (hi : ∃ a l c, i = .slice a l c) (hd : ∃ a l c, d = .slice a l c) :
    Calls Try.prog 11 #[.agg #[.int .i64 (n : Int), i, d], .int .u64 id, .int .i64 x] w fun e w' => e = .returned (.tuple #[.agg #[.int .i64 (n : Int), i, d], .int .i64 1]) ∧ Only Nil w w' := by
  obtain ⟨a, la, ca, rfl⟩ := hi
  obtain ⟨b, lb, cb, rfl⟩ := hd
  have hx2 : x < 1 ∨ ¬ (x < 1) ∧ 4095 < x := by omega
  clear hx
  rcases hx2 with hx2 | ⟨hx2, hx3⟩
  all_goals
    go_enter Try.func11, Try.ntmps11
    go_wp2
    refine bodyPost_ret (results_at rfl _ _ (w.heap.size + 1) [.int .i64 (n : Int), .slice a la ca, .slice b lb cb] Try.isAgg29 Try.sizeOf29 rfl (by
      have := heap_new (w.alloc (.cells #[.int .i64 (n : Int), .slice a la ca, .slice b lb cb] 29)) (.cells #[.int .i64 (n : Int), .slice a la ca, .slice b lb cb] 29)
      simpa using this)) rfl ?_
    exact ⟨rfl, ((Only.refl Nil w).alloc _).alloc _⟩
end Go.Proofs.Ytpmgmdlfnlmieaa.Wh
