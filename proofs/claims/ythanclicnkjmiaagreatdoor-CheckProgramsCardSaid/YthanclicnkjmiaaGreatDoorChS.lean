/- check: a program that came in, with its sizes in bytes. -/
import Derived.Test.YthanclicnkjmiaaGreatDoorChV
import Derived.Test.YthanclicnkjmiaaGreatDoorCtA
set_option linter.unusedVariables false
namespace Go.Proofs.YthanclicnkjmiaaGreatDoor.Ch
open Go Go.ChangeShapes Go.WideShapes Go.ChangeAt Go.RowKit Go.Joins Go.Deep Go.Proofs.YthanclicnkjmiaaGreatDoor Lx Ps
section
variable {H : Type} {enc : TypeId × Value → H} {w : World} {held : Bool}
/-- Sizes of a program that came in. -/
def bzR (x : Rw) : Prop := x.effs.length * 80 ≤ 140737488355328
def bzS (x : Sta) : Prop := x.rows.length * 56 ≤ 140737488355328 ∧ ∀ r ∈ x.rows, bzR r
def bzK (x : Kd) : Prop := x.cases.length * 24 ≤ 140737488355328 ∧ x.states.length * 40 ≤ 140737488355328 ∧ ∀ s ∈ x.states, bzS s
def bzP (P : List Kd) : Prop := P.length * 80 ≤ 140737488355328 ∧ ∀ k ∈ P, bzK k
set_option maxRecDepth 100000 in
theorem bopen_row {m : Nat} {cs : List Value} {x : DataW H × List MemPlace} (h : DataW.trod enc Tryz.prog w 0 (fun _ => true) held m 62 cs = some x) (hz : Sz Tryz.prog 62 x.1) :
    ∃ z : Rw × Value, cs = rowCs z ∧ XE w.heap.size w z.2 z.1.effs ∧ wfR z.1 ∧ bzR z.1 := by
  obtain ⟨y0, y1, y2, y3, n, rfl, hl, h0, h1, h2, h3⟩ := trod_struct4 Tryz.underlying62 h
  have hC : Tryz.prog.cellsOf 62 = 4 := by kernel_rfl
  rw [hC] at hl
  unfold Sz at hz
  simp only [DataW.weights, Tryz.underlying62, DataW.weightsEach, List.map_cons, List.map_nil, List.mem_append] at hz
  match cs, hl with
  | [v0, v1, v2, v3], _ =>
    have g0 : DataW.trod enc Tryz.prog w 0 (fun _ => true) held n 9 [v0] = some y0 := h0
    have g1 : DataW.trod enc Tryz.prog w 0 (fun _ => true) held n 4 [v1] = some y1 := h1
    have g2 : DataW.trod enc Tryz.prog w 0 (fun _ => true) held n 3 [v2] = some y2 := h2
    have g3 : DataW.trod enc Tryz.prog w 0 (fun _ => true) held n 60 [v3] = some y3 := h3
    obtain ⟨a0, rfl, i0⟩ := op_str g0 (fun k hk => hz k (Or.inl hk))
    obtain ⟨a1, rfl⟩ := op_bool g1
    obtain ⟨a2, rfl, i2⟩ := op_int g2
    obtain ⟨E, x3, i3, s3⟩ := open_effs g3 (fun k hk => hz k (Or.inr (Or.inr (Or.inr (Or.inl hk)))))
    exact ⟨(⟨a0, a1, a2, E⟩, v3), rfl, x3, ⟨i2, i0, i3⟩, by unfold bzR; dsimp only; omega⟩
theorem bopen_rows {m : Nat} {v : Value} {y : DataW H × List MemPlace} (h : DataW.trod enc Tryz.prog w 0 (fun _ => true) held m 57 [v] = some y) (hz : Sz Tryz.prog 57 y.1) :
    ∃ R : List Rw, XR w.heap.size w v R ∧ (∀ e ∈ R, wfR e) ∧ (∀ e ∈ R, bzR e) ∧ R.length * 56 ≤ 140737488355328 := by
  obtain ⟨v', e, Z, h1, h2, h3⟩ := open_sl (s := 4) (f := rowCs) (Q := fun z => XE w.heap.size w z.2 z.1.effs ∧ wfR z.1 ∧ bzR z.1) Tryz.underlying57 (by kernel_rfl) (by decide) (fun _ => rfl) bopen_row h hz
  simp only [List.cons.injEq, and_true] at e
  subst e
  have e6 : Tryz.prog.bytesOf 62 = 56 := by kernel_rfl
  rw [e6] at h3
  refine ⟨Z.map Prod.fst, ⟨Z, rfl, by rw [List.length_map]; exact h1, fun x hx => (h2 x hx).1⟩, fun e he => ?_, fun e he => ?_, by rw [List.length_map]; omega⟩
  · obtain ⟨z, hz', rfl⟩ := List.mem_map.1 he; exact (h2 z hz').2.1
  · obtain ⟨z, hz', rfl⟩ := List.mem_map.1 he; exact (h2 z hz').2.2
set_option maxRecDepth 100000 in
theorem bopen_sta {m : Nat} {cs : List Value} {x : DataW H × List MemPlace} (h : DataW.trod enc Tryz.prog w 0 (fun _ => true) held m 59 cs = some x) (hz : Sz Tryz.prog 59 x.1) :
    ∃ z : Sta × Value, cs = staCs z ∧ XR w.heap.size w z.2 z.1.rows ∧ wfS z.1 ∧ bzS z.1 := by
  obtain ⟨y0, y1, n, rfl, hl, h0, h1⟩ := trod_struct2 Tryz.underlying59 h
  have hC : Tryz.prog.cellsOf 59 = 2 := by kernel_rfl
  rw [hC] at hl
  unfold Sz at hz
  simp only [DataW.weights, Tryz.underlying59, DataW.weightsEach, List.map_cons, List.map_nil, List.mem_append] at hz
  match cs, hl with
  | [v0, v1], _ =>
    have g0 : DataW.trod enc Tryz.prog w 0 (fun _ => true) held n 9 [v0] = some y0 := h0
    have g1 : DataW.trod enc Tryz.prog w 0 (fun _ => true) held n 57 [v1] = some y1 := h1
    obtain ⟨a0, rfl, i0⟩ := op_str g0 (fun k hk => hz k (Or.inl hk))
    obtain ⟨R, x3, i3, s3, s4⟩ := bopen_rows g1 (fun k hk => hz k (Or.inr (Or.inl hk)))
    exact ⟨(⟨a0, R⟩, v1), rfl, x3, ⟨i0, i3⟩, ⟨s4, s3⟩⟩
theorem bopen_stas {m : Nat} {v : Value} {y : DataW H × List MemPlace} (h : DataW.trod enc Tryz.prog w 0 (fun _ => true) held m 54 [v] = some y) (hz : Sz Tryz.prog 54 y.1) :
    ∃ R : List Sta, XS w.heap.size w v R ∧ (∀ e ∈ R, wfS e) ∧ (∀ e ∈ R, bzS e) ∧ R.length * 40 ≤ 140737488355328 := by
  obtain ⟨v', e, Z, h1, h2, h3⟩ := open_sl (s := 2) (f := staCs) (Q := fun z => XR w.heap.size w z.2 z.1.rows ∧ wfS z.1 ∧ bzS z.1) Tryz.underlying54 (by kernel_rfl) (by decide) (fun _ => rfl) bopen_sta h hz
  simp only [List.cons.injEq, and_true] at e
  subst e
  have e6 : Tryz.prog.bytesOf 59 = 40 := by kernel_rfl
  rw [e6] at h3
  refine ⟨Z.map Prod.fst, ⟨Z, rfl, by rw [List.length_map]; exact h1, fun x hx => (h2 x hx).1⟩, fun e he => ?_, fun e he => ?_, by rw [List.length_map]; omega⟩
  · obtain ⟨z, hz', rfl⟩ := List.mem_map.1 he; exact (h2 z hz').2.1
  · obtain ⟨z, hz', rfl⟩ := List.mem_map.1 he; exact (h2 z hz').2.2
set_option maxRecDepth 100000 in
theorem bopen_kd {m : Nat} {cs : List Value} {x : DataW H × List MemPlace} (h : DataW.trod enc Tryz.prog w 0 (fun _ => true) held m 56 cs = some x) (hz : Sz Tryz.prog 56 x.1) :
    ∃ z : Kd × Value × Value, cs = kdCs z ∧ (XC w.heap.size w z.2.1 z.1.cases ∧ XS w.heap.size w z.2.2 z.1.states) ∧ wfK z.1 ∧ bzK z.1 := by
  obtain ⟨y0, y1, y2, y3, y4, n, e, hl, h0, h1, h2, h3, h4⟩ := trod_struct5 Tryz.underlying56 h
  have hC : Tryz.prog.cellsOf 56 = 5 := by kernel_rfl
  rw [hC] at hl
  unfold Sz at hz
  rw [e] at hz
  simp only [DataW.weights, Tryz.underlying56, DataW.weightsEach, List.map_cons, List.map_nil, List.mem_append] at hz
  match cs, hl with
  | [v0, v1, v2, v3, v4], _ =>
    have g0 : DataW.trod enc Tryz.prog w 0 (fun _ => true) held n 9 [v0] = some y0 := h0
    have g1 : DataW.trod enc Tryz.prog w 0 (fun _ => true) held n 3 [v1] = some y1 := h1
    have g2 : DataW.trod enc Tryz.prog w 0 (fun _ => true) held n 3 [v2] = some y2 := h2
    have g3 : DataW.trod enc Tryz.prog w 0 (fun _ => true) held n 53 [v3] = some y3 := h3
    have g4 : DataW.trod enc Tryz.prog w 0 (fun _ => true) held n 54 [v4] = some y4 := h4
    obtain ⟨a0, rfl, i0⟩ := op_str g0 (fun k hk => hz k (Or.inl hk))
    obtain ⟨a1, rfl, i1⟩ := op_int g1
    obtain ⟨a2, rfl, i2⟩ := op_int g2
    obtain ⟨C, x3, i3, s3⟩ := open_css g3 (fun k hk => hz k (Or.inr (Or.inr (Or.inr (Or.inl hk)))))
    obtain ⟨S, x4, i4, s4, s5⟩ := bopen_stas g4 (fun k hk => hz k (Or.inr (Or.inr (Or.inr (Or.inr (Or.inl hk))))))
    exact ⟨(⟨a0, a1, a2, C, S⟩, v3, v4), rfl, ⟨x3, x4⟩, ⟨i1, i2, i0, i3, i4⟩, ⟨by dsimp only; omega, s5, s4⟩⟩
theorem bopen_kds {m : Nat} {v : Value} {y : DataW H × List MemPlace} (h : DataW.trod enc Tryz.prog w 0 (fun _ => true) held m 23 [v] = some y) (hz : Sz Tryz.prog 23 y.1) :
    ∃ R : List Kd, XK w.heap.size w v R ∧ wfP R ∧ bzP R := by
  obtain ⟨v', e, Z, h1, h2, h3⟩ := open_sl (s := 5) (f := kdCs) (Q := fun z => (XC w.heap.size w z.2.1 z.1.cases ∧ XS w.heap.size w z.2.2 z.1.states) ∧ wfK z.1 ∧ bzK z.1) Tryz.underlying23 (by kernel_rfl) (by decide) (fun _ => rfl) bopen_kd h hz
  simp only [List.cons.injEq, and_true] at e
  subst e
  have e6 : Tryz.prog.bytesOf 56 = 80 := by kernel_rfl
  rw [e6] at h3
  refine ⟨Z.map Prod.fst, ⟨Z, rfl, by rw [List.length_map]; exact h1, fun x hx => (h2 x hx).1⟩, fun e he => ?_, ⟨by rw [List.length_map]; omega, fun e he => ?_⟩⟩
  · obtain ⟨z, hz', rfl⟩ := List.mem_map.1 he; exact (h2 z hz').2.1
  · obtain ⟨z, hz', rfl⟩ := List.mem_map.1 he; exact (h2 z hz').2.2
set_option maxRecDepth 100000 in
/-- A program that came in. -/
theorem bopen_prog {m : Nat} {v : Value} {y : DataW H × List MemPlace} (hok : ∃ cs, v = .agg cs) (h : DataW.trod enc Tryz.prog w 0 (fun _ => true) held m 25 v.cells.toList = some y) (hz : Sz Tryz.prog 25 y.1) :
    ∃ sl P, v = .agg #[sl] ∧ XK w.heap.size w sl P ∧ wfP P ∧ bzP P := by
  obtain ⟨⟨cs⟩, rfl⟩ := hok
  have h' : DataW.trod enc Tryz.prog w 0 (fun _ => true) held m 25 cs = some y := h
  obtain ⟨y0, n, rfl, hl, h0⟩ := trod_struct1 Tryz.underlying25 h'
  have hC : Tryz.prog.cellsOf 25 = 1 := by kernel_rfl
  rw [hC] at hl
  unfold Sz at hz
  simp only [DataW.weights, Tryz.underlying25, DataW.weightsEach, List.map_cons, List.map_nil, List.mem_append] at hz
  match cs, hl with
  | [v0], _ =>
    have g0 : DataW.trod enc Tryz.prog w 0 (fun _ => true) held n 23 [v0] = some y0 := h0
    obtain ⟨P, x1, x2, x3⟩ := bopen_kds g0 (fun k hk => hz k (Or.inl hk))
    exact ⟨v0, P, rfl, x1, x2, x3⟩

end
theorem bzR.sz {x : Rw} (h : bzR x) : szR x := by unfold bzR at h; unfold szR; omega
theorem bzS.sz {x : Sta} (h : bzS x) : szS x := ⟨by have := h.1; omega, fun r hr => (h.2 r hr).sz⟩
theorem bzK.sz {x : Kd} (h : bzK x) : szK x := ⟨by have := h.1; omega, by have := h.2.1; omega, fun r hr => (h.2.2 r hr).sz⟩
theorem bzP.sz {P : List Kd} (h : bzP P) : szP P := ⟨by have := h.1; omega, fun r hr => (h.2 r hr).sz⟩
end Go.Proofs.YthanclicnkjmiaaGreatDoor.Ch
