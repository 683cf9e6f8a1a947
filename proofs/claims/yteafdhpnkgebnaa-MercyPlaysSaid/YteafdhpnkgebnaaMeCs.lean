/- mercy: cases that came in, opened. -/
import Derived.Test.YteafdhpnkgebnaaMeF
import Derived.Deep.Slices
import Derived.Deep.Fields
import Derived.Lib.SmallJoins
import Derived.SizedLaws
import Derived.ChangeMaps5
set_option linter.unusedSimpArgs false
set_option linter.unusedVariables false
namespace Go.Proofs.Yteafdhpnkgebnaa.Me
open Go Go.ChangeShapes Go.WideShapes Go.ChangeAt Go.RowKit Go.Joins Go.Deep Go.Proofs.Yteafdhpnkgebnaa

abbrev Wd := List UInt8
def bs (l : List UInt8) : ByteArray := ⟨l.toArray⟩
theorem bs_of (s : ByteArray) : bs s.data.toList = s := by cases s; simp [bs]
structure Cs where
  reason : Wd
  act : Int
deriving Inhabited, DecidableEq
def csC (c : Cs) : List Value := [.string (bs c.reason), .int .i64 c.act]
def inW (n : Int) : Prop := -9223372036854775808 ≤ n ∧ n ≤ 9223372036854775807
structure wfC (c : Cs) : Prop where
  act : inW c.act
  reason : c.reason.length ≤ 140737488355328
theorem cellLt {w : World} {b k : Nat} {v : Value} (h : w.cell? ⟨b, k, none⟩ = some v) : b < w.heap.size := by
  rcases Nat.lt_or_ge b w.heap.size with h' | h'
  · exact h'
  · simp [World.cell?, Array.getElem?_eq_none h'] at h
theorem only_cellS {S : Nat → Prop} {w w' : World} (o : Only S w w') {b k : Nat} {v : Value} (hb : ¬ S b) (h : w.cell? ⟨b, k, none⟩ = some v) : w'.cell? ⟨b, k, none⟩ = some v :=
  (World.cell?_of_block (a := ⟨b, k, none⟩) (o.block b (cellLt h) hb)).trans h
def CIn (D : Nat) (w : World) (v : Value) (n s : Nat) (cs : List Value) : Prop :=
  ∃ a c, (v = .slice a n c ∧ n ≤ c) ∧ cs.length = n * s ∧ ∀ i, i < cs.length → ∃ b off, a = some ⟨b, off, none⟩ ∧ b < D ∧ b < w.heap.size ∧ ∀ j, j < cs.length → w.cell? ⟨b, off + j, none⟩ = cs[j]?
theorem CIn.keep {D : Nat} {S : Nat → Prop} {w w' : World} {v : Value} {n s : Nat} {cs : List Value} (h : CIn D w v n s cs) (o : Only S w w') (hS : ∀ b, b < D → ¬ S b) : CIn D w' v n s cs := by
  obtain ⟨a, c, h1, h2, h3⟩ := h
  refine ⟨a, c, h1, h2, fun i hi => ?_⟩
  obtain ⟨b, off, ha, hD, hlt, hc⟩ := h3 i hi
  refine ⟨b, off, ha, hD, Nat.lt_of_lt_of_le hlt o.size, fun j hj => ?_⟩
  have e : cs[j]? = some cs[j] := by simp [hj]
  rw [e]
  exact only_cellS o (hS b hD) ((hc j hj).trans e)
theorem CIn.slice {D : Nat} {w : World} {v : Value} {n s : Nat} {cs : List Value} (h : CIn D w v n s cs) : ∃ a c, v = .slice a n c := by
  obtain ⟨a, c, h1, _⟩ := h; exact ⟨a, c, h1.1⟩
def XC (D : Nat) (w : World) (v : Value) (L : List Cs) : Prop := CIn D w v L.length 2 (L.flatMap csC)
theorem flat_get {α : Type} (f : α → List Value) (s : Nat) (hf : ∀ x, (f x).length = s) (L : List α) (j k : Nat) (hj : j < L.length) (hk : k < s) : (L.flatMap f)[j * s + k]? = (f L[j])[k]? := by
  induction L generalizing j with
  | nil => simp at hj
  | cons x L ih =>
    rw [List.flatMap_cons]
    cases j with
    | zero => rw [Nat.zero_mul, Nat.zero_add, List.getElem?_append_left (by rw [hf]; exact hk)]; rfl
    | succ j =>
      rw [List.getElem?_append_right (by rw [hf, Nat.add_mul]; omega), hf]
      have e : (j + 1) * s + k - s = j * s + k := by rw [Nat.add_mul]; omega
      rw [e, ih j (by simpa using hj)]
      rfl
theorem add_addP (b off j k : Nat) : ((⟨b, off, none⟩ : Addr).add j).add k = ⟨b, off + j + k, none⟩ := by
  have e : ∀ o n, (⟨b, o, none⟩ : Addr).add n = ⟨b, o + n, none⟩ := fun o n => by
    by_cases h : n = 0
    · subst h; simp [Addr.add]
    · simp [Addr.add, h]
  rw [e, e]
section
variable {H : Type} {enc : TypeId × Value → H} {w : World} {held : Bool}
def Sz (P : Program) (t : TypeId) (d : DataW H) : Prop := ∀ k ∈ d.weights P t, k ≤ 140737488355328
theorem sz_all {P : Program} {e : TypeId} {l : List (DataW H)} (h : ∀ k ∈ DataW.weightsAll P e l, k ≤ 140737488355328) {d : DataW H} (hd : d ∈ l) : Sz P e d := by
  induction l with
  | nil => cases hd
  | cons x l ih =>
    simp only [DataW.weightsAll, List.mem_append] at h
    rcases List.mem_cons.1 hd with rfl | hd
    · exact fun k hk => h k (Or.inl hk)
    · exact ih (fun k hk => h k (Or.inr hk)) hd
set_option maxRecDepth 100000 in
theorem open_sl {α : Type} [Inhabited α] {P : Program} {t e : TypeId} {s : Nat} {f : α → List Value} {Q : α → Prop} (ht : P.underlying t = some (.slice e)) (hC : P.cellsOf e = s) (hs : 0 < s) (hf : ∀ x, (f x).length = s)
    (elem : ∀ {m : Nat} {cs : List Value} {x : DataW H × List MemPlace}, DataW.trod enc P w 0 (fun _ => true) held m e cs = some x → Sz P e x.1 → ∃ z : α, cs = f z ∧ Q z)
    {fuel : Nat} {cs : List Value} {x : DataW H × List MemPlace} (h : DataW.trod enc P w 0 (fun _ => true) held fuel t cs = some x) (hw : Sz P t x.1) :
    ∃ v, cs = [v] ∧ ∃ Z : List α, CIn w.heap.size w v Z.length s (Z.flatMap f) ∧ (∀ z ∈ Z, Q z) ∧ Z.length * P.bytesOf e ≤ 140737488355328 := by
  rcases open_slice ht h with ⟨rfl, rfl⟩ | ⟨y, len, c, m, n, D, Pl, rfl, _, hl, hm, hmm, rfl, hi⟩
  · exact ⟨_, rfl, [], ⟨none, 0, ⟨rfl, Nat.le_refl _⟩, by simp, (fun i hi => by simp at hi)⟩, (fun z hz => by cases hz), by simp⟩
  · simp only [if_true] at hmm
    subst hmm
    rw [hC] at hi
    have hw' : (∀ k, k = (len + (m - len)) * P.bytesOf e → k ≤ 140737488355328) ∧ ∀ k ∈ DataW.weightsAll P e ((List.range len).map D), k ≤ 140737488355328 := by
      have h0 : ∀ k ∈ (((List.range len).map D).length + ((List.range (m - len)).map fun j => D (len + j)).length) * P.bytesOf e :: (DataW.weightsAll P e ((List.range len).map D) ++ DataW.weightsAll P e ((List.range (m - len)).map fun j => D (len + j))), k ≤ 140737488355328 := by
        have := hw
        unfold Sz at this
        simp only [DataW.weights, ht] at this
        exact this
      refine ⟨fun k hk => h0 k ?_, fun k hk => h0 k (List.mem_cons_of_mem _ (List.mem_append_left _ hk))⟩
      rw [hk]; simp
    obtain ⟨g, hg⟩ := choose_lt (α := α) (n := len) (p := fun i z => (∀ k, k < s → w.cell? ((y.add (i * s)).add k) = (f z)[k]?) ∧ Q z) (fun i hil => by
      obtain ⟨cs', hc, htr⟩ := hi i (by omega)
      obtain ⟨_, hlc, hat⟩ := World.cells?_some hc
      obtain ⟨z, rfl, hz⟩ := elem htr (sz_all hw'.2 (List.mem_map.2 ⟨i, by simpa using hil, rfl⟩))
      exact ⟨z, hat, hz⟩)
    have hlen : ((List.range len).map g).length = len := by simp
    refine ⟨_, rfl, (List.range len).map g, ⟨some y, m, ⟨by rw [hlen], by rw [hlen]; omega⟩, ?_, ?_⟩, ?_, ?_⟩
    · have : ∀ L : List α, (L.flatMap f).length = L.length * s := fun L => by
        induction L with
        | nil => simp
        | cons a L ih => rw [List.flatMap_cons, List.length_append, hf, ih, List.length_cons, Nat.add_mul]; omega
      exact this _
    · have hL : ∀ L : List α, (L.flatMap f).length = L.length * s := fun L => by
        induction L with
        | nil => simp
        | cons a L ih => rw [List.flatMap_cons, List.length_append, hf, ih, List.length_cons, Nat.add_mul]; omega
      intro i hi'
      rw [hL, hlen] at hi'
      have hl0 : 0 < len := by rcases Nat.eq_zero_or_pos len with h0 | h0; (subst h0; simp at hi'); exact h0
      obtain ⟨b, off, spot⟩ := y
      have hx : ∃ v, (f (g 0))[0]? = some v := ⟨(f (g 0))[0]'(by rw [hf]; exact hs), by simp⟩
      obtain ⟨v0, hv0⟩ := hx
      have h0 := ((hg 0 hl0).1 0 hs).trans hv0
      have hspot : spot = none := by simpa [Addr.add] using World.cell?_spot h0
      subst hspot
      have hb : b < w.heap.size := by
        rw [add_addP] at h0
        exact cellLt h0
      refine ⟨b, off, rfl, hb, hb, fun j hj => ?_⟩
      rw [hL, hlen] at hj
      have hj1 : j / s < len := (Nat.div_lt_iff_lt_mul hs).2 hj
      have hj2 : j % s < s := Nat.mod_lt _ hs
      have hj3 : j = j / s * s + j % s := by rw [Nat.mul_comm]; exact (Nat.div_add_mod j s).symm
      have h1 := (hg (j / s) hj1).1 (j % s) hj2
      rw [add_addP] at h1
      have h2 := flat_get f s hf ((List.range len).map g) (j / s) (j % s) (by rw [hlen]; exact hj1) hj2
      simp only [List.getElem_map, List.getElem_range] at h2
      rw [hj3, h2, ← Nat.add_assoc]
      exact h1
    · intro z hz
      obtain ⟨i, hi', rfl⟩ := List.mem_map.1 hz
      exact (hg i (by simpa using hi')).2
    · rw [hlen]
      have := hw'.1 _ rfl
      refine Nat.le_trans (Nat.mul_le_mul_right _ ?_) this
      omega
theorem inw_of {n : Int} (h : (Lit.int .i64 n).wf = true) : inW n := by
  simp [Lit.wf, IntKind.min, IntKind.max, IntKind.signed, IntKind.bits] at h
  unfold inW
  omega
theorem op_str {m : Nat} {v : Value} {y : DataW H × List MemPlace} (h : DataW.trod enc Try.prog w 0 (fun _ => true) held m 9 [v] = some y) (hz : Sz Try.prog 9 y.1) : ∃ l : Wd, v = .string (bs l) ∧ l.length ≤ 140737488355328 := by
  obtain ⟨s, e, rfl, _⟩ := DataW.trod_string Try.underlying9 h
  simp only [List.cons.injEq, and_true] at e
  subst e
  exact ⟨s.data.toList, by rw [bs_of], hz _ (by simp [DataW.weights])⟩
theorem op_int {m : Nat} {v : Value} {y : DataW H × List MemPlace} (h : DataW.trod enc Try.prog w 0 (fun _ => true) held m 3 [v] = some y) : ∃ n : Int, v = .int .i64 n ∧ inW n := by
  obtain ⟨n, e, _, wf⟩ := DataW.trod_int Try.underlying3 h
  simp only [List.cons.injEq, and_true] at e
  subst e
  exact ⟨n, rfl, inw_of wf⟩
set_option maxRecDepth 100000 in
theorem open_cs {m : Nat} {cs : List Value} {x : DataW H × List MemPlace} (h : DataW.trod enc Try.prog w 0 (fun _ => true) held m 50 cs = some x) (hz : Sz Try.prog 50 x.1) : ∃ z : Cs, cs = csC z ∧ wfC z := by
  obtain ⟨y0, y1, n, rfl, hl, h0, h1⟩ := trod_struct2 Try.underlying50 h
  have hC : Try.prog.cellsOf 50 = 2 := by kernel_rfl
  rw [hC] at hl
  unfold Sz at hz
  simp only [DataW.weights, Try.underlying50, DataW.weightsEach, List.map_cons, List.map_nil, List.mem_append] at hz
  match cs, hl with
  | [v0, v1], _ =>
    have g0 : DataW.trod enc Try.prog w 0 (fun _ => true) held n 9 [v0] = some y0 := h0
    have g1 : DataW.trod enc Try.prog w 0 (fun _ => true) held n 3 [v1] = some y1 := h1
    obtain ⟨a0, rfl, i0⟩ := op_str g0 (fun k hk => hz k (Or.inl hk))
    obtain ⟨a1, rfl, i1⟩ := op_int g1
    exact ⟨⟨a0, a1⟩, rfl, ⟨i1, i0⟩⟩
theorem open_css {m : Nat} {v : Value} {y : DataW H × List MemPlace} (h : DataW.trod enc Try.prog w 0 (fun _ => true) held m 38 [v] = some y) (hz : Sz Try.prog 38 y.1) :
    ∃ E : List Cs, XC w.heap.size w v E ∧ (∀ e ∈ E, wfC e) ∧ E.length * 24 ≤ 140737488355328 := by
  obtain ⟨v', e, E, h1, h2, h3⟩ := open_sl (s := 2) (f := csC) (Q := wfC) Try.underlying38 (by kernel_rfl) (by decide) (fun _ => rfl) open_cs h hz
  simp only [List.cons.injEq, and_true] at e
  subst e
  have e6 : Try.prog.bytesOf 50 = 24 := by kernel_rfl
  rw [e6] at h3
  exact ⟨E, h1, h2, h3⟩
end

/-- The cells of the cases, each at its index. -/
def CaIn (w : World) (a : Option Addr) (L : List Cs) : Prop := ∀ j, j < L.length → ∃ g off, a = some ⟨g, off, none⟩ ∧ g < w.heap.size ∧ w.cell? ⟨g, off + j * 2, none⟩ = some (.string (bs (L.getD j default).reason)) ∧ w.cell? ⟨g, off + j * 2 + 1, none⟩ = some (.int .i64 (L.getD j default).act)
theorem CaIn.nil {w w' : World} {a : Option Addr} {L : List Cs} (h : CaIn w a L) (o : Only Nil w w') : CaIn w' a L := by
  intro j hj
  obtain ⟨g, off, ha, hlt, h1, h2⟩ := h j hj
  exact ⟨g, off, ha, Nat.lt_of_lt_of_le hlt o.size, only_cellS o (fun h => h) h1, only_cellS o (fun h => h) h2⟩
theorem cain_of {D : Nat} {w : World} {v : Value} {L : List Cs} (h : XC D w v L) : ∃ a c, v = .slice a L.length c ∧ CaIn w a L := by
  obtain ⟨a, c, ⟨h1, _⟩, h2, h3⟩ := h
  refine ⟨a, c, h1, fun j hj => ?_⟩
  have hl : (L.flatMap csC).length = L.length * 2 := h2
  obtain ⟨b, off, ha, _, hlt, hc⟩ := h3 (j * 2) (by omega)
  have hg : L.getD j default = L[j] := by simp [List.getD, hj]
  have e0 := flat_get csC 2 (fun _ => rfl) L j 0 hj (by decide)
  have e1 := flat_get csC 2 (fun _ => rfl) L j 1 hj (by decide)
  refine ⟨b, off, ha, hlt, ?_, ?_⟩
  · rw [hc (j * 2) (by omega), hg]; exact e0
  · have := hc (j * 2 + 1) (by omega)
    rw [← Nat.add_assoc] at this
    rw [this, hg]; exact e1
end Go.Proofs.Yteafdhpnkgebnaa.Me
