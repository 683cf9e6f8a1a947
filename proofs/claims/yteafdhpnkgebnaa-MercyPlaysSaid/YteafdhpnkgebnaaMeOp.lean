/- mercy: the script of a law opened. -/
import Derived.Test.YteafdhpnkgebnaaMeR
import Derived.Test.YteafdhpnkgebnaaRowA
import Derived.Deep.Slices
import Derived.Deep.Fields
import Derived.Lib.SmallJoins
import Derived.WalkSpells
namespace Go.Proofs.Yteafdhpnkgebnaa.Me
open Go.RowKit Go.ChangeShapes Go.WideShapes Go.ChangeAt Go.Joins Go.Deep Go.Proofs.Yteafdhpnkgebnaa

/-- An operation of a law's script: what it does, the child, the tick. -/
structure Op where
  k : Int
  id : Int
  wh : Int
  kok : 0 ≤ k ∧ k < 256
  ok : (Lit.int .i64 id).wf = true
instance : Inhabited Op := ⟨⟨0, 0, 0, by decide, by decide⟩⟩

/-- The slice at a, of the operations S. -/
def OpsIn (w : World) (a : Option Addr) (S : List Op) : Prop :=
  ∀ i, i < S.length → ∃ b off, a = some ⟨b, off, none⟩ ∧ b < w.heap.size ∧ ∀ j, j < S.length → w.cell? ⟨b, off + j * 3, none⟩ = some (.int .u8 (S.getD j default).k) ∧ w.cell? ⟨b, off + j * 3 + 1, none⟩ = some (.int .i64 (S.getD j default).id) ∧ w.cell? ⟨b, off + j * 3 + 2, none⟩ = some (.int .i64 (S.getD j default).wh)
theorem add_addO (b off j k : Nat) : ((⟨b, off, none⟩ : Addr).add j).add k = ⟨b, off + j + k, none⟩ := by
  have e : ∀ o n, (⟨b, o, none⟩ : Addr).add n = ⟨b, o + n, none⟩ := fun o n => by
    by_cases h : n = 0
    · subst h; simp [Addr.add]
    · simp [Addr.add, h]
  rw [e, e]

set_option maxRecDepth 100000 in
theorem open_op {H : Type} {enc : TypeId × Value → H} {w : World} {held : Bool} {n : Nat} {ad : Addr} {cs : List Value} {y : DataW H × List MemPlace}
    (hc : w.cells? 0 ad 3 = some cs) (h : DataW.trod enc Try.prog w 0 (fun _ => true) held n 28 cs = some y) :
    ∃ o : Op, w.cell? (ad.add 0) = some (.int .u8 o.k) ∧ w.cell? (ad.add 1) = some (.int .i64 o.id) ∧ w.cell? (ad.add 2) = some (.int .i64 o.wh) ∧ True := by
  obtain ⟨_, hl, hat⟩ := World.cells?_some hc
  match cs, hl with
  | [v0, v1, v2], _ =>
    obtain ⟨y0, y1, y2, m, _, _, h0, h1, h2⟩ := trod_struct3 Try.underlying28 h
    have g0 : DataW.trod enc Try.prog w 0 (fun _ => true) held m 5 [v0] = some y0 := h0
    have g1 : DataW.trod enc Try.prog w 0 (fun _ => true) held m 3 [v1] = some y1 := h1
    have g2 : DataW.trod enc Try.prog w 0 (fun _ => true) held m 3 [v2] = some y2 := h2
    obtain ⟨k, e0, _, wk⟩ := DataW.trod_int Try.underlying5 g0
    obtain ⟨i, e1, _, wi⟩ := DataW.trod_int Try.underlying3 g1
    obtain ⟨o, e2, _, wo⟩ := DataW.trod_int Try.underlying3 g2
    simp at e0 e1 e2
    subst e0 e1 e2
    exact ⟨⟨k, i, o, u8_of_wf wk, wi⟩, hat 0 (by decide), hat 1 (by decide), hat 2 (by decide), trivial⟩

set_option maxRecDepth 100000 in
/-- An argument that is a slice of operations, opened. -/
theorem open_ops {H : Type} {enc : TypeId × Value → H} {w : World} {held : Bool} {fuel : Nat} {a : Option Addr} {len cap : Nat} {x : DataW H × List MemPlace}
    (h : DataW.trod enc Try.prog w 0 (fun _ => true) held fuel 22 (Value.slice a len cap).cells.toList = some x) :
    ∃ S : List Op, S.length = len ∧ OpsIn w a S ∧ True ∧
      ∀ (ts : List TypeId) (ds : List (DataW H)) (j : Nat), (DataW.weightsEach Try.prog ts ds).all (· ≤ reachBytes) = true → ts[j]? = some 22 → ds[j]? = some x.1 → S.length * 24 ≤ reachBytes := by
  rcases open_slice Try.underlying22 h with ⟨hcs, rfl⟩ | ⟨y, l, c, m, n, D, Pl, hcs, _, hl, hm, hmm, rfl, hi⟩
  · simp [Value.cells] at hcs
    obtain ⟨rfl, rfl, rfl⟩ := hcs
    exact ⟨[], rfl, fun i hi => by simp at hi, trivial, fun _ _ _ _ _ _ => by simp⟩
  · simp [Value.cells] at hcs
    obtain ⟨rfl, rfl, rfl⟩ := hcs
    simp only [if_true] at hmm
    subst hmm
    have hC : Try.prog.cellsOf 28 = 3 := by kernel_rfl
    rw [hC] at hi
    have each : ∀ i, ∃ o : Op, i < m → w.cell? ((y.add (i * 3)).add 0) = some (.int .u8 o.k) ∧ w.cell? ((y.add (i * 3)).add 1) = some (.int .i64 o.id) ∧ w.cell? ((y.add (i * 3)).add 2) = some (.int .i64 o.wh) ∧ True := by
      intro i
      by_cases him : i < m
      · obtain ⟨cs', hc, ht⟩ := hi i him
        obtain ⟨o, ho⟩ := open_op hc ht
        exact ⟨o, fun _ => ho⟩
      · exact ⟨default, fun h => absurd h him⟩
    obtain ⟨f, hf⟩ := Classical.axiomOfChoice each
    refine ⟨(List.range len).map f, by simp, ?_, trivial, ?_⟩
    · intro i hi'
      simp only [List.length_map, List.length_range] at hi'
      obtain ⟨b, off, spot⟩ := y
      have h0 := (hf 0 (by omega)).1
      have hspot : spot = none := by simpa [Addr.add] using World.cell?_spot h0
      subst hspot
      refine ⟨b, off, rfl, ?_, ?_⟩
      · rcases Nat.lt_or_ge b w.heap.size with h' | h'
        · exact h'
        · exfalso
          rw [add_addO] at h0
          simp [World.cell?, Array.getElem?_eq_none h'] at h0
      · intro j hj
        simp only [List.length_map, List.length_range] at hj
        obtain ⟨e0, e1, e2, _⟩ := hf j (by omega)
        rw [add_addO] at e0 e1 e2
        have ed : ((List.range len).map f).getD j default = f j := by simp [List.getD, hj]
        rw [ed]
        exact ⟨e0, e1, e2⟩
    · intro ts ds j hw ht hd
      have := sized_slice hw ht hd Try.underlying22
      have e6 : Try.prog.bytesOf 28 = 24 := by kernel_rfl
      rw [e6] at this
      simp only [List.length_map, List.length_range] at this ⊢
      omega
end Go.Proofs.Yteafdhpnkgebnaa.Me
