/- A slice of operations that came in, opened to its cells. -/
import Derived.Test.YtcbmnnpanclclaaCellsPlaysW
import Derived.Deep.Slices
import Derived.Deep.Fields
import Derived.Lib.SmallJoins
namespace Go.Proofs.Ytcbmnnpanclclaa
open Go.RowKit Go.ChangeShapes Go.WideShapes Go.ChangeAt Go.Joins Go.Deep

theorem open_op {H : Type} {enc : TypeId × Value → H} {w : World} {held : Bool} {n : Nat} {ad : Addr} {cs : List Value} {y : DataW H × List MemPlace}
    (hc : w.cells? 0 ad 4 = some cs) (h : DataW.trod enc Try.prog w 0 (fun _ => true) held n 34 cs = some y) :
    ∃ o : OpN, w.cell? (ad.add 0) = some (.int .u8 o.kind) ∧ w.cell? (ad.add 1) = some (.int .i64 o.cell) ∧ w.cell? (ad.add 2) = some (.int .u64 o.old) ∧ w.cell? (ad.add 3) = some (.int .u64 o.val) ∧ 0 ≤ o.kind ∧ o.kind < 256 := by
  obtain ⟨_, hl, hat⟩ := World.cells?_some hc
  match cs, hl with
  | [v0, v1, v2, v3], _ =>
    obtain ⟨y0, y1, y2, y3, m, _, _, h0, h1, h2, h3⟩ := trod_struct4 Try.underlying34 h
    have g0 : DataW.trod enc Try.prog w 0 (fun _ => true) held m 5 [v0] = some y0 := h0
    have g1 : DataW.trod enc Try.prog w 0 (fun _ => true) held m 3 [v1] = some y1 := h1
    have g2 : DataW.trod enc Try.prog w 0 (fun _ => true) held m 32 [v2] = some y2 := h2
    have g3 : DataW.trod enc Try.prog w 0 (fun _ => true) held m 32 [v3] = some y3 := h3
    obtain ⟨k, e0, _, wk⟩ := DataW.trod_int Try.underlying5 g0
    obtain ⟨i, e1, _, _⟩ := DataW.trod_int Try.underlying3 g1
    obtain ⟨o, e2, _, _⟩ := DataW.trod_int Try.underlying32 g2
    obtain ⟨v, e3, _, _⟩ := DataW.trod_int Try.underlying32 g3
    simp at e0 e1 e2 e3
    subst e0 e1 e2 e3
    exact ⟨⟨k, i, o, v⟩, by simpa using hat 0 (by omega), by simpa using hat 1 (by omega), by simpa using hat 2 (by omega), by simpa using hat 3 (by omega), (u8_of_wf wk).1, (u8_of_wf wk).2⟩

/-- An argument that is a slice of operations, opened. -/
theorem open_ops {H : Type} {enc : TypeId × Value → H} {w : World} {held : Bool} {fuel : Nat} {a : Option Addr} {len cap : Nat} {x : DataW H × List MemPlace}
    (h : DataW.trod enc Try.prog w 0 (fun _ => true) held fuel 22 (Value.slice a len cap).cells.toList = some x) :
    ∃ S : List OpN, S.length = len ∧ OpsIn w a S ∧ (∀ j, (h : j < S.length) → 0 ≤ S[j].kind ∧ S[j].kind < 256) ∧
      ∀ (ts : List TypeId) (ds : List (DataW H)) (j : Nat), (DataW.weightsEach Try.prog ts ds).all (· ≤ reachBytes) = true → ts[j]? = some 22 → ds[j]? = some x.1 → S.length * 32 ≤ reachBytes := by
  rcases open_slice Try.underlying22 h with ⟨hcs, rfl⟩ | ⟨y, l, c, m, n, D, Pl, hcs, _, hl, hm, hmm, rfl, hi⟩
  · simp [Value.cells] at hcs
    obtain ⟨rfl, rfl, rfl⟩ := hcs
    exact ⟨[], rfl, fun i hi => by simp at hi, fun j h => by simp at h, fun _ _ _ _ _ _ => by simp⟩
  · simp [Value.cells] at hcs
    obtain ⟨rfl, rfl, rfl⟩ := hcs
    simp only [if_true] at hmm
    subst hmm
    have hC : Try.prog.cellsOf 34 = 4 := by kernel_rfl
    rw [hC] at hi
    have each : ∀ i, ∃ o : OpN, i < m → w.cell? ((y.add (i * 4)).add 0) = some (.int .u8 o.kind) ∧ w.cell? ((y.add (i * 4)).add 1) = some (.int .i64 o.cell) ∧ w.cell? ((y.add (i * 4)).add 2) = some (.int .u64 o.old) ∧ w.cell? ((y.add (i * 4)).add 3) = some (.int .u64 o.val) ∧ 0 ≤ o.kind ∧ o.kind < 256 := by
      intro i
      by_cases him : i < m
      · obtain ⟨cs', hc, ht⟩ := hi i him
        obtain ⟨o, ho⟩ := open_op hc ht
        exact ⟨o, fun _ => ho⟩
      · exact ⟨⟨0, 0, 0, 0⟩, fun h => absurd h him⟩
    obtain ⟨f, hf⟩ := Classical.axiomOfChoice each
    refine ⟨(List.range len).map f, by simp, ?_, ?_, ?_⟩
    · intro i hi'
      simp only [List.length_map, List.length_range] at hi'
      obtain ⟨b, off, spot⟩ := y
      have h0 := (hf 0 (by omega)).1
      have hspot : spot = none := by simpa [Addr.add] using World.cell?_spot h0
      subst hspot
      refine ⟨b, off, rfl, ?_, ?_⟩
      · rcases Nat.lt_or_ge b w.heap.size with h' | h'
        · exact h'
        · exfalso
          simp only [add_add] at h0
          unfold Addr.add at h0
          split at h0 <;> simp [World.cell?, Array.getElem?_eq_none h'] at h0
      · intro j hj
        simp only [List.length_map, List.length_range] at hj
        obtain ⟨e0, e1, e2, e3, _⟩ := hf j (by omega)
        simp only [add_add] at e0 e1 e2 e3
        simp only [List.getElem_map, List.getElem_range]
        have ad : ∀ q, (⟨b, off, none⟩ : Addr).add q = ⟨b, off + q, none⟩ := by
          intro q
          by_cases h : q = 0
          · subst h; simp [Addr.add]
          · simp [Addr.add, h]
        simp only [ad] at e0 e1 e2 e3
        exact ⟨e0, e1, e2, e3⟩
    · intro j hj
      simp only [List.length_map, List.length_range] at hj
      simp only [List.getElem_map, List.getElem_range]
      exact (hf j (by omega)).2.2.2.2
    · intro ts ds j hw ht hd
      have := sized_slice hw ht hd Try.underlying22
      have e6 : Try.prog.bytesOf 34 = 32 := by kernel_rfl
      rw [e6] at this
      simp only [List.length_map, List.length_range] at this ⊢
      omega
end Go.Proofs.Ytcbmnnpanclclaa
