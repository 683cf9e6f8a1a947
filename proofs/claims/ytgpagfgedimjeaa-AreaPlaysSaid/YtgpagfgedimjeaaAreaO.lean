/- A slice of operations that came in, opened to its cells. -/
import Derived.Test.YtgpagfgedimjeaaAreaM
import Derived.ProofKit
import Derived.OpenShut
import Derived.ShutString
import Derived.ChangeOld
import Derived.SizedLaws
import Derived.Deep.Slices
import Derived.Deep.Fields
import Derived.Lib.SmallJoins
namespace Go.Proofs.Ytgpagfgedimjeaa
open Go.RowKit Go.ChangeShapes Go.WideShapes Go.ChangeAt Go.Joins Go.Deep

theorem open_op {H : Type} {enc : TypeId × Value → H} {w : World} {held : Bool} {n : Nat} {ad : Addr} {cs : List Value} {y : DataW H × List MemPlace}
    (hc : w.cells? 0 ad 2 = some cs) (h : DataW.trod enc Try.prog w 0 (fun _ => true) held n 29 cs = some y) :
    ∃ o : OpN, w.cell? (ad.add 0) = some (.bool o.give) ∧ w.cell? (ad.add 1) = some (.int .i64 o.k) := by
  obtain ⟨_, hl, hat⟩ := World.cells?_some hc
  match cs, hl with
  | [v0, v1], _ =>
    obtain ⟨y0, y1, m, _, _, h0, h1⟩ := trod_struct2 Try.underlying29 h
    have g0 : DataW.trod enc Try.prog w 0 (fun _ => true) held m 4 [v0] = some y0 := h0
    have g1 : DataW.trod enc Try.prog w 0 (fun _ => true) held m 3 [v1] = some y1 := h1
    obtain ⟨b, e0, _⟩ := DataW.trod_bool Try.underlying4 g0
    obtain ⟨k, e1, _, _⟩ := DataW.trod_int Try.underlying3 g1
    simp at e0 e1
    subst e0 e1
    exact ⟨⟨b, k⟩, by simpa using hat 0 (by omega), by simpa using hat 1 (by omega)⟩

/-- An argument that is a slice of operations, opened. -/
theorem open_ops {H : Type} {enc : TypeId × Value → H} {w : World} {held : Bool} {fuel : Nat} {a : Option Addr} {len cap : Nat} {x : DataW H × List MemPlace}
    (h : DataW.trod enc Try.prog w 0 (fun _ => true) held fuel 22 (Value.slice a len cap).cells.toList = some x) :
    ∃ S : List OpN, S.length = len ∧ OpsIn w a S ∧ True ∧
      ∀ (ts : List TypeId) (ds : List (DataW H)) (j : Nat), (DataW.weightsEach Try.prog ts ds).all (· ≤ reachBytes) = true → ts[j]? = some 22 → ds[j]? = some x.1 → S.length * 16 ≤ reachBytes := by
  rcases open_slice Try.underlying22 h with ⟨hcs, rfl⟩ | ⟨y, l, c, m, n, D, Pl, hcs, _, hl, hm, hmm, rfl, hi⟩
  · simp [Value.cells] at hcs
    obtain ⟨rfl, rfl, rfl⟩ := hcs
    exact ⟨[], rfl, fun i hi => by simp at hi, trivial, fun _ _ _ _ _ _ => by simp⟩
  · simp [Value.cells] at hcs
    obtain ⟨rfl, rfl, rfl⟩ := hcs
    simp only [if_true] at hmm
    subst hmm
    have hC : Try.prog.cellsOf 29 = 2 := by kernel_rfl
    rw [hC] at hi
    have each : ∀ i, ∃ o : OpN, i < m → w.cell? ((y.add (i * 2)).add 0) = some (.bool o.give) ∧ w.cell? ((y.add (i * 2)).add 1) = some (.int .i64 o.k) := by
      intro i
      by_cases him : i < m
      · obtain ⟨cs', hc, ht⟩ := hi i him
        obtain ⟨o, ho⟩ := open_op hc ht
        exact ⟨o, fun _ => ho⟩
      · exact ⟨⟨false, 0⟩, fun h => absurd h him⟩
    obtain ⟨f, hf⟩ := Classical.axiomOfChoice each
    refine ⟨(List.range len).map f, by simp, ?_, trivial, ?_⟩
    · intro i hi'
      simp only [List.length_map, List.length_range] at hi'
      obtain ⟨b, off, spot⟩ := y
      have h0 := (hf 0 (by omega)).1
      have hspot : spot = none := by simpa [Addr.add] using World.cell?_spot h0
      subst hspot
      refine ⟨b, off, rfl, ?_, ?_⟩
      · rcases Nat.lt_or_ge b w.heap.size with h' | h'
        · exact h'
        · exfalso
          simp only [add_add] at h0
          unfold Addr.add at h0
          split at h0 <;> simp [World.cell?, Array.getElem?_eq_none h'] at h0
      · intro j hj
        simp only [List.length_map, List.length_range] at hj
        obtain ⟨e0, e1⟩ := hf j (by omega)
        simp only [add_add] at e0 e1
        simp only [List.getElem_map, List.getElem_range]
        simp only [add_lit0] at e0 e1
        exact ⟨e0, e1⟩
    · intro ts ds j hw ht hd
      have := sized_slice hw ht hd Try.underlying22
      have e6 : Try.prog.bytesOf 29 = 16 := by kernel_rfl
      rw [e6] at this
      simp only [List.length_map, List.length_range] at this ⊢
      omega
end Go.Proofs.Ytgpagfgedimjeaa
