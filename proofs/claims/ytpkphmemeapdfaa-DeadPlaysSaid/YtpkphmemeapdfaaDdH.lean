/- dead: the letters of a law opened. -/
import Derived.Test.YtpkphmemeapdfaaDdG
import Derived.Test.YtpkphmemeapdfaaRowA
import Derived.Deep.Slices
import Derived.Deep.Fields
import Derived.Lib.SmallJoins
import Derived.WalkSpells
namespace Go.Proofs.Ytpkphmemeapdfaa.Dd
open Go.RowKit Go.ChangeShapes Go.WideShapes Go.ChangeAt Go.Joins Go.Deep Go.Proofs.Ytpkphmemeapdfaa

def LOk (X : List Lr) : Prop := ∀ j, j < X.length → (Lit.int .i64 (X.getD j default).why).wf = true
theorem add_addO (b off j k : Nat) : ((⟨b, off, none⟩ : Addr).add j).add k = ⟨b, off + j + k, none⟩ := by
  have e : ∀ o n, (⟨b, o, none⟩ : Addr).add n = ⟨b, o + n, none⟩ := fun o n => by
    by_cases h : n = 0
    · subst h; simp [Addr.add]
    · simp [Addr.add, h]
  rw [e, e]

set_option maxRecDepth 100000 in
theorem open_lr {H : Type} {enc : TypeId × Value → H} {w : World} {held : Bool} {n : Nat} {ad : Addr} {cs : List Value} {y : DataW H × List MemPlace}
    (hc : w.cells? 0 ad 3 = some cs) (h : DataW.trod enc Try.prog w 0 (fun _ => true) held n 29 cs = some y) :
    ∃ o : Lr, w.cell? (ad.add 0) = some (.int .u64 o.id) ∧ w.cell? (ad.add 1) = some (.int .i64 o.dst) ∧ w.cell? (ad.add 2) = some (.int .i64 o.why) ∧ (Lit.int .i64 o.why).wf = true := by
  obtain ⟨_, hl, hat⟩ := World.cells?_some hc
  match cs, hl with
  | [v0, v1, v2], _ =>
    obtain ⟨y0, y1, y2, m, _, _, h0, h1, h2⟩ := trod_struct3 Try.underlying29 h
    have g0 : DataW.trod enc Try.prog w 0 (fun _ => true) held m 27 [v0] = some y0 := h0
    have g1 : DataW.trod enc Try.prog w 0 (fun _ => true) held m 3 [v1] = some y1 := h1
    have g2 : DataW.trod enc Try.prog w 0 (fun _ => true) held m 3 [v2] = some y2 := h2
    obtain ⟨k, e0, _, wk⟩ := DataW.trod_int Try.underlying27 g0
    obtain ⟨i, e1, _, wi⟩ := DataW.trod_int Try.underlying3 g1
    obtain ⟨o, e2, _, wo⟩ := DataW.trod_int Try.underlying3 g2
    simp at e0 e1 e2
    subst e0 e1 e2
    exact ⟨⟨k, i, o⟩, hat 0 (by decide), hat 1 (by decide), hat 2 (by decide), wo⟩

set_option maxRecDepth 100000 in
/-- An argument that is a slice of letters, opened. -/
theorem open_lrs {H : Type} {enc : TypeId × Value → H} {w : World} {held : Bool} {fuel : Nat} {a : Option Addr} {len cap : Nat} {x : DataW H × List MemPlace}
    (h : DataW.trod enc Try.prog w 0 (fun _ => true) held fuel 22 (Value.slice a len cap).cells.toList = some x) :
    ∃ S : List Lr, S.length = len ∧ LIn w a S ∧ LOk S ∧
      ∀ (ts : List TypeId) (ds : List (DataW H)) (j : Nat), (DataW.weightsEach Try.prog ts ds).all (· ≤ reachBytes) = true → ts[j]? = some 22 → ds[j]? = some x.1 → S.length * 24 ≤ reachBytes := by
  rcases open_slice Try.underlying22 h with ⟨hcs, rfl⟩ | ⟨y, l, c, m, n, D, Pl, hcs, _, hl, hm, hmm, rfl, hi⟩
  · simp [Value.cells] at hcs
    obtain ⟨rfl, rfl, rfl⟩ := hcs
    exact ⟨[], rfl, fun i hi => by simp at hi, fun j hj => by simp at hj, fun _ _ _ _ _ _ => by simp⟩
  · simp [Value.cells] at hcs
    obtain ⟨rfl, rfl, rfl⟩ := hcs
    simp only [if_true] at hmm
    subst hmm
    have hC : Try.prog.cellsOf 29 = 3 := by kernel_rfl
    rw [hC] at hi
    have each : ∀ i, ∃ o : Lr, i < m → w.cell? ((y.add (i * 3)).add 0) = some (.int .u64 o.id) ∧ w.cell? ((y.add (i * 3)).add 1) = some (.int .i64 o.dst) ∧ w.cell? ((y.add (i * 3)).add 2) = some (.int .i64 o.why) ∧ (Lit.int .i64 o.why).wf = true := by
      intro i
      by_cases him : i < m
      · obtain ⟨cs', hc, ht⟩ := hi i him
        obtain ⟨o, ho⟩ := open_lr hc ht
        exact ⟨o, fun _ => ho⟩
      · exact ⟨⟨0, 0, 0⟩, fun h => absurd h him⟩
    obtain ⟨f, hf⟩ := Classical.axiomOfChoice each
    have hget : ∀ j, j < len → ((List.range len).map f).getD j default = f j := fun j hj => by simp [List.getD_eq_getElem?_getD, hj]
    refine ⟨(List.range len).map f, by simp, ?_, ?_, ?_⟩
    · intro i hi'
      simp only [List.length_map, List.length_range] at hi'
      obtain ⟨b, off, spot⟩ := y
      have h0 := (hf 0 (by omega)).1
      have hspot : spot = none := by simpa [Addr.add] using World.cell?_spot h0
      subst hspot
      refine ⟨b, off, rfl, ?_, ?_⟩
      · rcases Nat.lt_or_ge b w.heap.size with h' | h'
        · exact h'
        · exfalso
          rw [add_addO] at h0
          simp [World.cell?, Array.getElem?_eq_none h'] at h0
      · intro j hj
        simp only [List.length_map, List.length_range] at hj
        obtain ⟨e0, e1, e2, _⟩ := hf j (by omega)
        rw [add_addO] at e0 e1 e2
        rw [hget j hj]
        exact ⟨e0, e1, e2⟩
    · intro j hj
      simp only [List.length_map, List.length_range] at hj
      rw [hget j hj]
      exact (hf j (by omega)).2.2.2
    · intro ts ds j hw ht hd
      have := sized_slice hw ht hd Try.underlying22
      have e6 : Try.prog.bytesOf 29 = 24 := by kernel_rfl
      rw [e6] at this
      simp only [List.length_map, List.length_range] at this ⊢
      omega
end Go.Proofs.Ytpkphmemeapdfaa.Dd
