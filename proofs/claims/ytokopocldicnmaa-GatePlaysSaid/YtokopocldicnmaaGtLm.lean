/- The script of a gate opened; like. -/
import Derived.Test.YtokopocldicnmaaGtX
import Derived.Test.YtokopocldicnmaaGtZ
import Derived.Test.YtokopocldicnmaaRowA
import Derived.Test.YtokopocldicnmaaRingL
import Derived.Test.YtokopocldicnmaaRowC
import Derived.Deep.Slices
import Derived.Deep.Fields
import Derived.Lib.SmallJoins
import Derived.WalkSpells
namespace Go.Proofs.Ytokopocldicnmaa.Gt
open Go.RowKit Go.ChangeShapes Go.WideShapes Go.ChangeAt Go.Joins Go.Deep

set_option maxRecDepth 100000 in
set_option maxHeartbeats 4000000 in
theorem like_not {w : World} {ob rg b c : Nat} {s : OS} (h : OpIn w ob rg s) (ho : ¬ s.isOver) :
    Calls Try.prog 30 #[.pointer (some ⟨ob, 0, none⟩), wantOf b c s] w fun e w' => e = .returned (.bool true) ∧ Only Nil w w' := by
  have e0 : s.o = 0 := by cases s <;> first | rfl | exact (ho trivial).elim
  have e1 : s.x = 0 := by cases s <;> first | rfl | exact (ho trivial).elim
  have e2 : s.isO = false := by cases s <;> first | rfl | exact (ho trivial).elim
  rw [wantOf_acc b c s ho]
  obtain ⟨x1, x2, x3, x4, hx4⟩ := accWant_form (acc b c s)
  rw [hx4]
  clear hx4 ho
  have hC' := Lib.hid h
  clear h
  go_enter Try.func30, Try.ntmps30
  go_wp2_with fail
  have ow := Lib.hid ((Only.refl Nil w).alloc (.cells #[.bool false, .int .i64 x1, .int .i64 x2, .int .u64 x3, .int .u64 x4, .int .i64 0, .int .u64 0, .int .u64 0] 64))
  have hC1 := Lib.hid (hC'.out.keep ow.out (fun h => h))
  have bT := Lib.hid (heap_new w (.cells #[.bool false, .int .i64 x1, .int .i64 x2, .int .u64 x3, .int .u64 x4, .int .i64 0, .int .u64 0, .int .u64 0] 64))
  generalize w.alloc (.cells #[.bool false, .int .i64 x1, .int .i64 x2, .int .u64 x3, .int .u64 x4, .int .i64 0, .int .u64 0, .int .u64 0] 64) = W1 at ow hC1 bT ⊢
  clear hC'
  have z0 : W1.cell? ⟨w.heap.size, 0, none⟩ = some (.bool false) := (by simp [World.cell?, bT.out])
  have ov0 := overO hC1.out
  have ot0 := outcomeO hC1.out
  have va0 := valueO hC1.out
  rw [e2] at ov0
  rw [e0] at ot0
  rw [e1] at va0
  have ov := Lib.hid ov0
  have ot := Lib.hid ot0
  have va := Lib.hid va0
  clear ov0 ot0 va0 e0 e1 e2
  go_wp2_with (first
    | (go_at_call 24; (with_reducible refine (ov.out).mono ?_); rintro e w3 ⟨rfl, rfl⟩)
    | (go_at_call 68; (with_reducible refine (ot.out).mono ?_); rintro e w3 ⟨rfl, rfl⟩)
    | (go_at_call 69; (with_reducible refine (va.out).mono ?_); rintro e w3 ⟨rfl, rfl⟩))
  go_ret
  exact ⟨rfl, ow.out⟩
set_option maxRecDepth 100000 in
set_option maxHeartbeats 4000000 in
theorem like_over {w : World} {ob rg b c : Nat} {s : OS} (h : OpIn w ob rg s) (ho : s.isOver) :
    Calls Try.prog 30 #[.pointer (some ⟨ob, 0, none⟩), wantOf b c s] w fun e w' => e = .returned (.bool true) ∧ Only Nil w w' := by
  have hw : wantOf b c s = .agg #[.bool true, .int .i64 0, .int .i64 0, .int .u64 0, .int .u64 0, .int .i64 s.o, .int .u64 s.x, .int .u64 0] := by cases s <;> first | exact ho.elim | rfl
  have e2 : s.isO = true := by cases s <;> first | exact ho.elim | rfl
  rw [hw]
  obtain ⟨so, hso⟩ : ∃ so, s.o = so := ⟨_, rfl⟩
  obtain ⟨sx, hsx⟩ : ∃ sx, s.x = sx := ⟨_, rfl⟩
  rw [hso, hsx]
  have hC' := Lib.hid h
  clear hw h ho
  go_enter Try.func30, Try.ntmps30
  go_wp2_with fail
  have ow := Lib.hid ((Only.refl Nil w).alloc (.cells #[.bool true, .int .i64 0, .int .i64 0, .int .u64 0, .int .u64 0, .int .i64 so, .int .u64 sx, .int .u64 0] 64))
  have hC1 := Lib.hid (hC'.out.keep ow.out (fun h => h))
  have bT := Lib.hid (heap_new w (.cells #[.bool true, .int .i64 0, .int .i64 0, .int .u64 0, .int .u64 0, .int .i64 so, .int .u64 sx, .int .u64 0] 64))
  generalize w.alloc (.cells #[.bool true, .int .i64 0, .int .i64 0, .int .u64 0, .int .u64 0, .int .i64 so, .int .u64 sx, .int .u64 0] 64) = W1 at ow hC1 bT ⊢
  clear hC'
  have z0 : W1.cell? ⟨w.heap.size, 0, none⟩ = some (.bool true) := (by simp [World.cell?, bT.out])
  have z5 : W1.cell? ⟨w.heap.size, 5, none⟩ = some (.int .i64 so) := (by simp [World.cell?, bT.out])
  have z6 : W1.cell? ⟨w.heap.size, 6, none⟩ = some (.int .u64 sx) := (by simp [World.cell?, bT.out])
  have ov0 := fun n => overO (hC1.out.drewN n)
  have ot0 := fun n => outcomeO (hC1.out.drewN n)
  have va0 := fun n => valueO (hC1.out.drewN n)
  simp only [e2] at ov0
  simp only [hso] at ot0
  simp only [hsx] at va0
  have ov := Lib.hid ov0
  have ot := Lib.hid ot0
  have va := Lib.hid va0
  clear ov0 ot0 va0 e2 hso hsx hC1
  go_wp2_with fail
  go_quiet (first | (go_at_call 24; exact quiet_same (ov.out _)) | (go_at_call 68; exact quiet_same (ot.out _)) | (go_at_call 69; exact quiet_same (va.out _)))
  go_wp2
  go_ret
  exact ⟨rfl, ow.out.drewN _⟩
theorem like_any {w : World} {ob rg b c : Nat} {s : OS} (h : OpIn w ob rg s) :
    Calls Try.prog 30 #[.pointer (some ⟨ob, 0, none⟩), wantOf b c s] w fun e w' => e = .returned (.bool true) ∧ Only Nil w w' := by
  by_cases ho : s.isOver
  · exact like_over h ho
  · exact like_not h ho
theorem begin_ok {kind : Nat} {v : Int} (hk : 1 ≤ kind ∧ kind ≤ 2) (hv : In64 v) : (begin kind v).ok := by
  have hcases : kind = 1 ∨ kind = 2 := by omega
  rcases hcases with rfl | rfl
  · exact hv
  · trivial

/-- An operation of the script. -/
structure OpN where
  kind : Int
  t : Int
  v : Int
/-- The slice at a, of the operations S. -/
def OpsIn (w : World) (a : Option Addr) (S : List OpN) : Prop :=
  ∀ i, i < S.length → ∃ b off, a = some ⟨b, off, none⟩ ∧ b < w.heap.size ∧ ∀ j (h : j < S.length), w.cell? ⟨b, off + j * 3, none⟩ = some (.int .u8 (S[j]'h).kind) ∧ w.cell? ⟨b, off + j * 3 + 1, none⟩ = some (.int .u8 (S[j]'h).t) ∧ w.cell? ⟨b, off + j * 3 + 2, none⟩ = some (.int .u64 (S[j]'h).v)
def OpsOk (S : List OpN) : Prop := ∀ j (h : j < S.length), (0 ≤ (S[j]'h).kind ∧ (S[j]'h).kind < 256) ∧ (0 ≤ (S[j]'h).t ∧ (S[j]'h).t < 256) ∧ (0 ≤ (S[j]'h).v ∧ (S[j]'h).v < 18446744073709551616)
theorem add_addO (b off j k : Nat) : ((⟨b, off, none⟩ : Addr).add j).add k = ⟨b, off + j + k, none⟩ := by
  have e : ∀ o n, (⟨b, o, none⟩ : Addr).add n = ⟨b, o + n, none⟩ := fun o n => by
    by_cases h : n = 0
    · subst h; simp [Addr.add]
    · simp [Addr.add, h]
  rw [e, e]

set_option maxRecDepth 100000 in
theorem open_op {H : Type} {enc : TypeId × Value → H} {w : World} {held : Bool} {n : Nat} {ad : Addr} {cs : List Value} {y : DataW H × List MemPlace}
    (hc : w.cells? 0 ad 3 = some cs) (h : DataW.trod enc Try.prog w 0 (fun _ => true) held n 54 cs = some y) :
    ∃ o : OpN, w.cell? (ad.add 0) = some (.int .u8 o.kind) ∧ w.cell? (ad.add 1) = some (.int .u8 o.t) ∧ w.cell? (ad.add 2) = some (.int .u64 o.v) ∧ (0 ≤ o.kind ∧ o.kind < 256) ∧ (0 ≤ o.t ∧ o.t < 256) ∧ (0 ≤ o.v ∧ o.v < 18446744073709551616) := by
  obtain ⟨_, hl, hat⟩ := World.cells?_some hc
  match cs, hl with
  | [v0, v1, v2], _ =>
    obtain ⟨y0, y1, y2, m, _, _, h0, h1, h2⟩ := trod_struct3 Try.underlying54 h
    have g0 : DataW.trod enc Try.prog w 0 (fun _ => true) held m 5 [v0] = some y0 := h0
    have g1 : DataW.trod enc Try.prog w 0 (fun _ => true) held m 5 [v1] = some y1 := h1
    have g2 : DataW.trod enc Try.prog w 0 (fun _ => true) held m 28 [v2] = some y2 := h2
    obtain ⟨k, e0, _, wk⟩ := DataW.trod_int Try.underlying5 g0
    obtain ⟨i, e1, _, wi⟩ := DataW.trod_int Try.underlying5 g1
    obtain ⟨o, e2, _, wo⟩ := DataW.trod_int Try.underlying28 g2
    simp at e0 e1 e2
    subst e0 e1 e2
    exact ⟨⟨k, i, o⟩, hat 0 (by decide), hat 1 (by decide), hat 2 (by decide), u8_of_wf wk, u8_of_wf wi, u64_of_wf wo⟩

set_option maxRecDepth 100000 in
/-- An argument that is a slice of operations, opened. -/
theorem open_ops {H : Type} {enc : TypeId × Value → H} {w : World} {held : Bool} {fuel : Nat} {a : Option Addr} {len cap : Nat} {x : DataW H × List MemPlace}
    (h : DataW.trod enc Try.prog w 0 (fun _ => true) held fuel 39 (Value.slice a len cap).cells.toList = some x) :
    ∃ S : List OpN, S.length = len ∧ OpsIn w a S ∧ OpsOk S ∧
      ∀ (ts : List TypeId) (ds : List (DataW H)) (j : Nat), (DataW.weightsEach Try.prog ts ds).all (· ≤ reachBytes) = true → ts[j]? = some 39 → ds[j]? = some x.1 → S.length * 16 ≤ reachBytes := by
  rcases open_slice Try.underlying39 h with ⟨hcs, rfl⟩ | ⟨y, l, c, m, n, D, Pl, hcs, _, hl, hm, hmm, rfl, hi⟩
  · simp [Value.cells] at hcs
    obtain ⟨rfl, rfl, rfl⟩ := hcs
    exact ⟨[], rfl, fun i hi => by simp at hi, fun j hj => by simp at hj, fun _ _ _ _ _ _ => by simp⟩
  · simp [Value.cells] at hcs
    obtain ⟨rfl, rfl, rfl⟩ := hcs
    simp only [if_true] at hmm
    subst hmm
    have hC : Try.prog.cellsOf 54 = 3 := by kernel_rfl
    rw [hC] at hi
    have each : ∀ i, ∃ o : OpN, i < m → w.cell? ((y.add (i * 3)).add 0) = some (.int .u8 o.kind) ∧ w.cell? ((y.add (i * 3)).add 1) = some (.int .u8 o.t) ∧ w.cell? ((y.add (i * 3)).add 2) = some (.int .u64 o.v) ∧ (0 ≤ o.kind ∧ o.kind < 256) ∧ (0 ≤ o.t ∧ o.t < 256) ∧ (0 ≤ o.v ∧ o.v < 18446744073709551616) := by
      intro i
      by_cases him : i < m
      · obtain ⟨cs', hc, ht⟩ := hi i him
        obtain ⟨o, ho⟩ := open_op hc ht
        exact ⟨o, fun _ => ho⟩
      · exact ⟨⟨0, 0, 0⟩, fun h => absurd h him⟩
    obtain ⟨f, hf⟩ := Classical.axiomOfChoice each
    refine ⟨(List.range len).map f, by simp, ?_, ?_, ?_⟩
    · intro i hi'
      simp only [List.length_map, List.length_range] at hi'
      obtain ⟨b, off, spot⟩ := y
      have h0 := (hf 0 (by omega)).1
      have hspot : spot = none := by simpa [Addr.add] using World.cell?_spot h0
      subst hspot
      refine ⟨b, off, rfl, ?_, ?_⟩
      · rcases Nat.lt_or_ge b w.heap.size with h' | h'
        · exact h'
        · exfalso
          rw [add_addO] at h0
          simp [World.cell?, Array.getElem?_eq_none h'] at h0
      · intro j hj
        simp only [List.length_map, List.length_range] at hj
        obtain ⟨e0, e1, e2, _⟩ := hf j (by omega)
        rw [add_addO] at e0 e1 e2
        simp only [List.getElem_map, List.getElem_range]
        exact ⟨e0, e1, e2⟩
    · intro j hj
      simp only [List.length_map, List.length_range] at hj
      simp only [List.getElem_map, List.getElem_range]
      exact (hf j (by omega)).2.2.2
    · intro ts ds j hw ht hd
      have := sized_slice hw ht hd Try.underlying39
      have e6 : Try.prog.bytesOf 54 = 16 := by kernel_rfl
      rw [e6] at this
      simp only [List.length_map, List.length_range] at this ⊢
      omega
end Go.Proofs.Ytokopocldicnmaa.Gt
