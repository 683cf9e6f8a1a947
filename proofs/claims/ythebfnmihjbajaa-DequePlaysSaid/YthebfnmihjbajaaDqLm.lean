/- like; an operation begun; the script opened. -/
import Derived.Test.YthebfnmihjbajaaDqX
import Derived.Test.YthebfnmihjbajaaDqL
import Derived.Test.YthebfnmihjbajaaDqZ
import Derived.Test.YthebfnmihjbajaaRowC
import Derived.Deep.Slices
import Derived.Deep.Fields
import Derived.Lib.SmallJoins
import Derived.WalkSpells
namespace Go.Proofs.Ythebfnmihjbajaa.Dq
open Go.RowKit Go.ChangeShapes Go.WideShapes Go.ChangeAt Go.Joins Go.Deep

theorem over_true {w : World} {ob dq : Nat} {nx : Value} {out tt bb v val : Int} (h : OpC w ob dq nx out tt bb v val) (ho : out ≠ 0) :
    Calls Try.prog 12 #[.pointer (some ⟨ob, 0, none⟩)] w fun e w' => e = .returned (.bool true) ∧ w = w' := by
  have := over_any h
  rwa [show (out != 0) = true by simp [ho]] at this
set_option maxRecDepth 100000 in
set_option maxHeartbeats 4000000 in
theorem like_not {w : World} {ob rg b c : Nat} {s : OS} (h : OpIn w ob rg s) (ho : ¬ s.isOver) :
    Calls Try.prog 17 #[.pointer (some ⟨ob, 0, none⟩), wantOf b c s] w fun e w' => e = .returned (.bool true) ∧ Only Nil w w' := by
  obtain ⟨nx, a, y, z, hC, hs⟩ := h
  have e0 : s.o = 0 := by cases s <;> first | rfl | exact (ho trivial).elim
  have e1 : s.x = 0 := by cases s <;> first | rfl | exact (ho trivial).elim
  rw [e0, e1] at hC
  rw [wantOf_acc b c s ho]
  obtain ⟨x1, x2, x3, x4, hx4⟩ := accWant_form (acc b c s)
  rw [hx4]
  clear hx4 e0 e1 hs ho
  have hC' := Lib.hid hC
  clear hC
  go_enter Try.func17, Try.ntmps17
  go_wp2_with fail
  have ow := Lib.hid ((Only.refl Nil w).alloc (.cells #[.bool false, .int .i64 x1, .int .i64 x2, .int .u64 x3, .int .u64 x4, .int .i64 0, .int .u64 0, .int .u64 0] 49))
  have hC1 := Lib.hid (hC'.out.keep ow.out (fun h => h))
  have bT := Lib.hid (heap_new w (.cells #[.bool false, .int .i64 x1, .int .i64 x2, .int .u64 x3, .int .u64 x4, .int .i64 0, .int .u64 0, .int .u64 0] 49))
  generalize w.alloc (.cells #[.bool false, .int .i64 x1, .int .i64 x2, .int .u64 x3, .int .u64 x4, .int .i64 0, .int .u64 0, .int .u64 0] 49) = W1 at ow hC1 bT ⊢
  clear hC'
  have z0 : W1.cell? ⟨w.heap.size, 0, none⟩ = some (.bool false) := (by simp [World.cell?, bT.out])
  have ov := Lib.hid (over_false hC1.out)
  have ot := Lib.hid (outcome_any hC1.out)
  have va := Lib.hid (ovalue_any hC1.out)
  go_wp2_with (first
    | (go_at_call 12; (with_reducible refine (ov.out).mono ?_); rintro e w3 ⟨rfl, rfl⟩)
    | (go_at_call 29; (with_reducible refine (ot.out).mono ?_); rintro e w3 ⟨rfl, rfl⟩)
    | (go_at_call 30; (with_reducible refine (va.out).mono ?_); rintro e w3 ⟨rfl, rfl⟩))
  go_ret
  exact ⟨rfl, ow.out⟩
set_option maxRecDepth 100000 in
set_option maxHeartbeats 4000000 in
theorem like_over {w : World} {ob rg b c : Nat} {s : OS} (h : OpIn w ob rg s) (hk : s.o ≠ 0) (ho : s.isOver) :
    Calls Try.prog 17 #[.pointer (some ⟨ob, 0, none⟩), wantOf b c s] w fun e w' => e = .returned (.bool true) ∧ Only Nil w w' := by
  obtain ⟨nx, a, y, z, hC, hs⟩ := h
  have hw : wantOf b c s = .agg #[.bool true, .int .i64 0, .int .i64 0, .int .u64 0, .int .u64 0, .int .i64 s.o, .int .u64 s.x, .int .u64 0] := by cases s <;> first | exact ho.elim | rfl
  rw [hw]
  clear hw hs ho
  generalize s.o = so at hC hk ⊢
  generalize s.x = sx at hC ⊢
  have hC' := Lib.hid hC
  clear hC
  go_enter Try.func17, Try.ntmps17
  go_wp2_with fail
  have ow := Lib.hid ((Only.refl Nil w).alloc (.cells #[.bool true, .int .i64 0, .int .i64 0, .int .u64 0, .int .u64 0, .int .i64 so, .int .u64 sx, .int .u64 0] 49))
  have hC1 := Lib.hid (hC'.out.keep ow.out (fun h => h))
  have bT := Lib.hid (heap_new w (.cells #[.bool true, .int .i64 0, .int .i64 0, .int .u64 0, .int .u64 0, .int .i64 so, .int .u64 sx, .int .u64 0] 49))
  generalize w.alloc (.cells #[.bool true, .int .i64 0, .int .i64 0, .int .u64 0, .int .u64 0, .int .i64 so, .int .u64 sx, .int .u64 0] 49) = W1 at ow hC1 bT ⊢
  clear hC'
  have z0 : W1.cell? ⟨w.heap.size, 0, none⟩ = some (.bool true) := (by simp [World.cell?, bT.out])
  have z5 : W1.cell? ⟨w.heap.size, 5, none⟩ = some (.int .i64 so) := (by simp [World.cell?, bT.out])
  have z6 : W1.cell? ⟨w.heap.size, 6, none⟩ = some (.int .u64 sx) := (by simp [World.cell?, bT.out])
  have ov := Lib.hid (fun n => over_true (hC1.out.drewN n) hk)
  have ot := Lib.hid (fun n => outcome_any (hC1.out.drewN n))
  have va := Lib.hid (fun n => ovalue_any (hC1.out.drewN n))
  clear hk
  go_wp2_with fail
  go_quiet (first | (go_at_call 12; exact quiet_same (ov.out _)) | (go_at_call 29; exact quiet_same (ot.out _)) | (go_at_call 30; exact quiet_same (va.out _)))
  go_wp2
  go_ret
  exact ⟨rfl, ow.out.drewN _⟩
theorem like_any {w : World} {ob rg b c : Nat} {s : OS} (h : OpIn w ob rg s) (hk : s.ok) :
    Calls Try.prog 17 #[.pointer (some ⟨ob, 0, none⟩), wantOf b c s] w fun e w' => e = .returned (.bool true) ∧ Only Nil w w' := by
  by_cases ho : s.isOver
  · refine like_over h ?_ ho
    cases s <;> first | exact ho.elim | (simp only [OS.ok] at hk; simp only [OS.o]; omega)
  · exact like_not h ho

/-- An operation begun, by its kind. -/
theorem begun_any (w : World) (rg kind : Nat) (v : Int) (hk : 1 ≤ kind ∧ kind ≤ 3) :
    Calls Try.prog 13 #[.pointer (some ⟨rg, 0, none⟩), .int .i64 (kind : Int), .int .u64 v] w fun e w' => e = .returned (.pointer (some ⟨w.heap.size, 0, none⟩)) ∧ OpIn w' w.heap.size rg (begin kind v) ∧ Only Nil w w' ∧ w.heap.size < w'.heap.size := by
  have hcases : kind = 1 ∨ kind = 2 ∨ kind = 3 := by omega
  have p1 := Lib.hid (dpush_any w rg v)
  have p2 := Lib.hid (dpop_any w rg)
  have p3 := Lib.hid (dsteal_any w rg)
  clear hk
  rcases hcases with rfl | rfl | rfl
  · go_enter Try.func13, Try.ntmps13
    go_wp2_with (go_at_call 26; (with_reducible refine (p1.out).mono ?_); rintro e w1 ⟨rfl, q, o, z⟩)
    go_ret
    exact ⟨rfl, q, o, z⟩
  · go_enter Try.func13, Try.ntmps13
    go_wp2_with (go_at_call 27; (with_reducible refine (p2.out).mono ?_); rintro e w1 ⟨rfl, q, o, z⟩)
    go_ret
    exact ⟨rfl, q, o, z⟩
  · go_enter Try.func13, Try.ntmps13
    go_wp2_with (go_at_call 28; (with_reducible refine (p3.out).mono ?_); rintro e w1 ⟨rfl, q, o, z⟩)
    go_ret
    exact ⟨rfl, q, o, z⟩
theorem begin_ok {kind : Nat} {v : Int} (hk : 1 ≤ kind ∧ kind ≤ 3) (hv : In64 v) : (begin kind v).ok := by
  have hcases : kind = 1 ∨ kind = 2 ∨ kind = 3 := by omega
  rcases hcases with rfl | rfl | rfl
  · exact hv
  · trivial
  · trivial

/-- An operation of the script. -/
structure OpN where
  kind : Int
  t : Int
  v : Int
/-- The slice at a, of the operations S. -/
def OpsIn (w : World) (a : Option Addr) (S : List OpN) : Prop :=
  ∀ i, i < S.length → ∃ b off, a = some ⟨b, off, none⟩ ∧ b < w.heap.size ∧ ∀ j (h : j < S.length), w.cell? ⟨b, off + j * 3, none⟩ = some (.int .u8 (S[j]'h).kind) ∧ w.cell? ⟨b, off + j * 3 + 1, none⟩ = some (.int .u8 (S[j]'h).t) ∧ w.cell? ⟨b, off + j * 3 + 2, none⟩ = some (.int .u64 (S[j]'h).v)
def OpsOk (S : List OpN) : Prop := ∀ j (h : j < S.length), (0 ≤ (S[j]'h).kind ∧ (S[j]'h).kind < 256) ∧ (0 ≤ (S[j]'h).t ∧ (S[j]'h).t < 256) ∧ (0 ≤ (S[j]'h).v ∧ (S[j]'h).v < 18446744073709551616)
theorem add_addO (b off j k : Nat) : ((⟨b, off, none⟩ : Addr).add j).add k = ⟨b, off + j + k, none⟩ := by
  have e : ∀ o n, (⟨b, o, none⟩ : Addr).add n = ⟨b, o + n, none⟩ := fun o n => by
    by_cases h : n = 0
    · subst h; simp [Addr.add]
    · simp [Addr.add, h]
  rw [e, e]

set_option maxRecDepth 100000 in
theorem open_op {H : Type} {enc : TypeId × Value → H} {w : World} {held : Bool} {n : Nat} {ad : Addr} {cs : List Value} {y : DataW H × List MemPlace}
    (hc : w.cells? 0 ad 3 = some cs) (h : DataW.trod enc Try.prog w 0 (fun _ => true) held n 39 cs = some y) :
    ∃ o : OpN, w.cell? (ad.add 0) = some (.int .u8 o.kind) ∧ w.cell? (ad.add 1) = some (.int .u8 o.t) ∧ w.cell? (ad.add 2) = some (.int .u64 o.v) ∧ (0 ≤ o.kind ∧ o.kind < 256) ∧ (0 ≤ o.t ∧ o.t < 256) ∧ (0 ≤ o.v ∧ o.v < 18446744073709551616) := by
  obtain ⟨_, hl, hat⟩ := World.cells?_some hc
  match cs, hl with
  | [v0, v1, v2], _ =>
    obtain ⟨y0, y1, y2, m, _, _, h0, h1, h2⟩ := trod_struct3 Try.underlying39 h
    have g0 : DataW.trod enc Try.prog w 0 (fun _ => true) held m 5 [v0] = some y0 := h0
    have g1 : DataW.trod enc Try.prog w 0 (fun _ => true) held m 5 [v1] = some y1 := h1
    have g2 : DataW.trod enc Try.prog w 0 (fun _ => true) held m 37 [v2] = some y2 := h2
    obtain ⟨k, e0, _, wk⟩ := DataW.trod_int Try.underlying5 g0
    obtain ⟨i, e1, _, wi⟩ := DataW.trod_int Try.underlying5 g1
    obtain ⟨o, e2, _, wo⟩ := DataW.trod_int Try.underlying37 g2
    simp at e0 e1 e2
    subst e0 e1 e2
    exact ⟨⟨k, i, o⟩, hat 0 (by decide), hat 1 (by decide), hat 2 (by decide), u8_of_wf wk, u8_of_wf wi, u64_of_wf wo⟩

set_option maxRecDepth 100000 in
/-- An argument that is a slice of operations, opened. -/
theorem open_ops {H : Type} {enc : TypeId × Value → H} {w : World} {held : Bool} {fuel : Nat} {a : Option Addr} {len cap : Nat} {x : DataW H × List MemPlace}
    (h : DataW.trod enc Try.prog w 0 (fun _ => true) held fuel 22 (Value.slice a len cap).cells.toList = some x) :
    ∃ S : List OpN, S.length = len ∧ OpsIn w a S ∧ OpsOk S ∧
      ∀ (ts : List TypeId) (ds : List (DataW H)) (j : Nat), (DataW.weightsEach Try.prog ts ds).all (· ≤ reachBytes) = true → ts[j]? = some 22 → ds[j]? = some x.1 → S.length * 16 ≤ reachBytes := by
  rcases open_slice Try.underlying22 h with ⟨hcs, rfl⟩ | ⟨y, l, c, m, n, D, Pl, hcs, _, hl, hm, hmm, rfl, hi⟩
  · simp [Value.cells] at hcs
    obtain ⟨rfl, rfl, rfl⟩ := hcs
    exact ⟨[], rfl, fun i hi => by simp at hi, fun j hj => by simp at hj, fun _ _ _ _ _ _ => by simp⟩
  · simp [Value.cells] at hcs
    obtain ⟨rfl, rfl, rfl⟩ := hcs
    simp only [if_true] at hmm
    subst hmm
    have hC : Try.prog.cellsOf 39 = 3 := by kernel_rfl
    rw [hC] at hi
    have each : ∀ i, ∃ o : OpN, i < m → w.cell? ((y.add (i * 3)).add 0) = some (.int .u8 o.kind) ∧ w.cell? ((y.add (i * 3)).add 1) = some (.int .u8 o.t) ∧ w.cell? ((y.add (i * 3)).add 2) = some (.int .u64 o.v) ∧ (0 ≤ o.kind ∧ o.kind < 256) ∧ (0 ≤ o.t ∧ o.t < 256) ∧ (0 ≤ o.v ∧ o.v < 18446744073709551616) := by
      intro i
      by_cases him : i < m
      · obtain ⟨cs', hc, ht⟩ := hi i him
        obtain ⟨o, ho⟩ := open_op hc ht
        exact ⟨o, fun _ => ho⟩
      · exact ⟨⟨0, 0, 0⟩, fun h => absurd h him⟩
    obtain ⟨f, hf⟩ := Classical.axiomOfChoice each
    refine ⟨(List.range len).map f, by simp, ?_, ?_, ?_⟩
    · intro i hi'
      simp only [List.length_map, List.length_range] at hi'
      obtain ⟨b, off, spot⟩ := y
      have h0 := (hf 0 (by omega)).1
      have hspot : spot = none := by simpa [Addr.add] using World.cell?_spot h0
      subst hspot
      refine ⟨b, off, rfl, ?_, ?_⟩
      · rcases Nat.lt_or_ge b w.heap.size with h' | h'
        · exact h'
        · exfalso
          rw [add_addO] at h0
          simp [World.cell?, Array.getElem?_eq_none h'] at h0
      · intro j hj
        simp only [List.length_map, List.length_range] at hj
        obtain ⟨e0, e1, e2, _⟩ := hf j (by omega)
        rw [add_addO] at e0 e1 e2
        simp only [List.getElem_map, List.getElem_range]
        exact ⟨e0, e1, e2⟩
    · intro j hj
      simp only [List.length_map, List.length_range] at hj
      simp only [List.getElem_map, List.getElem_range]
      exact (hf j (by omega)).2.2.2
    · intro ts ds j hw ht hd
      have := sized_slice hw ht hd Try.underlying22
      have e6 : Try.prog.bytesOf 39 = 16 := by kernel_rfl
      rw [e6] at this
      simp only [List.length_map, List.length_range] at this ⊢
      omega
end Go.Proofs.Ythebfnmihjbajaa.Dq
