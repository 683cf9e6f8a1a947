/- The script of a ring opened; an operation begun; like. -/
import Derived.Test.YtpnpbgcndlfobaaRingLm
import Derived.Test.YtpnpbgcndlfobaaRingX
import Derived.Test.YtpnpbgcndlfobaaRowC
import Derived.Deep.Slices
import Derived.Deep.Fields
import Derived.Lib.SmallJoins
import Derived.WalkSpells
namespace Go.Proofs.Ytpnpbgcndlfobaa.Rp
open Go.RowKit Go.ChangeShapes Go.WideShapes Go.ChangeAt Go.Joins Go.Deep

/-- An operation begun, by its kind. -/
theorem begun_any (w : World) (rg kind : Nat) (v : Int) (hk : 1 ≤ kind ∧ kind ≤ 5) :
    Calls Try.prog 16 #[.pointer (some ⟨rg, 0, none⟩), .int .i64 (kind : Int), .int .u64 v] w fun e w' => e = .returned (.pointer (some ⟨w.heap.size, 0, none⟩)) ∧ OpIn w' w.heap.size rg (begin kind v) ∧ Only Nil w w' ∧ w.heap.size < w'.heap.size := by
  have hcases : kind = 1 ∨ kind = 2 ∨ kind = 3 ∨ kind = 4 ∨ kind = 5 := by omega
  have p1 := Lib.hid (dput_any w rg v)
  have p2 := Lib.hid (dtake_any w rg)
  have p3 := Lib.hid (ddrain_any w rg)
  have p4 := Lib.hid (dclose_any w rg)
  have p5 := Lib.hid (dlook_any w rg)
  clear hk
  rcases hcases with rfl | rfl | rfl | rfl | rfl
  · go_enter Try.func16, Try.ntmps16
    go_wp2_with (go_at_call 29; (with_reducible refine (p1.out).mono ?_); rintro e w1 ⟨rfl, q, o, z⟩)
    go_ret
    exact ⟨rfl, q, o, z⟩
  · go_enter Try.func16, Try.ntmps16
    go_wp2_with (go_at_call 33; (with_reducible refine (p2.out).mono ?_); rintro e w1 ⟨rfl, q, o, z⟩)
    go_ret
    exact ⟨rfl, q, o, z⟩
  · go_enter Try.func16, Try.ntmps16
    go_wp2_with (go_at_call 32; (with_reducible refine (p3.out).mono ?_); rintro e w1 ⟨rfl, q, o, z⟩)
    go_ret
    exact ⟨rfl, q, o, z⟩
  · go_enter Try.func16, Try.ntmps16
    go_wp2_with (go_at_call 31; (with_reducible refine (p4.out).mono ?_); rintro e w1 ⟨rfl, q, o, z⟩)
    go_ret
    exact ⟨rfl, q, o, z⟩
  · go_enter Try.func16, Try.ntmps16
    go_wp2_with (go_at_call 34; (with_reducible refine (p5.out).mono ?_); rintro e w1 ⟨rfl, q, o, z⟩)
    go_ret
    exact ⟨rfl, q, o, z⟩

def In64 (x : Int) : Prop := 0 ≤ x ∧ x < 18446744073709551616
theorem begin_le {kind n : Nat} {v : Int} (hk : 1 ≤ kind ∧ kind ≤ 5) (hv : In64 v) : (begin kind v).le n := by
  have hcases : kind = 1 ∨ kind = 2 ∨ kind = 3 ∨ kind = 4 ∨ kind = 5 := by omega
  rcases hcases with rfl | rfl | rfl | rfl | rfl
  · exact hv
  all_goals trivial
theorem like_any {w : World} {ob rg b c : Nat} {s : OS} (h : OpIn w ob rg s) (ht : s.tk) :
    Calls Try.prog 20 #[.pointer (some ⟨ob, 0, none⟩), wantOf b c s] w fun e w' => e = .returned (.bool true) ∧ Only Nil w w' := by
  by_cases ho : s.isOver
  · exact like_over h ht ho
  · exact like_not h ht ho
/-- What is known of the cells behind n rounds. -/
def OkL (b n : Nat) (L : List Int) : Prop := U64s L ∧ NumsK b n L
theorem OkL.mono {b n m : Nat} {L : List Int} (h : OkL b n L) (hm : n ≤ m) : OkL b m L := ⟨h.1, by have := h.2; unfold NumsK at this ⊢; omega⟩
theorem okL_step {b c n : Nat} {L : List Int} (s : OS) (h : s.le n) (u : OkL b n L) (hL : b + 2 + 2 * c ≤ L.length) (hn : n < 1000000000) : OkL b (n + 1) (stepL b c L s) := (stepL_keeps s h u.2 u.1 hL hn).symm
theorem set_zerosR (n i : Nat) : (zeros n).set i 0 = zeros n := by
  apply List.ext_getElem
  · simp
  · intro k h1 h2
    rw [List.getElem_set]
    split
    · simp [zeros]
    · rfl
theorem layL_zerosR (n b k : Nat) : layL (zeros n) b k = zeros n := by
  induction k with
  | zero => simp only [layL, set_zerosR]
  | succ k ih => simp only [layL, ih, set_zerosR]
theorem okL_fresh (n b c : Nat) : OkL b 0 (layL (zeros n) b c) := by
  rw [layL_zerosR]
  exact ⟨fun i => by rw [getD_zeros]; decide, by unfold NumsK; rw [getD_zeros, getD_zeros]; decide⟩

/-- An operation of the script. -/
structure OpN where
  kind : Int
  t : Int
  v : Int
/-- The slice at a, of the operations S. -/
def OpsIn (w : World) (a : Option Addr) (S : List OpN) : Prop :=
  ∀ i, i < S.length → ∃ b off, a = some ⟨b, off, none⟩ ∧ b < w.heap.size ∧ ∀ j (h : j < S.length), w.cell? ⟨b, off + j * 3, none⟩ = some (.int .u8 (S[j]'h).kind) ∧ w.cell? ⟨b, off + j * 3 + 1, none⟩ = some (.int .u8 (S[j]'h).t) ∧ w.cell? ⟨b, off + j * 3 + 2, none⟩ = some (.int .u64 (S[j]'h).v)
def OpsOk (S : List OpN) : Prop := ∀ j (h : j < S.length), (0 ≤ (S[j]'h).kind ∧ (S[j]'h).kind < 256) ∧ (0 ≤ (S[j]'h).t ∧ (S[j]'h).t < 256) ∧ (0 ≤ (S[j]'h).v ∧ (S[j]'h).v < 18446744073709551616)
theorem add_addO (b off j k : Nat) : ((⟨b, off, none⟩ : Addr).add j).add k = ⟨b, off + j + k, none⟩ := by
  have e : ∀ o n, (⟨b, o, none⟩ : Addr).add n = ⟨b, o + n, none⟩ := fun o n => by
    by_cases h : n = 0
    · subst h; simp [Addr.add]
    · simp [Addr.add, h]
  rw [e, e]

set_option maxRecDepth 100000 in
theorem open_op {H : Type} {enc : TypeId × Value → H} {w : World} {held : Bool} {n : Nat} {ad : Addr} {cs : List Value} {y : DataW H × List MemPlace}
    (hc : w.cells? 0 ad 3 = some cs) (h : DataW.trod enc Try.prog w 0 (fun _ => true) held n 39 cs = some y) :
    ∃ o : OpN, w.cell? (ad.add 0) = some (.int .u8 o.kind) ∧ w.cell? (ad.add 1) = some (.int .u8 o.t) ∧ w.cell? (ad.add 2) = some (.int .u64 o.v) ∧ (0 ≤ o.kind ∧ o.kind < 256) ∧ (0 ≤ o.t ∧ o.t < 256) ∧ (0 ≤ o.v ∧ o.v < 18446744073709551616) := by
  obtain ⟨_, hl, hat⟩ := World.cells?_some hc
  match cs, hl with
  | [v0, v1, v2], _ =>
    obtain ⟨y0, y1, y2, m, _, _, h0, h1, h2⟩ := trod_struct3 Try.underlying39 h
    have g0 : DataW.trod enc Try.prog w 0 (fun _ => true) held m 5 [v0] = some y0 := h0
    have g1 : DataW.trod enc Try.prog w 0 (fun _ => true) held m 5 [v1] = some y1 := h1
    have g2 : DataW.trod enc Try.prog w 0 (fun _ => true) held m 37 [v2] = some y2 := h2
    obtain ⟨k, e0, _, wk⟩ := DataW.trod_int Try.underlying5 g0
    obtain ⟨i, e1, _, wi⟩ := DataW.trod_int Try.underlying5 g1
    obtain ⟨o, e2, _, wo⟩ := DataW.trod_int Try.underlying37 g2
    simp at e0 e1 e2
    subst e0 e1 e2
    exact ⟨⟨k, i, o⟩, hat 0 (by decide), hat 1 (by decide), hat 2 (by decide), u8_of_wf wk, u8_of_wf wi, u64_of_wf wo⟩

set_option maxRecDepth 100000 in
/-- An argument that is a slice of operations, opened. -/
theorem open_ops {H : Type} {enc : TypeId × Value → H} {w : World} {held : Bool} {fuel : Nat} {a : Option Addr} {len cap : Nat} {x : DataW H × List MemPlace}
    (h : DataW.trod enc Try.prog w 0 (fun _ => true) held fuel 22 (Value.slice a len cap).cells.toList = some x) :
    ∃ S : List OpN, S.length = len ∧ OpsIn w a S ∧ OpsOk S ∧
      ∀ (ts : List TypeId) (ds : List (DataW H)) (j : Nat), (DataW.weightsEach Try.prog ts ds).all (· ≤ reachBytes) = true → ts[j]? = some 22 → ds[j]? = some x.1 → S.length * 16 ≤ reachBytes := by
  rcases open_slice Try.underlying22 h with ⟨hcs, rfl⟩ | ⟨y, l, c, m, n, D, Pl, hcs, _, hl, hm, hmm, rfl, hi⟩
  · simp [Value.cells] at hcs
    obtain ⟨rfl, rfl, rfl⟩ := hcs
    exact ⟨[], rfl, fun i hi => by simp at hi, fun j hj => by simp at hj, fun _ _ _ _ _ _ => by simp⟩
  · simp [Value.cells] at hcs
    obtain ⟨rfl, rfl, rfl⟩ := hcs
    simp only [if_true] at hmm
    subst hmm
    have hC : Try.prog.cellsOf 39 = 3 := by kernel_rfl
    rw [hC] at hi
    have each : ∀ i, ∃ o : OpN, i < m → w.cell? ((y.add (i * 3)).add 0) = some (.int .u8 o.kind) ∧ w.cell? ((y.add (i * 3)).add 1) = some (.int .u8 o.t) ∧ w.cell? ((y.add (i * 3)).add 2) = some (.int .u64 o.v) ∧ (0 ≤ o.kind ∧ o.kind < 256) ∧ (0 ≤ o.t ∧ o.t < 256) ∧ (0 ≤ o.v ∧ o.v < 18446744073709551616) := by
      intro i
      by_cases him : i < m
      · obtain ⟨cs', hc, ht⟩ := hi i him
        obtain ⟨o, ho⟩ := open_op hc ht
        exact ⟨o, fun _ => ho⟩
      · exact ⟨⟨0, 0, 0⟩, fun h => absurd h him⟩
    obtain ⟨f, hf⟩ := Classical.axiomOfChoice each
    refine ⟨(List.range len).map f, by simp, ?_, ?_, ?_⟩
    · intro i hi'
      simp only [List.length_map, List.length_range] at hi'
      obtain ⟨b, off, spot⟩ := y
      have h0 := (hf 0 (by omega)).1
      have hspot : spot = none := by simpa [Addr.add] using World.cell?_spot h0
      subst hspot
      refine ⟨b, off, rfl, ?_, ?_⟩
      · rcases Nat.lt_or_ge b w.heap.size with h' | h'
        · exact h'
        · exfalso
          rw [add_addO] at h0
          simp [World.cell?, Array.getElem?_eq_none h'] at h0
      · intro j hj
        simp only [List.length_map, List.length_range] at hj
        obtain ⟨e0, e1, e2, _⟩ := hf j (by omega)
        rw [add_addO] at e0 e1 e2
        simp only [List.getElem_map, List.getElem_range]
        exact ⟨e0, e1, e2⟩
    · intro j hj
      simp only [List.length_map, List.length_range] at hj
      simp only [List.getElem_map, List.getElem_range]
      exact (hf j (by omega)).2.2.2
    · intro ts ds j hw ht hd
      have := sized_slice hw ht hd Try.underlying22
      have e6 : Try.prog.bytesOf 39 = 16 := by kernel_rfl
      rw [e6] at this
      simp only [List.length_map, List.length_range] at this ⊢
      omega
end Go.Proofs.Ytpnpbgcndlfobaa.Rp
