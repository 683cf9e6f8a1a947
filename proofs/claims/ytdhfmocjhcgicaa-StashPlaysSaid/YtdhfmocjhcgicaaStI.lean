/- stash: a law's line; alive; the script of a law opened. -/
import Derived.Test.YtdhfmocjhcgicaaStH
import Derived.Test.YtdhfmocjhcgicaaRowA
import Derived.Deep.Slices
import Derived.Deep.Fields
import Derived.Lib.SmallJoins
import Derived.WalkSpells
namespace Go.Proofs.Ytdhfmocjhcgicaa.St
open Go.RowKit Go.ChangeShapes Go.WideShapes Go.ChangeAt Go.Joins Go.Deep Go.Proofs.Ytdhfmocjhcgicaa

/-- What Stash answers, and what stands in the stash then. -/
def er (n : Nat) (A : List Int) : Int := if A.length = n then 4 else 0
def nx (n : Nat) (A : List Int) (id : Int) : List Int := if A.length = n then A else A ++ [id]
theorem nx_le (n : Nat) (A : List Int) (id : Int) : (nx n A id).length ≤ A.length + 1 := by unfold nx; split <;> simp
theorem er_cases (n : Nat) (A : List Int) (id : Int) : (A.length = n ∧ er n A = 4 ∧ nx n A id = A) ∨ (A.length ≠ n ∧ er n A = 0 ∧ nx n A id = A ++ [id]) := by
  unfold er nx
  by_cases h : A.length = n
  · exact .inl ⟨h, if_pos h, if_pos h⟩
  · exact .inr ⟨h, if_neg h, if_neg h⟩

theorem stash_any {w : World} {S : Nat → Prop} {hb n : Nat} {A F : List Int} (h : At w S hb n A F) (id : Int) :
    Calls Try.prog 12 #[.pointer (some ⟨hb, 0, none⟩), .int .u64 id] w fun e w' => e = .returned (.int .i64 (er n A)) ∧ Hid (At w' (Plus S w w') hb n (nx n A id) F ∧ Only S w w') := by
  rcases er_cases n A id with ⟨h1, h2, h3⟩ | ⟨h1, h2, h3⟩
  · rw [h2, h3]
    exact (stash_full h id h1).mono fun e w' ⟨he, o⟩ => ⟨he, Lib.hid ⟨(h.nil o).wider (fun q hq => .inl hq) (fun q hq => by
      rcases hq with hq | hq
      · exact Nat.lt_of_lt_of_le (h.lt q hq) o.size
      · exact hq.2), o.nilTo S⟩⟩
  · rw [h2, h3]
    have := h.few
    exact stash_ok h id (by omega)

/-- World w holds at hb a line that was made behind w0; nothing that there was in w0 has turned. -/
def Mine (w0 w : World) (hb n : Nat) (A F : List Int) : Prop := ∃ S, At w S hb n A F ∧ (∀ q, S q → w0.heap.size ≤ q) ∧ Only Nil w0 w
section
variable {w0 w w' : World} {hb n : Nat} {A F : List Int}
theorem Mine.nil (h : Mine w0 w hb n A F) (o : Only Nil w w') : Mine w0 w' hb n A F := by
  obtain ⟨S, a, b, c⟩ := h
  exact ⟨S, a.nil o, b, c.trans o⟩
theorem Mine.only (h : Mine w0 w hb n A F) : Only Nil w0 w := by obtain ⟨S, a, b, c⟩ := h; exact c
theorem Mine.few (h : Mine w0 w hb n A F) : A.length ≤ n ∧ n ≤ 64 := by obtain ⟨S, a, b, c⟩ := h; exact a.few
theorem mine_step {S : Nat → Prop} {A' F' : List Int} (hS : ∀ q, S q → w0.heap.size ≤ q) (o0 : Only Nil w0 w) (a : At w' (Plus S w w') hb n A' F') (o : Only S w w') : Mine w0 w' hb n A' F' :=
  ⟨Plus S w w', a, fun q hq => by
    rcases hq with hq | hq
    · exact hS q hq
    · have := o0.size; omega, o0.then o (fun q hq hlt => by have := hS q hq; omega)⟩
theorem mine_new (w0 w : World) (o : Only Nil w0 w) (r : Int) : Calls Try.prog 9 #[.int .i64 r] w fun e w' => e = .returned (.pointer (some ⟨w.heap.size, 0, none⟩)) ∧ Mine w0 w' w.heap.size (rm r) [] [] :=
  (new_any r w).mono fun e w' ⟨he, h, o'⟩ => ⟨he, _, h, fun q hq => by have := o.size; omega, o.trans o'⟩
theorem mine_stash (h : Mine w0 w hb n A F) (id : Int) : Calls Try.prog 12 #[.pointer (some ⟨hb, 0, none⟩), .int .u64 id] w fun e w' => e = .returned (.int .i64 (er n A)) ∧ Mine w0 w' hb n (nx n A id) F := by
  obtain ⟨S, a, b, c⟩ := h
  exact (stash_any a id).mono fun e w' ⟨he, hk⟩ => ⟨he, mine_step b c hk.out.1 hk.out.2⟩
theorem mine_unstash (h : Mine w0 w hb n A F) (few : F.length ≤ 50000) : Calls Try.prog 13 #[.pointer (some ⟨hb, 0, none⟩)] w fun e w' => e = .returned (.int .i64 (A.length : Nat)) ∧ Mine w0 w' hb n [] (A ++ F) := by
  obtain ⟨S, a, b, c⟩ := h
  exact (unstash_any a few).mono fun e w' ⟨he, hk⟩ => ⟨he, mine_step b c hk.out.1 hk.out.2⟩
theorem mine_none (h : Mine w0 w hb n A []) : Calls Try.prog 15 #[.pointer (some ⟨hb, 0, none⟩)] w fun e w' => e = .returned (.tuple #[.int .u64 0, .bool false]) ∧ w = w' := by
  obtain ⟨S, a, b, c⟩ := h
  exact next_none a
theorem mine_some {x : Int} (h : Mine w0 w hb n A (x :: F)) (few : F.length ≤ 50000) : Calls Try.prog 15 #[.pointer (some ⟨hb, 0, none⟩)] w fun e w' => e = .returned (.tuple #[.int .u64 x, .bool true]) ∧ Mine w0 w' hb n A F := by
  obtain ⟨S, a, b, c⟩ := h
  exact (next_some a few).mono fun e w' ⟨he, hk⟩ => ⟨he, mine_step b c hk.out.1 hk.out.2⟩
theorem mine_clear (h : Mine w0 w hb n A F) (few : F.length ≤ 50000) : Calls Try.prog 18 #[.pointer (some ⟨hb, 0, none⟩)] w fun e w' => ∃ a' c', e = .returned (.slice a' (F.length + A.length) c') ∧ Hid (RowB w.heap.size w' (.slice a' (F.length + A.length) c') (F ++ A) ∧ Mine w0 w' hb n [] []) := by
  obtain ⟨S, a, b, c⟩ := h
  refine (clear_any a few).mono ?_
  rintro e w' ⟨v', rfl, hk⟩
  obtain ⟨k1, k2, k3, k4⟩ := hk.out
  obtain ⟨a', c', rfl⟩ := k1.slice
  exact ⟨a', c', by rw [List.length_append], Lib.hid ⟨by rw [List.length_append] at k1; exact k1, S, k3, b, c.then k4 (fun q hq hlt => by have := b q hq; omega)⟩⟩
theorem mine_front (h : Mine w0 w hb n A F) (few : F.length ≤ 50000) : Calls Try.prog 21 #[.pointer (some ⟨hb, 0, none⟩)] w fun e w' => ∃ a' c', e = .returned (.slice a' F.length c') ∧ Hid (RowB w.heap.size w' (.slice a' F.length c') F ∧ Only Nil w w') := by
  obtain ⟨S, a, b, c⟩ := h
  refine (front_any a few).mono ?_
  rintro e w' ⟨v', rfl, hk⟩
  obtain ⟨a', c', rfl⟩ := hk.out.1.slice
  exact ⟨a', c', rfl, hk⟩
theorem mine_stashed (h : Mine w0 w hb n A F) : Calls Try.prog 20 #[.pointer (some ⟨hb, 0, none⟩)] w fun e w' => ∃ a' c', e = .returned (.slice a' A.length c') ∧ Hid (RowB w.heap.size w' (.slice a' A.length c') A ∧ Only Nil w w') := by
  obtain ⟨S, a, b, c⟩ := h
  refine (stashed_any a).mono ?_
  rintro e w' ⟨v', rfl, hk⟩
  obtain ⟨a', c', rfl⟩ := hk.out.1.slice
  exact ⟨a', c', rfl, hk⟩
end

theorem same76 {W : World} {v : Value} (h : Row W v [7, 6]) : Calls Try.prog 17 #[v, .slice (some ⟨W.heap.size, 0, none⟩) 2 2] (W.alloc (.cells #[.int .u64 7, .int .u64 6] 30)) fun e w' => e = .returned (.bool true) ∧ Only Nil W w' := by
  have oA : Only Nil W (W.alloc (.cells #[.int .u64 7, .int .u64 6] 30)) := (Only.refl Nil W).alloc _
  have h2 : Row (W.alloc (.cells #[.int .u64 7, .int .u64 6] 30)) (.slice (some ⟨W.heap.size, 0, none⟩) 2 2) [7, 6] :=
    ⟨rfl, .inr ⟨_, _, _, rfl, Nat.zero_le _, heap_new W _, Nat.le_refl _, by unfold maxLen; omega, rfl, rfl⟩⟩
  exact (rsame_any (h.nil oA) h2 (by simp)).mono fun e w' ⟨he, o⟩ => ⟨he, oA.trans o⟩

set_option maxRecDepth 100000 in
set_option maxHeartbeats 4000000 in
theorem alive_any (w : World) : Calls Try.prog 8 #[] w fun e w' => e = .returned (.bool true) ∧ Only Nil w w' := by
  have nw := Lib.hid (show Calls Try.prog 9 #[.int .i64 2] w fun e w' => e = .returned (.pointer (some ⟨w.heap.size, 0, none⟩)) ∧ Mine w w' w.heap.size 2 [] [] from mine_new w w (Only.refl _ _) 2)
  generalize w.heap.size = hb at *
  have s5 := Lib.hid (fun (w1 : World) (h : Mine w w1 hb 2 [] []) => show Calls Try.prog 12 #[.pointer (some ⟨hb, 0, none⟩), .int .u64 5] w1 fun e w' => e = .returned (.int .i64 0) ∧ Mine w w' hb 2 [5] [] from mine_stash h 5)
  have s6 := Lib.hid (fun (w1 : World) (h : Mine w w1 hb 2 [5] []) => show Calls Try.prog 12 #[.pointer (some ⟨hb, 0, none⟩), .int .u64 6] w1 fun e w' => e = .returned (.int .i64 0) ∧ Mine w w' hb 2 [5, 6] [] from mine_stash h 6)
  have s7 := Lib.hid (fun (w1 : World) (h : Mine w w1 hb 2 [5, 6] []) => show Calls Try.prog 12 #[.pointer (some ⟨hb, 0, none⟩), .int .u64 7] w1 fun e w' => e = .returned (.int .i64 4) ∧ Mine w w' hb 2 [5, 6] [] from mine_stash h 7)
  have u2 := Lib.hid (fun (w1 : World) (h : Mine w w1 hb 2 [5, 6] []) => show Calls Try.prog 13 #[.pointer (some ⟨hb, 0, none⟩)] w1 fun e w' => e = .returned (.int .i64 2) ∧ Mine w w' hb 2 [] [5, 6] from mine_unstash h (by simp))
  have nx5 := Lib.hid (fun (w1 : World) (h : Mine w w1 hb 2 [] [5, 6]) => show Calls Try.prog 15 #[.pointer (some ⟨hb, 0, none⟩)] w1 fun e w' => e = .returned (.tuple #[.int .u64 5, .bool true]) ∧ Mine w w' hb 2 [] [6] from mine_some h (by simp))
  have t7 := Lib.hid (fun (w1 : World) (h : Mine w w1 hb 2 [] [6]) => show Calls Try.prog 12 #[.pointer (some ⟨hb, 0, none⟩), .int .u64 7] w1 fun e w' => e = .returned (.int .i64 0) ∧ Mine w w' hb 2 [7] [6] from mine_stash h 7)
  have u1 := Lib.hid (fun (w1 : World) (h : Mine w w1 hb 2 [7] [6]) => show Calls Try.prog 13 #[.pointer (some ⟨hb, 0, none⟩)] w1 fun e w' => e = .returned (.int .i64 1) ∧ Mine w w' hb 2 [] [7, 6] from mine_unstash h (by simp))
  have f76 := Lib.hid (fun (w1 : World) (h : Mine w w1 hb 2 [] [7, 6]) => show Calls Try.prog 21 #[.pointer (some ⟨hb, 0, none⟩)] w1 fun e w' => ∃ a' c', e = .returned (.slice a' 2 c') ∧ Hid (RowB w1.heap.size w' (.slice a' 2 c') [7, 6] ∧ Only Nil w1 w') from mine_front h (by simp))
  have cl := Lib.hid (fun (w1 : World) (h : Mine w w1 hb 2 [] [7, 6]) => show Calls Try.prog 18 #[.pointer (some ⟨hb, 0, none⟩)] w1 fun e w' => ∃ a' c', e = .returned (.slice a' 2 c') ∧ Hid (RowB w1.heap.size w' (.slice a' 2 c') [7, 6] ∧ Mine w w' hb 2 [] []) from mine_clear h (by simp))
  have f0 := Lib.hid (fun (w1 : World) (h : Mine w w1 hb 2 [] []) => show Calls Try.prog 21 #[.pointer (some ⟨hb, 0, none⟩)] w1 fun e w' => ∃ a' c', e = .returned (.slice a' 0 c') ∧ Hid (RowB w1.heap.size w' (.slice a' 0 c') [] ∧ Only Nil w1 w') from mine_front h (by simp))
  go_enter Try.func8, Try.ntmps8
  go_wp2_with (first
    | (go_at_call 9; (with_reducible refine nw.out.mono ?_); rintro e w1 ⟨rfl, h⟩; have k1 := Lib.hid h; clear h nw)
    | (go_at_call 12; (with_reducible refine (s5.out _ k1.out).mono ?_); rintro e w2 ⟨rfl, h⟩; have k2 := Lib.hid h; clear h s5)
    | (go_at_call 12; (with_reducible refine (s6.out _ k2.out).mono ?_); rintro e w3 ⟨rfl, h⟩; have k3 := Lib.hid h; clear h s6)
    | (go_at_call 12; (with_reducible refine (s7.out _ k3.out).mono ?_); rintro e w4 ⟨rfl, h⟩; have k4 := Lib.hid h; clear h s7)
    | (go_at_call 13; (with_reducible refine (u2.out _ k4.out).mono ?_); rintro e w5 ⟨rfl, h⟩; have k5 := Lib.hid h; clear h u2)
    | (go_at_call 15; (with_reducible refine (nx5.out _ k5.out).mono ?_); rintro e w6 ⟨rfl, h⟩; have k6 := Lib.hid h; clear h nx5)
    | (go_at_call 12; (with_reducible refine (t7.out _ k6.out).mono ?_); rintro e w7 ⟨rfl, h⟩; have k7 := Lib.hid h; clear h t7)
    | (go_at_call 13; (with_reducible refine (u1.out _ k7.out).mono ?_); rintro e w8 ⟨rfl, h⟩; have k8 := Lib.hid h; clear h u1)
    | (go_at_call 21; (with_reducible refine (f76.out _ k8.out).mono ?_); rintro e w9 ⟨a9, c9, rfl, h⟩; have k9 := Lib.hid (k8.out.nil h.out.2); have sm := Lib.hid (same76 h.out.1.row); clear h f76)
    | (go_at_call 17; (with_reducible refine sm.out.mono ?_); rintro e w10 ⟨rfl, o⟩; have k10 := Lib.hid (k9.out.nil o); clear o sm)
    | (go_at_call 18; (with_reducible refine (cl.out _ k10.out).mono ?_); rintro e w11 ⟨a11, c11, rfl, h⟩; have k11 := Lib.hid h.out.2; have sm2 := Lib.hid (same76 h.out.1.row); clear h cl)
    | (go_at_call 17; (with_reducible refine sm2.out.mono ?_); rintro e w12 ⟨rfl, o⟩; have k12 := Lib.hid (k11.out.nil o); clear o sm2)
    | (go_at_call 21; (with_reducible refine (f0.out _ k12.out).mono ?_); rintro e w13 ⟨a13, c13, rfl, h⟩; have k13 := Lib.hid (k12.out.nil h.out.2); clear h f0))
  go_ret
  exact ⟨rfl, k13.out.only⟩

/-- An operation of a law's script. -/
structure Op where
  k : Int
  id : Int
  k0 : 0 ≤ k ∧ k < 256
  ok : (Lit.int .u64 id).wf = true
instance : Inhabited Op := ⟨⟨0, 0, by decide, by decide⟩⟩
/-- The slice at a, of the operations S. -/
def OpsIn (w : World) (a : Option Addr) (S : List Op) : Prop :=
  ∀ i, i < S.length → ∃ b off, a = some ⟨b, off, none⟩ ∧ b < w.heap.size ∧ ∀ j, j < S.length → w.cell? ⟨b, off + j * 2, none⟩ = some (.int .u8 (S.getD j default).k) ∧ w.cell? ⟨b, off + j * 2 + 1, none⟩ = some (.int .u64 (S.getD j default).id)
theorem add_addO (b off j k : Nat) : ((⟨b, off, none⟩ : Addr).add j).add k = ⟨b, off + j + k, none⟩ := by
  have e : ∀ o n, (⟨b, o, none⟩ : Addr).add n = ⟨b, o + n, none⟩ := fun o n => by
    by_cases h : n = 0
    · subst h; simp [Addr.add]
    · simp [Addr.add, h]
  rw [e, e]

set_option maxRecDepth 100000 in
theorem open_op {H : Type} {enc : TypeId × Value → H} {w : World} {held : Bool} {n : Nat} {ad : Addr} {cs : List Value} {y : DataW H × List MemPlace}
    (hc : w.cells? 0 ad 2 = some cs) (h : DataW.trod enc Try.prog w 0 (fun _ => true) held n 32 cs = some y) :
    ∃ o : Op, w.cell? (ad.add 0) = some (.int .u8 o.k) ∧ w.cell? (ad.add 1) = some (.int .u64 o.id) ∧ True := by
  obtain ⟨_, hl, hat⟩ := World.cells?_some hc
  match cs, hl with
  | [v0, v1], _ =>
    obtain ⟨y0, y1, m, _, _, h0, h1⟩ := trod_struct2 Try.underlying32 h
    have g0 : DataW.trod enc Try.prog w 0 (fun _ => true) held m 5 [v0] = some y0 := h0
    have g1 : DataW.trod enc Try.prog w 0 (fun _ => true) held m 30 [v1] = some y1 := h1
    obtain ⟨k, e0, _, wk⟩ := DataW.trod_int Try.underlying5 g0
    obtain ⟨i, e1, _, wi⟩ := DataW.trod_int Try.underlying30 g1
    simp at e0 e1
    subst e0 e1
    exact ⟨⟨k, i, u8_of_wf wk, wi⟩, hat 0 (by decide), hat 1 (by decide), trivial⟩

set_option maxRecDepth 100000 in
/-- An argument that is a slice of operations, opened. -/
theorem open_ops {H : Type} {enc : TypeId × Value → H} {w : World} {held : Bool} {fuel : Nat} {a : Option Addr} {len cap : Nat} {x : DataW H × List MemPlace}
    (h : DataW.trod enc Try.prog w 0 (fun _ => true) held fuel 22 (Value.slice a len cap).cells.toList = some x) :
    ∃ S : List Op, S.length = len ∧ OpsIn w a S ∧ True ∧
      ∀ (ts : List TypeId) (ds : List (DataW H)) (j : Nat), (DataW.weightsEach Try.prog ts ds).all (· ≤ reachBytes) = true → ts[j]? = some 22 → ds[j]? = some x.1 → S.length * 16 ≤ reachBytes := by
  rcases open_slice Try.underlying22 h with ⟨hcs, rfl⟩ | ⟨y, l, c, m, n, D, Pl, hcs, _, hl, hm, hmm, rfl, hi⟩
  · simp [Value.cells] at hcs
    obtain ⟨rfl, rfl, rfl⟩ := hcs
    exact ⟨[], rfl, fun i hi => by simp at hi, trivial, fun _ _ _ _ _ _ => by simp⟩
  · simp [Value.cells] at hcs
    obtain ⟨rfl, rfl, rfl⟩ := hcs
    simp only [if_true] at hmm
    subst hmm
    have hC : Try.prog.cellsOf 32 = 2 := by kernel_rfl
    rw [hC] at hi
    have each : ∀ i, ∃ o : Op, i < m → w.cell? ((y.add (i * 2)).add 0) = some (.int .u8 o.k) ∧ w.cell? ((y.add (i * 2)).add 1) = some (.int .u64 o.id) ∧ True := by
      intro i
      by_cases him : i < m
      · obtain ⟨cs', hc, ht⟩ := hi i him
        obtain ⟨o, ho⟩ := open_op hc ht
        exact ⟨o, fun _ => ho⟩
      · exact ⟨default, fun h => absurd h him⟩
    obtain ⟨f, hf⟩ := Classical.axiomOfChoice each
    refine ⟨(List.range len).map f, by simp, ?_, trivial, ?_⟩
    · intro i hi'
      simp only [List.length_map, List.length_range] at hi'
      obtain ⟨b, off, spot⟩ := y
      have h0 := (hf 0 (by omega)).1
      have hspot : spot = none := by simpa [Addr.add] using World.cell?_spot h0
      subst hspot
      refine ⟨b, off, rfl, ?_, ?_⟩
      · rcases Nat.lt_or_ge b w.heap.size with h' | h'
        · exact h'
        · exfalso
          rw [add_addO] at h0
          simp [World.cell?, Array.getElem?_eq_none h'] at h0
      · intro j hj
        simp only [List.length_map, List.length_range] at hj
        obtain ⟨e0, e1, _⟩ := hf j (by omega)
        rw [add_addO] at e0 e1
        have ed : ((List.range len).map f).getD j default = f j := by simp [List.getD, hj]
        rw [ed]
        exact ⟨e0, e1⟩
    · intro ts ds j hw ht hd
      have := sized_slice hw ht hd Try.underlying22
      have e6 : Try.prog.bytesOf 32 = 16 := by kernel_rfl
      rw [e6] at this
      simp only [List.length_map, List.length_range] at this ⊢
      omega
end Go.Proofs.Ytdhfmocjhcgicaa.St
