/- tree: Below. -/
import Derived.Test.YtkeaenkkencmdaaTrJ
import Derived.Laws.EntriesVeiled
set_option linter.unusedSimpArgs false
set_option linter.unusedVariables false
namespace Go.Proofs.Ytkeaenkkencmdaa.Tr
open Go.RowKit Go.Proofs.Ytkeaenkkencmdaa Go.Maps

set_option maxRecDepth 100000 in
set_option maxHeartbeats 2000000 in
theorem below_any {w : World} {S : Nat → Prop} {tb : Nat} {T : List Mb} (h : At w S tb T) (x : Int) (wx : (Lit.int .i64 x).wf = true) (few : T.length ≤ 1000) :
    Calls Try.prog 16 #[.pointer (some ⟨tb, 0, none⟩), .int .i64 x] w fun e w' => Hid (∃ v, e = .returned v ∧ Fr w w' v (belT T x)) := by
  obtain ⟨mb, D, b, a⟩ := h
  obtain ⟨W0, hW0⟩ : ∃ W0, W0 = (w.alloc (.cells #[.slice none 0 0] 40)).alloc (.cells #[.nilFunc] 58) := ⟨_, rfl⟩
  have o0 : Only Nil w W0 := by rw [hW0]; exact ((Only.refl Nil w).alloc _).alloc _
  have b0 : W0.heap[w.heap.size]? = some (.cells #[.slice none 0 0] 40 (0, 0)) := by
    rw [hW0, Below.heap_alloc _ _ _ (by simp)]
    exact heap_new _ _
  have v0 : W0.heap[w.heap.size + 1]? = some (.cells #[.nilFunc] 58 (0, 0)) := by
    rw [hW0]
    have := heap_new (w.alloc (.cells #[.slice none 0 0] 40)) (.cells #[.nilFunc] 58)
    rw [show (w.alloc (.cells #[.slice none 0 0] 40)).heap.size = w.heap.size + 1 by simp] at this
    exact this
  have cv : W0.cell? ⟨w.heap.size + 1, 0, none⟩ = some .nilFunc := by simp [World.cell?, v0]
  have fv : W0.frozen? ⟨w.heap.size + 1, 0, none⟩ = false := blk_free v0
  have hV : Vs w (W0.setCell ⟨w.heap.size + 1, 0, none⟩ (visV (w.heap.size + 1) w.heap.size)) (w.heap.size + 1) w.heap.size (.slice none 0 0) [] := by
    have o1 : Only (fun q => q = w.heap.size + 1) W0 (W0.setCell ⟨w.heap.size + 1, 0, none⟩ (visV (w.heap.size + 1) w.heap.size)) := (Only.refl (fun q => q = w.heap.size + 1) W0).setCell (p := ⟨w.heap.size + 1, 0, none⟩) rfl _
    exact ⟨Fr.none (o0.then o1 (fun i hi hlt => by omega)), at_same v0 _, at_other (by omega) b0 _, by omega, Nat.le_refl _⟩
  have hsz : W0.heap.size = w.heap.size + 2 := by rw [hW0]; simp
  unfold visV at hV
  obtain ⟨W1, hW1⟩ : ∃ W1, W1 = W0.setCell ⟨w.heap.size + 1, 0, none⟩ (.func (.func 28) #[] #[.pointer (some ⟨w.heap.size + 1, 0, none⟩), .pointer (some ⟨w.heap.size, 0, none⟩)]) := ⟨_, rfl⟩
  rw [← hW1] at hV
  generalize hvb : w.heap.size + 1 = vb at *
  generalize hbb : w.heap.size = bb at *
  have HV := Lib.hid hV
  have a1 := a.nil hV.row.only
  have t0 := a1.t0
  have hl := a1.look wx
  have hc1 : W1.cell? ⟨vb, 0, none⟩ = some (.func (.func 28) #[] #[.pointer (some ⟨vb, 0, none⟩), .pointer (some ⟨bb, 0, none⟩)]) := hV.c0
  have hc2 := hV.c1
  clear o0 b0 v0 hsz hV
  cases hx : has T x with
  | false =>
    have hE : belT T x = [] := by unfold belT; rw [hx]; rfl
    rw [hE]
    rw [hx] at hl
    simp only [Bool.false_eq_true, if_false] at hl
    clear a a1 hE
    go_enter Try.func16, Try.ntmps16
    go_upto_region 3 with (fail)
    rw [← hW0]
    clear hW0
    go_upto_region 4 with (fail)
    rw [← hW1]
    clear hW1 cv fv
    go_wp2_with (fail)
    go_ret
    exact Lib.hid ⟨_, rfl, HV.out.row⟩
  | true =>
    rw [hx] at hl
    simp only [if_true] at hl
    have hE : belT T x = bel T.length T x := by unfold belT; rw [hx]; rfl
    have hlen := belT_len a.good x
    rw [hE] at hlen
    rw [hE]
    have HC := Lib.hid (show Calls Try.prog 28 #[.pointer (some ⟨b x, 0, none⟩), .pointer (some ⟨vb, 0, none⟩), .pointer (some ⟨bb, 0, none⟩)] W1 fun e w' => ∃ v, e = .returned (.tuple #[]) ∧ w'.cell? ⟨bb, 0, none⟩ = some v ∧ Hid (Fr w w' v (bel T.length T x)) from by
      refine (visit_any (Lib.hid a) T.length x W1 [] none 0 0 hx (by omega) HV.out rfl (by omega)).mono fun e w' h2 => ?_
      obtain ⟨he, hh⟩ := h2
      obtain ⟨aa', c', V⟩ := hh.out
      exact ⟨_, he, V.c1, Lib.hid V.row⟩)
    clear a a1 hE hlen
    generalize bel T.length T x = R at *
    go_enter Try.func16, Try.ntmps16
    go_upto_region 3 with (fail)
    rw [← hW0]
    clear hW0
    go_upto_region 4 with (fail)
    rw [← hW1]
    clear hW1 cv fv
    clear hc2
    go_wp2_with (go_at_call 28; (with_reducible refine HC.out.mono ?_); rintro e w1 ⟨v, rfl, k1, hf⟩)
    go_ret
    exact Lib.hid ⟨_, rfl, hf.out⟩
end Go.Proofs.Ytkeaenkkencmdaa.Tr
