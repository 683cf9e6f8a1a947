/- mercy: Left's closure, Left. -/
import Derived.Test.YteafdhpnkgebnaaMeD
set_option linter.unusedSimpArgs false
set_option linter.unusedVariables false
namespace Go.Proofs.Yteafdhpnkgebnaa.Me
open Go.RowKit Go.Proofs.Yteafdhpnkgebnaa Go.Maps

set_option maxRecDepth 100000 in
set_option maxHeartbeats 1000000 in
theorem clo_any {w : World} {gb nb bb hb g n k i : Nat} {win now r : Int} (x0 : w.cell? ⟨gb, 0, none⟩ = some (.slice (some ⟨g, 0, none⟩) n k)) (x1 : w.cell? ⟨g, i, none⟩ = some (.int .i64 r)) (hi : i < n)
    (x2 : w.cell? ⟨nb, 0, none⟩ = some (.int .i64 now)) (x3 : w.cell? ⟨bb, 0, none⟩ = some (.pointer (some ⟨hb, 0, none⟩))) (x4 : w.cell? ⟨hb, 1, none⟩ = some (.int .i64 win)) (hw : 1 ≤ win ∧ win ≤ 4095) :
    Calls Try.prog 19 #[.int .i64 (i : Int), .pointer (some ⟨gb, 0, none⟩), .pointer (some ⟨nb, 0, none⟩), .pointer (some ⟨bb, 0, none⟩)] w fun e w' => e = .returned (.bool (decide (tick now - win < r))) ∧ Only Nil w w' := by
  have ht := tick_in now
  have hc := Lib.hid (fun w => tick_any now w)
  have hi' : (i : Int) < (n : Int) := by omega
  have hw1 : IntKind.i64.wrap (tick now - win) = tick now - win := by rw [IntKind.wrap_i64]; omega
  generalize tick now = t at *
  clear ht hw
  go_enter Try.func19, Try.ntmps19
  go_wp2
  go_quiet ((go_at_call 20; with_reducible exact quiet_same (hc.out _)))
  go_wp2
  go_ret
  exact ⟨rfl, (Only.refl Nil w).drewN nq⟩

set_option maxRecDepth 100000 in
set_option maxHeartbeats 2000000 in
theorem left_any {w : World} {S : Nat → Prop} {hb n N : Nat} {win : Int} {A : Int → List Int} (h : At w S hb n N win A) (c : Int) (hc : (Lit.int .i64 c).wf = true) (now : Int) :
    Calls Try.prog 11 #[.pointer (some ⟨hb, 0, none⟩), .int .i64 c, .int .i64 now] w fun e w' => e = .returned (.int .i64 (left n win (A c) now : Nat)) ∧ Only Nil w w' := by
  obtain ⟨mb, D, V, F, a, r, hn, hw1, hw2⟩ := h
  obtain ⟨W, hW⟩ : ∃ W, W = (w.alloc (.cells #[.pointer (some ⟨hb, 0, none⟩)] 24)).alloc (.cells #[.int .i64 now] 3) := ⟨_, rfl⟩
  have oW : Only Nil w W := by rw [hW]; exact ((Only.refl Nil w).alloc _).alloc _
  have sW : W.heap.size = w.heap.size + 2 := by rw [hW]; simp
  have b1 : W.heap[w.heap.size]? = some (.cells #[.pointer (some ⟨hb, 0, none⟩)] 24 (0, 0)) := by
    rw [hW, Below.heap_alloc _ _ _ (by simp)]
    exact heap_new _ _
  have b2 : W.heap[w.heap.size + 1]? = some (.cells #[.int .i64 now] 3 (0, 0)) := by
    rw [hW]
    have := heap_new (w.alloc (.cells #[.pointer (some ⟨hb, 0, none⟩)] 24)) (.cells #[.int .i64 now] 3)
    rw [show (w.alloc (.cells #[.pointer (some ⟨hb, 0, none⟩)] 24)).heap.size = w.heap.size + 1 by simp] at this
    exact this
  have aW := a.nil oW
  obtain ⟨a0, k, hV⟩ := a.shape c
  have hl := aW.look hc
  rw [hV] at hl
  obtain ⟨W2, hW2⟩ : ∃ W2, W2 = W.alloc (.cells #[.slice a0 (F c).length k] 54) := ⟨_, rfl⟩
  have oW2 : Only Nil W W2 := by rw [hW2]; exact (Only.refl Nil W).alloc _
  have b3 : W2.heap[W.heap.size]? = some (.cells #[.slice a0 (F c).length k] 54 (0, 0)) := by rw [hW2]; exact heap_new _ _
  rw [sW] at b3
  have aW2 := aW.nil oW2
  have hrow := iin_of (by rw [← hV]; exact aW2.row c)
  have few := (r c).few
  have up := (r c).up
  have fit := (r c).fit
  have hres := Lib.hid (fun (i : Nat) (hp : Parts (F c) i (fun x => ¬ tick now - win < x)) => show (n : Int) - ((F c).length : Int) + (i : Int) = (left n win (A c) now : Nat) from (r c).left hp)
  have b1' := (oW2.block _ (by omega) (fun h => h)).trans b1
  have b2' := (oW2.block _ (by omega) (fun h => h)).trans b2
  have c2 := aW.c2
  have HA := Lib.hid aW2
  have HO := Lib.hid (oW.trans oW2)
  have HI := Lib.hid hrow
  have HU := Lib.hid up
  have HB1 := Lib.hid b1'
  have HB2 := Lib.hid b2'
  have HB3 := Lib.hid b3
  have d0 : W.cell? ⟨w.heap.size, 0, none⟩ = some (.pointer (some ⟨hb, 0, none⟩)) := by simp [World.cell?, b1]
  clear a aW aW2 hV r hrow up b1 b2 b3 b1' b2' oW2 oW fit
  generalize left n win (A c) now = R at *
  generalize hL : F c = L at *
  clear hL
  obtain ⟨m, hm⟩ : ∃ m, m = L.length := ⟨_, rfl⟩
  rw [← hm] at HB3 hl few hW2
  have HM := Lib.hid hm
  have mle : (m : Int) ≤ 100 := by omega
  have nle : (n : Int) ≤ 100 := by omega
  have HS : Hid (Calls Try.prog 18 #[.int .i64 (m : Int), .func (.func 19) #[] #[.pointer (some ⟨w.heap.size + 2, 0, none⟩), .pointer (some ⟨w.heap.size + 1, 0, none⟩), .pointer (some ⟨w.heap.size, 0, none⟩)]] W2 fun e w' => Hid (∃ (i : Nat), e = .returned (.int .i64 (i : Int)) ∧ i ≤ m ∧ SI (fun k => decide (tick now - win < L.getD k 0)) m i i) ∧ Only Nil W2 w') := Lib.hid (search_any (n := m) (by omega) (cs := #[]) (cb := #[.pointer (some ⟨w.heap.size + 2, 0, none⟩), .pointer (some ⟨w.heap.size + 1, 0, none⟩), .pointer (some ⟨w.heap.size, 0, none⟩)]) (fun k => decide (tick now - win < L.getD k 0)) (fun j k hjk hk hj => by
      have := HU.out.low hjk (by omega)
      have hj' := of_decide_eq_true hj
      exact decide_eq_true (by omega)) (enters_of Try.func19 (by kernel_rfl) rfl) (fun i w' hi o => by
      obtain ⟨g, e, hg, hx⟩ := HI.out i (by omega)
      have e3 := (o.block _ (lt_of_block HB3.out) (fun h => h)).trans HB3.out
      have e1 := (o.block _ (lt_of_block HB1.out) (fun h => h)).trans HB1.out
      have e2 := (o.block _ (lt_of_block HB2.out) (fun h => h)).trans HB2.out
      rw [e] at e3
      have ex : w'.cell? ⟨g, i, none⟩ = some (.int .i64 (L.getD i 0)) := (World.cell?_of_block (a := ⟨g, i, none⟩) (o.block g hg (fun h => h))).trans hx
      exact clo_any (n := m) (k := k) (g := g) (by simp [World.cell?, e3]) ex hi (by simp [World.cell?, e2]) (by simp [World.cell?, e1]) (HA.out.nil o).c1 ⟨hw1, hw2⟩))
  clear hm few
  have HW2 := Lib.hid hW2
  clear hW2
  go_enter Try.func11, Try.ntmps11
  go_upto_region 1 with (fail)
  rw [← hW]
  clear hW
  go_upto_region 2 with (fail)
  rw [← HW2.out]
  clear HW2 c2 hl d0
  have d3 : W2.cell? ⟨w.heap.size + 2, 0, none⟩ = some (.slice a0 m k) := by simp [World.cell?, HB3.out]
  go_wp2_with (go_at_call 18; refine HS.out.mono ?_; rintro e w3 ⟨hr3, o3⟩; obtain ⟨i, rfl, hi3, hp3⟩ := hr3.out; have hP := Lib.hid (And.intro hi3 hp3); clear hr3 hi3 hp3)
  have e3 := (o3.block _ (lt_of_block HB3.out) (fun h => h)).trans HB3.out
  have e1 := (o3.block _ (lt_of_block HB1.out) (fun h => h)).trans HB1.out
  have f3 : w3.cell? ⟨w.heap.size + 2, 0, none⟩ = some (.slice a0 m k) := by simp [World.cell?, e3]
  have f1 : w3.cell? ⟨w.heap.size, 0, none⟩ = some (.pointer (some ⟨hb, 0, none⟩)) := by simp [World.cell?, e1]
  have f0 := (HA.out.nil o3).c0
  have hir := Lib.hid (hres.out i ⟨by have := hP.out.1; have := HM.out; omega, fun j hj => by have := hP.out.2.a j hj; simpa using this, fun j hj hjl => by have := hP.out.2.b j hj (by have := HM.out; omega); exact Int.not_le.2 (of_decide_eq_true this)⟩)
  have hil : (i : Int) ≤ (m : Int) := by have := hP.out.1; omega
  have O3 := Lib.hid (HO.out.trans o3)
  clear o3 hP e3 e1 d3
  go_quiet (fail)
  go_wp2
  go_ret
  rw [← hir.out]
  exact ⟨by rw [HM.out]; rfl, O3.out.drewN nq⟩
end Go.Proofs.Yteafdhpnkgebnaa.Me
