/- check: the document's fault, empty, Slot, Ref. -/
import Derived.Test.YthanclicnkjmiaaGreatDoorChR
set_option linter.unusedVariables false
set_option linter.unusedSimpArgs false
namespace Go.Proofs.YthanclicnkjmiaaGreatDoor.Ch
open Go.RowKit Go.Proofs.YthanclicnkjmiaaGreatDoor Lx Ps

theorem bsq (s t : Wd) : ((bs s).toList == (bs t).toList) = decide (s = t) := by
  rw [toList_bs, toList_bs]
  by_cases h : s = t <;> simp [h]
theorem rslot_any (s : Wd) (w : World) : Calls Tryz.prog 68 #[.string (bs s)] w fun e w' => e = .returned (.bool (isSlot s)) ∧ w = w' := by
  go_enter Tryz.func68, Tryz.ntmps68
  go_wp2
  all_goals (
    go_ret
    refine ⟨?_, rfl⟩
    simp only [toList_bs] at *
    simp_all [isSlot] <;> (rw [Bool.eq_iff_iff]; simp_all))
theorem rref_any (s : Wd) (w : World) : Calls Tryz.prog 67 #[.string (bs s)] w fun e w' => e = .returned (.bool (isRef s)) ∧ w = w' := by
  have HS := Lib.hid (fun w => rslot_any s w)
  cases hs : isSlot s with
  | true =>
    rw [hs] at HS
    have hr : isRef s = true := by unfold isRef; rw [hs]; rfl
    rw [hr]
    clear hs hr
    go_enter Tryz.func67, Tryz.ntmps67
    go_wp2_with (go_at_call 68; (with_reducible refine (HS.out _).mono ?_); rintro e w' ⟨rfl, rfl⟩)
    go_ret
    exact ⟨rfl, rfl⟩
  | false =>
    rw [hs] at HS
    have hr := Lib.hid (show isRef s = (decide (s = w_self) || decide (s = w_sender) || decide (s = w_parent)) from by unfold isRef; rw [hs]; simp)
    clear hs
    go_enter Tryz.func67, Tryz.ntmps67
    go_wp2_with (go_at_call 68; (with_reducible refine (HS.out _).mono ?_); rintro e w' ⟨rfl, rfl⟩)
    all_goals (
      go_ret
      rw [hr.out]
      refine ⟨?_, rfl⟩
      clear HS hr
      simp only [toList_bs] at *
      simp_all [w_self, w_sender, w_parent] <;> (rw [Bool.eq_iff_iff]; simp_all) <;> (first | exact decide_eq_true_iff.symm | exact (decide_eq_true_iff ..).symm))
/-- empty: none, or a name. -/
def emN (s : Wd) : Bool := decide (s = []) || isNm s
theorem rempty_any (s : Wd) (w : World) (hs : s.length ≤ 140737488355328) : Calls Tryz.prog 65 #[.string (bs s)] w fun e w' => e = .returned (.bool (emN s)) ∧ w = w' := by
  have HN := Lib.hid (fun w => rnameq_any s w hs)
  have he := emp_bs s
  unfold emN
  generalize isNm s = b at *
  generalize decide (s = []) = a at *
  generalize (bs s) = v at *
  cases a
  · go_enter Tryz.func65, Tryz.ntmps65
    go_wp2_with (go_at_call 64; (with_reducible refine (HN.out _).mono ?_); rintro e wn ⟨rfl, rfl⟩)
    go_ret
    exact ⟨rfl, rfl⟩
  · go_enter Tryz.func65, Tryz.ntmps65
    go_wp2
    go_ret
    exact ⟨rfl, rfl⟩

/-- A fault's value: its number, its place in a row of its own. -/
def FV (w w' : World) (e : Ending) (r : Fau) : Prop := ∃ v, e = .returned (.agg #[.int .i64 (codeF r : Int), v]) ∧ w'.ownsRow 0 3 1 v (whereF r).length (intsC (whereF r)) ∧ Only Nil w w'
theorem FV.from {w0 w w' : World} {e : Ending} {r : Fau} (h : FV w w' e r) (o : Only Nil w0 w) : FV w0 w' e r := by
  obtain ⟨v, h1, h2, h3⟩ := h; exact ⟨v, h1, h2, o.trans h3⟩
theorem Tryz.infoN : (Tryz.prog.info? 3).map (fun i => (i.zero, i.size, i.bytes)) = some (some (.int .i64 0), 1, 8) := by kernel_rfl
set_option maxRecDepth 100000 in
set_option maxHeartbeats 1000000 in
theorem fault_run {w : World} {c : Int} {a : Option Addr} {n cc : Nat} {v : Value} {W : List Nat}
    (hrun : ∃ wA, (Builtin.append_ #[38, 38] 38 #[.slice none 0 0, .slice a n cc]).run Tryz.prog (w.alloc (.cells #[.int .i64 0, .slice none 0 0] 40)) = .ok v wA ∧ Only Nil (w.alloc (.cells #[.int .i64 0, .slice none 0 0] 40)) wA ∧ wA.ownsRow 0 3 1 v W.length (intsC W)) :
    Calls Tryz.prog 35 #[.int .i64 c, .slice a n cc] w fun e w' => e = .returned (.agg #[.int .i64 c, v]) ∧ Hid (w'.ownsRow 0 3 1 v W.length (intsC W) ∧ Only Nil w w') := by
  obtain ⟨wA, hr, oA, ho⟩ := hrun
  obtain ⟨w1, hw1⟩ : ∃ w1, w1 = w.alloc (.cells #[.int .i64 0, .slice none 0 0] 40) := ⟨_, rfl⟩
  have o1 : Only Nil w w1 := hw1 ▸ (Only.refl Nil w).alloc _
  have b1 : Bx w1 w.heap.size [.int .i64 0, .slice none 0 0] 40 := hw1 ▸ bx_new w _ _
  rw [← hw1] at hr oA
  have HR := Lib.hid hr
  have bA := b1.keep oA
  obtain ⟨x, k, hv⟩ := own_slice_n ho
  subst hv
  have z0 := bA.cell 0 (v := .int .i64 0) rfl
  have z1 := bA.cell 1 (v := .slice none 0 0) rfl
  have g0 := bA.free 0
  have g1 := bA.free 1
  have t1 := Bx.put bA 0 (.int .i64 c)
  have t2 := Bx.put t1 1 (.slice x W.length k)
  simp only [List.set_cons_zero, List.set_cons_succ] at t2
  have oS : Only (At w.heap.size) wA ((wA.setCell ⟨w.heap.size, 0, none⟩ (.int .i64 c)).setCell ⟨w.heap.size, 1, none⟩ (.slice x W.length k)) := ((Only.refl (At w.heap.size) wA).setCell (p := ⟨w.heap.size, 0, none⟩) rfl _).setCell (p := ⟨w.heap.size, 1, none⟩) rfl _
  have hfin := Lib.hid (show ((wA.setCell ⟨w.heap.size, 0, none⟩ (.int .i64 c)).setCell ⟨w.heap.size, 1, none⟩ (.slice x W.length k)).ownsRow 0 3 1 (.slice x W.length k) W.length (intsC W) ∧ Only Nil w ((wA.setCell ⟨w.heap.size, 0, none⟩ (.int .i64 c)).setCell ⟨w.heap.size, 1, none⟩ (.slice x W.length k)) from by
    refine ⟨own_keep ho oS (fun g hg e => ?_), (o1.trans oA).then oS (fun q hq hlt => by have : q = w.heap.size := hq; omega)⟩
    have e' : g = w.heap.size := e
    subst e'
    rcases ho.2 with ⟨e2, _⟩ | ⟨g', k', cur, e2, _, hh, _⟩
    · rw [e2] at hg; simp [Value.ownBlock] at hg
    · have : w.heap.size = g' := by rw [e2] at hg; simpa [Value.ownBlock] using hg
      subst this
      exact blk_ne bA hh (by decide) rfl)
  have T2 := Lib.hid t2
  clear hr oA ho o1 b1 bA t1 t2 oS
  go_enter Tryz.func35, Tryz.ntmps35
  go_upto_region 2 with (fail)
  rw [← hw1]; clear hw1
  go_wp2_with (at_builtin; refine Lib.wpList_append_run _ rfl (.tmp 6) (.tmp 7) 38 38 rfl _ _ rfl rfl _ _ HR.out ?_)
  refine bodyPost_ret (results_agg rfl _ _ w.heap.size [.int .i64 c, .slice x W.length k] Tryz.isAgg40 Tryz.sizeOf40 rfl T2.out) rfl ?_
  exact ⟨rfl, hfin⟩
theorem fault_nil (c : Nat) (w : World) : Calls Tryz.prog 35 #[.int .i64 (c : Int), .slice none 0 0] w fun e w' => FV w w' e (some (c, [])) := by
  refine (fault_run (W := []) (v := .slice none 0 0) ⟨_, by kernel_rfl, Only.refl _ _, World.ownsRow_nil _ _ _ _⟩).mono ?_
  rintro e w' ⟨rfl, h⟩
  exact ⟨_, rfl, h.out.1, h.out.2⟩
theorem fault_at (c : Nat) (W : List Nat) (h0 : 0 < W.length) (h4 : W.length ≤ 100) (w : World) :
    Calls Tryz.prog 35 #[.int .i64 (c : Int), .slice (some ⟨w.heap.size, 0, none⟩) W.length W.length] (w.alloc (.cells (intsC W).toArray 3)) fun e w' => FV w w' e (some (c, W)) := by
  obtain ⟨w1, hw1⟩ : ∃ w1, w1 = w.alloc (.cells (intsC W).toArray 3) := ⟨_, rfl⟩
  have o1 : Only Nil w w1 := hw1 ▸ (Only.refl Nil w).alloc _
  have b1 : w1.heap[w.heap.size]? = some (.cells (intsC W).toArray 3 (0, 0)) := hw1 ▸ heap_new w _
  rw [← hw1]
  obtain ⟨i0, hi0, hz0, hz1, hz2⟩ := info_parts Tryz.infoN
  have b2 := (((Only.refl Nil w1).alloc (.cells #[.int .i64 0, .slice none 0 0] 40)).block _ (lt_of_block b1) (fun h => h)).trans b1
  obtain ⟨c', wA, hr, ho, oA⟩ := run_append_new (P := Tryz.prog) (w1.alloc (.cells #[.int .i64 0, .slice none 0 0] 40)) 38 38 3 i0 _ 1 8 Tryz.underlying38 hi0 hz0 hz1 hz2 rfl none 0 [] (World.ownsRow_nil _ _ _ _) ⟨w.heap.size, 0, none⟩ W.length W.length h0 (intsC W) (by rw [intsC_len]; omega)
    (fun j u hj => by rw [add_lit0, cell_of_row _ w.heap.size _ _ _ _ b2, Nat.zero_add]; simpa using hj) (by unfold maxLen; omega) (by omega)
  simp only [Nat.zero_add, List.nil_append] at hr ho
  refine (fault_run (W := W) ⟨wA, hr, oA, ho⟩).mono ?_
  rintro e w' ⟨rfl, h⟩
  exact ⟨_, rfl, h.out.1, o1.trans h.out.2⟩
end Go.Proofs.YthanclicnkjmiaaGreatDoor.Ch
