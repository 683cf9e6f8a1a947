/- stash: the document's Next of one that is there, All; Same. -/
import Derived.Test.YtdhfmocjhcgicaaStG
namespace Go.Proofs.Ytdhfmocjhcgicaa.St
open Go.RowKit Go.Proofs.Ytdhfmocjhcgicaa

theorem run_tail (w : World) (g k d : Nat) (A : Addr) (hA : (if d = 1 then (⟨g, 0, none⟩ : Addr) else ⟨g, 1, none⟩) = A) :
    (Instr.slice 26 (.slice (some ⟨g, 0, none⟩) (k + 1) d) (some (.int .i64 1)) none none).run Try.prog w = .ok (.slice (some A) k (d - 1)) w := by
  have hu := Try.underlying26
  have hs := Try.sizeOf30
  subst hA
  have h1 : (1 : Int) ≤ (k : Int) + 1 := by omega
  have e : (⟨g, 0, none⟩ : Addr).add 1 = ⟨g, 1, none⟩ := by rw [add_lit0]
  by_cases hd : d = 1
  · simp [Instr.slice, Instr.sliceBounds, Instr.sliceBound, asIntOf, run_underlying hu, hs, Sem.run_bind, Result.andThen, hd, h1]
  · simp [Instr.slice, Instr.sliceBounds, Instr.sliceBound, asIntOf, run_underlying hu, hs, Sem.run_bind, Result.andThen, hd, e, h1]

set_option maxHeartbeats 400000 in
theorem rnext_some {w : World} {va vf : Value} {n : Nat} {x : Int} {F : List Int} (hv : ∃ a l c, va = .slice a l c) (hf : Row w vf (x :: F)) (few : F.length ≤ 40000) :
    Calls Try.prog 16 #[.agg #[.int .i64 (n : Int), va, vf]] w fun e w' => ∃ vf', e = .returned (.tuple #[.agg #[.int .i64 (n : Int), va, vf'], .int .u64 x, .bool true]) ∧ Hid (RowB w.heap.size w' vf' F ∧ Only Nil w w') := by
  obtain ⟨a, l, c, rfl⟩ := hv
  obtain ⟨p, d, hv2⟩ := hf.slice
  rw [List.length_cons] at hv2
  subst hv2
  obtain ⟨g, rfl, gl, cg⟩ := us_in (by have := hf; unfold Row at this; exact this) 0 (by simp)
  have hx : (x :: F).getD 0 0 = x := rfl
  rw [hx] at cg
  obtain ⟨wB, hwB, hb⟩ := bx_made w (.int .i64 (n : Int)) (.slice a l c) (.slice (some ⟨g, 0, none⟩) (F.length + 1) d)
  obtain ⟨c0, c1, c2⟩ := hb.bc (Only.refl Nil wB)
  have cgB : wB.cell? ⟨g, 0, none⟩ = some (.int .u64 x) := (World.cell?_of_block (a := ⟨g, 0, none⟩) (hb.only.block g gl (fun h => h))).trans cg
  have hcap : F.length + 1 ≤ d := by
    rcases hf.2 with ⟨_, h0⟩ | ⟨g', cap, cur, hv, _, _, hnc, _⟩
    · simp at h0
    · simp only [Value.slice.injEq] at hv
      rw [List.length_cons] at hnc
      omega
  have gneP : g ≠ w.heap.size ∧ g ≠ w.heap.size + 1 := by omega
  have jn := Lib.hid (fun (W : World) (A : Addr) (hA : ¬ (d = 1) → A = ⟨g, 1, none⟩) (o : Only Nil wB W) => show Calls Try.prog 22 #[.slice (some A) F.length (d - 1), .slice none 0 0] W fun e w1 => ∃ x5 y5 z5, e = .returned (.slice x5 y5 z5) ∧
      w1.cell? ⟨g, 0, none⟩ = some (.int .u64 x) ∧ (set3 w1 (w.heap.size + 1) (.int .i64 (n : Int)) (.slice a l c) (.slice x5 y5 z5)).cell? ⟨g, 0, none⟩ = some (.int .u64 x) ∧
      Left w w1 w.heap.size (.int .i64 (n : Int)) (.slice a l c) (.slice (some ⟨g, 0, none⟩) (F.length + 1) d) w.heap.size (.slice x5 y5 z5) F (.int .i64 (n : Int)) (.slice a l c) (.slice x5 y5 z5) from by
    have oW := hb.only.trans o
    have hs : Src W (.slice (some A) F.length (d - 1)) F := by
      by_cases hd : d = 1
      · have e0 : F = [] := List.eq_nil_of_length_eq_zero (by omega)
        exact .inr ⟨A, d - 1, by rw [e0], fun j u hj => by rw [e0] at hj; simp [us] at hj⟩
      · rw [hA hd]
        refine .inr ⟨⟨g, 1, none⟩, d - 1, rfl, fun j u hj => ?_⟩
        have hj' : j < F.length := by have := (List.getElem?_eq_some_iff.1 hj).1; rw [us_length] at this; exact this
        have e := (hf.nil oW).cellAt (j + 1) (by simp; omega)
        rw [add_lit0, Nat.add_comm 1 j, e]
        simpa [us] using hj
    refine (join_any hs (.inl ⟨rfl, rfl⟩) (by simp; omega)).mono ?_
    rintro e w1 ⟨v', rfl, hk⟩
    obtain ⟨k1, k2⟩ := hk.out
    rw [List.append_nil] at k1
    obtain ⟨x5, z5, rfl⟩ := k1.slice
    have o1 := o.trans k2
    have cg1 : w1.cell? ⟨g, 0, none⟩ = some (.int .u64 x) := (World.cell?_of_block (a := ⟨g, 0, none⟩) ((hb.only.trans o1).block g gl (fun h => h))).trans cg
    have og := (set3_only (w := w1) (b := w.heap.size + 1) (.int .i64 (n : Int)) (.slice a l c) (.slice x5 F.length z5)).block g (Nat.lt_of_lt_of_le gl (hb.only.trans o1).size) gneP.2
    exact ⟨_, _, _, rfl, cg1, (World.cell?_of_block (a := ⟨g, 0, none⟩) og).trans cg1, hb.left o1 (k1.row.base (fun q hq => by have := k1.ge hq; have := hb.only.size; have := o.size; omega)) _ _ _⟩)
  generalize F.length = k at *
  clear hb hf few gl cg
  obtain ⟨P, hP⟩ : ∃ P, P = w.heap.size := ⟨_, rfl⟩
  rw [← hP] at c0 c1 c2 jn gneP ⊢
  have hP' := Lib.hid hP
  clear hP
  have k1d : (1 : Int) ≤ (k : Int) + 1 := by omega
  have k2d : (1 : Int) ≤ (d : Int) := by omega
  have k3d : (k : Int) + 1 ≤ (d : Int) := by omega
  have e1 : k + 1 - 1 = k := by omega
  have hz : ((k : Int) + 1 == 0) = false := by rw [beq_eq_false_iff_ne]; omega
  obtain ⟨A, hA⟩ : ∃ A : Addr, (if d = 1 then (⟨g, 0, none⟩ : Addr) else ⟨g, 1, none⟩) = A := ⟨_, rfl⟩
  have jn' := Lib.hid (fun (W : World) => jn.out W A (fun h => by rw [← hA, if_neg h]))
  have hsl := fun (W : World) => run_tail W g k d A hA
  clear jn hA
  go_enter Try.func16, Try.ntmps16
  go_upto_region 1 with (fail)
  rw [← hP'.out, ← hwB]; clear hwB
  go_upto_region 3 with (fail)
  go_region_held3 (fun w' => w'.cell? ⟨P, 0, none⟩ = some (.int .i64 (n : Int)) ∧ w'.cell? ⟨P, 1, none⟩ = some (.slice a l c) ∧ w'.cell? ⟨P, 2, none⟩ = some (.slice (some ⟨g, 0, none⟩) (k + 1) d) ∧ w'.cell? ⟨g, 0, none⟩ = some (.int .u64 x))
    (first | exact ⟨k1.1, k1.2.1, k1.2.2, kg⟩ | exact ⟨k3.1, k3.2.1, k3.2.2, kg3⟩ | go_keep)
    ((go_at_call 22; go_loud (refine (jn'.out _ ((Only.refl Nil wB).drewN _)).mono ?_; rintro e w1 ⟨x5, y5, z5, rfl, kg, kg3, k1, ⟨o0, o1, o2, f0, f1, f2, lt⟩, k3, fin⟩)))
  go_wp2
  obtain ⟨r1, r2, r3⟩ := fin.out
  refine bodyPost_ret (results_ag2 rfl _ _ (P + 1) [.int .i64 (n : Int), .slice a l c, .slice x5 y5 z5] (.int .u64 x) (.bool true) Try.isAgg28 Try.sizeOf28 rfl rfl rfl r3) rfl ?_
  exact ⟨_, rfl, Lib.hid ⟨r1, r2⟩⟩

set_option maxHeartbeats 400000 in
theorem rall_any {w : World} {va vf : Value} {n : Nat} {A F : List Int} (hr : Row w va A) (hf : Row w vf F) (few : A.length + F.length ≤ 50000) :
    Calls Try.prog 19 #[.agg #[.int .i64 (n : Int), va, vf]] w fun e w' => ∃ v', e = .returned v' ∧ Hid (RowB w.heap.size w' v' (F ++ A) ∧ Only Nil w w') := by
  obtain ⟨a, c, hv⟩ := hr.slice
  obtain ⟨b, d, hv2⟩ := hf.slice
  have oB : Only Nil w (w.alloc (.cells #[.int .i64 (n : Int), va, vf] 28)) := (Only.refl Nil w).alloc _
  have jn := Lib.hid (show Calls Try.prog 22 #[vf, va] (w.alloc (.cells #[.int .i64 (n : Int), va, vf] 28)) fun e w1 => ∃ v', e = .returned v' ∧ Hid (RowB w.heap.size w1 v' (F ++ A) ∧ Only Nil w w1) from by
    refine (join_any (hf.nil oB).src (hr.nil oB).src (by omega)).mono ?_
    rintro e w1 ⟨v', rfl, hk⟩
    obtain ⟨k1, k2⟩ := hk.out
    exact ⟨v', rfl, Lib.hid ⟨k1.row.base (fun g hg => Nat.le_trans oB.size (k1.ge hg)), oB.trans k2⟩⟩)
  subst hv hv2
  generalize A.length = la at *
  generalize F.length = lf at *
  clear hr hf few oB
  go_enter Try.func19, Try.ntmps19
  go_wp2_with (go_at_call 22; (with_reducible refine jn.out.mono ?_); rintro e w1 ⟨v', rfl, hk⟩)
  go_ret
  exact ⟨v', rfl, hk⟩

set_option maxHeartbeats 1000000 in
/-- Same, of two rows of the same ids. -/
theorem rsame_any {w : World} {v1 v2 : Value} {M : List Int} (h1 : Row w v1 M) (h2 : Row w v2 M) (hM : M.length ≤ 60000) :
    Calls Try.prog 17 #[v1, v2] w fun e w' => e = .returned (.bool true) ∧ Only Nil w w' := by
  obtain ⟨a1, c1, rfl⟩ := h1.slice
  obtain ⟨a2, c2, rfl⟩ := h2.slice
  have h1' := Lib.hid (fun (w' : World) (o : Only Nil w w') (q : Nat) (hq : q < M.length) => us_in (show w'.ownsRow 0 30 1 (.slice a1 M.length c1) M.length (us M) from h1.nil o) q hq)
  have h2' := Lib.hid (fun (w' : World) (o : Only Nil w w') (q : Nat) (hq : q < M.length) => us_in (show w'.ownsRow 0 30 1 (.slice a2 M.length c2) M.length (us M) from h2.nil o) q hq)
  clear h1 h2
  generalize M.length = n at *
  have hn : (n : Int) ≤ 60000 := by omega
  have o0 := Lib.hid (Only.refl Nil w)
  go_enter Try.func17, Try.ntmps17
  go_wp2
  go_loopw [5] (fun s5 wr => ∃ (q : Nat), q ≤ n ∧ s5 = .int .i64 (q : Int) ∧ Hid (Only Nil w wr)) (fun s5 _ => n - (intOf s5).toNat)
  case atStart => exact ⟨0, by omega, rfl, o0⟩
  case round =>
    obtain ⟨q, hq, rfl, ho⟩ := hrel
    by_cases hqn : q < n
    · obtain ⟨g1, rfl, l1, d1⟩ := h1'.out _ ho.out q hqn
      obtain ⟨g2, rfl, l2, d2⟩ := h2'.out _ ho.out q hqn
      have hqi : (q : Int) < (n : Int) := by omega
      have hqs := Lib.hid hqn
      generalize M.getD q 0 = y at *
      clear hq hqn
      go_wp2
      go_quiet (fail)
      go_wp2
      go_roundw
      case rel => exact ⟨q + 1, hqs.out, by go_num, Lib.hid (ho.out.drewN _)⟩
      case measure => have := hqs.out; simp [intOf]; omega
    · obtain rfl : q = n := by omega
      have hk0 : ¬ (q : Int) < (q : Int) := by omega
      go_wp2
      go_ret
      exact ⟨rfl, ho.out⟩
end Go.Proofs.Ytdhfmocjhcgicaa.St
