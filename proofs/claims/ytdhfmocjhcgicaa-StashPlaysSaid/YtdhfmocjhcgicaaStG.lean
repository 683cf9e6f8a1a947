/- stash: the document's Stash, Unstash, Next, All; Same. -/
import Derived.Test.YtdhfmocjhcgicaaStF
namespace Go.Proofs.Ytdhfmocjhcgicaa.St
open Go.RowKit Go.Proofs.Ytdhfmocjhcgicaa

/-- A struct of the document's, set. -/
abbrev set3 (w : World) (b : Nat) (a c d : Value) : World := ((w.setCell ⟨b, 0, none⟩ a).setCell ⟨b, 1, none⟩ c).setCell ⟨b, 2, none⟩ d

/-- World wB is w with the function's two boxes: P for what was handed in, P + 1 for what it answers. -/
structure Bx (w wB : World) (P : Nat) (n va vf : Value) : Prop where
  hP : P = w.heap.size
  only : Only Nil w wB
  box : wB.heap[P]? = some (.cells #[n, va, vf] 28 (0, 0))
  out : wB.heap[P + 1]? = some (.cells #[.int .i64 0, .slice none 0 0, .slice none 0 0] 28 (0, 0))
/-- The cells of the box of what was handed in. -/
def BC (P : Nat) (n va vf : Value) (w : World) : Prop := w.cell? ⟨P, 0, none⟩ = some n ∧ w.cell? ⟨P, 1, none⟩ = some va ∧ w.cell? ⟨P, 2, none⟩ = some vf
/-- .. of what it answers. -/
def OC (O : Nat) (w : World) : Prop := w.cell? ⟨O, 0, none⟩ = some (.int .i64 0) ∧ w.cell? ⟨O, 1, none⟩ = some (.slice none 0 0) ∧ w.cell? ⟨O, 2, none⟩ = some (.slice none 0 0) ∧
  w.frozen? ⟨O, 0, none⟩ = false ∧ w.frozen? ⟨O, 1, none⟩ = false ∧ w.frozen? ⟨O, 2, none⟩ = false ∧ O < w.heap.size
section
variable {w wB wx : World} {P : Nat} {n va vf : Value}
theorem bx_made (w : World) (n va vf : Value) : ∃ wB, wB = (w.alloc (.cells #[n, va, vf] 28)).alloc (.cells #[.int .i64 0, .slice none 0 0, .slice none 0 0] 28) ∧ Bx w wB w.heap.size n va vf := by
  refine ⟨_, rfl, rfl, ((Only.refl Nil w).alloc _).alloc _, ?_, ?_⟩
  · exact (((Only.refl Nil _).alloc _).block _ (by simp) (fun h => h)).trans (heap_new w _)
  · have := heap_new (w.alloc (.cells #[n, va, vf] 28)) (.cells #[.int .i64 0, .slice none 0 0, .slice none 0 0] 28)
    simpa using this
theorem Bx.bc (h : Bx w wB P n va vf) (o : Only Nil wB wx) : BC P n va vf wx := by
  have e := (o.block P (lt_of_block h.box) (fun h => h)).trans h.box
  exact ⟨by simp [World.cell?, e], by simp [World.cell?, e], by simp [World.cell?, e]⟩
theorem Bx.oh (h : Bx w wB P n va vf) (o : Only Nil wB wx) : wx.heap[P + 1]? = some (.cells #[.int .i64 0, .slice none 0 0, .slice none 0 0] 28 (0, 0)) := (o.block _ (lt_of_block h.out) (fun h => h)).trans h.out
theorem Bx.oc (h : Bx w wB P n va vf) (o : Only Nil wB wx) : OC (P + 1) wx := by
  have e := h.oh o
  exact ⟨by simp [World.cell?, e], by simp [World.cell?, e], by simp [World.cell?, e], by simp [World.frozen?, e], by simp [World.frozen?, e], by simp [World.frozen?, e], lt_of_block e⟩
theorem Bx.fin (h : Bx w wB P n va vf) (o : Only Nil wB wx) (a c d : Value) : (set3 wx (P + 1) a c d).heap[P + 1]? = some (.cells #[a, c, d] 28 (0, 0)) ∧ Only Nil w (set3 wx (P + 1) a c d) :=
  ⟨set3_heap (h.oh o) a c d, (h.only.trans o).then (set3_only _ _ _) (fun q hq hlt => by have := h.hP; omega)⟩
theorem Bx.bc3 (h : Bx w wB P n va vf) (o : Only Nil wB wx) (a c d : Value) : BC P n va vf (set3 wx (P + 1) a c d) := by
  have e : (set3 wx (P + 1) a c d).heap[P]? = some (.cells #[n, va, vf] 28 (0, 0)) :=
    ((set3_only (w := wx) (b := P + 1) a c d).block P (Nat.lt_of_lt_of_le (lt_of_block h.box) o.size) (by omega)).trans ((o.block P (lt_of_block h.box) (fun h => h)).trans h.box)
  exact ⟨by simp only [World.cell?, e]; rfl, by simp only [World.cell?, e]; rfl, by simp only [World.cell?, e]; rfl⟩
theorem Bx.row {base : Nat} {v : Value} {X : List Int} (h : Bx w wB P n va vf) (o : Only Nil wB wx) (a c d : Value) (hr : RowB base wx v X) : RowB base (set3 wx (P + 1) a c d) v X :=
  hr.keep (set3_only a c d) (fun g hg e => hr.row.ne hg (h.oh o) (by decide) e)
end

theorem rstash_full {w : World} (va vf : Value) {n : Nat} {A : List Int} (hv : ∃ a c, va = .slice a A.length c) (hf : ∃ a l c, vf = .slice a l c) (id : Int) (hl : n ≤ A.length) :
    Calls Try.prog 11 #[.agg #[.int .i64 (n : Int), va, vf], .int .u64 id] w fun e w' => e = .returned (.tuple #[.agg #[.int .i64 (n : Int), va, vf], .int .i64 4]) ∧ Only Nil w w' := by
  obtain ⟨a, c, rfl⟩ := hv
  obtain ⟨b, l, d, rfl⟩ := hf
  obtain ⟨wB, hwB, hb⟩ := bx_made w (.int .i64 (n : Int)) (.slice a A.length c) (.slice b l d)
  obtain ⟨c0, c1, c2⟩ := hb.bc (Only.refl Nil wB)
  obtain ⟨o0, o1, o2, f0, f1, f2, lt⟩ := hb.oc (Only.refl Nil wB)
  obtain ⟨h1, h2⟩ := hb.fin (Only.refl Nil wB) (.int .i64 (n : Int)) (.slice a A.length c) (.slice b l d)
  have h1' := Lib.hid h1
  have h2' := Lib.hid h2
  have hP := Lib.hid hb.hP
  clear h1 h2 hb
  generalize A.length = la at *
  obtain ⟨P, hP'⟩ : ∃ P, P = w.heap.size := ⟨_, rfl⟩
  rw [← hP'] at c0 c1 c2 o0 o1 o2 f0 f1 f2 lt h1' h2'
  have hP2 := Lib.hid hP'
  clear hP hP'
  have hle : (n : Int) ≤ (la : Int) := by omega
  go_enter Try.func11, Try.ntmps11
  go_upto_region 1 with (fail)
  rw [← hP2.out, ← hwB]; clear hwB
  go_wp2
  refine bodyPost_ret (results_ag1 rfl _ _ (P + 1) [.int .i64 (n : Int), .slice a la c, .slice b l d] (.int .i64 4) Try.isAgg28 Try.sizeOf28 rfl rfl h1'.out) rfl ?_
  exact ⟨rfl, h2'.out⟩

/-- What a call that makes a row leaves: the row, the boxes, and what behind the answer's store. -/
def Left (w w1 : World) (P : Nat) (n va vf : Value) (base : Nat) (v' : Value) (X : List Int) (a c d : Value) : Prop :=
  BC P n va vf w1 ∧ OC (P + 1) w1 ∧ BC P n va vf (set3 w1 (P + 1) a c d) ∧
    Hid (RowB base (set3 w1 (P + 1) a c d) v' X ∧ Only Nil w (set3 w1 (P + 1) a c d) ∧ (set3 w1 (P + 1) a c d).heap[P + 1]? = some (.cells #[a, c, d] 28 (0, 0)))
theorem Bx.left {w wB w1 : World} {P base : Nat} {n va vf v' : Value} {X : List Int} (h : Bx w wB P n va vf) (o : Only Nil wB w1) (hr : RowB base w1 v' X) (a c d : Value) : Left w w1 P n va vf base v' X a c d :=
  ⟨h.bc o, h.oc o, h.bc3 o a c d, Lib.hid ⟨h.row o a c d hr, (h.fin o a c d).2, (h.fin o a c d).1⟩⟩

set_option maxHeartbeats 1000000 in
theorem rstash_ok {w : World} {va vf : Value} {n : Nat} {A : List Int} (hr : Row w va A) (hf : ∃ a l c, vf = .slice a l c) (id : Int) (hl : A.length < n) (few : A.length ≤ 40000) :
    Calls Try.prog 11 #[.agg #[.int .i64 (n : Int), va, vf], .int .u64 id] w fun e w' => ∃ va', e = .returned (.tuple #[.agg #[.int .i64 (n : Int), va', vf], .int .i64 0]) ∧ Hid (RowB w.heap.size w' va' (A ++ [id]) ∧ Only Nil w w') := by
  obtain ⟨a, c, hv⟩ := hr.slice
  obtain ⟨b, l, d, rfl⟩ := hf
  obtain ⟨wB, hwB, hb⟩ := bx_made w (.int .i64 (n : Int)) va (.slice b l d)
  obtain ⟨c0, c1, c2⟩ := hb.bc (Only.refl Nil wB)
  have jn := Lib.hid (fun (W : World) (o : Only Nil wB W) => show Calls Try.prog 22 #[va, .slice (some ⟨W.heap.size, 0, none⟩) 1 1] (W.alloc (.cells #[.int .u64 id] 30)) fun e w1 => ∃ x y z, e = .returned (.slice x y z) ∧
      Left w w1 w.heap.size (.int .i64 (n : Int)) va (.slice b l d) w.heap.size (.slice x y z) (A ++ [id]) (.int .i64 (n : Int)) (.slice x y z) (.slice b l d) from by
    have oA : Only Nil W (W.alloc (.cells #[.int .u64 id] 30)) := (Only.refl Nil W).alloc _
    have h1 : Row (W.alloc (.cells #[.int .u64 id] 30)) (.slice (some ⟨W.heap.size, 0, none⟩) 1 1) [id] :=
      ⟨rfl, .inr ⟨_, _, _, rfl, Nat.zero_le _, heap_new W _, Nat.le_refl _, by unfold maxLen; omega, rfl, rfl⟩⟩
    refine (join_any (hr.nil ((hb.only.trans o).trans oA)).src h1.src (by simp; omega)).mono ?_
    rintro e w1 ⟨v', rfl, hk⟩
    obtain ⟨k1, k2⟩ := hk.out
    obtain ⟨x, z, rfl⟩ := k1.slice
    exact ⟨_, _, _, rfl, hb.left ((o.trans oA).trans k2) (k1.row.base (fun g hg => by have := k1.ge hg; have := hb.only.size; have := o.size; have := oA.size; omega)) _ _ _⟩)
  subst hv
  generalize A.length = la at *
  clear hb hr few
  obtain ⟨P, hP⟩ : ∃ P, P = w.heap.size := ⟨_, rfl⟩
  rw [← hP] at c0 c1 c2 jn ⊢
  have hP' := Lib.hid hP
  clear hP
  have hlt : ¬ (n : Int) ≤ (la : Int) := by omega
  go_enter Try.func11, Try.ntmps11
  go_upto_region 1 with (fail)
  rw [← hP'.out, ← hwB]; clear hwB
  go_upto_region 3 with (fail)
  go_region_held3 (fun w' => w'.cell? ⟨P, 0, none⟩ = some (.int .i64 (n : Int)) ∧ w'.cell? ⟨P, 1, none⟩ = some (.slice a la c) ∧ w'.cell? ⟨P, 2, none⟩ = some (.slice b l d))
    (first | exact k1 | exact k3 | go_keep)
    ((go_at_call 22; go_loud (refine (jn.out _ ((Only.refl Nil wB).drewN _)).mono ?_; rintro e w1 ⟨x, y, z, rfl, k1, ⟨o0, o1, o2, f0, f1, f2, lt⟩, k3, fin⟩)))
  go_wp2
  obtain ⟨r1, r2, r3⟩ := fin.out
  refine bodyPost_ret (results_ag1 rfl _ _ (P + 1) [.int .i64 (n : Int), .slice x y z, .slice b l d] (.int .i64 0) Try.isAgg28 Try.sizeOf28 rfl rfl r3) rfl ?_
  exact ⟨_, rfl, Lib.hid ⟨r1, r2⟩⟩

set_option maxHeartbeats 1000000 in
theorem runstash_any {w : World} {va vf : Value} {n : Nat} {A F : List Int} (hr : Row w va A) (hf : Row w vf F) (few : A.length + F.length ≤ 50000) :
    Calls Try.prog 14 #[.agg #[.int .i64 (n : Int), va, vf]] w fun e w' => ∃ vf', e = .returned (.agg #[.int .i64 (n : Int), .slice none 0 0, vf']) ∧ Hid (RowB w.heap.size w' vf' (A ++ F) ∧ Only Nil w w') := by
  obtain ⟨a, c, hv⟩ := hr.slice
  obtain ⟨b, d, hv2⟩ := hf.slice
  obtain ⟨wB, hwB, hb⟩ := bx_made w (.int .i64 (n : Int)) va vf
  obtain ⟨c0, c1, c2⟩ := hb.bc (Only.refl Nil wB)
  have jn := Lib.hid (fun (W : World) (o : Only Nil wB W) => show Calls Try.prog 22 #[va, vf] W fun e w1 => ∃ x y z, e = .returned (.slice x y z) ∧
      Left w w1 w.heap.size (.int .i64 (n : Int)) va vf w.heap.size (.slice x y z) (A ++ F) (.int .i64 (n : Int)) (.slice none 0 0) (.slice x y z) from by
    refine (join_any (hr.nil (hb.only.trans o)).src (hf.nil (hb.only.trans o)).src few).mono ?_
    rintro e w1 ⟨v', rfl, hk⟩
    obtain ⟨k1, k2⟩ := hk.out
    obtain ⟨x, z, rfl⟩ := k1.slice
    exact ⟨_, _, _, rfl, hb.left (o.trans k2) (k1.row.base (fun g hg => by have := k1.ge hg; have := hb.only.size; have := o.size; omega)) _ _ _⟩)
  subst hv hv2
  generalize A.length = la at *
  generalize F.length = lf at *
  clear hb hr hf few
  obtain ⟨P, hP⟩ : ∃ P, P = w.heap.size := ⟨_, rfl⟩
  rw [← hP] at c0 c1 c2 jn ⊢
  have hP' := Lib.hid hP
  clear hP
  go_enter Try.func14, Try.ntmps14
  go_upto_region 1 with (fail)
  rw [← hP'.out, ← hwB]; clear hwB
  go_region_held3 (fun w' => w'.cell? ⟨P, 0, none⟩ = some (.int .i64 (n : Int)) ∧ w'.cell? ⟨P, 1, none⟩ = some (.slice a la c) ∧ w'.cell? ⟨P, 2, none⟩ = some (.slice b lf d))
    (first | exact k1 | exact k3 | go_keep)
    ((go_at_call 22; go_loud (refine (jn.out _ ((Only.refl Nil wB).drewN _)).mono ?_; rintro e w1 ⟨x, y, z, rfl, k1, ⟨o0, o1, o2, f0, f1, f2, lt⟩, k3, fin⟩)))
  go_wp2
  obtain ⟨r1, r2, r3⟩ := fin.out
  refine bodyPost_ret (results_agg rfl _ _ (P + 1) [.int .i64 (n : Int), .slice none 0 0, .slice x y z] Try.isAgg28 Try.sizeOf28 rfl r3) rfl ?_
  exact ⟨_, rfl, Lib.hid ⟨r1, r2⟩⟩

theorem rnext_none {w : World} (va vf : Value) {n : Nat} (hv : ∃ a l c, va = .slice a l c) (hf : ∃ a c, vf = .slice a 0 c) :
    Calls Try.prog 16 #[.agg #[.int .i64 (n : Int), va, vf]] w fun e w' => e = .returned (.tuple #[.agg #[.int .i64 (n : Int), va, vf], .int .u64 0, .bool false]) ∧ Only Nil w w' := by
  obtain ⟨a, l, c, rfl⟩ := hv
  obtain ⟨b, d, rfl⟩ := hf
  obtain ⟨wB, hwB, hb⟩ := bx_made w (.int .i64 (n : Int)) (.slice a l c) (.slice b 0 d)
  obtain ⟨c0, c1, c2⟩ := hb.bc (Only.refl Nil wB)
  obtain ⟨o0, o1, o2, f0, f1, f2, lt⟩ := hb.oc (Only.refl Nil wB)
  obtain ⟨h1, h2⟩ := hb.fin (Only.refl Nil wB) (.int .i64 (n : Int)) (.slice a l c) (.slice b 0 d)
  have h1' := Lib.hid h1
  have h2' := Lib.hid h2
  clear h1 h2 hb
  obtain ⟨P, hP'⟩ : ∃ P, P = w.heap.size := ⟨_, rfl⟩
  rw [← hP'] at c0 c1 c2 o0 o1 o2 f0 f1 f2 lt h1' h2'
  have hP2 := Lib.hid hP'
  clear hP'
  go_enter Try.func16, Try.ntmps16
  go_upto_region 1 with (fail)
  rw [← hP2.out, ← hwB]; clear hwB
  go_wp2
  refine bodyPost_ret (results_ag2 rfl _ _ (P + 1) [.int .i64 (n : Int), .slice a l c, .slice b 0 d] (.int .u64 0) (.bool false) Try.isAgg28 Try.sizeOf28 rfl rfl rfl h1'.out) rfl ?_
  exact ⟨rfl, h2'.out⟩
end Go.Proofs.Ytdhfmocjhcgicaa.St
