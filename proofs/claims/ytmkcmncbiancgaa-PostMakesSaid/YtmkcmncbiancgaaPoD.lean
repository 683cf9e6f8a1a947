/- What package post makes Nexts of: those whose part is a ring's operation. -/
import Derived.Test.YtmkcmncbiancgaaPoC
namespace Go.Proofs.Ytmkcmncbiancgaa.Po
open Go.RowKit Go.Proofs.Ytmkcmncbiancgaa

/-- What is there at W, but for the variable that is answered. -/
def Exq (w W : World) (H : Nat → Prop) (q i : Nat) : Prop := Ext w W H i ∧ i ≠ q
section
variable {A : BA} {F G H H' S : Nat → Prop} {w W w' w1 : World} {g f v p : Value} {s : PS} {ro a r q : Nat} {k : Bool} {os : OS}
theorem exq_lt (hH : ∀ i, H i → i < w.heap.size) (o : w.heap.size ≤ W.heap.size) : ∀ i, Exq w W H q i → i < W.heap.size := fun i hi => ext_of hH o i hi.1
theorem exq_in (i : Nat) (h1 : w.heap.size ≤ i) (h2 : i < W.heap.size) (h3 : i ≠ q) : Exq w W H q i := ⟨.inr ⟨h1, h2⟩, h3⟩
theorem exq_old (hH : ∀ i, H i → i < w.heap.size) (hq : w.heap.size ≤ q) (i : Nat) (h : H i) : Exq w W H q i := ⟨.inl h, by have := hH i h; omega⟩
theorem bring_any (hH : ∀ i, H i → i < w.heap.size) (hr : H ro) (hO : OpIn w ro (A.rg k) os) (hv : rests H w v k) :
    Calls Try.prog 54 #[ptr A.bx, ptr ro, v] w (NP A H Nil w (.put k os)) := by
  have hmf : ∀ (fn : Fn) (first cap : Array Value) (w : World), (Instr.makeFunc fn first cap).run Try.prog w = .ok (.func fn first cap) w := fun _ _ _ _ => rfl
  obtain ⟨g, n, rfl⟩ := rests_form hv
  obtain ⟨W, hW, b0, b1, z, o0, sz⟩ := begin3 w (boxC A) (one (.slice (some ⟨g, 0, none⟩) n n) 35)
  have ga := Lib.hid (go_any W 99 (ptr ro) 76 #[ptr w.heap.size, ptr (w.heap.size + 1)])
  have hq := exq_old (W := W) (q := w.heap.size + 1 + 1) hH (by omega)
  have bh : capR A (Exq w W H (w.heap.size + 1 + 1)) W w.heap.size (w.heap.size + 1) k :=
    ⟨⟨exq_in _ (by omega) (by omega) (by omega), b0⟩, _, ⟨exq_in _ (by omega) (by omega) (by omega), b1⟩, rests_mono (rests_keep hv o0 (fun _ _ h => h)) hq⟩
  have fi := Lib.hid (fun w1 (h : Only Nil W w1) =>
    fin_nx (A := A) (p := opI ro) (f := clo2 76 w.heap.size (w.heap.size + 1)) (s := .put k os) (w := w) (H := H) (H' := Exq w W H (w.heap.size + 1 + 1)) (o := .int .i64 0) (x := .int .u64 0) z (by omega) (fun i hi => hi) o0
      ⟨ro, rfl, .inl (hq _ hr), (hO.keep o0 (fun h => h)).keep h (fun h => h), _, _, rfl, (bh.keep h (fun _ _ h => h)).mono (fun _ h => .inl h)⟩ h (fun h => h))
  clear hv b0 b1 o0 z hH sz hr hO bh hq
  subst hW
  go_enter Try.func54, Try.ntmps54
  go_wp2_with (go_at_call 70; refine (ga.out).mono ?_; rintro e w1 ⟨rfl, o1⟩; obtain ⟨z1, h1, n1, k1⟩ := fi.out w1 o1; have h1' := Lib.hid h1; have n1' := Lib.hid (And.intro n1 k1); obtain ⟨c0, c1, c2, c3, f0, f1, f2, f3⟩ := z1.c; clear o1 z1 h1 n1 k1)
  refine bodyPost_ret (results_agg rfl _ _ (w.heap.size + 1 + 1) [opI ro, clo2 76 w.heap.size (w.heap.size + 1), .int .i64 0, .int .u64 0] Try.isAgg66 Try.sizeOf66 rfl h1'.out) rfl ?_
  exact ⟨_, _, rfl, .inr ⟨_, _, _, _, rfl, rfl⟩, n1'.out⟩
theorem whole_any (hH : ∀ i, H i → i < w.heap.size) (hr : H ro) (hO : OpIn w ro (A.rg k) os) :
    Calls Try.prog 58 #[ptr ro] w (NP A H Nil w (.whole k os)) := by
  have hmf : ∀ (fn : Fn) (first cap : Array Value) (w : World), (Instr.makeFunc fn first cap).run Try.prog w = .ok (.func fn first cap) w := fun _ _ _ _ => rfl
  obtain ⟨W, hW, b0, z, o0, sz⟩ := begin2 w (one (ptr ro) 99)
  have ga := Lib.hid (go_any W 99 (ptr ro) 80 #[ptr w.heap.size])
  have hq := exq_old (W := W) (q := w.heap.size + 1) hH (by omega)
  have bh : At (Exq w W H (w.heap.size + 1)) W w.heap.size (one (ptr ro) 99) := ⟨exq_in _ (by omega) (by omega) (by omega), b0⟩
  have fi := Lib.hid (fun w1 (h : Only Nil W w1) =>
    fin_nx (A := A) (p := opI ro) (f := clo1 80 w.heap.size) (s := .whole k os) (w := w) (H := H) (H' := Exq w W H (w.heap.size + 1)) (o := .int .i64 0) (x := .int .u64 0) z (by omega) (fun i hi => hi) o0
      ⟨ro, rfl, .inl (hq _ hr), (hO.keep o0 (fun h => h)).keep h (fun h => h), _, rfl, (bh.keep h (fun _ _ h => h)).mono (fun _ h => .inl h)⟩ h (fun h => h))
  clear b0 o0 z hH sz hr hO bh hq
  subst hW
  go_enter Try.func58, Try.ntmps58
  go_wp2_with (go_at_call 70; refine (ga.out).mono ?_; rintro e w1 ⟨rfl, o1⟩; obtain ⟨z1, h1, n1, k1⟩ := fi.out w1 o1; have h1' := Lib.hid h1; have n1' := Lib.hid (And.intro n1 k1); obtain ⟨c0, c1, c2, c3, f0, f1, f2, f3⟩ := z1.c; clear o1 z1 h1 n1 k1)
  refine bodyPost_ret (results_agg rfl _ _ (w.heap.size + 1) [opI ro, clo1 80 w.heap.size, .int .i64 0, .int .u64 0] Try.isAgg66 Try.sizeOf66 rfl h1'.out) rfl ?_
  exact ⟨_, _, rfl, .inr ⟨_, _, _, _, rfl, rfl⟩, n1'.out⟩
theorem lookBack_any (hB : BoxAt w A) (h : Bool) :
    Calls Try.prog 53 #[ptr A.bx, .int .u64 (rest h)] w (NP A H Nil w (.lookN h .look0)) := by
  have hmf : ∀ (fn : Fn) (first cap : Array Value) (w : World), (Instr.makeFunc fn first cap).run Try.prog w = .ok (.func fn first cap) w := fun _ _ _ _ => rfl
  obtain ⟨W, hW, b0, b1, z, o0, sz⟩ := begin3 w (boxC A) (numC (rest h))
  have sz3 : W.heap.size = w.heap.size + 1 + 1 + 1 := by omega
  have lk := Lib.hid (dlook_any W A.ng)
  have ga := Lib.hid (fun w1 => go_any w1 99 (ptr W.heap.size) 73 #[ptr (w.heap.size + 1), ptr w.heap.size])
  have fi : Hid (∀ w1, (OpIn w1 W.heap.size A.ng .look0 ∧ Only Nil W w1 ∧ W.heap.size < w1.heap.size) → ∀ w2, Only Nil w1 w2 → _) := Lib.hid (fun w1 (h1 : OpIn w1 W.heap.size A.ng .look0 ∧ Only Nil W w1 ∧ W.heap.size < w1.heap.size) w2 (h2 : Only Nil w1 w2) =>
    fin_nx (A := A) (W := w1) (p := opI W.heap.size) (f := clo2 73 (w.heap.size + 1) w.heap.size) (s := .lookN h .look0) (w := w) (H := H) (H' := Exq w w1 H (w.heap.size + 1 + 1)) (o := .int .i64 0) (x := .int .u64 0) (z.keep h1.2.1 (fun h => h)) (by omega) (fun i hi => hi) (o0.trans h1.2.1)
      ⟨W.heap.size, rfl, .inl (exq_in _ (by omega) h1.2.2 (by omega)), h1.1.keep h2 (fun h => h), _, _, rfl, ⟨.inl (exq_in _ (by omega) (by omega) (by omega)), block_at b0 (h1.2.1.trans h2) (fun h => h)⟩, ⟨.inl (exq_in _ (by omega) (by omega) (by omega)), block_at b1 (h1.2.1.trans h2) (fun h => h)⟩⟩ h2 (fun h => h))
  obtain ⟨d0, d1, d2, d3⟩ := (hB.keep o0 (fun h => h)).c
  obtain ⟨e0, e1⟩ : W.cell? ⟨w.heap.size, 0, none⟩ = some (ptr A.bx) ∧ W.cell? ⟨w.heap.size + 1, 0, none⟩ = some (.int .u64 (rest h)) := by simp [World.cell?, b0, b1]
  rw [sz3] at lk ga fi
  clear b0 b1 o0 z sz hB sz3
  subst hW
  go_enter Try.func53, Try.ntmps53
  go_wp2_with (first
    | (go_at_call 72; refine (lk.out).mono ?_; rintro e w1 ⟨rfl, h1⟩; have fi2 := Lib.hid (fi.out w1 h1); clear h1)
    | (go_at_call 70; refine (ga.out _).mono ?_; rintro e w2 ⟨rfl, o1⟩; obtain ⟨z1, h1, n1, k1⟩ := fi2.out w2 o1; have h1' := Lib.hid h1; have n1' := Lib.hid (And.intro n1 k1); obtain ⟨c0, c1, c2, c3, f0, f1, f2, f3⟩ := z1.c; clear o1 z1 h1 n1 k1))
  refine bodyPost_ret (results_agg rfl _ _ (w.heap.size + 1 + 1) [opI _, clo2 73 (w.heap.size + 1) w.heap.size, .int .i64 0, .int .u64 0] Try.isAgg66 Try.sizeOf66 rfl h1'.out) rfl ?_
  exact ⟨_, _, rfl, .inr ⟨_, _, _, _, rfl, rfl⟩, n1'.out⟩
theorem put_step (v : Int) (hB : BoxAt w A) (hH : ∀ i, H i → i < w.heap.size) :
    Calls Try.prog 56 #[ptr A.bx, .int .u64 v] w (NP A H Nil w (.put true (.put0 v))) := by
  obtain ⟨W, hW, z, o0, sz⟩ := begin1 w
  have lk := Lib.hid (dput_any W A.ng v)
  have br : Hid (∀ w1, (OpIn w1 W.heap.size A.ng (.put0 v) ∧ Only Nil W w1 ∧ W.heap.size < w1.heap.size) → ∀ r : Obj, r = .cells #[.int .u64 0, .int .u64 3] 28 (0, 0) →
      Calls Try.prog 54 #[ptr A.bx, ptr W.heap.size, .slice (some ⟨w1.heap.size, 0, none⟩) 2 2] (w1.alloc r) (fun e w2 => ∃ p f, e = .returned (nextV p f 0 0) ∧ Form p f ∧ ZQ w2 w.heap.size ∧
        (set4 w2 w.heap.size p f (.int .i64 0) (.int .u64 0)).heap[w.heap.size]? = some (.cells [p, f, .int .i64 0, .int .u64 0].toArray 66 (0, 0)) ∧ Nx A (Ext w (set4 w2 w.heap.size p f (.int .i64 0) (.int .u64 0)) H) (set4 w2 w.heap.size p f (.int .i64 0) (.int .u64 0)) p f (.put true (.put0 v)) ∧ Only Nil w (set4 w2 w.heap.size p f (.int .i64 0) (.int .u64 0)))) := Lib.hid (by
    rintro w1 ⟨h1, h2, h3⟩ r rfl
    have o1 := (Only.refl Nil w1).alloc (.cells #[.int .u64 0, .int .u64 3] 28)
    have bn := heap_new w1 (.cells #[.int .u64 0, .int .u64 3] 28)
    have ln := lt_of_block bn
    have s0 := h2.size
    have hh : ∀ i, Exq w (w1.alloc (.cells #[.int .u64 0, .int .u64 3] 28)) H w.heap.size i → i < (w1.alloc (.cells #[.int .u64 0, .int .u64 3] 28)).heap.size := exq_lt hH (by omega)
    refine (bring_any (A := A) (k := true) hh (exq_in (w := w) (H := H) (q := w.heap.size) W.heap.size (by omega) (by omega) (by omega)) (h1.keep o1 (fun h => h)) ⟨w1.heap.size, rfl, exq_in _ (by omega) ln (by omega), bn⟩).mono ?_
    rintro e w2 ⟨p, f, rfl, fm, n1, o2⟩
    obtain ⟨y1, y2, y3, y4⟩ := fin_nx (w := w) (H := H) (o := .int .i64 0) (x := .int .u64 0) ((z.keep h2 (fun h => h)).keep o1 (fun h => h)) (Nat.le_refl _) (fun i hi => hi) ((o0.trans h2).trans o1) n1 o2 (fun h => h)
    exact ⟨p, f, rfl, fm, y1, y2, y3, y4⟩)
  obtain ⟨d0, d1, d2, d3⟩ := (hB.keep o0 (fun h => h)).c
  rw [sz] at lk br
  clear o0 z hH sz hB
  subst hW
  go_enter Try.func56, Try.ntmps56
  go_wp2_with (first
    | (go_at_call 55; refine (lk.out).mono ?_; rintro e w1 ⟨rfl, h1⟩; have br2 := Lib.hid (br.out w1 h1 _ rfl); clear h1)
    | (go_at_call 54; refine (br2.out).mono ?_; rintro e w2 ⟨p, f, rfl, (⟨rfl, rfl⟩ | ⟨ty, v, g, cs, rfl, rfl⟩), z1, h1, n1, k1⟩ <;> (have h1' := Lib.hid h1; have n1' := Lib.hid (And.intro n1 k1); obtain ⟨c0, c1, c2, c3, f0, f1, f2, f3⟩ := z1.c; clear z1 h1 n1 k1)))
  · refine bodyPost_ret (results_agg rfl _ _ w.heap.size [_, _, .int .i64 0, .int .u64 0] Try.isAgg66 Try.sizeOf66 rfl h1'.out) rfl ?_
    exact ⟨_, _, rfl, .inl ⟨rfl, rfl⟩, n1'.out⟩
  · refine bodyPost_ret (results_agg rfl _ _ w.heap.size [_, _, .int .i64 0, .int .u64 0] Try.isAgg66 Try.sizeOf66 rfl h1'.out) rfl ?_
    exact ⟨_, _, rfl, .inr ⟨_, _, _, _, rfl, rfl⟩, n1'.out⟩
end
end Go.Proofs.Ytmkcmncbiancgaa.Po
