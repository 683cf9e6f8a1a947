/- Operations of a box, begun. -/
import Derived.Test.YtmkcmncbiancgaaPoK
namespace Go.Proofs.Ytmkcmncbiancgaa.Po
open Go.RowKit Go.Proofs.Ytmkcmncbiancgaa

section
variable {A : BA} {F G H H' S : Nat → Prop} {w W w' w1 w2 : World} {g f v p : Value} {s : PS} {ro a r q ob sg : Nat} {k : Bool} {os : OS} {L L' : List Int} {t t' : Int}
theorem new_any (w : World) (o x : Int) (fm : Form p f) :
    Calls Try.prog 69 #[nextV p f o x] w fun e w' => e = .returned (nextV p f o x) ∧ Only Nil w w' := by
  have fi := Lib.hid (heap_new (w.alloc (.cells [p, f, .int .i64 o, .int .u64 x].toArray 66)) (.cells [p, f, .int .i64 o, .int .u64 x].toArray 68))
  rw [show (w.alloc (.cells [p, f, .int .i64 o, .int .u64 x].toArray 66)).heap.size = w.heap.size + 1 by simp] at fi
  have on := Lib.hid (((Only.refl Nil w).alloc (.cells [p, f, .int .i64 o, .int .u64 x].toArray 66)).alloc (.cells [p, f, .int .i64 o, .int .u64 x].toArray 68))
  rcases fm with ⟨rfl, rfl⟩ | ⟨ty, v, g, cs, rfl, rfl⟩
  all_goals (
    go_enter Try.func69, Try.ntmps69
    go_wp2
    refine bodyPost_ret (results_agg rfl _ _ (w.heap.size + 1) [_, _, .int .i64 o, .int .u64 x] Try.isAgg68 Try.sizeOf68 rfl fi.out) rfl ?_
    exact ⟨rfl, on.out⟩)
theorem begin_any (w : World) (o x : Int) (fm : Form p f) :
    Calls Try.prog 50 #[nextV p f o x] w fun e w' => ∃ ob, e = .returned (ptr ob) ∧ OpO w' ob p f o x ∧ w.heap.size ≤ ob ∧ Only Nil w w' := by
  have nw := Lib.hid (fun w => new_any w o x fm)
  have o1 := Lib.hid ((Only.refl Nil w).alloc (.cells [p, f, .int .i64 o, .int .u64 x].toArray 66))
  have fi : Hid (∀ w1, Only Nil (w.alloc (.cells [p, f, .int .i64 o, .int .u64 x].toArray 66)) w1 → OpO (w1.alloc (.cells [p, f, .int .i64 o, .int .u64 x].toArray 70)) w1.heap.size p f o x ∧ w.heap.size ≤ w1.heap.size ∧ Only Nil w (w1.alloc (.cells [p, f, .int .i64 o, .int .u64 x].toArray 70))) := Lib.hid (fun w1 h => by
    have z := (o1.out.trans h)
    exact ⟨heap_new w1 _, z.size, z.alloc _⟩)
  rcases fm with ⟨rfl, rfl⟩ | ⟨ty, v, g, cs, rfl, rfl⟩
  all_goals (
    go_enter Try.func50, Try.ntmps50
    go_wp2_with (go_at_call 69; refine (nw.out _).mono ?_; rintro e w1 ⟨rfl, z1⟩; have fi2 := Lib.hid (fi.out w1 z1))
    go_ret
    exact ⟨_, rfl, fi2.out⟩)
/-- An operation was begun: all of it is new. -/
def Bg (A : BA) (w : World) (s : PS) (e : Ending) (w' : World) : Prop :=
  ∃ ob, e = .returned (ptr ob) ∧ w.heap.size ≤ ob ∧ PIn A w' (fun i => w.heap.size ≤ i ∧ i < w'.heap.size) ob s ∧ Only Nil w w'
theorem bg_of (hB : Bx w A L t) (n : Nx A (Ext w w1 Nil) w1 p f s) (o1 : Only Nil w w1) (fm : Form p f) (ho : OpO w2 ob p f s.o s.x) (hq : w1.heap.size ≤ ob) (o2 : Only Nil w1 w2) :
    w.heap.size ≤ ob ∧ PIn A w2 (fun i => w.heap.size ≤ i ∧ i < w2.heap.size) ob s ∧ Only Nil w w2 := by
  have s1 := o1.size
  have s2 := o2.size
  have l := lt_of_block ho
  refine ⟨by omega, ⟨fun i hi => hi.2, fun i hi h => ?_, ⟨by omega, l⟩, p, f, ho, fm, Ext w w1 Nil, fun i hi => ?_, n.keep o2 (fun _ _ h => h)⟩, o1.trans o2⟩
  · have := hB.own_lt i h; omega
  · rcases hi with hi | hi
    · exact hi.elim
    · exact ⟨⟨hi.1, by omega⟩, by omega⟩
theorem nil_lt (w : World) : ∀ i, Nil i → i < w.heap.size := fun _ h => h.elim
-- gen/pol.py
theorem begin_bg (hB : Bx w A L t) : Calls Try.prog 27 #[ptr A.bx] w (Bg A w (.stand 2)) := by
  have sd := Lib.hid (stand_any (A := A) (w := w) (H := Nil) 2 (nil_lt w))
  have bg := Lib.hid (fun p f w1 w2 ob => bg_of (A := A) (p := p) (f := f) (w1 := w1) (w2 := w2) (ob := ob) (s := .stand 2) hB)
  clear hB
  go_enter Try.func27, Try.ntmps27
  go_wp2_with (first
    | (go_at_call 57; refine (sd.out).mono ?_; rintro e w1 ⟨p, f, rfl, fm, n1, o1⟩)
    | (go_at_call 50; refine (begin_any _ _ _ fm).mono ?_; rintro e w2 ⟨ob, rfl, ho, hq, o2⟩; have en := Lib.hid (bg.out _ _ _ _ _ n1 o1 fm ho hq o2); clear n1 o1 fm ho hq o2))
  go_ret
  exact ⟨_, rfl, en.out⟩
theorem shut_bg (hB : Bx w A L t) : Calls Try.prog 35 #[ptr A.bx] w (Bg A w (.stand 4)) := by
  have sd := Lib.hid (stand_any (A := A) (w := w) (H := Nil) 4 (nil_lt w))
  have bg := Lib.hid (fun p f w1 w2 ob => bg_of (A := A) (p := p) (f := f) (w1 := w1) (w2 := w2) (ob := ob) (s := .stand 4) hB)
  clear hB
  go_enter Try.func35, Try.ntmps35
  go_wp2_with (first
    | (go_at_call 57; refine (sd.out).mono ?_; rintro e w1 ⟨p, f, rfl, fm, n1, o1⟩)
    | (go_at_call 50; refine (begin_any _ _ _ fm).mono ?_; rintro e w2 ⟨ob, rfl, ho, hq, o2⟩; have en := Lib.hid (bg.out _ _ _ _ _ n1 o1 fm ho hq o2); clear n1 o1 fm ho hq o2))
  go_ret
  exact ⟨_, rfl, en.out⟩
theorem fetch_bg (hB : Bx w A L t) : Calls Try.prog 36 #[ptr A.bx] w (Bg A w (.whole false .take0)) := by
  have dd := Lib.hid (dtake_any w (A.rg false))
  have wh : Hid (∀ w1, OpIn w1 w.heap.size (A.rg false) .take0 ∧ Only Nil w w1 ∧ w.heap.size < w1.heap.size → Calls Try.prog 58 #[ptr w.heap.size] w1 fun e w2 => ∃ p f, e = .returned (nextV p f 0 0) ∧ Form p f ∧ Nx A (Ext w w2 Nil) w2 p f (.whole false .take0) ∧ Only Nil w w2) := Lib.hid (fun w1 h => by
    refine (whole_any (A := A) (k := false) (H := fun i => w.heap.size ≤ i ∧ i < w1.heap.size) (fun i hi => hi.2) ⟨Nat.le_refl _, h.2.2⟩ h.1).mono ?_
    rintro e w2 ⟨p, f, rfl, fm, n, o⟩
    have := o.size
    exact ⟨p, f, rfl, fm, n.mono (fun i hi => hi.elim (fun z => .inr ⟨z.1, by omega⟩) (fun z => .inr ⟨by omega, z.2⟩)), h.2.1.trans o⟩)
  have bg := Lib.hid (fun p f w1 w2 ob => bg_of (A := A) (p := p) (f := f) (w1 := w1) (w2 := w2) (ob := ob) (s := .whole false .take0) hB)
  obtain ⟨d0, d1, d2, d3⟩ := hB.box.c
  simp only [BA.rg, Bool.false_eq_true, if_false] at dd wh
  clear hB
  go_enter Try.func36, Try.ntmps36
  go_wp2_with (first
    | (go_at_call 59; refine (dd.out).mono ?_; rintro e w0 ⟨rfl, h1⟩; have wh2 := Lib.hid (wh.out w0 h1); clear h1)
    | (go_at_call 58; refine (wh2.out).mono ?_; rintro e w1 ⟨p, f, rfl, fm, n1, o1⟩)
    | (go_at_call 50; refine (begin_any _ _ _ fm).mono ?_; rintro e w2 ⟨ob, rfl, ho, hq, o2⟩; have en := Lib.hid (bg.out _ _ _ _ _ n1 o1 fm ho hq o2); clear n1 o1 fm ho hq o2))
  go_ret
  exact ⟨_, rfl, en.out⟩
theorem note_bg (hB : Bx w A L t) : Calls Try.prog 28 #[ptr A.bx] w (Bg A w (.whole true .take0)) := by
  have dd := Lib.hid (dtake_any w (A.rg true))
  have wh : Hid (∀ w1, OpIn w1 w.heap.size (A.rg true) .take0 ∧ Only Nil w w1 ∧ w.heap.size < w1.heap.size → Calls Try.prog 58 #[ptr w.heap.size] w1 fun e w2 => ∃ p f, e = .returned (nextV p f 0 0) ∧ Form p f ∧ Nx A (Ext w w2 Nil) w2 p f (.whole true .take0) ∧ Only Nil w w2) := Lib.hid (fun w1 h => by
    refine (whole_any (A := A) (k := true) (H := fun i => w.heap.size ≤ i ∧ i < w1.heap.size) (fun i hi => hi.2) ⟨Nat.le_refl _, h.2.2⟩ h.1).mono ?_
    rintro e w2 ⟨p, f, rfl, fm, n, o⟩
    have := o.size
    exact ⟨p, f, rfl, fm, n.mono (fun i hi => hi.elim (fun z => .inr ⟨z.1, by omega⟩) (fun z => .inr ⟨by omega, z.2⟩)), h.2.1.trans o⟩)
  have bg := Lib.hid (fun p f w1 w2 ob => bg_of (A := A) (p := p) (f := f) (w1 := w1) (w2 := w2) (ob := ob) (s := .whole true .take0) hB)
  obtain ⟨d0, d1, d2, d3⟩ := hB.box.c
  simp only [BA.rg, if_true] at dd wh
  clear hB
  go_enter Try.func28, Try.ntmps28
  go_wp2_with (first
    | (go_at_call 59; refine (dd.out).mono ?_; rintro e w0 ⟨rfl, h1⟩; have wh2 := Lib.hid (wh.out w0 h1); clear h1)
    | (go_at_call 58; refine (wh2.out).mono ?_; rintro e w1 ⟨p, f, rfl, fm, n1, o1⟩)
    | (go_at_call 50; refine (begin_any _ _ _ fm).mono ?_; rintro e w2 ⟨ob, rfl, ho, hq, o2⟩; have en := Lib.hid (bg.out _ _ _ _ _ n1 o1 fm ho hq o2); clear n1 o1 fm ho hq o2))
  go_ret
  exact ⟨_, rfl, en.out⟩
theorem close_bg (hB : Bx w A L t) : Calls Try.prog 33 #[ptr A.bx] w (Bg A w (.whole false .close0)) := by
  have dd := Lib.hid (dclose_any w (A.rg false))
  have wh : Hid (∀ w1, OpIn w1 w.heap.size (A.rg false) .close0 ∧ Only Nil w w1 ∧ w.heap.size < w1.heap.size → Calls Try.prog 58 #[ptr w.heap.size] w1 fun e w2 => ∃ p f, e = .returned (nextV p f 0 0) ∧ Form p f ∧ Nx A (Ext w w2 Nil) w2 p f (.whole false .close0) ∧ Only Nil w w2) := Lib.hid (fun w1 h => by
    refine (whole_any (A := A) (k := false) (H := fun i => w.heap.size ≤ i ∧ i < w1.heap.size) (fun i hi => hi.2) ⟨Nat.le_refl _, h.2.2⟩ h.1).mono ?_
    rintro e w2 ⟨p, f, rfl, fm, n, o⟩
    have := o.size
    exact ⟨p, f, rfl, fm, n.mono (fun i hi => hi.elim (fun z => .inr ⟨z.1, by omega⟩) (fun z => .inr ⟨by omega, z.2⟩)), h.2.1.trans o⟩)
  have bg := Lib.hid (fun p f w1 w2 ob => bg_of (A := A) (p := p) (f := f) (w1 := w1) (w2 := w2) (ob := ob) (s := .whole false .close0) hB)
  obtain ⟨d0, d1, d2, d3⟩ := hB.box.c
  simp only [BA.rg, Bool.false_eq_true, if_false] at dd wh
  clear hB
  go_enter Try.func33, Try.ntmps33
  go_wp2_with (first
    | (go_at_call 65; refine (dd.out).mono ?_; rintro e w0 ⟨rfl, h1⟩; have wh2 := Lib.hid (wh.out w0 h1); clear h1)
    | (go_at_call 58; refine (wh2.out).mono ?_; rintro e w1 ⟨p, f, rfl, fm, n1, o1⟩)
    | (go_at_call 50; refine (begin_any _ _ _ fm).mono ?_; rintro e w2 ⟨ob, rfl, ho, hq, o2⟩; have en := Lib.hid (bg.out _ _ _ _ _ n1 o1 fm ho hq o2); clear n1 o1 fm ho hq o2))
  go_ret
  exact ⟨_, rfl, en.out⟩
theorem drain_bg (hB : Bx w A L t) : Calls Try.prog 34 #[ptr A.bx] w (Bg A w (.whole false .drain0)) := by
  have dd := Lib.hid (ddrain_any w (A.rg false))
  have wh : Hid (∀ w1, OpIn w1 w.heap.size (A.rg false) .drain0 ∧ Only Nil w w1 ∧ w.heap.size < w1.heap.size → Calls Try.prog 58 #[ptr w.heap.size] w1 fun e w2 => ∃ p f, e = .returned (nextV p f 0 0) ∧ Form p f ∧ Nx A (Ext w w2 Nil) w2 p f (.whole false .drain0) ∧ Only Nil w w2) := Lib.hid (fun w1 h => by
    refine (whole_any (A := A) (k := false) (H := fun i => w.heap.size ≤ i ∧ i < w1.heap.size) (fun i hi => hi.2) ⟨Nat.le_refl _, h.2.2⟩ h.1).mono ?_
    rintro e w2 ⟨p, f, rfl, fm, n, o⟩
    have := o.size
    exact ⟨p, f, rfl, fm, n.mono (fun i hi => hi.elim (fun z => .inr ⟨z.1, by omega⟩) (fun z => .inr ⟨by omega, z.2⟩)), h.2.1.trans o⟩)
  have bg := Lib.hid (fun p f w1 w2 ob => bg_of (A := A) (p := p) (f := f) (w1 := w1) (w2 := w2) (ob := ob) (s := .whole false .drain0) hB)
  obtain ⟨d0, d1, d2, d3⟩ := hB.box.c
  simp only [BA.rg, Bool.false_eq_true, if_false] at dd wh
  clear hB
  go_enter Try.func34, Try.ntmps34
  go_wp2_with (first
    | (go_at_call 66; refine (dd.out).mono ?_; rintro e w0 ⟨rfl, h1⟩; have wh2 := Lib.hid (wh.out w0 h1); clear h1)
    | (go_at_call 58; refine (wh2.out).mono ?_; rintro e w1 ⟨p, f, rfl, fm, n1, o1⟩)
    | (go_at_call 50; refine (begin_any _ _ _ fm).mono ?_; rintro e w2 ⟨ob, rfl, ho, hq, o2⟩; have en := Lib.hid (bg.out _ _ _ _ _ n1 o1 fm ho hq o2); clear n1 o1 fm ho hq o2))
  go_ret
  exact ⟨_, rfl, en.out⟩
theorem push_bg (v : Int) (hB : Bx w A L t) : Calls Try.prog 26 #[ptr A.bx, .int .u64 v] w (Bg A w (.put true (.put0 v))) := by
  have sd := Lib.hid (put_step (A := A) (w := w) (H := Nil) v hB.box (nil_lt w))
  have bg := Lib.hid (fun p f w1 w2 ob => bg_of (A := A) (p := p) (f := f) (w1 := w1) (w2 := w2) (ob := ob) (s := .put true (.put0 v)) hB)
  clear hB
  go_enter Try.func26, Try.ntmps26
  go_wp2_with (first
    | (go_at_call 56; refine (sd.out).mono ?_; rintro e w1 ⟨p, f, rfl, fm, n1, o1⟩)
    | (go_at_call 50; refine (begin_any _ _ _ fm).mono ?_; rintro e w2 ⟨ob, rfl, ho, hq, o2⟩; have en := Lib.hid (bg.out _ _ _ _ _ n1 o1 fm ho hq o2); clear n1 o1 fm ho hq o2))
  go_ret
  exact ⟨_, rfl, en.out⟩
theorem tell_bg (v : Int) (hB : Bx w A L t) : Calls Try.prog 25 #[ptr A.bx, .int .u64 v] w (Bg A w (.put false (.put0 v))) := by
  have dd := Lib.hid (dput_any w A.mg v)
  have br : Hid (∀ w1, (OpIn w1 w.heap.size A.mg (.put0 v) ∧ Only Nil w w1 ∧ w.heap.size < w1.heap.size) → ∀ r : Obj, r = .cells #[.int .u64 0] 28 (0, 0) →
      Calls Try.prog 54 #[ptr A.bx, ptr w.heap.size, .slice (some ⟨w1.heap.size, 0, none⟩) 1 1] (w1.alloc r) fun e w2 => ∃ p f, e = .returned (nextV p f 0 0) ∧ Form p f ∧ Nx A (Ext w w2 Nil) w2 p f (.put false (.put0 v)) ∧ Only Nil w w2) := Lib.hid (by
    rintro w1 ⟨h1, h2, h3⟩ r rfl
    have o1 := (Only.refl Nil w1).alloc (.cells #[.int .u64 0] 28)
    have bn := heap_new w1 (.cells #[.int .u64 0] 28)
    have ln := lt_of_block bn
    have s0 := h2.size
    refine (bring_any (A := A) (k := false) (H := fun i => w.heap.size ≤ i ∧ i < (w1.alloc (.cells #[.int .u64 0] 28)).heap.size) (fun i hi => hi.2) ⟨Nat.le_refl _, by omega⟩ (h1.keep o1 (fun h => h)) ⟨w1.heap.size, rfl, ⟨by omega, ln⟩, bn⟩).mono ?_
    rintro e w2 ⟨p, f, rfl, fm, n, o2⟩
    have := o2.size
    exact ⟨p, f, rfl, fm, n.mono (fun i hi => hi.elim (fun z => .inr ⟨z.1, by omega⟩) (fun z => .inr ⟨by omega, z.2⟩)), (h2.trans o1).trans o2⟩)
  have bg := Lib.hid (fun p f w1 w2 ob => bg_of (A := A) (p := p) (f := f) (w1 := w1) (w2 := w2) (ob := ob) (s := .put false (.put0 v)) hB)
  obtain ⟨d0, d1, d2, d3⟩ := hB.box.c
  clear hB
  go_enter Try.func25, Try.ntmps25
  go_wp2_with (first
    | (go_at_call 55; refine (dd.out).mono ?_; rintro e w0 ⟨rfl, h1⟩; have br2 := Lib.hid (br.out w0 h1 _ rfl); clear h1)
    | (go_at_call 54; refine (br2.out).mono ?_; rintro e w1 ⟨p, f, rfl, fm, n1, o1⟩)
    | (go_at_call 50; refine (begin_any _ _ _ fm).mono ?_; rintro e w2 ⟨ob, rfl, ho, hq, o2⟩; have en := Lib.hid (bg.out _ _ _ _ _ n1 o1 fm ho hq o2); clear n1 o1 fm ho hq o2))
  go_ret
  exact ⟨_, rfl, en.out⟩
theorem ask_bg (v : Int) (hB : Bx w A L t) : Calls Try.prog 29 #[ptr A.bx, .int .u64 v] w (Bg A w (.ask v)) := by
  have hmf : ∀ (fn : Fn) (first cap : Array Value) (w : World), (Instr.makeFunc fn first cap).run Try.prog w = .ok (.func fn first cap) w := fun _ _ _ _ => rfl
  have h1 : ∃ W, W = (w.alloc (boxC A)).alloc (numC v) ∧ W.heap[w.heap.size]? = some (boxC A) ∧ W.heap[w.heap.size + 1]? = some (numC v) ∧ Only Nil w W ∧ W.heap.size = w.heap.size + 2 := by
    refine ⟨_, rfl, ?_, ?_, ((Only.refl Nil w).alloc _).alloc _, by simp⟩
    · rw [Below.heap_alloc _ _ _ (by simp)]; exact heap_new w _
    · have := heap_new (w.alloc (boxC A)) (numC v)
      rwa [show (w.alloc (boxC A)).heap.size = w.heap.size + 1 by simp] at this
  obtain ⟨W, hW, b0, b1, o0, sz⟩ := h1
  have on := Lib.hid (one_any W 60 #[ptr w.heap.size, ptr (w.heap.size + 1)])
  have nx : Hid (∀ w1 q sg, Sg W w1 (clo2 60 w.heap.size (w.heap.size + 1)) q sg → Nx A (Ext w w1 Nil) w1 (sgI sg) (clo1 71 q) (.ask v) ∧ Only Nil w w1 ∧ Form (sgI sg) (clo1 71 q)) := Lib.hid (fun w1 q sg h => by
    have := h.only.size
    exact ⟨(sg_nx (A := A) (H := fun i => w.heap.size ≤ i ∧ i < W.heap.size) (s := .ask v) (fun i hi => hi.2) h ⟨_, _, rfl, ⟨⟨Nat.le_refl _, by omega⟩, b0⟩, ⟨⟨by omega, by omega⟩, b1⟩⟩).mono (fun i hi => hi.elim (fun z => .inr ⟨z.1, by omega⟩) (fun z => .inr ⟨by omega, z.2⟩)), o0.trans h.only, .inr ⟨_, _, _, _, rfl, rfl⟩⟩)
  have bg := Lib.hid (fun p f w1 w2 ob => bg_of (A := A) (p := p) (f := f) (w1 := w1) (w2 := w2) (ob := ob) (s := .ask v) hB)
  clear hB b0 b1 o0 sz
  subst hW
  go_enter Try.func29, Try.ntmps29
  go_wp2_with (first
    | (go_at_call 51; refine (on.out).mono ?_; rintro e w1 ⟨q, sg, rfl, z1⟩; obtain ⟨n1, o1, fm⟩ := nx.out _ _ _ z1; clear z1)
    | (go_at_call 50; refine (begin_any _ _ _ fm).mono ?_; rintro e w2 ⟨ob, rfl, ho, hq, o2⟩; have en := Lib.hid (bg.out _ _ _ _ _ n1 o1 fm ho hq o2); clear n1 o1 fm ho hq o2))
  go_ret
  exact ⟨_, rfl, en.out⟩
theorem settle_yes (hB : Bx w A L t) : Calls Try.prog 24 #[ptr A.bx, .bool true] w (Bg A w (.set true)) := by
  have hmf : ∀ (fn : Fn) (first cap : Array Value) (w : World), (Instr.makeFunc fn first cap).run Try.prog w = .ok (.func fn first cap) w := fun _ _ _ _ => rfl
  have h1 : ∃ W, W = (w.alloc (boxC A)).alloc (numC (rest true)) ∧ W.heap[w.heap.size]? = some (boxC A) ∧ W.heap[w.heap.size + 1]? = some (numC (rest true)) ∧ Only Nil w W ∧ W.heap.size = w.heap.size + 2 := by
    refine ⟨_, rfl, ?_, ?_, ((Only.refl Nil w).alloc _).alloc _, by simp⟩
    · rw [Below.heap_alloc _ _ _ (by simp)]; exact heap_new w _
    · have := heap_new (w.alloc (boxC A)) (numC (rest true))
      rwa [show (w.alloc (boxC A)).heap.size = w.heap.size + 1 by simp] at this
  obtain ⟨W, hW, b0, b1, o0, sz⟩ := h1
  have on := Lib.hid (one_any W 52 #[ptr w.heap.size, ptr (w.heap.size + 1)])
  have nx : Hid (∀ w1 q sg, Sg W w1 (clo2 52 w.heap.size (w.heap.size + 1)) q sg → Nx A (Ext w w1 Nil) w1 (sgI sg) (clo1 71 q) (.set true) ∧ Only Nil w w1 ∧ Form (sgI sg) (clo1 71 q)) := Lib.hid (fun w1 q sg h => by
    have := h.only.size
    exact ⟨(sg_nx (A := A) (H := fun i => w.heap.size ≤ i ∧ i < W.heap.size) (s := .set true) (fun i hi => hi.2) h ⟨_, _, rfl, ⟨⟨Nat.le_refl _, by omega⟩, b0⟩, ⟨⟨by omega, by omega⟩, b1⟩⟩).mono (fun i hi => hi.elim (fun z => .inr ⟨z.1, by omega⟩) (fun z => .inr ⟨by omega, z.2⟩)), o0.trans h.only, .inr ⟨_, _, _, _, rfl, rfl⟩⟩)
  have bg := Lib.hid (fun p f w1 w2 ob => bg_of (A := A) (p := p) (f := f) (w1 := w1) (w2 := w2) (ob := ob) (s := .set true) hB)
  clear hB b0 b1 o0 sz
  subst hW
  have e3 : rest true = 3 := rfl
  rw [e3] at on nx
  go_enter Try.func24, Try.ntmps24
  go_wp2_with (first
    | (go_at_call 51; refine (on.out).mono ?_; rintro e w1 ⟨q, sg, rfl, z1⟩; obtain ⟨n1, o1, fm⟩ := nx.out _ _ _ z1; clear z1)
    | (go_at_call 50; refine (begin_any _ _ _ fm).mono ?_; rintro e w2 ⟨ob, rfl, ho, hq, o2⟩; have en := Lib.hid (bg.out _ _ _ _ _ n1 o1 fm ho hq o2); clear n1 o1 fm ho hq o2))
  go_ret
  exact ⟨_, rfl, en.out⟩
theorem settle_no (hB : Bx w A L t) : Calls Try.prog 24 #[ptr A.bx, .bool false] w (Bg A w (.set false)) := by
  have hmf : ∀ (fn : Fn) (first cap : Array Value) (w : World), (Instr.makeFunc fn first cap).run Try.prog w = .ok (.func fn first cap) w := fun _ _ _ _ => rfl
  have h1 : ∃ W, W = (w.alloc (boxC A)).alloc (numC (rest false)) ∧ W.heap[w.heap.size]? = some (boxC A) ∧ W.heap[w.heap.size + 1]? = some (numC (rest false)) ∧ Only Nil w W ∧ W.heap.size = w.heap.size + 2 := by
    refine ⟨_, rfl, ?_, ?_, ((Only.refl Nil w).alloc _).alloc _, by simp⟩
    · rw [Below.heap_alloc _ _ _ (by simp)]; exact heap_new w _
    · have := heap_new (w.alloc (boxC A)) (numC (rest false))
      rwa [show (w.alloc (boxC A)).heap.size = w.heap.size + 1 by simp] at this
  obtain ⟨W, hW, b0, b1, o0, sz⟩ := h1
  have on := Lib.hid (one_any W 52 #[ptr w.heap.size, ptr (w.heap.size + 1)])
  have nx : Hid (∀ w1 q sg, Sg W w1 (clo2 52 w.heap.size (w.heap.size + 1)) q sg → Nx A (Ext w w1 Nil) w1 (sgI sg) (clo1 71 q) (.set false) ∧ Only Nil w w1 ∧ Form (sgI sg) (clo1 71 q)) := Lib.hid (fun w1 q sg h => by
    have := h.only.size
    exact ⟨(sg_nx (A := A) (H := fun i => w.heap.size ≤ i ∧ i < W.heap.size) (s := .set false) (fun i hi => hi.2) h ⟨_, _, rfl, ⟨⟨Nat.le_refl _, by omega⟩, b0⟩, ⟨⟨by omega, by omega⟩, b1⟩⟩).mono (fun i hi => hi.elim (fun z => .inr ⟨z.1, by omega⟩) (fun z => .inr ⟨by omega, z.2⟩)), o0.trans h.only, .inr ⟨_, _, _, _, rfl, rfl⟩⟩)
  have bg := Lib.hid (fun p f w1 w2 ob => bg_of (A := A) (p := p) (f := f) (w1 := w1) (w2 := w2) (ob := ob) (s := .set false) hB)
  clear hB b0 b1 o0 sz
  subst hW
  have e3 : rest false = 0 := rfl
  rw [e3] at on nx
  go_enter Try.func24, Try.ntmps24
  go_wp2_with (first
    | (go_at_call 51; refine (on.out).mono ?_; rintro e w1 ⟨q, sg, rfl, z1⟩; obtain ⟨n1, o1, fm⟩ := nx.out _ _ _ z1; clear z1)
    | (go_at_call 50; refine (begin_any _ _ _ fm).mono ?_; rintro e w2 ⟨ob, rfl, ho, hq, o2⟩; have en := Lib.hid (bg.out _ _ _ _ _ n1 o1 fm ho hq o2); clear n1 o1 fm ho hq o2))
  go_ret
  exact ⟨_, rfl, en.out⟩
theorem settle_bg (h : Bool) (hB : Bx w A L t) : Calls Try.prog 24 #[ptr A.bx, .bool h] w (Bg A w (.set h)) := by
  cases h
  · exact settle_no hB
  · exact settle_yes hB
theorem gone_bg (hB : Bx w A L t) : Calls Try.prog 32 #[ptr A.bx] w (Bg A w .gone) := by
  have hmf : ∀ (fn : Fn) (first cap : Array Value) (w : World), (Instr.makeFunc fn first cap).run Try.prog w = .ok (.func fn first cap) w := fun _ _ _ _ => rfl
  obtain ⟨W, hW, b0, o0, sz⟩ : ∃ W, W = w.alloc (boxC A) ∧ W.heap[w.heap.size]? = some (boxC A) ∧ Only Nil w W ∧ W.heap.size = w.heap.size + 1 := ⟨_, rfl, heap_new w _, (Only.refl Nil w).alloc _, by simp⟩
  have on := Lib.hid (one_any W 63 #[ptr w.heap.size])
  have nx : Hid (∀ w1 q sg, Sg W w1 (clo1 63 w.heap.size) q sg → Nx A (Ext w w1 Nil) w1 (sgI sg) (clo1 71 q) .gone ∧ Only Nil w w1 ∧ Form (sgI sg) (clo1 71 q)) := Lib.hid (fun w1 q sg h => by
    have := h.only.size
    exact ⟨(sg_nx (A := A) (H := fun i => w.heap.size ≤ i ∧ i < W.heap.size) (s := .gone) (fun i hi => hi.2) h ⟨_, rfl, ⟨⟨Nat.le_refl _, by omega⟩, b0⟩⟩).mono (fun i hi => hi.elim (fun z => .inr ⟨z.1, by omega⟩) (fun z => .inr ⟨by omega, z.2⟩)), o0.trans h.only, .inr ⟨_, _, _, _, rfl, rfl⟩⟩)
  have bg := Lib.hid (fun p f w1 w2 ob => bg_of (A := A) (p := p) (f := f) (w1 := w1) (w2 := w2) (ob := ob) (s := .gone) hB)
  clear hB b0 o0 sz
  subst hW
  go_enter Try.func32, Try.ntmps32
  go_wp2_with (first
    | (go_at_call 51; refine (on.out).mono ?_; rintro e w1 ⟨q, sg, rfl, z1⟩; obtain ⟨n1, o1, fm⟩ := nx.out _ _ _ z1; clear z1)
    | (go_at_call 50; refine (begin_any _ _ _ fm).mono ?_; rintro e w2 ⟨ob, rfl, ho, hq, o2⟩; have en := Lib.hid (bg.out _ _ _ _ _ n1 o1 fm ho hq o2); clear n1 o1 fm ho hq o2))
  go_ret
  exact ⟨_, rfl, en.out⟩
end
end Go.Proofs.Ytmkcmncbiancgaa.Po
