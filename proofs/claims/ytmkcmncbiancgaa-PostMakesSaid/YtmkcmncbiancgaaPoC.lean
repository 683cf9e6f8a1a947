/- What package post makes Nexts of. -/
import Derived.Test.YtmkcmncbiancgaaPoB
namespace Go.Proofs.Ytmkcmncbiancgaa.Po
open Go.RowKit Go.Proofs.Ytmkcmncbiancgaa

/-- What a Next's part and closure can be. -/
def Form (p f : Value) : Prop := (p = .nilIface ∧ f = .nilFunc) ∨ ∃ ty v g cs, p = .iface ty v ∧ f = .func (.func g) #[] cs
/-- A Next that stands at s was answered. -/
def NP (A : BA) (H S : Nat → Prop) (w : World) (s : PS) (e : Ending) (w' : World) : Prop :=
  ∃ p f, e = .returned (nextV p f s.o s.x) ∧ Form p f ∧ Nx A (Ext w w' H) w' p f s ∧ Only S w w'
section
variable {A : BA} {F G H H' S : Nat → Prop} {w W w' w1 : World} {g f v p : Value} {s : PS} {ro a r q : Nat} {k : Bool}
theorem ext_of (hH : ∀ i, H i → i < w.heap.size) (o : w.heap.size ≤ w'.heap.size) : ∀ i, Ext w w' H i → i < w'.heap.size := by
  rintro i (hi | hi)
  · have := hH i hi; omega
  · exact hi.2
/-- What is behind the store into the variable that is answered. -/
theorem fin_nx (z : ZQ W q) (hq : w.heap.size ≤ q) (h' : ∀ i, H' i → Ext w W H i ∧ i ≠ q) (o0 : Only Nil w W) (n : Nx A (Ext W w1 H') w1 p f s) (o1 : Only S W w1) (hs : ¬ S q) (o x : Value) :
    ZQ w1 q ∧ (set4 w1 q p f o x).heap[q]? = some (.cells [p, f, o, x].toArray 66 (0, 0)) ∧ Nx A (Ext w (set4 w1 q p f o x) H) (set4 w1 q p f o x) p f s ∧ Only S w (set4 w1 q p f o x) := by
  have z1 := z.keep o1 hs
  have hl := lt_of_block z
  have s1 := o1.size
  have s0 := o0.size
  have k := set4_only w1 q p f o x
  have s2 := k.size
  refine ⟨z1, set4_heap z1 _ _ _ _, ?_, set4_then ((o0.nilTo S).trans o1) q hq _ _ _ _⟩
  refine (n.keep k (fun i hi e => ?_)).mono (fun i hi => ?_)
  · have e : i = q := e
    subst e
    rcases hi with hi | hi
    · exact (h' _ hi).2 rfl
    · omega
  · rcases hi with hi | hi
    · rcases (h' i hi).1 with y | y
      · exact .inl y
      · exact .inr ⟨y.1, by omega⟩
    · exact .inr ⟨by omega, by omega⟩
theorem sg_nx {fn : Nat} {cs : Array Value} {sg : Nat} (hH : ∀ i, H i → i < w.heap.size) (h : Sg w w' (.func (.func fn) #[] cs) q sg) (ha : Acc1 A H w (.func (.func fn) #[] cs) s) : Nx A (Ext w w' H) w' (sgI sg) (clo1 71 q) s := by
  have ha' := ha.keep h.only (fun i _ h => h)
  have e1 : ∀ i, H i → Ext w w' H i ∧ i ≠ sg := fun i hi => ⟨.inl hi, by have := hH i hi; have := h.s0; omega⟩
  have q1 : At (Ext w w' H) w' q (one (ptr sg) 110) := ⟨.inr ⟨h.q0, lt_of_block h.hq⟩, h.hq⟩
  have q2 : At (Ext w w' H) w' sg (.cells #[.func (.func fn) #[] cs, .nilIface, .nilFunc, .int .i64 0, .int .u64 0] 112 (0, 0)) := ⟨.inr ⟨h.s0, lt_of_block h.hs⟩, h.hs⟩
  cases s <;> simp only [Acc1] at ha
  all_goals exact ⟨q, sg, H, _, _, _, _, _, rfl, rfl, q1, q2, e1, ha'⟩
theorem rests_form (h : rests F w v k) : ∃ g n, v = .slice (some ⟨g, 0, none⟩) n n := by
  cases k
  · obtain ⟨g, e, _⟩ := h; exact ⟨g, 1, e⟩
  · obtain ⟨g, e, _⟩ := h; exact ⟨g, 2, e⟩
/-- The three blocks that a function begins with: two captured cells and what it answers. -/
theorem begin3 (w : World) (x y : Obj) : ∃ W, W = ((w.alloc x).alloc y).alloc (.cells zN.toArray 66) ∧ W.heap[w.heap.size]? = some x ∧ W.heap[w.heap.size + 1]? = some y ∧ ZQ W (w.heap.size + 1 + 1) ∧ Only Nil w W ∧ W.heap.size = w.heap.size + 3 := by
  obtain ⟨h1, h2, h3, o⟩ := three_new w x y (.cells zN.toArray 66)
  exact ⟨_, rfl, h1, h2, h3, o, by simp⟩
theorem begin2 (w : World) (x : Obj) : ∃ W, W = (w.alloc x).alloc (.cells zN.toArray 66) ∧ W.heap[w.heap.size]? = some x ∧ ZQ W (w.heap.size + 1) ∧ Only Nil w W ∧ W.heap.size = w.heap.size + 2 := by
  refine ⟨_, rfl, ?_, ?_, ((Only.refl Nil w).alloc _).alloc _, by simp⟩
  · rw [Below.heap_alloc _ _ _ (by simp)]; exact heap_new w x
  · have := heap_new (w.alloc x) (.cells zN.toArray 66)
    rwa [show (w.alloc x).heap.size = w.heap.size + 1 by simp] at this
theorem begin1 (w : World) : ∃ W, W = w.alloc (.cells zN.toArray 66) ∧ ZQ W w.heap.size ∧ Only Nil w W ∧ W.heap.size = w.heap.size + 1 := ⟨_, rfl, zq_new w, (Only.refl Nil w).alloc _, by simp⟩

theorem rouse_any (hH : ∀ i, H i → i < w.heap.size) (hv : rests H w v k) :
    Calls Try.prog 77 #[ptr A.bx, v] w (NP A H Nil w (.load k)) := by
  have hmf : ∀ (fn : Fn) (first cap : Array Value) (w : World), (Instr.makeFunc fn first cap).run Try.prog w = .ok (.func fn first cap) w := fun _ _ _ _ => rfl
  obtain ⟨g, n, rfl⟩ := rests_form hv
  obtain ⟨W, hW, b0, b1, z, o0, sz⟩ := begin3 w (boxC A) (one (.slice (some ⟨g, 0, none⟩) n n) 35)
  have ac : Acc1 A (fun i => H i ∨ i = w.heap.size ∨ i = w.heap.size + 1) W (clo2 89 w.heap.size (w.heap.size + 1)) (.load k) :=
    ⟨_, _, rfl, ⟨.inr (.inl rfl), b0⟩, _, ⟨.inr (.inr rfl), b1⟩, rests_mono (rests_keep hv o0 (fun _ _ h => h)) (fun i hi => .inl hi)⟩
  have on := Lib.hid (one_any W 89 #[ptr w.heap.size, ptr (w.heap.size + 1)])
  have fi := Lib.hid (fun w1 q sg (h : Sg W w1 (clo2 89 w.heap.size (w.heap.size + 1)) q sg) =>
    fin_nx (w := w) (H := H) (o := .int .i64 0) (x := .int .u64 0) z (by omega) (fun i hi => ⟨by rcases hi with hi | hi | hi; exact .inl hi; exact .inr (by omega); exact .inr (by omega), by rcases hi with hi | hi | hi; (have := hH i hi; omega); omega; omega⟩) o0 (sg_nx (fun i hi => by rcases hi with hi | hi | hi; (have := hH i hi; omega); omega; omega) h ac) h.only (fun h => h))
  clear hv ac b0 b1 o0 z hH sz
  subst hW
  go_enter Try.func77, Try.ntmps77
  go_wp2_with (go_at_call 51; refine (on.out).mono ?_; rintro e w1 ⟨q, sg, rfl, o1⟩; obtain ⟨z1, h1, n1, k1⟩ := fi.out w1 q sg o1; have h1' := Lib.hid h1; have n1' := Lib.hid (And.intro n1 k1); obtain ⟨c0, c1, c2, c3, f0, f1, f2, f3⟩ := z1.c; clear o1 z1 h1 n1 k1)
  refine bodyPost_ret (results_agg rfl _ _ (w.heap.size + 1 + 1) [sgI sg, clo1 71 q, .int .i64 0, .int .u64 0] Try.isAgg66 Try.sizeOf66 rfl h1'.out) rfl ?_
  exact ⟨_, _, rfl, .inr ⟨_, _, _, _, rfl, rfl⟩, n1'.out⟩
/-! poc.py -/
theorem stand_any (v : Int) (hH : ∀ i, H i → i < w.heap.size) :
    Calls Try.prog 57 #[ptr A.bx, .int .u64 v] w (NP A H Nil w (.stand v)) := by
  have hmf : ∀ (fn : Fn) (first cap : Array Value) (w : World), (Instr.makeFunc fn first cap).run Try.prog w = .ok (.func fn first cap) w := fun _ _ _ _ => rfl
  obtain ⟨W, hW, b0, b1, z, o0, sz⟩ := begin3 w (boxC A) (numC v)
  have ac : Acc1 A (fun i => H i ∨ i = w.heap.size ∨ i = w.heap.size + 1) W (clo2 79 w.heap.size (w.heap.size + 1)) (.stand v) :=
    ⟨_, _, rfl, ⟨.inr (.inl rfl), b0⟩, ⟨.inr (.inr rfl), b1⟩⟩
  have on := Lib.hid (one_any W 79 #[ptr w.heap.size, ptr (w.heap.size + 1)])
  have fi := Lib.hid (fun w1 q sg (h : Sg W w1 (clo2 79 w.heap.size (w.heap.size + 1)) q sg) =>
    fin_nx (w := w) (H := H) (o := .int .i64 0) (x := .int .u64 0) z (by omega) (fun i hi => ⟨by rcases hi with hi | hi | hi; exact .inl hi; exact .inr (by omega); exact .inr (by omega), by rcases hi with hi | hi | hi; (have := hH i hi; omega); omega; omega⟩) o0 (sg_nx (fun i hi => by rcases hi with hi | hi | hi; (have := hH i hi; omega); omega; omega) h ac) h.only (fun h => h))
  clear ac b0 b1 o0 z hH sz 
  subst hW
  go_enter Try.func57, Try.ntmps57
  go_wp2_with (go_at_call 51; refine (on.out).mono ?_; rintro e w1 ⟨q, sg, rfl, o1⟩; obtain ⟨z1, h1, n1, k1⟩ := fi.out w1 q sg o1; have h1' := Lib.hid h1; have n1' := Lib.hid (And.intro n1 k1); obtain ⟨c0, c1, c2, c3, f0, f1, f2, f3⟩ := z1.c; clear o1 z1 h1 n1 k1)
  refine bodyPost_ret (results_agg rfl _ _ (w.heap.size + 1 + 1) [sgI sg, clo1 71 q, .int .i64 0, .int .u64 0] Try.isAgg66 Try.sizeOf66 rfl h1'.out) rfl ?_
  exact ⟨_, _, rfl, .inr ⟨_, _, _, _, rfl, rfl⟩, n1'.out⟩
theorem charge_yes (h : Bool) (hH : ∀ i, H i → i < w.heap.size) :
    Calls Try.prog 74 #[ptr A.bx, .int .i64 1, .int .u64 (rest h)] w (NP A H Nil w (.charge h)) := by
  have hmf : ∀ (fn : Fn) (first cap : Array Value) (w : World), (Instr.makeFunc fn first cap).run Try.prog w = .ok (.func fn first cap) w := fun _ _ _ _ => rfl
  obtain ⟨W, hW, b0, b1, z, o0, sz⟩ := begin3 w (boxC A) (numC (rest h))
  have ac : Acc1 A (fun i => H i ∨ i = w.heap.size ∨ i = w.heap.size + 1) W (clo2 88 w.heap.size (w.heap.size + 1)) (.charge h) :=
    ⟨_, _, rfl, ⟨.inr (.inl rfl), b0⟩, ⟨.inr (.inr rfl), b1⟩⟩
  have on := Lib.hid (one_any W 88 #[ptr w.heap.size, ptr (w.heap.size + 1)])
  have fi := Lib.hid (fun w1 q sg (h : Sg W w1 (clo2 88 w.heap.size (w.heap.size + 1)) q sg) =>
    fin_nx (w := w) (H := H) (o := .int .i64 0) (x := .int .u64 0) z (by omega) (fun i hi => ⟨by rcases hi with hi | hi | hi; exact .inl hi; exact .inr (by omega); exact .inr (by omega), by rcases hi with hi | hi | hi; (have := hH i hi; omega); omega; omega⟩) o0 (sg_nx (fun i hi => by rcases hi with hi | hi | hi; (have := hH i hi; omega); omega; omega) h ac) h.only (fun h => h))
  clear ac b0 b1 o0 z hH sz 
  subst hW
  go_enter Try.func74, Try.ntmps74
  go_wp2_with (go_at_call 51; refine (on.out).mono ?_; rintro e w1 ⟨q, sg, rfl, o1⟩; obtain ⟨z1, h1, n1, k1⟩ := fi.out w1 q sg o1; have h1' := Lib.hid h1; have n1' := Lib.hid (And.intro n1 k1); obtain ⟨c0, c1, c2, c3, f0, f1, f2, f3⟩ := z1.c; clear o1 z1 h1 n1 k1)
  refine bodyPost_ret (results_agg rfl _ _ (w.heap.size + 1 + 1) [sgI sg, clo1 71 q, .int .i64 0, .int .u64 0] Try.isAgg66 Try.sizeOf66 rfl h1'.out) rfl ?_
  exact ⟨_, _, rfl, .inr ⟨_, _, _, _, rfl, rfl⟩, n1'.out⟩
theorem charge_no (o : Int) (h : Bool) (ho : ¬ o = 1) :
    Calls Try.prog 74 #[ptr A.bx, .int .i64 o, .int .u64 (rest h)] w (NP A H Nil w (.over 4 0)) := by
  obtain ⟨W, hW, b0, b1, z, o0, sz⟩ := begin3 w (boxC A) (numC (rest h))
  have en := Lib.hid (end_any W (4) 0)
  have fi := Lib.hid (fun w1 (h : Only Nil W w1) =>
    fin_nx (A := A) (p := .nilIface) (f := .nilFunc) (s := .over 4 0) (w := w) (H := H) (H' := Nil) (o := .int .i64 (4)) (x := .int .u64 0) z (by omega) (fun i hi => False.elim hi) o0 trivial h (fun h => h))
  clear o0 z sz b0 b1
  subst hW
  have ho2 : (o != 1) = true := by simpa using ho
  clear ho
  go_enter Try.func74, Try.ntmps74
  go_wp2_with (go_at_call 62; refine (en.out).mono ?_; rintro e w1 ⟨rfl, o1⟩; obtain ⟨z1, h1, n1, k1⟩ := fi.out w1 o1; have h1' := Lib.hid h1; have n1' := Lib.hid (And.intro n1 k1); obtain ⟨c0, c1, c2, c3, f0, f1, f2, f3⟩ := z1.c; clear o1 z1 h1 n1 k1)
  refine bodyPost_ret (results_agg rfl _ _ (w.heap.size + 1 + 1) [.nilIface, .nilFunc, .int .i64 (4), .int .u64 0] Try.isAgg66 Try.sizeOf66 rfl h1'.out) rfl ?_
  exact ⟨_, _, rfl, .inl ⟨rfl, rfl⟩, n1'.out⟩
theorem charge_any (o : Nat) (h : Bool) (hH : ∀ i, H i → i < w.heap.size) :
    Calls Try.prog 74 #[ptr A.bx, .int .i64 (o : Int), .int .u64 (rest h)] w (NP A H Nil w (looked h o)) := by
  by_cases ho : o = 1
  · subst ho; exact charge_yes h hH
  · unfold looked; rw [if_neg ho]; exact charge_no (o : Int) h (by omega)
/-- The struct of a box. -/
def BoxAt (w : World) (A : BA) : Prop := w.heap[A.bx]? = some (.cells #[ptr A.hb, .int .i64 (A.b : Int), ptr A.mg, ptr A.ng] 84 (0, 0))
theorem BoxAt.keep (h : BoxAt w A) (o : Only S w w') (hs : ¬ S A.bx) : BoxAt w' A := block_at h o hs
theorem BoxAt.c (h : BoxAt w A) : w.cell? ⟨A.bx, 0, none⟩ = some (ptr A.hb) ∧ w.cell? ⟨A.bx, 1, none⟩ = some (.int .i64 (A.b : Int)) ∧ w.cell? ⟨A.bx, 2, none⟩ = some (ptr A.mg) ∧ w.cell? ⟨A.bx, 3, none⟩ = some (ptr A.ng) := by
  unfold BoxAt at h
  simp [World.cell?, h]
end
end Go.Proofs.Ytmkcmncbiancgaa.Po
