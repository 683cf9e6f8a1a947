/- The closures of package post: what comes behind a part; the accesses. -/
import Derived.Test.YtmkcmncbiancgaaPoE
import Derived.Deep.RegionHeld3
import Derived.Deep.QuietTactic
namespace Go.Proofs.Ytmkcmncbiancgaa.Po
open Go.RowKit Go.Proofs.Ytmkcmncbiancgaa

section
variable {A : BA} {F G H H' S : Nat → Prop} {w W w' w1 w2 : World} {g f v p : Value} {s : PS} {ro a r q : Nat} {k : Bool} {os : OS} {L : List Int} {t : Int}
/-- A box and its memory while a closure runs: q is the variable that it answers. -/
structure Ax (A : BA) (F : Nat → Prop) (w w1 : World) (q : Nat) (L : List Int) (t : Int) : Prop where
  mem : MemAt w1 A.hb A.rb L t
  box : BoxAt w1 A
  zq : ZQ w1 q
  hq : q = w.heap.size
  only : Only (Blk A.hb A.rb) w w1
  nb : ¬ Blk A.hb A.rb A.bx
  nq : ¬ Blk A.hb A.rb q
  nf : ∀ i, F i → ¬ Blk A.hb A.rb i
  lt : ∀ i, F i → i < w.heap.size
  b0 : A.b + 1 < L.length
  b1 : A.b ≤ 1000
  t0 : 0 ≤ t
  t1 : t < 4611686018427387000
theorem Ax.start (m : MemAt w A.hb A.rb L t) (b : BoxAt w A) (nb : ¬ Blk A.hb A.rb A.bx) (nf : ∀ i, F i → ¬ Blk A.hb A.rb i) (lt : ∀ i, F i → i < w.heap.size) (b0 : A.b + 1 < L.length) (b1 : A.b ≤ 1000) (t0 : 0 ≤ t) (t1 : t < 4611686018427387000)
    (hW : W = w.alloc (.cells zN.toArray 66)) : Ax A F w W w.heap.size L t := by
  subst hW
  have o := (Only.refl Nil w).alloc (.cells zN.toArray 66)
  have l1 := m.lt_hb
  have l2 := m.lt_rb
  exact ⟨m.keep o (fun h => h) (fun h => h), b.keep o (fun h => h), zq_new w, rfl, o.nilTo _, nb, fun z => by rcases z with z | z <;> omega, nf, lt, b0, b1, t0, t1⟩
theorem Ax.drewN (h : Ax A F w w1 q L t) (n : Nat) : Ax A F w (w1.drewN n) q L t := { h with mem := h.mem.drewN n, only := h.only.drewN n, box := h.box, zq := h.zq }
theorem Ax.step (h : Ax A F w w1 q L t) {L' : List Int} (m : MemAt w2 A.hb A.rb L' (t + 1)) (o : Only (Blk A.hb A.rb) w1 w2) (hl : L'.length = L.length) (t2 : t + 1 < 4611686018427387000) : Ax A F w w2 q L' (t + 1) :=
  { h with mem := m, box := h.box.keep o h.nb, zq := h.zq.keep o h.nq, only := h.only.trans o, b0 := by rw [hl]; exact h.b0, t0 := by have := h.t0; omega, t1 := t2 }
theorem Ax.cell (h : Ax A F w w1 q L t) {i : Nat} {o : Obj} (a : At F w i o) : At F w1 i o := a.keep h.only h.nf
theorem Ax.load (h : Ax A F w w1 q L t) (i : Nat) (hi : i ≤ 1) (t2 : t + 1 < 4611686018427387000) :
    Calls Try.prog 64 #[spanV A.hb A.b, .int .i64 (i : Int)] w1 fun e w' => e = .returned (.int .u64 (L.getD (A.b + i) 0)) ∧ Ax A F w w' q L (t + 1) := by
  have := h.b0; have := h.b1; have := h.t1
  refine (sload_any h.mem i (A.b + i) (by omega) (by omega) (by omega) (by omega) (by omega) h.t0 (by omega)).mono ?_
  rintro e w2 ⟨rfl, m, o⟩
  exact ⟨rfl, h.step m o rfl t2⟩
theorem Ax.store (h : Ax A F w w1 q L t) (i : Nat) (x : Int) (hi : i ≤ 1) (t2 : t + 1 < 4611686018427387000) :
    Calls Try.prog 39 #[spanV A.hb A.b, .int .i64 (i : Int), .int .u64 x] w1 fun e w' => e = .returned (.tuple #[]) ∧ Ax A F w w' q (L.set (A.b + i) x) (t + 1) := by
  have := h.b0; have := h.b1; have := h.t1
  refine (sstore_any h.mem i (A.b + i) x (by omega) (by omega) (by omega) (by omega) (by omega) h.t0 (by omega)).mono ?_
  rintro e w2 ⟨rfl, m, o⟩
  exact ⟨rfl, h.step m o (by simp) t2⟩
theorem Ax.swap (h : Ax A F w w1 q L t) (i : Nat) (y x : Int) (hi : i ≤ 1) (t2 : t + 1 < 4611686018427387000) :
    Calls Try.prog 61 #[spanV A.hb A.b, .int .i64 (i : Int), .int .u64 y, .int .u64 x] w1 fun e w' => e = .returned (.bool (decide (L.getD (A.b + i) 0 = y))) ∧ Ax A F w w' q (doAcc L (.swap (A.b + i) y x)).1 (t + 1) := by
  have := h.b0; have := h.b1; have := h.t1
  refine (sswap_any h.mem i (A.b + i) y x (by omega) (by omega) (by omega) (by omega) (by omega) h.t0 (by omega)).mono ?_
  rintro e w2 ⟨rfl, m, o⟩
  exact ⟨rfl, h.step m o (doAcc_length _ _) t2⟩
/-- What an access answers, and its memory. -/
def NPM (A : BA) (F : Nat → Prop) (L : List Int) (t : Int) (w : World) (s : PS) (e : Ending) (w' : World) : Prop :=
  NP A F (Blk A.hb A.rb) w s e w' ∧ MemAt w' A.hb A.rb L t
theorem fin_nxS (z : ZQ W q) (hq : w.heap.size ≤ q) (h' : ∀ i, H' i → Ext w W H i ∧ i ≠ q) (o0 : Only S w W) (n : Nx A (Ext W w1 H') w1 p f s) (o1 : Only Nil W w1) (o x : Value) :
    ZQ w1 q ∧ (set4 w1 q p f o x).heap[q]? = some (.cells [p, f, o, x].toArray 66 (0, 0)) ∧ Nx A (Ext w (set4 w1 q p f o x) H) (set4 w1 q p f o x) p f s ∧ Only S w (set4 w1 q p f o x) := by
  have z1 := z.keep o1 (fun h => h)
  have hl := lt_of_block z
  have s1 := o1.size
  have s0 := o0.size
  have k := set4_only w1 q p f o x
  have s2 := k.size
  refine ⟨z1, set4_heap z1 _ _ _ _, ?_, set4_then (o0.trans (o1.nilTo S)) q hq _ _ _ _⟩
  refine (n.keep k (fun i hi e => ?_)).mono (fun i hi => ?_)
  · have e : i = q := e
    subst e
    rcases hi with hi | hi
    · exact (h' _ hi).2 rfl
    · omega
  · rcases hi with hi | hi
    · rcases (h' i hi).1 with y | y
      · exact .inl y
      · exact .inr ⟨y.1, by omega⟩
    · exact .inr ⟨by omega, by omega⟩
/-- The set that a callee is given. -/
theorem Ax.ltx (h : Ax A F w w1 q L t) : ∀ i, Exq w w1 F q i → i < w1.heap.size := exq_lt h.lt h.only.size
theorem Ax.inx (h : Ax A F w w1 q L t) : ∀ i, F i → Exq w w1 F q i := fun i hi => exq_old h.lt (Nat.le_of_eq h.hq.symm) i hi
theorem Ax.fin (h : Ax A F w w1 q L t) (n : Nx A (Ext w1 w2 (Exq w w1 F q)) w2 p f s) (o1 : Only Nil w1 w2) (o x : Value) :
    ZQ w2 q ∧ (set4 w2 q p f o x).heap[q]? = some (.cells [p, f, o, x].toArray 66 (0, 0)) ∧ Nx A (Ext w (set4 w2 q p f o x) F) (set4 w2 q p f o x) p f s ∧ Only (Blk A.hb A.rb) w (set4 w2 q p f o x) ∧ MemAt (set4 w2 q p f o x) A.hb A.rb L t := by
  obtain ⟨z1, z2, z3, z4⟩ := fin_nxS (w := w) (H := F) h.zq (by rw [h.hq]; exact Nat.le_refl _) (fun i hi => hi) h.only n o1 o x
  exact ⟨z1, z2, z3, z4, (h.mem.keep o1 (fun h => h) (fun h => h)).keep (set4_only w2 q p f o x) (fun e => h.nq (.inl (by have : A.hb = q := e; omega))) (fun e => h.nq (.inr (by have : A.rb = q := e; omega)))⟩
end
section
variable {A : BA} {F G H H' S : Nat → Prop} {w W w' w1 w2 : World} {g f v p : Value} {s : PS} {ro a r q : Nat} {k : Bool} {os : OS} {L : List Int} {t : Int}
theorem c_stand (X : MemAt w A.hb A.rb L t) (bx : BoxAt w A) (nb : ¬ Blk A.hb A.rb A.bx) (nf : ∀ i, F i → ¬ Blk A.hb A.rb i) (hF : ∀ i, F i → i < w.heap.size) (b0 : A.b + 1 < L.length) (b1 : A.b ≤ 1000) (t0 : 0 ≤ t) (t1 : t + 1 < 4611686018427387000) (v : Int) (ha : At F w a (boxC A)) (hq : At F w q (numC v)) :
    Calls Try.prog 79 #[ptr a, ptr q] w (NPM A F (L.set A.b v) (t + 1) w (.over 1 0)) := by
  have hmf : ∀ (fn : Fn) (first cap : Array Value) (w : World), (Instr.makeFunc fn first cap).run Try.prog w = .ok (.func fn first cap) w := fun _ _ _ _ => rfl
  have X0 := Ax.start X bx nb nf hF b0 b1 t0 (by omega) rfl
  have o0 := (Only.refl Nil w).alloc (.cells zN.toArray 66)
  have ld := Lib.hid (fun n => (X0.drewN n).store 0 v (by omega) t1)
  have kp : Hid (∀ w1 L1 t1, Ax A F w w1 w.heap.size L1 t1 → w1.cell? ⟨a, 0, none⟩ = some (ptr A.bx) ∧ w1.cell? ⟨q, 0, none⟩ = some (.int .u64 v) ∧ BoxAt w1 A) := Lib.hid (fun w1 L1 t1 Y => ⟨(Y.cell ha).c, (Y.cell hq).c, Y.box⟩)
  obtain ⟨g0, g1, gb⟩ := kp.out _ _ _ X0
  obtain ⟨d0, d1, d2, d3⟩ := gb.c
  unfold spanV at ld
  simp only [Nat.add_zero] at ld
  clear X bx nb nf hF b0 b1 t0 t1 ha hq o0 gb X0
  go_enter Try.func79, Try.ntmps79
  go_wp2
  go_region_held3 (fun w' => w'.cell? ⟨a, 0, none⟩ = some (ptr A.bx) ∧ w'.cell? ⟨q, 0, none⟩ = some (.int .u64 v) ∧ w'.cell? ⟨A.bx, 0, none⟩ = some (ptr A.hb) ∧ w'.cell? ⟨A.bx, 1, none⟩ = some (.int .i64 (A.b : Int)))
    (first | exact ⟨g0, g1, d0, d1⟩ | exact ⟨k0, k1, e0, e1⟩ | go_keep)
    ((go_at_call 39; refine (ld.out _).mono ?_; rintro e w1 ⟨rfl, X1⟩; obtain ⟨k0, k1, kb⟩ := kp.out _ _ _ X1; obtain ⟨e0, e1, e2, e3⟩ := kb.c; have X1' := Lib.hid X1; clear X1 kb))
  go_wp2_with (go_at_call 62; refine (end_any _ _ _).mono ?_; rintro e w2 ⟨rfl, o2⟩; obtain ⟨z2, h2, n2, k2, m2⟩ := X1'.out.fin (show Nx A _ w2 .nilIface .nilFunc (.over 1 0) from trivial) o2 (.int .i64 (1 : Int)) (.int .u64 0); have h2' := Lib.hid h2; have n2' := Lib.hid (And.intro n2 (And.intro k2 m2)); obtain ⟨c0, c1, c2, c3, f0, f1, f2, f3⟩ := z2.c; clear o2 z2 h2 n2 k2 m2)
  refine bodyPost_ret (results_agg rfl _ _ w.heap.size [_, _, .int .i64 1, .int .u64 0] Try.isAgg66 Try.sizeOf66 rfl h2'.out) rfl ?_
  exact ⟨⟨_, _, rfl, .inl ⟨rfl, rfl⟩, n2'.out.1, n2'.out.2.1⟩, n2'.out.2.2⟩
theorem c_set (X : MemAt w A.hb A.rb L t) (bx : BoxAt w A) (nb : ¬ Blk A.hb A.rb A.bx) (nf : ∀ i, F i → ¬ Blk A.hb A.rb i) (hF : ∀ i, F i → i < w.heap.size) (b0 : A.b + 1 < L.length) (b1 : A.b ≤ 1000) (t0 : 0 ≤ t) (t1 : t + 1 < 4611686018427387000) (h : Bool) (ha : At F w a (boxC A)) (hq : At F w q (numC (rest h))) :
    Calls Try.prog 52 #[ptr a, ptr q] w (NPM A F (L.set A.b (rest h)) (t + 1) w (.lookN h .look0)) := by
  have hmf : ∀ (fn : Fn) (first cap : Array Value) (w : World), (Instr.makeFunc fn first cap).run Try.prog w = .ok (.func fn first cap) w := fun _ _ _ _ => rfl
  have X0 := Ax.start X bx nb nf hF b0 b1 t0 (by omega) rfl
  have o0 := (Only.refl Nil w).alloc (.cells zN.toArray 66)
  have ld := Lib.hid (fun n => (X0.drewN n).store 0 (rest h) (by omega) t1)
  have kp : Hid (∀ w1 L1 t1, Ax A F w w1 w.heap.size L1 t1 → w1.cell? ⟨a, 0, none⟩ = some (ptr A.bx) ∧ w1.cell? ⟨q, 0, none⟩ = some (.int .u64 (rest h)) ∧ BoxAt w1 A) := Lib.hid (fun w1 L1 t1 Y => ⟨(Y.cell ha).c, (Y.cell hq).c, Y.box⟩)
  obtain ⟨g0, g1, gb⟩ := kp.out _ _ _ X0
  obtain ⟨d0, d1, d2, d3⟩ := gb.c
  have lb := Lib.hid (fun w1 L1 t1 (Y : Ax A F w w1 w.heap.size L1 t1) => lookBack_any (H := Exq w w1 F w.heap.size) Y.box h)
  unfold spanV at ld
  simp only [Nat.add_zero] at ld
  clear X bx nb nf hF b0 b1 t0 t1 o0 X0 ha hq gb
  go_enter Try.func52, Try.ntmps52
  go_wp2
  go_region_held3 (fun w' => w'.cell? ⟨a, 0, none⟩ = some (ptr A.bx) ∧ w'.cell? ⟨q, 0, none⟩ = some (.int .u64 (rest h)) ∧ w'.cell? ⟨A.bx, 0, none⟩ = some (ptr A.hb) ∧ w'.cell? ⟨A.bx, 1, none⟩ = some (.int .i64 (A.b : Int)))
    (first | exact ⟨g0, g1, d0, d1⟩ | exact ⟨k0, k1, e0, e1⟩ | go_keep)
    ((go_at_call 39; refine (ld.out _).mono ?_; rintro e w1 ⟨rfl, X1⟩; obtain ⟨k0, k1, kb⟩ := kp.out _ _ _ X1; obtain ⟨e0, e1, e2, e3⟩ := kb.c; have X1' := Lib.hid X1; clear X1 kb))
  go_wp2_with (go_at_call 53; refine (lb.out _ _ _ X1'.out).mono ?_; rintro e w2 ⟨p, f, rfl, (⟨rfl, rfl⟩ | ⟨ty, v, g, cs, rfl, rfl⟩), n1, o2⟩ <;> (obtain ⟨z2, h2, n2, k2, m2⟩ := X1'.out.fin n1 o2 (.int .i64 (0 : Int)) (.int .u64 0); have h2' := Lib.hid h2; have n2' := Lib.hid (And.intro n2 (And.intro k2 m2)); obtain ⟨c0, c1, c2, c3, f0, f1, f2, f3⟩ := z2.c; clear o2 z2 h2 n2 k2 m2))
  · refine bodyPost_ret (results_agg rfl _ _ w.heap.size [_, _, .int .i64 0, .int .u64 0] Try.isAgg66 Try.sizeOf66 rfl h2'.out) rfl ?_
    exact ⟨⟨_, _, rfl, .inl ⟨rfl, rfl⟩, n2'.out.1, n2'.out.2.1⟩, n2'.out.2.2⟩
  · refine bodyPost_ret (results_agg rfl _ _ w.heap.size [_, _, .int .i64 0, .int .u64 0] Try.isAgg66 Try.sizeOf66 rfl h2'.out) rfl ?_
    exact ⟨⟨_, _, rfl, .inr ⟨_, _, _, _, rfl, rfl⟩, n2'.out.1, n2'.out.2.1⟩, n2'.out.2.2⟩
theorem c_charge_yes (X : MemAt w A.hb A.rb L t) (bx : BoxAt w A) (nb : ¬ Blk A.hb A.rb A.bx) (nf : ∀ i, F i → ¬ Blk A.hb A.rb i) (hF : ∀ i, F i → i < w.heap.size) (b0 : A.b + 1 < L.length) (b1 : A.b ≤ 1000) (t0 : 0 ≤ t) (t1 : t + 1 < 4611686018427387000) (h : Bool) (ha : At F w a (boxC A)) (hq : At F w q (numC (rest h))) (he : L.getD A.b 0 = rest h) :
    Calls Try.prog 88 #[ptr a, ptr q] w (NPM A F ((doAcc L (.swap A.b (rest h) 1)).1) (t + 1) w (.over 8 0)) := by
  have hmf : ∀ (fn : Fn) (first cap : Array Value) (w : World), (Instr.makeFunc fn first cap).run Try.prog w = .ok (.func fn first cap) w := fun _ _ _ _ => rfl
  have X0 := Ax.start X bx nb nf hF b0 b1 t0 (by omega) rfl
  have o0 := (Only.refl Nil w).alloc (.cells zN.toArray 66)
  have ld := Lib.hid (fun n => (X0.drewN n).swap 0 (rest h) 1 (by omega) t1)
  have kp : Hid (∀ w1 L1 t1, Ax A F w w1 w.heap.size L1 t1 → w1.cell? ⟨a, 0, none⟩ = some (ptr A.bx) ∧ w1.cell? ⟨q, 0, none⟩ = some (.int .u64 (rest h)) ∧ BoxAt w1 A) := Lib.hid (fun w1 L1 t1 Y => ⟨(Y.cell ha).c, (Y.cell hq).c, Y.box⟩)
  obtain ⟨g0, g1, gb⟩ := kp.out _ _ _ X0
  obtain ⟨d0, d1, d2, d3⟩ := gb.c
  unfold spanV at ld
  simp only [Nat.add_zero] at ld
  rw [decide_eq_true he] at ld
  clear X bx nb nf hF b0 b1 t0 t1 o0 X0 ha hq gb he
  generalize (doAcc L (.swap A.b (rest h) 1)).1 = L2 at *
  go_enter Try.func88, Try.ntmps88
  go_wp2
  go_region_held3 (fun w' => w'.cell? ⟨a, 0, none⟩ = some (ptr A.bx) ∧ w'.cell? ⟨q, 0, none⟩ = some (.int .u64 (rest h)) ∧ w'.cell? ⟨A.bx, 0, none⟩ = some (ptr A.hb) ∧ w'.cell? ⟨A.bx, 1, none⟩ = some (.int .i64 (A.b : Int)))
    (first | exact ⟨g0, g1, d0, d1⟩ | exact ⟨k0, k1, e0, e1⟩ | go_keep)
    ((go_at_call 61; refine (ld.out _).mono ?_; rintro e w1 ⟨rfl, X1⟩; obtain ⟨k0, k1, kb⟩ := kp.out _ _ _ X1; obtain ⟨e0, e1, e2, e3⟩ := kb.c; have X1' := Lib.hid X1; clear X1 kb))
  go_wp2_with (go_at_call 62; refine (end_any _ _ _).mono ?_; rintro e w2 ⟨rfl, o2⟩; obtain ⟨z2, h2, n2, k2, m2⟩ := X1'.out.fin (show Nx A _ w2 .nilIface .nilFunc (.over 8 0) from trivial) o2 (.int .i64 (8 : Int)) (.int .u64 0); have h2' := Lib.hid h2; have n2' := Lib.hid (And.intro n2 (And.intro k2 m2)); obtain ⟨c0, c1, c2, c3, f0, f1, f2, f3⟩ := z2.c; clear o2 z2 h2 n2 k2 m2)
  refine bodyPost_ret (results_agg rfl _ _ w.heap.size [_, _, .int .i64 8, .int .u64 0] Try.isAgg66 Try.sizeOf66 rfl h2'.out) rfl ?_
  exact ⟨⟨_, _, rfl, .inl ⟨rfl, rfl⟩, n2'.out.1, n2'.out.2.1⟩, n2'.out.2.2⟩
theorem c_charge_no (X : MemAt w A.hb A.rb L t) (bx : BoxAt w A) (nb : ¬ Blk A.hb A.rb A.bx) (nf : ∀ i, F i → ¬ Blk A.hb A.rb i) (hF : ∀ i, F i → i < w.heap.size) (b0 : A.b + 1 < L.length) (b1 : A.b ≤ 1000) (t0 : 0 ≤ t) (t1 : t + 1 < 4611686018427387000) (h : Bool) (ha : At F w a (boxC A)) (hq : At F w q (numC (rest h))) (he : ¬ L.getD A.b 0 = rest h) :
    Calls Try.prog 88 #[ptr a, ptr q] w (NPM A F ((doAcc L (.swap A.b (rest h) 1)).1) (t + 1) w (.over 1 0)) := by
  have hmf : ∀ (fn : Fn) (first cap : Array Value) (w : World), (Instr.makeFunc fn first cap).run Try.prog w = .ok (.func fn first cap) w := fun _ _ _ _ => rfl
  have X0 := Ax.start X bx nb nf hF b0 b1 t0 (by omega) rfl
  have o0 := (Only.refl Nil w).alloc (.cells zN.toArray 66)
  have ld := Lib.hid (fun n => (X0.drewN n).swap 0 (rest h) 1 (by omega) t1)
  have kp : Hid (∀ w1 L1 t1, Ax A F w w1 w.heap.size L1 t1 → w1.cell? ⟨a, 0, none⟩ = some (ptr A.bx) ∧ w1.cell? ⟨q, 0, none⟩ = some (.int .u64 (rest h)) ∧ BoxAt w1 A) := Lib.hid (fun w1 L1 t1 Y => ⟨(Y.cell ha).c, (Y.cell hq).c, Y.box⟩)
  obtain ⟨g0, g1, gb⟩ := kp.out _ _ _ X0
  obtain ⟨d0, d1, d2, d3⟩ := gb.c
  unfold spanV at ld
  simp only [Nat.add_zero] at ld
  rw [decide_eq_false he] at ld
  clear X bx nb nf hF b0 b1 t0 t1 o0 X0 ha hq gb he
  generalize (doAcc L (.swap A.b (rest h) 1)).1 = L2 at *
  go_enter Try.func88, Try.ntmps88
  go_wp2
  go_region_held3 (fun w' => w'.cell? ⟨a, 0, none⟩ = some (ptr A.bx) ∧ w'.cell? ⟨q, 0, none⟩ = some (.int .u64 (rest h)) ∧ w'.cell? ⟨A.bx, 0, none⟩ = some (ptr A.hb) ∧ w'.cell? ⟨A.bx, 1, none⟩ = some (.int .i64 (A.b : Int)))
    (first | exact ⟨g0, g1, d0, d1⟩ | exact ⟨k0, k1, e0, e1⟩ | go_keep)
    ((go_at_call 61; refine (ld.out _).mono ?_; rintro e w1 ⟨rfl, X1⟩; obtain ⟨k0, k1, kb⟩ := kp.out _ _ _ X1; obtain ⟨e0, e1, e2, e3⟩ := kb.c; have X1' := Lib.hid X1; clear X1 kb))
  go_wp2_with (go_at_call 62; refine (end_any _ _ _).mono ?_; rintro e w2 ⟨rfl, o2⟩; obtain ⟨z2, h2, n2, k2, m2⟩ := X1'.out.fin (show Nx A _ w2 .nilIface .nilFunc (.over 1 0) from trivial) o2 (.int .i64 (1 : Int)) (.int .u64 0); have h2' := Lib.hid h2; have n2' := Lib.hid (And.intro n2 (And.intro k2 m2)); obtain ⟨c0, c1, c2, c3, f0, f1, f2, f3⟩ := z2.c; clear o2 z2 h2 n2 k2 m2)
  refine bodyPost_ret (results_agg rfl _ _ w.heap.size [_, _, .int .i64 1, .int .u64 0] Try.isAgg66 Try.sizeOf66 rfl h2'.out) rfl ?_
  exact ⟨⟨_, _, rfl, .inl ⟨rfl, rfl⟩, n2'.out.1, n2'.out.2.1⟩, n2'.out.2.2⟩
theorem c_gone_yes (X : MemAt w A.hb A.rb L t) (bx : BoxAt w A) (nb : ¬ Blk A.hb A.rb A.bx) (nf : ∀ i, F i → ¬ Blk A.hb A.rb i) (hF : ∀ i, F i → i < w.heap.size) (b0 : A.b + 1 < L.length) (b1 : A.b ≤ 1000) (t0 : 0 ≤ t) (t1 : t + 1 < 4611686018427387000) (ha : At F w a (boxC A)) (he : L.getD A.b 0 = 4) :
    Calls Try.prog 63 #[ptr a] w (NPM A F (L) (t + 1) w (.over 1 0)) := by
  have hmf : ∀ (fn : Fn) (first cap : Array Value) (w : World), (Instr.makeFunc fn first cap).run Try.prog w = .ok (.func fn first cap) w := fun _ _ _ _ => rfl
  have X0 := Ax.start X bx nb nf hF b0 b1 t0 (by omega) rfl
  have o0 := (Only.refl Nil w).alloc (.cells zN.toArray 66)
  have ld := Lib.hid (X0.load 0 (by omega) t1)
  have g0 := (X0.cell ha).c
  obtain ⟨d0, d1, d2, d3⟩ := X0.box.c
  unfold spanV at ld
  simp only [Nat.add_zero] at ld
  rw [he] at ld
  clear X bx nb nf hF b0 b1 t0 t1 o0 X0 ha he
  go_enter Try.func63, Try.ntmps63
  go_wp2_with (first
    | (go_at_call 64; refine (ld.out).mono ?_; rintro e w1 ⟨rfl, X1⟩; have X1' := Lib.hid X1; clear X1)
    | (go_at_call 62; refine (end_any _ _ _).mono ?_; rintro e w2 ⟨rfl, o2⟩; obtain ⟨z2, h2, n2, k2, m2⟩ := X1'.out.fin (show Nx A _ w2 .nilIface .nilFunc (.over 1 0) from trivial) o2 (.int .i64 (1 : Int)) (.int .u64 0); have h2' := Lib.hid h2; have n2' := Lib.hid (And.intro n2 (And.intro k2 m2)); obtain ⟨c0, c1, c2, c3, f0, f1, f2, f3⟩ := z2.c; clear o2 z2 h2 n2 k2 m2))
  refine bodyPost_ret (results_agg rfl _ _ w.heap.size [_, _, .int .i64 1, .int .u64 0] Try.isAgg66 Try.sizeOf66 rfl h2'.out) rfl ?_
  exact ⟨⟨_, _, rfl, .inl ⟨rfl, rfl⟩, n2'.out.1, n2'.out.2.1⟩, n2'.out.2.2⟩
theorem c_gone_no (X : MemAt w A.hb A.rb L t) (bx : BoxAt w A) (nb : ¬ Blk A.hb A.rb A.bx) (nf : ∀ i, F i → ¬ Blk A.hb A.rb i) (hF : ∀ i, F i → i < w.heap.size) (b0 : A.b + 1 < L.length) (b1 : A.b ≤ 1000) (t0 : 0 ≤ t) (t1 : t + 1 < 4611686018427387000) (ha : At F w a (boxC A)) (he : ¬ L.getD A.b 0 = 4) :
    Calls Try.prog 63 #[ptr a] w (NPM A F (L) (t + 1) w (.over 4 0)) := by
  have hmf : ∀ (fn : Fn) (first cap : Array Value) (w : World), (Instr.makeFunc fn first cap).run Try.prog w = .ok (.func fn first cap) w := fun _ _ _ _ => rfl
  have X0 := Ax.start X bx nb nf hF b0 b1 t0 (by omega) rfl
  have o0 := (Only.refl Nil w).alloc (.cells zN.toArray 66)
  have ld := Lib.hid (X0.load 0 (by omega) t1)
  have g0 := (X0.cell ha).c
  obtain ⟨d0, d1, d2, d3⟩ := X0.box.c
  unfold spanV at ld
  simp only [Nat.add_zero] at ld
  generalize L.getD A.b 0 = x at ld he
  clear X bx nb nf hF b0 b1 t0 t1 o0 X0 ha
  go_enter Try.func63, Try.ntmps63
  go_wp2_with (first
    | (go_at_call 64; refine (ld.out).mono ?_; rintro e w1 ⟨rfl, X1⟩; have X1' := Lib.hid X1; clear X1)
    | (go_at_call 62; refine (end_any _ _ _).mono ?_; rintro e w2 ⟨rfl, o2⟩; obtain ⟨z2, h2, n2, k2, m2⟩ := X1'.out.fin (show Nx A _ w2 .nilIface .nilFunc (.over 4 0) from trivial) o2 (.int .i64 (4 : Int)) (.int .u64 0); have h2' := Lib.hid h2; have n2' := Lib.hid (And.intro n2 (And.intro k2 m2)); obtain ⟨c0, c1, c2, c3, f0, f1, f2, f3⟩ := z2.c; clear o2 z2 h2 n2 k2 m2))
  refine bodyPost_ret (results_agg rfl _ _ w.heap.size [_, _, .int .i64 4, .int .u64 0] Try.isAgg66 Try.sizeOf66 rfl h2'.out) rfl ?_
  exact ⟨⟨_, _, rfl, .inl ⟨rfl, rfl⟩, n2'.out.1, n2'.out.2.1⟩, n2'.out.2.2⟩
theorem c_swap_yes (X : MemAt w A.hb A.rb L t) (bx : BoxAt w A) (nb : ¬ Blk A.hb A.rb A.bx) (nf : ∀ i, F i → ¬ Blk A.hb A.rb i) (hF : ∀ i, F i → i < w.heap.size) (b0 : A.b + 1 < L.length) (b1 : A.b ≤ 1000) (t0 : 0 ≤ t) (t1 : t + 1 < 4611686018427387000) (s : Int) (hc : capR A F w a r k) (hq : At F w q (numC s)) (he : L.getD A.b 0 = s) :
    Calls Try.prog 91 #[ptr a, ptr q, ptr r] w (NPM A F ((doAcc L (.swap A.b s 1)).1) (t + 1) w (.over 7 0)) := by
  have hmf : ∀ (fn : Fn) (first cap : Array Value) (w : World), (Instr.makeFunc fn first cap).run Try.prog w = .ok (.func fn first cap) w := fun _ _ _ _ => rfl
  have X0 := Ax.start X bx nb nf hF b0 b1 t0 (by omega) rfl
  have o0 := (Only.refl Nil w).alloc (.cells zN.toArray 66)
  obtain ⟨ha, v, hr, hv⟩ := hc
  have ld := Lib.hid (fun n => (X0.drewN n).swap 0 s 1 (by omega) t1)
  have kp : Hid (∀ w1 L1 t1, Ax A F w w1 w.heap.size L1 t1 → w1.cell? ⟨a, 0, none⟩ = some (ptr A.bx) ∧ w1.cell? ⟨q, 0, none⟩ = some (.int .u64 s) ∧ BoxAt w1 A) := Lib.hid (fun w1 L1 t1 Y => ⟨(Y.cell ha).c, (Y.cell hq).c, Y.box⟩)
  obtain ⟨g0, g1, gb⟩ := kp.out _ _ _ X0
  obtain ⟨d0, d1, d2, d3⟩ := gb.c
  have kr : Hid (∀ w1 L1 t1, Ax A F w w1 w.heap.size L1 t1 → w1.cell? ⟨r, 0, none⟩ = some v) := Lib.hid (fun w1 L1 t1 Y => (Y.cell hr).c)
  unfold spanV at ld
  simp only [Nat.add_zero] at ld
  rw [decide_eq_true he] at ld
  clear X bx nb nf hF b0 b1 t0 t1 o0 X0 ha hq gb he hr hv
  generalize (doAcc L (.swap A.b s 1)).1 = L2 at *
  go_enter Try.func91, Try.ntmps91
  go_wp2
  go_region_held3 (fun w' => w'.cell? ⟨a, 0, none⟩ = some (ptr A.bx) ∧ w'.cell? ⟨q, 0, none⟩ = some (.int .u64 s) ∧ w'.cell? ⟨A.bx, 0, none⟩ = some (ptr A.hb) ∧ w'.cell? ⟨A.bx, 1, none⟩ = some (.int .i64 (A.b : Int)))
    (first | exact ⟨g0, g1, d0, d1⟩ | exact ⟨k0, k1, e0, e1⟩ | go_keep)
    ((go_at_call 61; refine (ld.out _).mono ?_; rintro e w1 ⟨rfl, X1⟩; obtain ⟨k0, k1, kb⟩ := kp.out _ _ _ X1; obtain ⟨e0, e1, e2, e3⟩ := kb.c; have k5 := kr.out _ _ _ X1; have X1' := Lib.hid X1; clear X1 kb))
  go_wp2_with (go_at_call 62; refine (end_any _ _ _).mono ?_; rintro e w2 ⟨rfl, o2⟩; obtain ⟨z2, h2, n2, k2, m2⟩ := X1'.out.fin (show Nx A _ w2 .nilIface .nilFunc (.over 7 0) from trivial) o2 (.int .i64 (7 : Int)) (.int .u64 0); have h2' := Lib.hid h2; have n2' := Lib.hid (And.intro n2 (And.intro k2 m2)); obtain ⟨c0, c1, c2, c3, f0, f1, f2, f3⟩ := z2.c; clear o2 z2 h2 n2 k2 m2)
  refine bodyPost_ret (results_agg rfl _ _ w.heap.size [_, _, .int .i64 7, .int .u64 0] Try.isAgg66 Try.sizeOf66 rfl h2'.out) rfl ?_
  exact ⟨⟨_, _, rfl, .inl ⟨rfl, rfl⟩, n2'.out.1, n2'.out.2.1⟩, n2'.out.2.2⟩
theorem c_swap_no (X : MemAt w A.hb A.rb L t) (bx : BoxAt w A) (nb : ¬ Blk A.hb A.rb A.bx) (nf : ∀ i, F i → ¬ Blk A.hb A.rb i) (hF : ∀ i, F i → i < w.heap.size) (b0 : A.b + 1 < L.length) (b1 : A.b ≤ 1000) (t0 : 0 ≤ t) (t1 : t + 1 < 4611686018427387000) (s : Int) (hc : capR A F w a r k) (hq : At F w q (numC s)) (he : ¬ L.getD A.b 0 = s) :
    Calls Try.prog 91 #[ptr a, ptr q, ptr r] w (NPM A F ((doAcc L (.swap A.b s 1)).1) (t + 1) w (.load k)) := by
  have hmf : ∀ (fn : Fn) (first cap : Array Value) (w : World), (Instr.makeFunc fn first cap).run Try.prog w = .ok (.func fn first cap) w := fun _ _ _ _ => rfl
  have X0 := Ax.start X bx nb nf hF b0 b1 t0 (by omega) rfl
  have o0 := (Only.refl Nil w).alloc (.cells zN.toArray 66)
  obtain ⟨ha, v, hr, hv⟩ := hc
  have ld := Lib.hid (fun n => (X0.drewN n).swap 0 s 1 (by omega) t1)
  have kp : Hid (∀ w1 L1 t1, Ax A F w w1 w.heap.size L1 t1 → w1.cell? ⟨a, 0, none⟩ = some (ptr A.bx) ∧ w1.cell? ⟨q, 0, none⟩ = some (.int .u64 s) ∧ BoxAt w1 A) := Lib.hid (fun w1 L1 t1 Y => ⟨(Y.cell ha).c, (Y.cell hq).c, Y.box⟩)
  obtain ⟨g0, g1, gb⟩ := kp.out _ _ _ X0
  obtain ⟨d0, d1, d2, d3⟩ := gb.c
  have kr : Hid (∀ w1 L1 t1, Ax A F w w1 w.heap.size L1 t1 → w1.cell? ⟨r, 0, none⟩ = some v) := Lib.hid (fun w1 L1 t1 Y => (Y.cell hr).c)
  have rs := Lib.hid (fun w1 L1 t1 (Y : Ax A F w w1 w.heap.size L1 t1) => rouse_any (A := A) Y.ltx (rests_mono (rests_keep hv Y.only Y.nf) Y.inx))
  unfold spanV at ld
  simp only [Nat.add_zero] at ld
  rw [decide_eq_false he] at ld
  clear X bx nb nf hF b0 b1 t0 t1 o0 X0 ha hq gb he hr hv
  generalize (doAcc L (.swap A.b s 1)).1 = L2 at *
  go_enter Try.func91, Try.ntmps91
  go_wp2
  go_region_held3 (fun w' => w'.cell? ⟨a, 0, none⟩ = some (ptr A.bx) ∧ w'.cell? ⟨q, 0, none⟩ = some (.int .u64 s) ∧ w'.cell? ⟨A.bx, 0, none⟩ = some (ptr A.hb) ∧ w'.cell? ⟨A.bx, 1, none⟩ = some (.int .i64 (A.b : Int)))
    (first | exact ⟨g0, g1, d0, d1⟩ | exact ⟨k0, k1, e0, e1⟩ | go_keep)
    ((go_at_call 61; refine (ld.out _).mono ?_; rintro e w1 ⟨rfl, X1⟩; obtain ⟨k0, k1, kb⟩ := kp.out _ _ _ X1; obtain ⟨e0, e1, e2, e3⟩ := kb.c; have k5 := kr.out _ _ _ X1; have X1' := Lib.hid X1; clear X1 kb))
  go_wp2_with (go_at_call 77; refine (rs.out _ _ _ X1'.out).mono ?_; rintro e w2 ⟨p, f, rfl, (⟨rfl, rfl⟩ | ⟨ty, v, g, cs, rfl, rfl⟩), n1, o2⟩ <;> (obtain ⟨z2, h2, n2, k2, m2⟩ := X1'.out.fin n1 o2 (.int .i64 (0 : Int)) (.int .u64 0); have h2' := Lib.hid h2; have n2' := Lib.hid (And.intro n2 (And.intro k2 m2)); obtain ⟨c0, c1, c2, c3, f0, f1, f2, f3⟩ := z2.c; clear o2 z2 h2 n2 k2 m2))
  · refine bodyPost_ret (results_agg rfl _ _ w.heap.size [_, _, .int .i64 0, .int .u64 0] Try.isAgg66 Try.sizeOf66 rfl h2'.out) rfl ?_
    exact ⟨⟨_, _, rfl, .inl ⟨rfl, rfl⟩, n2'.out.1, n2'.out.2.1⟩, n2'.out.2.2⟩
  · refine bodyPost_ret (results_agg rfl _ _ w.heap.size [_, _, .int .i64 0, .int .u64 0] Try.isAgg66 Try.sizeOf66 rfl h2'.out) rfl ?_
    exact ⟨⟨_, _, rfl, .inr ⟨_, _, _, _, rfl, rfl⟩, n2'.out.1, n2'.out.2.1⟩, n2'.out.2.2⟩
theorem c_ask_yes (X : MemAt w A.hb A.rb L t) (bx : BoxAt w A) (nb : ¬ Blk A.hb A.rb A.bx) (nf : ∀ i, F i → ¬ Blk A.hb A.rb i) (hF : ∀ i, F i → i < w.heap.size) (b0 : A.b + 1 < L.length) (b1 : A.b ≤ 1000) (t0 : 0 ≤ t) (t1 : t + 1 < 4611686018427387000) (v : Int) (ha : At F w a (boxC A)) (hq : At F w q (numC v)) (he : L.getD (A.b + 1) 0 = 0) :
    Calls Try.prog 60 #[ptr a, ptr q] w (NPM A F ((doAcc L (.swap (A.b + 1) 0 1)).1) (t + 1) w (.put true (.put0 v))) := by
  have hmf : ∀ (fn : Fn) (first cap : Array Value) (w : World), (Instr.makeFunc fn first cap).run Try.prog w = .ok (.func fn first cap) w := fun _ _ _ _ => rfl
  have X0 := Ax.start X bx nb nf hF b0 b1 t0 (by omega) rfl
  have o0 := (Only.refl Nil w).alloc (.cells zN.toArray 66)
  have ld := Lib.hid (X0.swap 1 0 1 (by omega) t1)
  have kp : Hid (∀ w1 L1 t1, Ax A F w w1 w.heap.size L1 t1 → w1.cell? ⟨a, 0, none⟩ = some (ptr A.bx) ∧ w1.cell? ⟨q, 0, none⟩ = some (.int .u64 v) ∧ BoxAt w1 A) := Lib.hid (fun w1 L1 t1 Y => ⟨(Y.cell ha).c, (Y.cell hq).c, Y.box⟩)
  obtain ⟨g0, g1, gb⟩ := kp.out _ _ _ X0
  obtain ⟨d0, d1, d2, d3⟩ := gb.c
  have ps := Lib.hid (fun w1 L1 t1 (Y : Ax A F w w1 w.heap.size L1 t1) => put_step (A := A) v Y.box Y.ltx)
  unfold spanV at ld
  rw [decide_eq_true he] at ld
  clear X bx nb nf hF b0 b1 t0 t1 o0 X0 ha hq gb he
  generalize (doAcc L (.swap (A.b + 1) 0 1)).1 = L2 at *
  go_enter Try.func60, Try.ntmps60
  go_wp2_with (first
    | (go_at_call 61; refine (ld.out).mono ?_; rintro e w1 ⟨rfl, X1⟩; obtain ⟨k0, k1, kb⟩ := kp.out _ _ _ X1; obtain ⟨e0, e1, e2, e3⟩ := kb.c; have X1' := Lib.hid X1; clear X1 kb)
    | (go_at_call 56; refine (ps.out _ _ _ X1'.out).mono ?_; rintro e w2 ⟨p, f, rfl, (⟨rfl, rfl⟩ | ⟨ty, v, g, cs, rfl, rfl⟩), n1, o2⟩ <;> (obtain ⟨z2, h2, n2, k2, m2⟩ := X1'.out.fin n1 o2 (.int .i64 (0 : Int)) (.int .u64 0); have h2' := Lib.hid h2; have n2' := Lib.hid (And.intro n2 (And.intro k2 m2)); obtain ⟨c0, c1, c2, c3, f0, f1, f2, f3⟩ := z2.c; clear o2 z2 h2 n2 k2 m2)))
  · refine bodyPost_ret (results_agg rfl _ _ w.heap.size [_, _, .int .i64 0, .int .u64 0] Try.isAgg66 Try.sizeOf66 rfl h2'.out) rfl ?_
    exact ⟨⟨_, _, rfl, .inl ⟨rfl, rfl⟩, n2'.out.1, n2'.out.2.1⟩, n2'.out.2.2⟩
  · refine bodyPost_ret (results_agg rfl _ _ w.heap.size [_, _, .int .i64 0, .int .u64 0] Try.isAgg66 Try.sizeOf66 rfl h2'.out) rfl ?_
    exact ⟨⟨_, _, rfl, .inr ⟨_, _, _, _, rfl, rfl⟩, n2'.out.1, n2'.out.2.1⟩, n2'.out.2.2⟩
theorem c_ask_no (X : MemAt w A.hb A.rb L t) (bx : BoxAt w A) (nb : ¬ Blk A.hb A.rb A.bx) (nf : ∀ i, F i → ¬ Blk A.hb A.rb i) (hF : ∀ i, F i → i < w.heap.size) (b0 : A.b + 1 < L.length) (b1 : A.b ≤ 1000) (t0 : 0 ≤ t) (t1 : t + 1 < 4611686018427387000) (v : Int) (ha : At F w a (boxC A)) (hq : At F w q (numC v)) (he : ¬ L.getD (A.b + 1) 0 = 0) :
    Calls Try.prog 60 #[ptr a, ptr q] w (NPM A F ((doAcc L (.swap (A.b + 1) 0 1)).1) (t + 1) w (.over 4 0)) := by
  have hmf : ∀ (fn : Fn) (first cap : Array Value) (w : World), (Instr.makeFunc fn first cap).run Try.prog w = .ok (.func fn first cap) w := fun _ _ _ _ => rfl
  have X0 := Ax.start X bx nb nf hF b0 b1 t0 (by omega) rfl
  have o0 := (Only.refl Nil w).alloc (.cells zN.toArray 66)
  have ld := Lib.hid (X0.swap 1 0 1 (by omega) t1)
  have kp : Hid (∀ w1 L1 t1, Ax A F w w1 w.heap.size L1 t1 → w1.cell? ⟨a, 0, none⟩ = some (ptr A.bx) ∧ w1.cell? ⟨q, 0, none⟩ = some (.int .u64 v) ∧ BoxAt w1 A) := Lib.hid (fun w1 L1 t1 Y => ⟨(Y.cell ha).c, (Y.cell hq).c, Y.box⟩)
  obtain ⟨g0, g1, gb⟩ := kp.out _ _ _ X0
  obtain ⟨d0, d1, d2, d3⟩ := gb.c
  have ps := Lib.hid (fun w1 L1 t1 (Y : Ax A F w w1 w.heap.size L1 t1) => put_step (A := A) v Y.box Y.ltx)
  unfold spanV at ld
  rw [decide_eq_false he] at ld
  clear X bx nb nf hF b0 b1 t0 t1 o0 X0 ha hq gb he
  generalize (doAcc L (.swap (A.b + 1) 0 1)).1 = L2 at *
  go_enter Try.func60, Try.ntmps60
  go_wp2_with (first
    | (go_at_call 61; refine (ld.out).mono ?_; rintro e w1 ⟨rfl, X1⟩; obtain ⟨k0, k1, kb⟩ := kp.out _ _ _ X1; obtain ⟨e0, e1, e2, e3⟩ := kb.c; have X1' := Lib.hid X1; clear X1 kb)
    | (go_at_call 62; refine (end_any _ _ _).mono ?_; rintro e w2 ⟨rfl, o2⟩; obtain ⟨z2, h2, n2, k2, m2⟩ := X1'.out.fin (show Nx A _ w2 .nilIface .nilFunc (.over 4 0) from trivial) o2 (.int .i64 (4 : Int)) (.int .u64 0); have h2' := Lib.hid h2; have n2' := Lib.hid (And.intro n2 (And.intro k2 m2)); obtain ⟨c0, c1, c2, c3, f0, f1, f2, f3⟩ := z2.c; clear o2 z2 h2 n2 k2 m2))
  refine bodyPost_ret (results_agg rfl _ _ w.heap.size [_, _, .int .i64 4, .int .u64 0] Try.isAgg66 Try.sizeOf66 rfl h2'.out) rfl ?_
  exact ⟨⟨_, _, rfl, .inl ⟨rfl, rfl⟩, n2'.out.1, n2'.out.2.1⟩, n2'.out.2.2⟩
theorem c_load_no (X : MemAt w A.hb A.rb L t) (bx : BoxAt w A) (nb : ¬ Blk A.hb A.rb A.bx) (nf : ∀ i, F i → ¬ Blk A.hb A.rb i) (hF : ∀ i, F i → i < w.heap.size) (b0 : A.b + 1 < L.length) (b1 : A.b ≤ 1000) (t0 : 0 ≤ t) (t1 : t + 1 < 4611686018427387000) (hc : capR A F w a r k) (he : rsts k (L.getD A.b 0) = false) :
    Calls Try.prog 89 #[ptr a, ptr r] w (NPM A F (L) (t + 1) w (.over 1 0)) := by
  have hmf : ∀ (fn : Fn) (first cap : Array Value) (w : World), (Instr.makeFunc fn first cap).run Try.prog w = .ok (.func fn first cap) w := fun _ _ _ _ => rfl
  have X0 := Ax.start X bx nb nf hF b0 b1 t0 (by omega) rfl
  have o0 := (Only.refl Nil w).alloc (.cells zN.toArray 66)
  obtain ⟨ha, v, hr, hv⟩ := hc
  have ld := Lib.hid (X0.load 0 (by omega) t1)
  have g0 := (X0.cell ha).c
  obtain ⟨d0, d1, d2, d3⟩ := X0.box.c
  unfold spanV at ld
  simp only [Nat.add_zero] at ld
  generalize L.getD A.b 0 = x at *
  have kr : Hid (∀ w1, Ax A F w w1 w.heap.size L (t + 1) → Ax A F w (w1.alloc (numC x)) w.heap.size L (t + 1) ∧ (w1.alloc (numC x)).cell? ⟨r, 0, none⟩ = some v ∧ (w1.alloc (numC x)).cell? ⟨w1.heap.size, 0, none⟩ = some (.int .u64 x) ∧
      Calls Try.prog 90 #[v, .int .u64 x] (w1.alloc (numC x)) fun e w' => e = .returned (.bool false) ∧ (w1.alloc (numC x)) = w') := Lib.hid (fun w1 Y => by
    have o := (Only.refl Nil w1).alloc (numC x)
    have Y' : Ax A F w (w1.alloc (numC x)) w.heap.size L (t + 1) := { Y with mem := Y.mem.keep o (fun h => h) (fun h => h), box := Y.box.keep o (fun h => h), zq := Y.zq.keep o (fun h => h), only := Y.only.trans (o.nilTo _) }
    refine ⟨Y', (Y'.cell hr).c, by unfold World.cell?; rw [heap_new]; rfl, ?_⟩
    rw [← he]; exact contains_any (rests_keep hv Y'.only Y'.nf) x)
  clear X bx nb nf hF b0 b1 t0 t1 o0 X0 ha hr hv he
  go_enter Try.func89, Try.ntmps89
  go_wp2_with (first
    | (go_at_call 64; refine (ld.out).mono ?_; rintro e w1 ⟨rfl, X1⟩; obtain ⟨Y1, y2, y3, y4⟩ := kr.out _ X1; have ct := Lib.hid y4; have X0' := Lib.hid X1; have X1' := Lib.hid Y1; clear X1 Y1 y4)
    | (go_at_call 90; refine (ct.out).mono ?_; rintro e w3 ⟨rfl, rfl⟩)
    | (go_at_call 62; refine (end_any _ _ _).mono ?_; rintro e w2 ⟨rfl, o2⟩; obtain ⟨z2, h2, n2, k2, m2⟩ := X1'.out.fin (show Nx A _ w2 .nilIface .nilFunc (.over 1 0) from trivial) o2 (.int .i64 (1 : Int)) (.int .u64 0); have h2' := Lib.hid h2; have n2' := Lib.hid (And.intro n2 (And.intro k2 m2)); obtain ⟨c0, c1, c2, c3, f0, f1, f2, f3⟩ := z2.c; clear o2 z2 h2 n2 k2 m2))
  refine bodyPost_ret (results_agg rfl _ _ w.heap.size [_, _, .int .i64 1, .int .u64 0] Try.isAgg66 Try.sizeOf66 rfl h2'.out) rfl ?_
  exact ⟨⟨_, _, rfl, .inl ⟨rfl, rfl⟩, n2'.out.1, n2'.out.2.1⟩, n2'.out.2.2⟩
theorem c_load_yes (X : MemAt w A.hb A.rb L t) (bx : BoxAt w A) (nb : ¬ Blk A.hb A.rb A.bx) (nf : ∀ i, F i → ¬ Blk A.hb A.rb i) (hF : ∀ i, F i → i < w.heap.size) (b0 : A.b + 1 < L.length) (b1 : A.b ≤ 1000) (t0 : 0 ≤ t) (t1 : t + 1 < 4611686018427387000) (hc : capR A F w a r k) (he : rsts k (L.getD A.b 0) = true) :
    Calls Try.prog 89 #[ptr a, ptr r] w (NPM A F (L) (t + 1) w (.swap k (L.getD A.b 0))) := by
  have hmf : ∀ (fn : Fn) (first cap : Array Value) (w : World), (Instr.makeFunc fn first cap).run Try.prog w = .ok (.func fn first cap) w := fun _ _ _ _ => rfl
  have X0 := Ax.start X bx nb nf hF b0 b1 t0 (by omega) rfl
  have o0 := (Only.refl Nil w).alloc (.cells zN.toArray 66)
  obtain ⟨ha, v, hr, hv⟩ := hc
  have ld := Lib.hid (X0.load 0 (by omega) t1)
  have g0 := (X0.cell ha).c
  obtain ⟨d0, d1, d2, d3⟩ := X0.box.c
  unfold spanV at ld
  simp only [Nat.add_zero] at ld
  generalize L.getD A.b 0 = x at *
  have kr : Hid (∀ w1, Ax A F w w1 w.heap.size L (t + 1) → Ax A F w (w1.alloc (numC x)) w.heap.size L (t + 1) ∧ (w1.alloc (numC x)).cell? ⟨r, 0, none⟩ = some v ∧ (w1.alloc (numC x)).cell? ⟨w1.heap.size, 0, none⟩ = some (.int .u64 x) ∧
      Calls Try.prog 90 #[v, .int .u64 x] (w1.alloc (numC x)) fun e w' => e = .returned (.bool true) ∧ (w1.alloc (numC x)) = w') := Lib.hid (fun w1 Y => by
    have o := (Only.refl Nil w1).alloc (numC x)
    have Y' : Ax A F w (w1.alloc (numC x)) w.heap.size L (t + 1) := { Y with mem := Y.mem.keep o (fun h => h) (fun h => h), box := Y.box.keep o (fun h => h), zq := Y.zq.keep o (fun h => h), only := Y.only.trans (o.nilTo _) }
    refine ⟨Y', (Y'.cell hr).c, by unfold World.cell?; rw [heap_new]; rfl, ?_⟩
    rw [← he]; exact contains_any (rests_keep hv Y'.only Y'.nf) x)
  have on : Hid (∀ w1 w2 q sg, Ax A F w w1 w.heap.size L (t + 1) → Sg (w1.alloc (numC x)) w2 (clo3 91 a w1.heap.size r) q sg → Nx A (Ext (w1.alloc (numC x)) w2 (Exq w (w1.alloc (numC x)) F w.heap.size)) w2 (sgI sg) (clo1 71 q) (.swap k x)) := Lib.hid (fun w1 w2 q sg Y Z => by
    have Y' := (kr.out w1 Y).1
    have lt1 := lt_of_block Y.zq
    have bn := heap_new w1 (numC x)
    have lt2 := lt_of_block bn
    have sy := Y.only.size
    exact sg_nx Y'.ltx Z ⟨a, w1.heap.size, r, rfl, ⟨(Y'.cell ha).mono Y'.inx, v, (Y'.cell hr).mono Y'.inx, rests_mono (rests_keep hv Y'.only Y'.nf) Y'.inx⟩, exq_in _ sy lt2 (by omega), bn⟩)
  clear X bx nb nf hF b0 b1 t0 t1 o0 X0 ha hr hv he
  go_enter Try.func89, Try.ntmps89
  go_wp2_with (first
    | (go_at_call 64; refine (ld.out).mono ?_; rintro e w1 ⟨rfl, X1⟩; obtain ⟨Y1, y2, y3, y4⟩ := kr.out _ X1; have ct := Lib.hid y4; have X0' := Lib.hid X1; have X1' := Lib.hid Y1; clear X1 Y1 y4)
    | (go_at_call 90; refine (ct.out).mono ?_; rintro e w3 ⟨rfl, rfl⟩)
    | (go_at_call 51; refine (one_any _ _ _).mono ?_; rintro e w2 ⟨q, sg, rfl, o1⟩; have n1 := on.out _ _ _ _ X0'.out o1; have o2 := o1.only; obtain ⟨z2, h2, n2, k2, m2⟩ := X1'.out.fin n1 o2 (.int .i64 (0 : Int)) (.int .u64 0); have h2' := Lib.hid h2; have n2' := Lib.hid (And.intro n2 (And.intro k2 m2)); obtain ⟨c0, c1, c2, c3, f0, f1, f2, f3⟩ := z2.c; clear o2 z2 h2 n2 k2 m2; clear o1 n1))
  refine bodyPost_ret (results_agg rfl _ _ w.heap.size [_, _, .int .i64 0, .int .u64 0] Try.isAgg66 Try.sizeOf66 rfl h2'.out) rfl ?_
  exact ⟨⟨_, _, rfl, .inr ⟨_, _, _, _, rfl, rfl⟩, n2'.out.1, n2'.out.2.1⟩, n2'.out.2.2⟩
end
end Go.Proofs.Ytmkcmncbiancgaa.Po
