/- A box and its operations in memory; package chain's small calls. -/
import Derived.Test.YtmkcmncbiancgaaPoA
import Derived.Laws.EntriesVeiled
import Derived.Shelf.Abstract
import Derived.StillTailTactics
namespace Go.Proofs.Ytmkcmncbiancgaa.Po
open Go.RowKit Go.Proofs.Ytmkcmncbiancgaa

/-- Block i, of the set F, holds o. -/
def At (F : Nat → Prop) (w : World) (i : Nat) (o : Obj) : Prop := F i ∧ w.heap[i]? = some o
theorem At.keep {F S : Nat → Prop} {w w' : World} {i : Nat} {o : Obj} (h : At F w i o) (k : Only S w w') (hd : ∀ i, F i → ¬ S i) : At F w' i o := ⟨h.1, (k.block i (lt_of_block h.2) (hd i h.1)).trans h.2⟩
theorem At.mono {F G : Nat → Prop} {w : World} {i : Nat} {o : Obj} (h : At F w i o) (hs : ∀ i, F i → G i) : At G w i o := ⟨hs i h.1, h.2⟩
theorem At.ne {F G : Nat → Prop} {w : World} {i j : Nat} {o q : Obj} (h : At F w i o) (k : At G w j q) (hd : o ≠ q) : i ≠ j := by
  rintro rfl
  exact hd (Option.some.inj (h.2.symm.trans k.2))
theorem cells_ne {a b : Array Value} {s t : TypeId} (h : s ≠ t) : Obj.cells a s (0, 0) ≠ Obj.cells b t (0, 0) := by
  intro e; cases e; exact h rfl
/-- One cell. -/
abbrev one (v : Value) (t : TypeId) : Obj := .cells #[v] t (0, 0)
abbrev ptr (i : Nat) : Value := .pointer (some ⟨i, 0, none⟩)
theorem At.c {F : Nat → Prop} {w : World} {i : Nat} {v : Value} {t : TypeId} (h : At F w i (one v t)) : w.cell? ⟨i, 0, none⟩ = some v := by simp [World.cell?, h.2]

abbrev clo1 (f a : Nat) : Value := .func (.func f) #[] #[ptr a]
abbrev clo2 (f a b : Nat) : Value := .func (.func f) #[] #[ptr a, ptr b]
abbrev clo3 (f a b c : Nat) : Value := .func (.func f) #[] #[ptr a, ptr b, ptr c]

/-- In which ways a box rests that one rouses. -/
def rests (F : Nat → Prop) (w : World) (v : Value) : Bool → Prop
  | false => ∃ g, v = .slice (some ⟨g, 0, none⟩) 1 1 ∧ At F w g (.cells #[.int .u64 0] 28 (0, 0))
  | true => ∃ g, v = .slice (some ⟨g, 0, none⟩) 2 2 ∧ At F w g (.cells #[.int .u64 0, .int .u64 3] 28 (0, 0))
abbrev boxC (A : BA) : Obj := one (ptr A.bx) 29
abbrev numC (v : Int) : Obj := one (.int .u64 v) 28
/-- Two captured cells: the box, and whom to rouse. -/
def capR (A : BA) (F : Nat → Prop) (w : World) (a r : Nat) (k : Bool) : Prop := At F w a (boxC A) ∧ ∃ v, At F w r (one v 35) ∧ rests F w v k
/-- A single access's function. -/
def Acc1 (A : BA) (F : Nat → Prop) (w : World) (g : Value) : PS → Prop
  | .load k => ∃ a r, g = clo2 89 a r ∧ capR A F w a r k
  | .swap k s => ∃ a q r, g = clo3 91 a q r ∧ capR A F w a r k ∧ At F w q (numC s)
  | .ask v => ∃ a q, g = clo2 60 a q ∧ At F w a (boxC A) ∧ At F w q (numC v)
  | .stand v => ∃ a q, g = clo2 79 a q ∧ At F w a (boxC A) ∧ At F w q (numC v)
  | .gone => ∃ a, g = clo1 63 a ∧ At F w a (boxC A)
  | .set h => ∃ a q, g = clo2 52 a q ∧ At F w a (boxC A) ∧ At F w q (numC (rest h))
  | .charge h => ∃ a q, g = clo2 88 a q ∧ At F w a (boxC A) ∧ At F w q (numC (rest h))
  | _ => False
/-- What comes behind a ring's operation: a closure. -/
def Beh (A : BA) (F : Nat → Prop) (w : World) (f : Value) (ro : Nat) : PS → Prop
  | .put k _ => ∃ a r, f = clo2 76 a r ∧ capR A F w a r k
  | .whole _ _ => ∃ q, f = clo1 80 q ∧ At F w q (one (ptr ro) 99)
  | .lookN h _ => ∃ q a, f = clo2 73 q a ∧ At F w a (boxC A) ∧ At F w q (numC (rest h))
  | .lookM _ => ∃ a q, f = clo2 75 a q ∧ At F w a (boxC A) ∧ At F w q (numC 0)
  | _ => False
/-- The ring's operation in it. -/
def PS.ring : PS → Option (Bool × OS)
  | .put k s => some (k, s)
  | .whole k s => some (k, s)
  | .lookN _ s => some (true, s)
  | .lookM s => some (false, s)
  | _ => none
abbrev opI (ro : Nat) : Value := .iface 99 (ptr ro)
abbrev sgI (sg : Nat) : Value := .iface 110 (ptr sg)
/-- A Next whose part is p and whose closure is f, laid in blocks of F, for what stands at s. -/
def Nx (A : BA) (F : Nat → Prop) (w : World) (p f : Value) (s : PS) : Prop :=
  match s with
  | .over _ _ => True
  | s => match s.ring with
    | some (k, os) => ∃ ro, p = opI ro ∧ F ro ∧ OpIn w ro (A.rg k) os ∧ Beh A F w f ro s
    | none => ∃ q sg, ∃ H : Nat → Prop, ∃ g y0 y1 y2 y3, p = sgI sg ∧ f = clo1 71 q ∧ At F w q (one (ptr sg) 110) ∧ At F w sg (.cells #[g, y0, y1, y2, y3] 112 (0, 0)) ∧ (∀ i, H i → F i ∧ i ≠ sg) ∧ Acc1 A H w g s
section
variable {A : BA} {F G S : Nat → Prop} {w w' : World} {g f v p : Value} {s : PS} {ro a r : Nat} {k : Bool}
theorem rests_keep (h : rests F w v k) (o : Only S w w') (hd : ∀ i, F i → ¬ S i) : rests F w' v k := by
  cases k <;> exact ⟨h.choose, h.choose_spec.1, h.choose_spec.2.keep o hd⟩
theorem rests_mono (h : rests F w v k) (hs : ∀ i, F i → G i) : rests G w v k := by
  cases k <;> exact ⟨h.choose, h.choose_spec.1, h.choose_spec.2.mono hs⟩
theorem capR.keep (h : capR A F w a r k) (o : Only S w w') (hd : ∀ i, F i → ¬ S i) : capR A F w' a r k := by
  obtain ⟨h1, v, h2, h3⟩ := h
  exact ⟨h1.keep o hd, v, h2.keep o hd, rests_keep h3 o hd⟩
theorem capR.mono (h : capR A F w a r k) (hs : ∀ i, F i → G i) : capR A G w a r k := by
  obtain ⟨h1, v, h2, h3⟩ := h
  exact ⟨h1.mono hs, v, h2.mono hs, rests_mono h3 hs⟩
theorem Acc1.keep (h : Acc1 A F w g s) (o : Only S w w') (hd : ∀ i, F i → ¬ S i) : Acc1 A F w' g s := by
  cases s <;> simp only [Acc1] at h ⊢
  case load => obtain ⟨a, r, e, h⟩ := h; exact ⟨a, r, e, h.keep o hd⟩
  case swap => obtain ⟨a, q, r, e, h, h2⟩ := h; exact ⟨a, q, r, e, h.keep o hd, h2.keep o hd⟩
  case gone => obtain ⟨a, e, h⟩ := h; exact ⟨a, e, h.keep o hd⟩
  all_goals (obtain ⟨a, q, e, h, h2⟩ := h; exact ⟨a, q, e, h.keep o hd, h2.keep o hd⟩)
theorem Acc1.mono (h : Acc1 A F w g s) (hs : ∀ i, F i → G i) : Acc1 A G w g s := by
  cases s <;> simp only [Acc1] at h ⊢
  case load => obtain ⟨a, r, e, h⟩ := h; exact ⟨a, r, e, h.mono hs⟩
  case swap => obtain ⟨a, q, r, e, h, h2⟩ := h; exact ⟨a, q, r, e, h.mono hs, h2.mono hs⟩
  case gone => obtain ⟨a, e, h⟩ := h; exact ⟨a, e, h.mono hs⟩
  all_goals (obtain ⟨a, q, e, h, h2⟩ := h; exact ⟨a, q, e, h.mono hs, h2.mono hs⟩)
theorem Beh.keep (h : Beh A F w f ro s) (o : Only S w w') (hd : ∀ i, F i → ¬ S i) : Beh A F w' f ro s := by
  cases s <;> simp only [Beh] at h ⊢
  case put => obtain ⟨a, r, e, h⟩ := h; exact ⟨a, r, e, h.keep o hd⟩
  case whole => obtain ⟨q, e, h⟩ := h; exact ⟨q, e, h.keep o hd⟩
  all_goals (obtain ⟨a, q, e, h, h2⟩ := h; exact ⟨a, q, e, h.keep o hd, h2.keep o hd⟩)
theorem Beh.mono (h : Beh A F w f ro s) (hs : ∀ i, F i → G i) : Beh A G w f ro s := by
  cases s <;> simp only [Beh] at h ⊢
  case put => obtain ⟨a, r, e, h⟩ := h; exact ⟨a, r, e, h.mono hs⟩
  case whole => obtain ⟨q, e, h⟩ := h; exact ⟨q, e, h.mono hs⟩
  all_goals (obtain ⟨a, q, e, h, h2⟩ := h; exact ⟨a, q, e, h.mono hs, h2.mono hs⟩)
theorem Nx.keep (h : Nx A F w p f s) (o : Only S w w') (hd : ∀ i, F i → ¬ S i) : Nx A F w' p f s := by
  cases s <;> simp only [Nx, PS.ring] at h ⊢
  case put => obtain ⟨ro, e, h1, h2, h3⟩ := h; exact ⟨ro, e, h1, h2.keep o (hd _ h1), h3.keep o hd⟩
  case whole => obtain ⟨ro, e, h1, h2, h3⟩ := h; exact ⟨ro, e, h1, h2.keep o (hd _ h1), h3.keep o hd⟩
  case lookN => obtain ⟨ro, e, h1, h2, h3⟩ := h; exact ⟨ro, e, h1, h2.keep o (hd _ h1), h3.keep o hd⟩
  case lookM => obtain ⟨ro, e, h1, h2, h3⟩ := h; exact ⟨ro, e, h1, h2.keep o (hd _ h1), h3.keep o hd⟩
  all_goals (obtain ⟨q, sg, H, g, y0, y1, y2, y3, e1, e2, h1, h2, h3, h4⟩ := h; exact ⟨q, sg, H, g, y0, y1, y2, y3, e1, e2, h1.keep o hd, h2.keep o hd, h3, h4.keep o (fun i hi => hd i (h3 i hi).1)⟩)
theorem Nx.mono (h : Nx A F w p f s) (hs : ∀ i, F i → G i) : Nx A G w p f s := by
  cases s <;> simp only [Nx, PS.ring] at h ⊢
  case put => obtain ⟨ro, e, h1, h2, h3⟩ := h; exact ⟨ro, e, hs _ h1, h2, h3.mono hs⟩
  case whole => obtain ⟨ro, e, h1, h2, h3⟩ := h; exact ⟨ro, e, hs _ h1, h2, h3.mono hs⟩
  case lookN => obtain ⟨ro, e, h1, h2, h3⟩ := h; exact ⟨ro, e, hs _ h1, h2, h3.mono hs⟩
  case lookM => obtain ⟨ro, e, h1, h2, h3⟩ := h; exact ⟨ro, e, hs _ h1, h2, h3.mono hs⟩
  all_goals (obtain ⟨q, sg, H, g, y0, y1, y2, y3, e1, e2, h1, h2, h3, h4⟩ := h; exact ⟨q, sg, H, g, y0, y1, y2, y3, e1, e2, h1.mono hs, h2.mono hs, fun i hi => ⟨hs i (h3 i hi).1, (h3 i hi).2⟩, h4⟩)
end

/-- The blocks of F, and those that are new since w. -/
def Ext (w w' : World) (F : Nat → Prop) (i : Nat) : Prop := F i ∨ (w.heap.size ≤ i ∧ i < w'.heap.size)

/-! What a function answers: a Next, which lies in a variable of its own. -/
abbrev zN : List Value := [.nilIface, .nilFunc, .int .i64 0, .int .u64 0]
abbrev set4 (w : World) (q : Nat) (a b c d : Value) : World := (((w.setCell ⟨q, 0, none⟩ a).setCell ⟨q, 1, none⟩ b).setCell ⟨q, 2, none⟩ c).setCell ⟨q, 3, none⟩ d
theorem set4_only (w : World) (q : Nat) (a b c d : Value) : Only (fun k => k = q) w (set4 w q a b c d) := set1_only (set1_only (set1_only (set1_only (Only.refl _ w) 0 a) 1 b) 2 c) 3 d
theorem set4_heap {w : World} {q : Nat} {x0 x1 x2 x3 : Value} {t : TypeId} (h : w.heap[q]? = some (.cells [x0, x1, x2, x3].toArray t (0, 0))) (a b c d : Value) :
    (set4 w q a b c d).heap[q]? = some (.cells [a, b, c, d].toArray t (0, 0)) := set1_heap (set1_heap (set1_heap (set1_heap h 0 a) 1 b) 2 c) 3 d
theorem set4_then {S : Nat → Prop} {w w1 : World} (o : Only S w w1) (q : Nat) (hq : w.heap.size ≤ q) (a b c d : Value) : Only S w (set4 w1 q a b c d) :=
  o.then (T := fun k => k = q) (set4_only w1 q a b c d) (fun i hi hl => absurd hl (by have : i = q := hi; omega))
/-- The variable, ahead of its store. -/
def ZQ (w : World) (q : Nat) : Prop := w.heap[q]? = some (.cells zN.toArray 66 (0, 0))
theorem ZQ.keep {S : Nat → Prop} {w w' : World} {q : Nat} (h : ZQ w q) (o : Only S w w') (hs : ¬ S q) : ZQ w' q := (o.block q (lt_of_block h) hs).trans h
theorem ZQ.c {w : World} {q : Nat} (h : ZQ w q) : w.cell? ⟨q, 0, none⟩ = some .nilIface ∧ w.cell? ⟨q, 1, none⟩ = some .nilFunc ∧ w.cell? ⟨q, 2, none⟩ = some (.int .i64 0) ∧ w.cell? ⟨q, 3, none⟩ = some (.int .u64 0) ∧
    w.frozen? ⟨q, 0, none⟩ = false ∧ w.frozen? ⟨q, 1, none⟩ = false ∧ w.frozen? ⟨q, 2, none⟩ = false ∧ w.frozen? ⟨q, 3, none⟩ = false := by
  unfold ZQ at h
  simp [World.cell?, World.frozen?, h]
theorem zq_new (w : World) : ZQ (w.alloc (.cells zN.toArray 66)) w.heap.size := heap_new w _
/-- What a function that answers a Next leaves. -/
abbrev nextV (p f : Value) (o x : Int) : Value := .agg [p, f, .int .i64 o, .int .u64 x].toArray

theorem end_any (w : World) (o x : Int) :
    Calls Try.prog 62 #[.int .i64 o, .int .u64 x] w fun e w' => e = .returned (nextV .nilIface .nilFunc o x) ∧ Only Nil w w' := by
  have fi := Lib.hid (heap_new w (.cells [.nilIface, .nilFunc, .int .i64 o, .int .u64 x].toArray 66))
  have on := Lib.hid ((Only.refl Nil w).alloc (.cells [.nilIface, .nilFunc, .int .i64 o, .int .u64 x].toArray 66))
  go_enter Try.func62, Try.ntmps62
  go_wp2
  refine bodyPost_ret (results_agg rfl _ _ w.heap.size [.nilIface, .nilFunc, .int .i64 o, .int .u64 x] Try.isAgg66 Try.sizeOf66 rfl fi.out) rfl ?_
  exact ⟨rfl, on.out⟩
theorem go_any (w : World) (ty : TypeId) (v : Value) (g : Nat) (cs : Array Value) :
    Calls Try.prog 70 #[.iface ty v, .func (.func g) #[] cs] w fun e w' => e = .returned (nextV (.iface ty v) (.func (.func g) #[] cs) 0 0) ∧ Only Nil w w' := by
  have fi := Lib.hid (heap_new w (.cells [.iface ty v, .func (.func g) #[] cs, .int .i64 0, .int .u64 0].toArray 66))
  have on := Lib.hid ((Only.refl Nil w).alloc (.cells [.iface ty v, .func (.func g) #[] cs, .int .i64 0, .int .u64 0].toArray 66))
  go_enter Try.func70, Try.ntmps70
  go_wp2
  refine bodyPost_ret (results_agg rfl _ _ w.heap.size [.iface ty v, .func (.func g) #[] cs, .int .i64 0, .int .u64 0] Try.isAgg66 Try.sizeOf66 rfl fi.out) rfl ?_
  exact ⟨rfl, on.out⟩

/-- A single access, made a Next. -/
structure Sg (w w' : World) (g : Value) (q sg : Nat) : Prop where
  hq : w'.heap[q]? = some (one (ptr sg) 110)
  hs : w'.heap[sg]? = some (.cells #[g, .nilIface, .nilFunc, .int .i64 0, .int .u64 0] 112 (0, 0))
  q0 : w.heap.size ≤ q
  s0 : w.heap.size ≤ sg
  only : Only Nil w w'
theorem block_at {w : World} {q : Nat} {o : Obj} {S : Nat → Prop} {w1 : World} (h : w.heap[q]? = some o) (k : Only S w w1) (hs : ¬ S q) : w1.heap[q]? = some o := (k.block q (lt_of_block h) hs).trans h
theorem one_any (w : World) (g : Nat) (cs : Array Value) :
    Calls Try.prog 51 #[.func (.func g) #[] cs] w fun e w' => ∃ q sg, e = .returned (nextV (sgI sg) (clo1 71 q) 0 0) ∧ Sg w w' (.func (.func g) #[] cs) q sg := by
  have hmf : ∀ (fn : Fn) (first cap : Array Value) (w : World), (Instr.makeFunc fn first cap).run Try.prog w = .ok (.func fn first cap) w := fun _ _ _ _ => rfl
  have ga := Lib.hid (fun w ty v g cs => go_any w ty v g cs)
  have z0 := zq_new w
  have s1 : (w.alloc (.cells zN.toArray 66)).heap.size = w.heap.size + 1 := by simp
  have b1 := heap_new (w.alloc (.cells zN.toArray 66)) (.cells #[.func (.func g) #[] cs, .nilIface, .nilFunc, .int .i64 0, .int .u64 0] 112)
  have o1 := (Only.refl Nil w).alloc (.cells zN.toArray 66)
  have o2 := (Only.refl Nil (w.alloc (.cells zN.toArray 66))).alloc (.cells #[.func (.func g) #[] cs, .nilIface, .nilFunc, .int .i64 0, .int .u64 0] 112)
  generalize hW1 : w.alloc (.cells zN.toArray 66) = W1 at *
  have s2 : (W1.alloc (.cells #[.func (.func g) #[] cs, .nilIface, .nilFunc, .int .i64 0, .int .u64 0] 112)).heap.size = w.heap.size + 1 + 1 := by simp [s1]
  rw [s1] at b1
  generalize hW2 : W1.alloc (.cells #[.func (.func g) #[] cs, .nilIface, .nilFunc, .int .i64 0, .int .u64 0] 112) = W2 at *
  have b2 := heap_new W2 (one (ptr (w.heap.size + 1)) 110)
  have o3 := (Only.refl Nil W2).alloc (one (ptr (w.heap.size + 1)) 110)
  rw [s2] at b2
  have fin : Hid (∀ w1, Only Nil (W2.alloc (one (ptr (w.heap.size + 1)) 110)) w1 → ZQ w1 w.heap.size ∧ Sg w (set4 w1 w.heap.size (sgI (w.heap.size + 1)) (clo1 71 (w.heap.size + 1 + 1)) (.int .i64 0) (.int .u64 0)) (.func (.func g) #[] cs) (w.heap.size + 1 + 1) (w.heap.size + 1)) := Lib.hid (fun w1 k => by
    have ho := set4_only w1 w.heap.size (sgI (w.heap.size + 1)) (clo1 71 (w.heap.size + 1 + 1)) (.int .i64 0) (.int .u64 0)
    exact ⟨z0.keep (o2.trans (o3.trans k)) (fun h => h), block_at (block_at b2 k (fun h => h)) ho (Nat.ne_of_gt (by omega)), block_at (block_at b1 (o3.trans k) (fun h => h)) ho (Nat.ne_of_gt (by omega)), by omega, by omega, set4_then (o1.trans (o2.trans (o3.trans k))) _ (Nat.le_refl _) _ _ _ _⟩)
  subst hW2 hW1
  clear z0 s1 b1 o1 o2 s2 b2 o3
  go_enter Try.func51, Try.ntmps51
  go_wp2_with (go_at_call 70; refine (ga.out _ _ _ _ _).mono ?_; rintro e w1 ⟨rfl, o1⟩; obtain ⟨z1, sg⟩ := fin.out w1 o1; have z1' := Lib.hid z1; have sg' := Lib.hid sg; obtain ⟨c0, c1, c2, c3, f0, f1, f2, f3⟩ := z1.c; clear o1 z1 sg)
  refine bodyPost_ret (results_agg rfl _ _ w.heap.size [sgI (w.heap.size + 1), clo1 71 (w.heap.size + 1 + 1), .int .i64 0, .int .u64 0] Try.isAgg66 Try.sizeOf66 rfl (set4_heap z1'.out _ _ _ _)) rfl ?_
  exact ⟨_, _, rfl, sg'.out⟩
end Go.Proofs.Ytmkcmncbiancgaa.Po
