/- A step of an operation that is put together: package chain. -/
import Derived.Test.YtmkcmncbiancgaaPoG
import Derived.Handy
namespace Go.Proofs.Ytmkcmncbiancgaa.Po
open Go.RowKit Go.Proofs.Ytmkcmncbiancgaa

section
variable {A : BA} {F G H H' S : Nat → Prop} {w W w' w1 w2 : World} {g f v p : Value} {s : PS} {ro a r q ob sg : Nat} {k : Bool} {os : OS} {L : List Int} {t : Int}
/-- The cells of an operation. -/
def OpO (w : World) (ob : Nat) (p f : Value) (o x : Int) : Prop := w.heap[ob]? = some (.cells [p, f, .int .i64 o, .int .u64 x].toArray 70 (0, 0))
theorem OpO.c {o x : Int} (h : OpO w ob p f o x) : w.cell? ⟨ob, 0, none⟩ = some p ∧ w.cell? ⟨ob, 1, none⟩ = some f ∧ w.cell? ⟨ob, 2, none⟩ = some (.int .i64 o) ∧ w.cell? ⟨ob, 3, none⟩ = some (.int .u64 x) ∧
    w.frozen? ⟨ob, 0, none⟩ = false ∧ w.frozen? ⟨ob, 1, none⟩ = false ∧ w.frozen? ⟨ob, 2, none⟩ = false ∧ w.frozen? ⟨ob, 3, none⟩ = false := by
  unfold OpO at h
  simp [World.cell?, World.frozen?, h]
theorem pover_any {o x : Int} (h : OpO w ob p f o x) :
    Calls Try.prog 48 #[ptr ob] w fun e w' => e = .returned (.bool (o != 0)) ∧ w = w' := by
  obtain ⟨c0, c1, c2, c3, f0, f1, f2, f3⟩ := h.c
  clear h
  go_enter Try.func48, Try.ntmps48
  go_wp2
  go_ret
  exact ⟨rfl, rfl⟩
theorem poutcome_any {o x : Int} (h : OpO w ob p f o x) :
    Calls Try.prog 31 #[ptr ob] w fun e w' => e = .returned (.int .i64 o) ∧ w = w' := by
  obtain ⟨c0, c1, c2, c3, f0, f1, f2, f3⟩ := h.c
  clear h
  go_enter Try.func31, Try.ntmps31
  go_wp2
  go_ret
  exact ⟨rfl, rfl⟩
theorem pvalue_any {o x : Int} (h : OpO w ob p f o x) :
    Calls Try.prog 49 #[ptr ob] w fun e w' => e = .returned (.int .u64 x) ∧ w = w' := by
  obtain ⟨c0, c1, c2, c3, f0, f1, f2, f3⟩ := h.c
  clear h
  go_enter Try.func49, Try.ntmps49
  go_wp2
  go_ret
  exact ⟨rfl, rfl⟩
/-- A single access, made. -/
theorem single_step (fn : Nat) {cs : Array Value} {y0 y1 y2 y3 : Value} {L' : List Int} {t' : Int} {s' : PS}
    (eg : ∀ args w, (callFunc fn args).run Try.prog w = .ok (.enter fn args) w)
    (hs : w.heap[sg]? = some (.cells #[.func (.func fn) #[] cs, y0, y1, y2, y3] 112 (0, 0)))
    (hf : Calls Try.prog fn cs w (NPM A H L' t' w s')) (h1 : ¬ H sg) (h2 : ¬ Blk A.hb A.rb sg) :
    Calls Try.prog 130 #[ptr sg] w fun e w' => ∃ p f, e = .returned (.bool true) ∧ Form p f ∧
      w'.heap[sg]? = some (.cells #[.func (.func fn) #[] cs, p, f, .int .i64 s'.o, .int .u64 s'.x] 112 (0, 0)) ∧ Nx A (Ext w w' H) w' p f s' ∧ Only (fun i => Blk A.hb A.rb i ∨ i = sg) w w' ∧ MemAt w' A.hb A.rb L' t' := by
  have fin : Hid (∀ w1 p f, Nx A (Ext w w1 H) w1 p f s' → Only (Blk A.hb A.rb) w w1 → MemAt w1 A.hb A.rb L' t' →
      (w1.frozen? ⟨sg, 1, none⟩ = false ∧ w1.frozen? ⟨sg, 2, none⟩ = false ∧ w1.frozen? ⟨sg, 3, none⟩ = false ∧ w1.frozen? ⟨sg, 4, none⟩ = false ∧ w1.cell? ⟨sg, 1, none⟩ = some y0 ∧ w1.cell? ⟨sg, 2, none⟩ = some y1 ∧ w1.cell? ⟨sg, 3, none⟩ = some y2 ∧ w1.cell? ⟨sg, 4, none⟩ = some y3) ∧
      ∀ w', w' = (((w1.setCell ⟨sg, 1, none⟩ p).setCell ⟨sg, 2, none⟩ f).setCell ⟨sg, 3, none⟩ (.int .i64 s'.o)).setCell ⟨sg, 4, none⟩ (.int .u64 s'.x) →
        w'.heap[sg]? = some (.cells #[.func (.func fn) #[] cs, p, f, .int .i64 s'.o, .int .u64 s'.x] 112 (0, 0)) ∧ Nx A (Ext w w' H) w' p f s' ∧ Only (fun i => Blk A.hb A.rb i ∨ i = sg) w w' ∧ MemAt w' A.hb A.rb L' t') := Lib.hid (fun w1 p f n o m => by
    have b1 := block_at hs o h2
    refine ⟨by simp [World.cell?, World.frozen?, b1], ?_⟩
    rintro w' rfl
    have k : Only (fun i => i = sg) w1 ((((w1.setCell ⟨sg, 1, none⟩ p).setCell ⟨sg, 2, none⟩ f).setCell ⟨sg, 3, none⟩ (.int .i64 s'.o)).setCell ⟨sg, 4, none⟩ (.int .u64 s'.x)) :=
      set1_only (set1_only (set1_only (set1_only (Only.refl _ w1) 1 p) 2 f) 3 (.int .i64 s'.o)) 4 (.int .u64 s'.x)
    have ks := k.size
    have lt := lt_of_block hs
    refine ⟨?_, (n.keep k (fun i hi e => ?_)).mono (fun i hi => hi.imp id (fun z => ⟨z.1, by omega⟩)), (o.mono (fun _ z => .inl z)).trans (k.mono (fun _ z => .inr z)), m.keep k (fun e => h2 (.inl (show sg = A.hb from (show A.hb = sg from e).symm))) (fun e => h2 (.inr (show sg = A.rb from (show A.rb = sg from e).symm)))⟩
    · exact set1_heap (vs := [_, p, f, .int .i64 s'.o, y3]) (set1_heap (vs := [_, p, f, y2, y3]) (set1_heap (vs := [_, p, y1, y2, y3]) (set1_heap (vs := [_, y0, y1, y2, y3]) b1 1 p) 2 f) 3 (.int .i64 s'.o)) 4 (.int .u64 s'.x)
    · have e : i = sg := e
      subst e
      rcases hi with hi | hi
      · exact h1 hi
      · omega)
  have hf' := Lib.hid hf
  have g0 : w.cell? ⟨sg, 0, none⟩ = some (.func (.func fn) #[] cs) := by simp [World.cell?, hs]
  clear hs hf h1 h2
  go_enter Try.func130, Try.ntmps130
  go_wp2_with (go_at_fn fn; refine (hf'.out).mono ?_; rintro e w1 ⟨⟨p, f, rfl, (⟨rfl, rfl⟩ | ⟨ty, v, g, cs, rfl, rfl⟩), n1, o1⟩, m1⟩ <;> (obtain ⟨⟨f1, f2, f3, f4, c1, c2, c3, c4⟩, en⟩ := fin.out _ _ _ n1 o1 m1; have en' := Lib.hid en; clear n1 o1 m1 en))
  · go_ret
    exact ⟨_, _, rfl, .inl ⟨rfl, rfl⟩, en'.out _ rfl⟩
  · go_ret
    exact ⟨_, _, rfl, .inr ⟨_, _, _, _, rfl, rfl⟩, en'.out _ rfl⟩
end
end Go.Proofs.Ytmkcmncbiancgaa.Po
