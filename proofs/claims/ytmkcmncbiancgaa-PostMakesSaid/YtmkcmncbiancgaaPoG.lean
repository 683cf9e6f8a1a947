/- The closures of package post that come behind a part. -/
import Derived.Test.YtmkcmncbiancgaaPoF
import Derived.Test.YtmkcmncbiancgaaRingW
namespace Go.Proofs.Ytmkcmncbiancgaa.Po
open Go.RowKit Go.Proofs.Ytmkcmncbiancgaa

section
variable {A : BA} {F G H H' S : Nat → Prop} {w W w' w1 w2 : World} {g f v p : Value} {s : PS} {ro a r q : Nat} {k : Bool} {os : OS} {L : List Int} {t : Int}
/-- Behind a single access: what it has answered. -/
theorem b_one {sg : Nat} {y0 y1 : Value} {o x : Int} (z : Int) (h1 : w.heap[q]? = some (one (ptr sg) 110)) (h2 : w.heap[sg]? = some (.cells #[g, y0, y1, .int .i64 o, .int .u64 x] 112 (0, 0))) (hf : Form y0 y1) :
    Calls Try.prog 71 #[.int .i64 z, ptr q] w fun e w' => e = .returned (nextV y0 y1 o x) ∧ Only Nil w w' := by
  obtain ⟨W, hW, zz, o0, sz⟩ := begin1 w
  have fi := Lib.hid (And.intro (heap_new w (.cells [y0, y1, .int .i64 o, .int .u64 x].toArray 66)) ((Only.refl Nil w).alloc (.cells [y0, y1, .int .i64 o, .int .u64 x].toArray 66)))
  have g0 : W.cell? ⟨q, 0, none⟩ = some (ptr sg) := by simp [World.cell?, block_at h1 o0 (fun h => h)]
  obtain ⟨g1, g2, g3, g4⟩ : W.cell? ⟨sg, 1, none⟩ = some y0 ∧ W.cell? ⟨sg, 2, none⟩ = some y1 ∧ W.cell? ⟨sg, 3, none⟩ = some (.int .i64 o) ∧ W.cell? ⟨sg, 4, none⟩ = some (.int .u64 x) := by simp [World.cell?, block_at h2 o0 (fun h => h)]
  clear h1 h2 zz o0 sz
  subst hW
  rcases hf with ⟨rfl, rfl⟩ | ⟨ty, v, g, cs, rfl, rfl⟩
  all_goals (
    go_enter Try.func71, Try.ntmps71
    go_wp2
    refine bodyPost_ret (results_agg rfl _ _ w.heap.size [_, _, .int .i64 o, .int .u64 x] Try.isAgg66 Try.sizeOf66 rfl fi.out.1) rfl ?_
    exact ⟨rfl, fi.out.2⟩)
theorem b_bring_no (o : Nat) (ho : ¬ o = 1) :
    Calls Try.prog 76 #[.int .i64 (o : Int), ptr a, ptr r] w (NP A F Nil w (.over o 0)) := by
  have hmf : ∀ (fn : Fn) (first cap : Array Value) (w : World), (Instr.makeFunc fn first cap).run Try.prog w = .ok (.func fn first cap) w := fun _ _ _ _ => rfl
  obtain ⟨W, hW, zz, p0, sz⟩ := begin1 w
  have ho2 : ((o : Int) != 1) = true := by simp; omega
  have z1' := Lib.hid zz
  have p1' := Lib.hid p0
  clear zz p0 sz ho
  subst hW
  go_enter Try.func76, Try.ntmps76
  go_wp2_with (go_at_call 62; refine (end_any _ _ _).mono ?_; rintro e w2 ⟨rfl, o2⟩; obtain ⟨z2, h2, n2, k2⟩ := fin_nxS (w := w) (H := F) z1'.out (Nat.le_refl _) (fun i hi => hi) p1'.out (show Nx A (Ext _ w2 (Exq w _ F w.heap.size)) w2 .nilIface .nilFunc (.over o (0)) from trivial) o2 (.int .i64 ((o : Nat) : Int)) (.int .u64 (0)); have h2' := Lib.hid h2; have n2' := Lib.hid (And.intro n2 k2); obtain ⟨c0, c1, c2, c3, f0, f1, f2, f3⟩ := z2.c; clear o2 z2 h2 n2 k2)
  refine bodyPost_ret (results_agg rfl _ _ w.heap.size [_, _, .int .i64 (o : Int), .int .u64 (0)] Try.isAgg66 Try.sizeOf66 rfl h2'.out) rfl ?_
  exact ⟨_, _, rfl, .inl ⟨rfl, rfl⟩, n2'.out⟩
theorem b_bring_yes (hc : capR A F w a r k) (hF : ∀ i, F i → i < w.heap.size) :
    Calls Try.prog 76 #[.int .i64 1, ptr a, ptr r] w (NP A F Nil w (.load k)) := by
  have hmf : ∀ (fn : Fn) (first cap : Array Value) (w : World), (Instr.makeFunc fn first cap).run Try.prog w = .ok (.func fn first cap) w := fun _ _ _ _ => rfl
  obtain ⟨W, hW, zz, p0, sz⟩ := begin1 w
  obtain ⟨ha, v, hr, hv⟩ := hc
  have rs := Lib.hid (rouse_any (A := A) (H := Exq w W F w.heap.size) (exq_lt hF p0.size) (rests_mono (rests_keep hv p0 (fun _ _ h => h)) (exq_old hF (Nat.le_refl _))))
  have g0 := (ha.keep p0 (fun _ _ h => h)).c
  have g1 := (hr.keep p0 (fun _ _ h => h)).c
  have z1' := Lib.hid zz
  have p1' := Lib.hid p0
  clear zz p0 sz ha hr hv hF
  subst hW
  go_enter Try.func76, Try.ntmps76
  go_wp2_with (go_at_call 77; refine (rs.out).mono ?_; rintro e w2 ⟨p, f, rfl, (⟨rfl, rfl⟩ | ⟨ty, v, g, cs, rfl, rfl⟩), n1, o2⟩ <;> (obtain ⟨z2, h2, n2, k2⟩ := fin_nxS (w := w) (H := F) z1'.out (Nat.le_refl _) (fun i hi => hi) p1'.out n1 o2 (.int .i64 (0 : Int)) (.int .u64 0); have h2' := Lib.hid h2; have n2' := Lib.hid (And.intro n2 k2); obtain ⟨c0, c1, c2, c3, f0, f1, f2, f3⟩ := z2.c; clear o2 z2 h2 n2 k2))
  · refine bodyPost_ret (results_agg rfl _ _ w.heap.size [_, _, .int .i64 0, .int .u64 (0)] Try.isAgg66 Try.sizeOf66 rfl h2'.out) rfl ?_
    exact ⟨_, _, rfl, .inl ⟨rfl, rfl⟩, n2'.out⟩
  · refine bodyPost_ret (results_agg rfl _ _ w.heap.size [_, _, .int .i64 0, .int .u64 (0)] Try.isAgg66 Try.sizeOf66 rfl h2'.out) rfl ?_
    exact ⟨_, _, rfl, .inr ⟨_, _, _, _, rfl, rfl⟩, n2'.out⟩
theorem b_whole {rg : Nat} (o : Nat) (x : Int) (tk : Nat) (hq : At F w q (one (ptr ro) 99)) (hO : OpIn w ro rg (.over o x tk)) :
    Calls Try.prog 80 #[.int .i64 (o : Int), ptr q] w (NP A F Nil w (.over o x)) := by
  have hmf : ∀ (fn : Fn) (first cap : Array Value) (w : World), (Instr.makeFunc fn first cap).run Try.prog w = .ok (.func fn first cap) w := fun _ _ _ _ => rfl
  obtain ⟨W, hW, zz, p0, sz⟩ := begin1 w
  have vl : Hid (Calls Try.prog 81 #[ptr ro] W fun e w' => e = .returned (.int .u64 x) ∧ W = w') := Lib.hid (valueO (hO.keep p0 (fun h => h)))
  have g0 := (hq.keep p0 (fun _ _ h => h)).c
  have z1' := Lib.hid zz
  have p1' := Lib.hid p0
  clear zz p0 sz hq hO
  subst hW
  go_enter Try.func80, Try.ntmps80
  go_wp2_with (first
    | (go_at_call 81; refine (vl.out).mono ?_; rintro e w3 ⟨rfl, rfl⟩)
    | (go_at_call 62; refine (end_any _ _ _).mono ?_; rintro e w2 ⟨rfl, o2⟩; obtain ⟨z2, h2, n2, k2⟩ := fin_nxS (w := w) (H := F) z1'.out (Nat.le_refl _) (fun i hi => hi) p1'.out (show Nx A (Ext _ w2 (Exq w _ F w.heap.size)) w2 .nilIface .nilFunc (.over o (x)) from trivial) o2 (.int .i64 ((o : Nat) : Int)) (.int .u64 (x)); have h2' := Lib.hid h2; have n2' := Lib.hid (And.intro n2 k2); obtain ⟨c0, c1, c2, c3, f0, f1, f2, f3⟩ := z2.c; clear o2 z2 h2 n2 k2))
  refine bodyPost_ret (results_agg rfl _ _ w.heap.size [_, _, .int .i64 (o : Int), .int .u64 (x)] Try.isAgg66 Try.sizeOf66 rfl h2'.out) rfl ?_
  exact ⟨_, _, rfl, .inl ⟨rfl, rfl⟩, n2'.out⟩
theorem b_lookN_yes (h : Bool) (ha : At F w a (boxC A)) (hq : At F w q (numC (rest h))) (hF : ∀ i, F i → i < w.heap.size) :
    Calls Try.prog 73 #[.int .i64 1, ptr q, ptr a] w (NP A F Nil w (.charge h)) := by
  have hmf : ∀ (fn : Fn) (first cap : Array Value) (w : World), (Instr.makeFunc fn first cap).run Try.prog w = .ok (.func fn first cap) w := fun _ _ _ _ => rfl
  obtain ⟨W, hW, zz, p0, sz⟩ := begin1 w
  have cg := Lib.hid (charge_yes (A := A) (H := Exq w W F w.heap.size) h (exq_lt hF p0.size))
  have g0 := (ha.keep p0 (fun _ _ h => h)).c
  have g1 := (hq.keep p0 (fun _ _ h => h)).c
  have z1' := Lib.hid zz
  have p1' := Lib.hid p0
  clear zz p0 sz hq ha hF
  subst hW
  go_enter Try.func73, Try.ntmps73
  go_wp2_with (go_at_call 74; refine (cg.out).mono ?_; rintro e w2 ⟨p, f, rfl, (⟨rfl, rfl⟩ | ⟨ty, v, g, cs, rfl, rfl⟩), n1, o2⟩ <;> (obtain ⟨z2, h2, n2, k2⟩ := fin_nxS (w := w) (H := F) z1'.out (Nat.le_refl _) (fun i hi => hi) p1'.out n1 o2 (.int .i64 (0 : Int)) (.int .u64 0); have h2' := Lib.hid h2; have n2' := Lib.hid (And.intro n2 k2); obtain ⟨c0, c1, c2, c3, f0, f1, f2, f3⟩ := z2.c; clear o2 z2 h2 n2 k2))
  · refine bodyPost_ret (results_agg rfl _ _ w.heap.size [_, _, .int .i64 0, .int .u64 (0)] Try.isAgg66 Try.sizeOf66 rfl h2'.out) rfl ?_
    exact ⟨_, _, rfl, .inl ⟨rfl, rfl⟩, n2'.out⟩
  · refine bodyPost_ret (results_agg rfl _ _ w.heap.size [_, _, .int .i64 0, .int .u64 (0)] Try.isAgg66 Try.sizeOf66 rfl h2'.out) rfl ?_
    exact ⟨_, _, rfl, .inr ⟨_, _, _, _, rfl, rfl⟩, n2'.out⟩
theorem b_lookN_held (o : Nat) (ho : ¬ o = 1) (ha : At F w a (boxC A)) (hq : At F w q (numC (rest true))) :
    Calls Try.prog 73 #[.int .i64 (o : Int), ptr q, ptr a] w (NP A F Nil w (.over 4 0)) := by
  have hmf : ∀ (fn : Fn) (first cap : Array Value) (w : World), (Instr.makeFunc fn first cap).run Try.prog w = .ok (.func fn first cap) w := fun _ _ _ _ => rfl
  obtain ⟨W, hW, zz, p0, sz⟩ := begin1 w
  have cg := Lib.hid (charge_no (A := A) (H := Exq w W F w.heap.size) (w := W) (o : Int) true (by omega))
  have e3 : rest true = 3 := rfl
  rw [e3] at hq cg
  have ho2 : ((o : Int) == 1) = false := by simp; omega
  have g0 := (ha.keep p0 (fun _ _ h => h)).c
  have g1 := (hq.keep p0 (fun _ _ h => h)).c
  have z1' := Lib.hid zz
  have p1' := Lib.hid p0
  clear zz p0 sz hq ha ho e3
  subst hW
  go_enter Try.func73, Try.ntmps73
  go_wp2_with (go_at_call 74; refine (cg.out).mono ?_; rintro e w2 ⟨p, f, rfl, (⟨rfl, rfl⟩ | ⟨ty, v, g, cs, rfl, rfl⟩), n1, o2⟩ <;> (obtain ⟨z2, h2, n2, k2⟩ := fin_nxS (w := w) (H := F) z1'.out (Nat.le_refl _) (fun i hi => hi) p1'.out n1 o2 (.int .i64 ((4 : Nat) : Int)) (.int .u64 0); have h2' := Lib.hid h2; have n2' := Lib.hid (And.intro n2 k2); obtain ⟨c0, c1, c2, c3, f0, f1, f2, f3⟩ := z2.c; clear o2 z2 h2 n2 k2))
  · refine bodyPost_ret (results_agg rfl _ _ w.heap.size [_, _, .int .i64 4, .int .u64 (0)] Try.isAgg66 Try.sizeOf66 rfl h2'.out) rfl ?_
    exact ⟨_, _, rfl, .inl ⟨rfl, rfl⟩, n2'.out⟩
  · refine bodyPost_ret (results_agg rfl _ _ w.heap.size [_, _, .int .i64 4, .int .u64 (0)] Try.isAgg66 Try.sizeOf66 rfl h2'.out) rfl ?_
    exact ⟨_, _, rfl, .inr ⟨_, _, _, _, rfl, rfl⟩, n2'.out⟩
theorem b_lookN_on (o : Nat) (ho : ¬ o = 1) (hB : BoxAt w A) (ha : At F w a (boxC A)) (hq : At F w q (numC (rest false))) (hF : ∀ i, F i → i < w.heap.size) :
    Calls Try.prog 73 #[.int .i64 (o : Int), ptr q, ptr a] w (NP A F Nil w (.lookM .look0)) := by
  have hmf : ∀ (fn : Fn) (first cap : Array Value) (w : World), (Instr.makeFunc fn first cap).run Try.prog w = .ok (.func fn first cap) w := fun _ _ _ _ => rfl
  obtain ⟨W, hW, zz, p0, sz⟩ := begin1 w
  have lk := Lib.hid (dlook_any W A.mg)
  have ga := Lib.hid (fun w1 => go_any w1 99 (ptr W.heap.size) 75 #[ptr a, ptr q])
  have fi : Hid (∀ w1, (OpIn w1 W.heap.size A.mg .look0 ∧ Only Nil W w1 ∧ W.heap.size < w1.heap.size) → ∀ w2, Only Nil w1 w2 → _) := Lib.hid (fun w1 (h1 : OpIn w1 W.heap.size A.mg .look0 ∧ Only Nil W w1 ∧ W.heap.size < w1.heap.size) w2 (h2 : Only Nil w1 w2) =>
    fin_nxS (A := A) (W := w1) (p := opI W.heap.size) (f := clo2 75 a q) (s := .lookM .look0) (w := w) (H := F) (H' := Exq w w1 F w.heap.size) (o := .int .i64 0) (x := .int .u64 0) (zz.keep h1.2.1 (fun h => h)) (Nat.le_refl _) (fun i hi => hi) (p0.trans h1.2.1)
      ⟨W.heap.size, rfl, .inl (exq_in _ (by omega) h1.2.2 (by omega)), h1.1.keep h2 (fun h => h), _, _, rfl, ((ha.keep (p0.trans (h1.2.1.trans h2)) (fun _ _ h => h)).mono (exq_old hF (Nat.le_refl _))).mono (fun _ h => .inl h), ((hq.keep (p0.trans (h1.2.1.trans h2)) (fun _ _ h => h)).mono (exq_old hF (Nat.le_refl _))).mono (fun _ h => .inl h)⟩ h2)
  obtain ⟨d0, d1, d2, d3⟩ := (hB.keep p0 (fun h => h)).c
  have g0 := (ha.keep p0 (fun _ _ h => h)).c
  have g1 := (hq.keep p0 (fun _ _ h => h)).c
  have e3 : rest false = 0 := rfl
  rw [e3] at g1
  have ho2 : ((o : Int) == 1) = false := by simp; omega
  rw [sz] at lk ga fi
  clear zz p0 sz hq ha hB hF ho e3
  subst hW
  go_enter Try.func73, Try.ntmps73
  go_wp2_with (first
    | (go_at_call 72; refine (lk.out).mono ?_; rintro e w1 ⟨rfl, h1⟩; have fi2 := Lib.hid (fi.out w1 h1); clear h1)
    | (go_at_call 70; refine (ga.out _).mono ?_; rintro e w2 ⟨rfl, o1⟩; obtain ⟨z1, h1, n1, k1⟩ := fi2.out w2 o1; have h2' := Lib.hid h1; have n2' := Lib.hid (And.intro n1 k1); obtain ⟨c0, c1, c2, c3, f0, f1, f2, f3⟩ := z1.c; clear o1 z1 h1 n1 k1))
  refine bodyPost_ret (results_agg rfl _ _ w.heap.size [_, _, .int .i64 0, .int .u64 (0)] Try.isAgg66 Try.sizeOf66 rfl h2'.out) rfl ?_
  exact ⟨_, _, rfl, .inr ⟨_, _, _, _, rfl, rfl⟩, n2'.out⟩
theorem b_lookM_yes (ha : At F w a (boxC A)) (hq : At F w q (numC 0)) (hF : ∀ i, F i → i < w.heap.size) :
    Calls Try.prog 75 #[.int .i64 1, ptr a, ptr q] w (NP A F Nil w (.charge false)) := by
  have hmf : ∀ (fn : Fn) (first cap : Array Value) (w : World), (Instr.makeFunc fn first cap).run Try.prog w = .ok (.func fn first cap) w := fun _ _ _ _ => rfl
  obtain ⟨W, hW, zz, p0, sz⟩ := begin1 w
  have cg := Lib.hid (charge_yes (A := A) (H := Exq w W F w.heap.size) false (exq_lt hF p0.size))
  have e3 : rest false = 0 := rfl
  rw [e3] at cg
  have g0 := (ha.keep p0 (fun _ _ h => h)).c
  have g1 := (hq.keep p0 (fun _ _ h => h)).c
  have z1' := Lib.hid zz
  have p1' := Lib.hid p0
  clear zz p0 sz hq ha hF e3
  subst hW
  go_enter Try.func75, Try.ntmps75
  go_wp2_with (go_at_call 74; refine (cg.out).mono ?_; rintro e w2 ⟨p, f, rfl, (⟨rfl, rfl⟩ | ⟨ty, v, g, cs, rfl, rfl⟩), n1, o2⟩ <;> (obtain ⟨z2, h2, n2, k2⟩ := fin_nxS (w := w) (H := F) z1'.out (Nat.le_refl _) (fun i hi => hi) p1'.out n1 o2 (.int .i64 (0 : Int)) (.int .u64 0); have h2' := Lib.hid h2; have n2' := Lib.hid (And.intro n2 k2); obtain ⟨c0, c1, c2, c3, f0, f1, f2, f3⟩ := z2.c; clear o2 z2 h2 n2 k2))
  · refine bodyPost_ret (results_agg rfl _ _ w.heap.size [_, _, .int .i64 0, .int .u64 (0)] Try.isAgg66 Try.sizeOf66 rfl h2'.out) rfl ?_
    exact ⟨_, _, rfl, .inl ⟨rfl, rfl⟩, n2'.out⟩
  · refine bodyPost_ret (results_agg rfl _ _ w.heap.size [_, _, .int .i64 0, .int .u64 (0)] Try.isAgg66 Try.sizeOf66 rfl h2'.out) rfl ?_
    exact ⟨_, _, rfl, .inr ⟨_, _, _, _, rfl, rfl⟩, n2'.out⟩
theorem b_lookM_no (o : Nat) (ho : ¬ o = 1) (ha : At F w a (boxC A)) (hq : At F w q (numC 0)) :
    Calls Try.prog 75 #[.int .i64 (o : Int), ptr a, ptr q] w (NP A F Nil w (.over 4 0)) := by
  have hmf : ∀ (fn : Fn) (first cap : Array Value) (w : World), (Instr.makeFunc fn first cap).run Try.prog w = .ok (.func fn first cap) w := fun _ _ _ _ => rfl
  obtain ⟨W, hW, zz, p0, sz⟩ := begin1 w
  have cg := Lib.hid (charge_no (A := A) (H := Exq w W F w.heap.size) (w := W) (o : Int) false (by omega))
  have e3 : rest false = 0 := rfl
  rw [e3] at cg
  have g0 := (ha.keep p0 (fun _ _ h => h)).c
  have g1 := (hq.keep p0 (fun _ _ h => h)).c
  have z1' := Lib.hid zz
  have p1' := Lib.hid p0
  clear zz p0 sz hq ha ho e3
  subst hW
  go_enter Try.func75, Try.ntmps75
  go_wp2_with (go_at_call 74; refine (cg.out).mono ?_; rintro e w2 ⟨p, f, rfl, (⟨rfl, rfl⟩ | ⟨ty, v, g, cs, rfl, rfl⟩), n1, o2⟩ <;> (obtain ⟨z2, h2, n2, k2⟩ := fin_nxS (w := w) (H := F) z1'.out (Nat.le_refl _) (fun i hi => hi) p1'.out n1 o2 (.int .i64 ((4 : Nat) : Int)) (.int .u64 0); have h2' := Lib.hid h2; have n2' := Lib.hid (And.intro n2 k2); obtain ⟨c0, c1, c2, c3, f0, f1, f2, f3⟩ := z2.c; clear o2 z2 h2 n2 k2))
  · refine bodyPost_ret (results_agg rfl _ _ w.heap.size [_, _, .int .i64 4, .int .u64 (0)] Try.isAgg66 Try.sizeOf66 rfl h2'.out) rfl ?_
    exact ⟨_, _, rfl, .inl ⟨rfl, rfl⟩, n2'.out⟩
  · refine bodyPost_ret (results_agg rfl _ _ w.heap.size [_, _, .int .i64 4, .int .u64 (0)] Try.isAgg66 Try.sizeOf66 rfl h2'.out) rfl ?_
    exact ⟨_, _, rfl, .inr ⟨_, _, _, _, rfl, rfl⟩, n2'.out⟩
end
end Go.Proofs.Ytmkcmncbiancgaa.Po
