/- A step of an operation that is put together: (*chain.Op).Step. -/
import Derived.Test.YtmkcmncbiancgaaPoH
namespace Go.Proofs.Ytmkcmncbiancgaa.Po
open Go.RowKit Go.Proofs.Ytmkcmncbiancgaa

section
variable {A : BA} {F G H H' S : Nat → Prop} {w W w' w1 w2 : World} {g f v p : Value} {s : PS} {ro a r q ob sg : Nat} {k : Bool} {os : OS} {L : List Int} {t : Int}
/-- A part, or none; a closure, or none. -/
def fP : Option (TypeId × Value) → Value
  | none => .nilIface
  | some (t, v) => .iface t v
def fF : Option (Nat × Array Value) → Value
  | none => .nilFunc
  | some (g, cs) => .func (.func g) #[] cs
theorem form_f (h : Form p f) : ∃ z y, p = fP z ∧ f = fF y := by
  rcases h with ⟨rfl, rfl⟩ | ⟨ty, v, g, cs, rfl, rfl⟩
  · exact ⟨none, none, rfl, rfl⟩
  · exact ⟨some (ty, v), some (g, cs), rfl, rfl⟩
theorem store_fP (z : Option (TypeId × Value)) (a : Addr) (m : Mode) (w : World) : (store a (fP z) m).run Try.prog w = stored Try.prog w a (fP z) m := by
  cases z <;> exact run_store Try.prog w a _ m rfl
theorem store_fF (z : Option (Nat × Array Value)) (a : Addr) (m : Mode) (w : World) : (store a (fF z) m).run Try.prog w = stored Try.prog w a (fF z) m := by
  cases z <;> exact run_store Try.prog w a _ m rfl
theorem cstep_over {o x : Int} (h : OpO w ob p f o x) (ho : ¬ o = 0) :
    Calls Try.prog 30 #[ptr ob] w fun e w' => e = .returned (.bool true) ∧ w = w' := by
  have ov := Lib.hid (pover_any h)
  rw [show (o != 0) = true by simpa using ho] at ov
  clear h ho
  go_enter Try.func30, Try.ntmps30
  go_wp2_with (go_at_call 48; (with_reducible refine (ov.out).mono ?_); rintro e w1 ⟨rfl, rfl⟩)
  go_ret
  exact ⟨rfl, rfl⟩
theorem cstep_on {Q : World → Prop} (h : OpO w ob (opI ro) f 0 0)
    (st : Calls Try.prog 127 #[ptr ro] w fun e w1 => e = .returned (.bool false) ∧ Q w1) (hq : ∀ w1, Q w1 → OpO w1 ob (opI ro) f 0 0) :
    Calls Try.prog 30 #[ptr ob] w fun e w' => e = .returned (.bool false) ∧ Q w' := by
  have ov := Lib.hid (pover_any h)
  have ov2 := Lib.hid (fun w1 q => pover_any (hq w1 q))
  have st' := Lib.hid st
  obtain ⟨c0, c1, c2, c3, f0, f1, f2, f3⟩ := h.c
  clear h st hq
  go_enter Try.func30, Try.ntmps30
  go_wp2_with (first
    | (go_at_call 48; (with_reducible refine (ov.out).mono ?_); rintro e w1 ⟨rfl, rfl⟩)
    | (go_at_call 127; refine (st'.out).mono ?_; rintro e w2 ⟨rfl, q2⟩)
    | (go_at_call 48; (with_reducible refine (ov2.out _ q2).mono ?_); rintro e w3 ⟨rfl, rfl⟩))
  go_ret
  exact ⟨rfl, q2⟩
theorem sout_any (w : World) (sg : Nat) :
    Calls Try.prog 129 #[ptr sg] w fun e w' => e = .returned (.int .i64 1) ∧ w = w' := by
  go_enter Try.func129, Try.ntmps129
  go_wp2
  go_ret
  exact ⟨rfl, rfl⟩
set_option maxHeartbeats 1000000 in
theorem cstep_ring {Q : World → Prop} {R : Value → Value → World → Prop} {bf : Nat} {cs : Array Value} {o : Int} {o' x' : Int}
    (eg : ∀ args w, (callFunc bf args).run Try.prog w = .ok (.enter bf args) w)
    (h : OpO w ob (opI ro) (.func (.func bf) #[] cs) 0 0)
    (st : Calls Try.prog 127 #[ptr ro] w fun e w1 => e = .returned (.bool true) ∧ Q w1)
    (hq : ∀ w1, Q w1 → OpO w1 ob (opI ro) (.func (.func bf) #[] cs) 0 0) (hd : ∀ w1 n, Q w1 → Q (w1.drewN n))
    (oc : ∀ w1, Q w1 → Calls Try.prog 126 #[ptr ro] w1 fun e w' => e = .returned (.int .i64 o) ∧ w1 = w') (bh : ∀ w1, Q w1 → Calls Try.prog bf (#[.int .i64 o] ++ cs) w1 fun e w2 => ∃ p f, e = .returned (nextV p f o' x') ∧ Form p f ∧ R p f w2)
    (hr : ∀ p f w2, R p f w2 → OpO w2 ob (opI ro) (.func (.func bf) #[] cs) 0 0) (hrd : ∀ p f w2 n, R p f w2 → R p f (w2.drewN n)) :
    Calls Try.prog 30 #[ptr ob] w fun e w' => ∃ p f w2, e = .returned (.bool (o' != 0)) ∧ Form p f ∧ R p f w2 ∧ w' = set4 w2 ob p f (.int .i64 o') (.int .u64 x') := by
  have hsP := store_fP
  have hsF := store_fF
  have ov := Lib.hid (pover_any h)
  have st' := Lib.hid st
  have hd' := Lib.hid hd
  have hrd' := Lib.hid hrd
  have bh' := Lib.hid bh
  have oc' := Lib.hid oc
  have q1 := Lib.hid (fun w1 q => (hq w1 q).c)
  have q2 := Lib.hid (fun p f w1 q => (hr p f w1 q).c)
  have ov2 := Lib.hid (fun p f w2 (q : R p f w2) => pover_any (w := set4 w2 ob p f (.int .i64 o') (.int .u64 x')) (ob := ob) (p := p) (f := f) (o := o') (x := x') (set4_heap (hr p f w2 q) p f (.int .i64 o') (.int .u64 x')))
  obtain ⟨c0, c1, c2, c3, f0, f1, f2, f3⟩ := h.c
  clear h st hq hr oc bh hd hrd
  go_enter Try.func30, Try.ntmps30
  go_wp2_with (first
    | (go_at_call 48; (with_reducible refine (ov.out).mono ?_); rintro e w1 ⟨rfl, rfl⟩)
    | (go_at_call 127; refine (st'.out).mono ?_; rintro e w2 ⟨rfl, qq⟩; obtain ⟨d0, d1, d2, d3, g0, g1, g2, g3⟩ := q1.out _ qq))
  go_region_with (first
    | (go_at_call 126; refine (oc'.out _ (by first | exact qq | exact hd'.out _ _ qq)).mono ?_; rintro e w5 ⟨rfl, rfl⟩)
    | (go_at_fn bf; refine (bh'.out _ (by first | exact qq | exact hd'.out _ _ qq)).mono ?_; rintro e w6 ⟨p, f, rfl, fm, rr⟩; obtain ⟨z, y, rfl, rfl⟩ := form_f fm; obtain ⟨b0, b1, b2, b3, h0, h1, h2, h3⟩ := q2.out _ _ _ rr))
  all_goals (
    have w9 := Lib.hid (ov2.out _ _ _ rr)
    have rr' := Lib.hid rr
    have fm' := Lib.hid fm
    clear rr fm
    go_wp2_with (go_at_call 48; (with_reducible refine (w9.out).mono ?_); rintro e w3 ⟨rfl, rfl⟩)
    go_ret
    exact ⟨_, _, _, rfl, fm'.out, rr'.out, rfl⟩)
set_option maxHeartbeats 1000000 in
theorem cstep_sing {Q : World → Prop} {R : Value → Value → World → Prop} {bf : Nat} {cs : Array Value} {o' x' : Int}
    (eg : ∀ args w, (callFunc bf args).run Try.prog w = .ok (.enter bf args) w)
    (h : OpO w ob (sgI sg) (.func (.func bf) #[] cs) 0 0)
    (st : Calls Try.prog 130 #[ptr sg] w fun e w1 => e = .returned (.bool true) ∧ Q w1)
    (hq : ∀ w1, Q w1 → OpO w1 ob (sgI sg) (.func (.func bf) #[] cs) 0 0) (hd : ∀ w1 n, Q w1 → Q (w1.drewN n))
    (bh : ∀ w1, Q w1 → Calls Try.prog bf (#[.int .i64 1] ++ cs) w1 fun e w2 => ∃ p f, e = .returned (nextV p f o' x') ∧ Form p f ∧ R p f w2)
    (hr : ∀ p f w2, R p f w2 → OpO w2 ob (sgI sg) (.func (.func bf) #[] cs) 0 0) (hrd : ∀ p f w2 n, R p f w2 → R p f (w2.drewN n)) :
    Calls Try.prog 30 #[ptr ob] w fun e w' => ∃ p f w2, e = .returned (.bool (o' != 0)) ∧ Form p f ∧ R p f w2 ∧ w' = set4 w2 ob p f (.int .i64 o') (.int .u64 x') := by
  have hsP := store_fP
  have hsF := store_fF
  have ov := Lib.hid (pover_any h)
  have st' := Lib.hid st
  have hd' := Lib.hid hd
  have hrd' := Lib.hid hrd
  have bh' := Lib.hid bh
  skip
  have q1 := Lib.hid (fun w1 q => (hq w1 q).c)
  have q2 := Lib.hid (fun p f w1 q => (hr p f w1 q).c)
  have ov2 := Lib.hid (fun p f w2 (q : R p f w2) => pover_any (w := set4 w2 ob p f (.int .i64 o') (.int .u64 x')) (ob := ob) (p := p) (f := f) (o := o') (x := x') (set4_heap (hr p f w2 q) p f (.int .i64 o') (.int .u64 x')))
  obtain ⟨c0, c1, c2, c3, f0, f1, f2, f3⟩ := h.c
  clear h st hq hr bh hd hrd
  go_enter Try.func30, Try.ntmps30
  go_wp2_with (first
    | (go_at_call 48; (with_reducible refine (ov.out).mono ?_); rintro e w1 ⟨rfl, rfl⟩)
    | (go_at_call 130; refine (st'.out).mono ?_; rintro e w2 ⟨rfl, qq⟩; obtain ⟨d0, d1, d2, d3, g0, g1, g2, g3⟩ := q1.out _ qq))
  go_region_with (first
    | (go_at_call 129; refine (sout_any _ _).mono ?_; rintro e w5 ⟨rfl, rfl⟩)
    | (go_at_fn bf; refine (bh'.out _ (by first | exact qq | exact hd'.out _ _ qq)).mono ?_; rintro e w6 ⟨p, f, rfl, fm, rr⟩; obtain ⟨z, y, rfl, rfl⟩ := form_f fm; obtain ⟨b0, b1, b2, b3, h0, h1, h2, h3⟩ := q2.out _ _ _ rr))
  all_goals (
    have w9 := Lib.hid (ov2.out _ _ _ rr)
    have rr' := Lib.hid rr
    have fm' := Lib.hid fm
    clear rr fm
    go_wp2_with (go_at_call 48; (with_reducible refine (w9.out).mono ?_); rintro e w3 ⟨rfl, rfl⟩)
    go_ret
    exact ⟨_, _, _, rfl, fm'.out, rr'.out, rfl⟩)
end
end Go.Proofs.Ytmkcmncbiancgaa.Po
