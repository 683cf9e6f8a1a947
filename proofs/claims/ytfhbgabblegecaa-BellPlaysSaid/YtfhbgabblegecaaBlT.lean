/- One step of an operation of the bell, wherever it stands: one contract. Operations begun. -/
import Derived.Test.YtfhbgabblegecaaBlQ
namespace Go.Proofs.Ytfhbgabblegecaa.Bl
open Go.RowKit

/-- The function behind each worker's own operation. -/
def Kd.fn : Kd → Nat
  | .sleep => 54
  | .up => 74
  | .poll => 55
/-- An operation of the bell at dq stands, at block ob, at s. -/
def OpIn (w : World) (ob dq : Nat) : OS → Prop
  | .one k v cb cw => OpC w ob (.pointer (some ⟨dq, 0, none⟩)) (clo k.fn cb cw) 0 0 (-1) ∧ Cap w dq v cb cw
  | .look v => OpC w ob (.pointer (some ⟨dq, 0, none⟩)) (me 52) (v : Int) 0 (-1)
  | .rouse v => OpC w ob (.pointer (some ⟨dq, 0, none⟩)) (me 79) (v : Int) 0 (-1)
  | .over o x => ∃ nb nx at_, OpC w ob nb nx at_ (o : Int) x
theorem OpIn.cells {w : World} {ob dq : Nat} {s : OS} (h : OpIn w ob dq s) : ∃ nb nx at_, OpC w ob nb nx at_ s.o s.x := by
  cases s with
  | one k v cb cw => exact ⟨_, _, _, h.1⟩
  | look v => exact ⟨_, _, _, h⟩
  | rouse v => exact ⟨_, _, _, h⟩
  | over o x => exact h
theorem OpIn.lt {w : World} {ob dq : Nat} {s : OS} (h : OpIn w ob dq s) : ob < w.heap.size := by obtain ⟨_, _, _, h⟩ := h.cells; exact h.lt
theorem OpIn.keep {S : Nat → Prop} {w w' : World} {ob dq : Nat} {s : OS} (h : OpIn w ob dq s) (o : Only S w w') (h1 : ¬ S ob) (h2 : s.apart S) : OpIn w' ob dq s := by
  cases s with
  | one k v cb cw => exact ⟨h.1.keep o h1, h.2.keep o h2.1 h2.2⟩
  | look v => exact OpC.keep h o h1
  | rouse v => exact OpC.keep h o h1
  | over q x => obtain ⟨a, c, d, h⟩ := h; exact ⟨a, c, d, h.keep o h1⟩
theorem apart_nil (s : OS) : s.apart Nil := by cases s <;> simp [OS.apart, Nil]
theorem OpIn.nil {w w' : World} {ob dq : Nat} {s : OS} (h : OpIn w ob dq s) (o : Only Nil w w') : OpIn w' ob dq s := h.keep o (fun h => h) (apart_nil s)

theorem overO {w : World} {ob dq n : Nat} {s : OS} (h : OpIn w ob dq s) (hok : s.ok n) :
    Calls Try.prog 17 #[.pointer (some ⟨ob, 0, none⟩)] w fun e w' => e = .returned (.bool s.isO) ∧ w = w' := by
  obtain ⟨_, _, _, h⟩ := h.cells
  rw [← isO_ne s hok]; exact over_any h
theorem outcomeO {w : World} {ob dq : Nat} {s : OS} (h : OpIn w ob dq s) :
    Calls Try.prog 32 #[.pointer (some ⟨ob, 0, none⟩)] w fun e w' => e = .returned (.int .i64 s.o) ∧ w = w' := by
  obtain ⟨_, _, _, h⟩ := h.cells
  exact outcome_any h
theorem whoO {w : World} {ob dq : Nat} {s : OS} (h : OpIn w ob dq s) :
    Calls Try.prog 33 #[.pointer (some ⟨ob, 0, none⟩)] w fun e w' => e = .returned (.int .i64 s.x) ∧ w = w' := by
  obtain ⟨_, _, _, h⟩ := h.cells
  exact who_any h

/-- A bell, and its memory. -/
structure Rng (w : World) (dq hb rb b n : Nat) (L : List Int) (t : Int) : Prop where
  ring : BlAt w dq hb b n
  mem : MemAt w hb rb L t
  ne : ¬ Blk hb rb dq
  pc : 0 < n
  uc : n ≤ 8
  ub : b ≤ 1000
  len : b + n ≤ L.length
  t0 : 0 ≤ t
theorem Rng.keep {S : Nat → Prop} {w w' : World} {dq hb rb b n : Nat} {L : List Int} {t : Int} (h : Rng w dq hb rb b n L t) (o : Only S w w') (h1 : ¬ S dq) (h2 : ¬ S hb) (h3 : ¬ S rb) : Rng w' dq hb rb b n L t :=
  { h with ring := h.ring.keep o h1, mem := h.mem.keep o h2 h3 }
theorem Rng.nil {w w' : World} {dq hb rb b n : Nat} {L : List Int} {t : Int} (h : Rng w dq hb rb b n L t) (o : Only Nil w w') : Rng w' dq hb rb b n L t := h.keep o (fun h => h) (fun h => h) (fun h => h)

theorem over_false {w : World} {ob : Nat} {nb nx : Value} {at_ who : Int} (h : OpC w ob nb nx at_ 0 who) :
    Calls Try.prog 17 #[.pointer (some ⟨ob, 0, none⟩)] w fun e w' => e = .returned (.bool false) ∧ w = w' := over_any h
set_option maxHeartbeats 1000000 in
/-- Step of one that isn't over: what its next access does. -/
theorem dstep_via (f : Nat) (xs : Array Value) {w w0 : World} {ob dq hb rb b n : Nat} {nx' : Value} {at_ who at' oc' who' : Int} {L' : List Int} {t' : Int}
    (eg : ∀ args w, (callFunc f args).run Try.prog w = .ok (.enter f args) w)
    (ho : OpC w ob (.pointer (some ⟨dq, 0, none⟩)) (.func (.func f) #[] xs) at_ 0 who)
    (hf : Calls Try.prog f (#[.pointer (some ⟨ob, 0, none⟩)] ++ xs) w fun e w' => e = .returned (.tuple #[]) ∧ St w0 w' ob dq hb rb b n nx' at' oc' who' L' t') :
    Calls Try.prog 20 #[.pointer (some ⟨ob, 0, none⟩)] w fun e w' => e = .returned (.bool (oc' != 0)) ∧ St w0 w' ob dq hb rb b n nx' at' oc' who' L' t' := by
  have ov := Lib.hid (over_false ho)
  have ov2 := Lib.hid (fun (w' : World) (h : St w0 w' ob dq hb rb b n nx' at' oc' who' L' t') => over_any h.op)
  have hf' := Lib.hid hf
  obtain ⟨c0, c1, c2, c3, c4⟩ := ho.c
  clear ho hf
  go_enter Try.func20, Try.ntmps20
  go_wp2_with (first
    | (go_at_call 17; (with_reducible refine (ov.out).mono ?_); rintro e w1 ⟨rfl, rfl⟩)
    | (go_at_fn f; refine (hf'.out).mono ?_; rintro e w2 ⟨rfl, s2⟩)
    | (go_at_call 17; (with_reducible refine (ov2.out _ s2).mono ?_); rintro e w3 ⟨rfl, rfl⟩))
  go_ret
  exact ⟨rfl, s2⟩
theorem dstep_over {w : World} {ob : Nat} {nb nx : Value} {at_ oc who : Int} (h : OpC w ob nb nx at_ oc who) (ho : 1 ≤ oc) :
    Calls Try.prog 20 #[.pointer (some ⟨ob, 0, none⟩)] w fun e w' => e = .returned (.bool true) ∧ w = w' := by
  have ov := Lib.hid (over_any h)
  have hb : (oc != 0) = true := by simp; omega
  rw [hb] at ov
  clear h ho hb
  go_enter Try.func20, Try.ntmps20
  go_wp2_with (go_at_call 17; (with_reducible refine (ov.out).mono ?_); rintro e w1 ⟨rfl, rfl⟩)
  go_ret
  exact ⟨rfl, rfl⟩

theorem St.fin {w w' : World} {ob dq hb rb b n : Nat} {nx : Value} {at_ oc who : Int} {L : List Int} {t : Int} (h : St w w' ob dq hb rb b n nx at_ oc who L t) (hn : 0 < n) : Rng w' dq hb rb b n L t ∧ Only (OB hb rb ob) w w' :=
  ⟨⟨h.bel, h.mem, fun hh => h.n2 (.inl hh), hn, h.uc, h.ub, h.len, h.t0⟩, h.only⟩

set_option maxHeartbeats 2000000 in
/-- ONE STEP, WHEREVER THE OPERATION STANDS. -/
theorem dstep_any {w : World} {ob dq hb rb b n : Nat} {L : List Int} {t : Int} (s : OS) (hR : Rng w dq hb rb b n L t) (hO : OpIn w ob dq s) (n1 : ¬ Blk hb rb ob) (n2 : ob ≠ dq) (hok : s.ok n) (ha : s.apart (OB hb rb ob)) (t1 : t < 4611686018427386000) :
    Calls Try.prog 20 #[.pointer (some ⟨ob, 0, none⟩)] w fun e w' =>
      e = .returned (.bool (stepS b n L s).isO) ∧ OpIn w' ob dq (stepS b n L s) ∧ Rng w' dq hb rb b n (stepL b L s) (stepT s t) ∧ Only (OB hb rb ob) w w' := by
  have t2 : t + 1 < 4611686018427387000 := by omega
  have mk : ∀ nx at_ oc who, OpC w ob (.pointer (some ⟨dq, 0, none⟩)) nx at_ oc who → St w w ob dq hb rb b n nx at_ oc who L t := fun nx at_ oc who hC =>
    ⟨hC, hR.ring, hR.mem, Only.refl _ w, n1, fun hh => hh.elim (fun h => hR.ne h) (fun h => n2 h.symm), hR.uc, hR.ub, hR.len, hR.t0, by omega⟩
  have pc := hR.pc
  cases s with
  | one k v cb cw =>
    obtain ⟨hC, hK⟩ := hO
    have hS := mk _ _ _ _ hC
    cases k with
    | sleep =>
      refine (dstep_via 54 _ (enters_of Try.func54 (by kernel_rfl) rfl) hC (clo_sleep v cb cw hS hK ha.1 ha.2 hok t2)).mono ?_
      rintro e w' ⟨rfl, hh⟩
      exact ⟨rfl, ⟨_, _, _, hh.op⟩, hh.fin pc⟩
    | up =>
      refine (dstep_via 74 _ (enters_of Try.func74 (by kernel_rfl) rfl) hC (clo_up v cb cw hS hK ha.1 ha.2 hok t2)).mono ?_
      rintro e w' ⟨rfl, hh⟩
      exact ⟨rfl, ⟨_, _, _, hh.op⟩, hh.fin pc⟩
    | poll =>
      by_cases hx : L.getD (b + v) 0 = 0
      · have he : stepS b n L (.one .poll v cb cw) = .over 1 (-1) := by simp [stepS, acc, Kd.acc, doAcc, res, Kd.out]; exact hx
        rw [he]
        refine (dstep_via 55 _ (enters_of Try.func55 (by kernel_rfl) rfl) hC (clo_poll_yes v cb cw hS hK ha.1 ha.2 hok hx t2)).mono ?_
        rintro e w' ⟨rfl, hh⟩
        exact ⟨rfl, ⟨_, _, _, hh.op⟩, hh.fin pc⟩
      · have he : stepS b n L (.one .poll v cb cw) = .over 4 (-1) := by simp [stepS, acc, Kd.acc, doAcc, res, Kd.out]; exact hx
        rw [he]
        refine (dstep_via 55 _ (enters_of Try.func55 (by kernel_rfl) rfl) hC (clo_poll_no v cb cw hS hK ha.1 ha.2 hok hx t2)).mono ?_
        rintro e w' ⟨rfl, hh⟩
        exact ⟨rfl, ⟨_, _, _, hh.op⟩, hh.fin pc⟩
  | look v =>
    have hS := mk _ _ _ _ hO
    by_cases hx : L.getD (b + v) 0 = 1
    · have he : stepS b n L (.look v) = .rouse v := if_pos hx
      rw [he]
      refine (dstep_via 52 #[] (enters_of Try.func52 (by kernel_rfl) rfl) hO (look_yes v hS hok hx t2)).mono ?_
      rintro e w' ⟨rfl, hh⟩
      exact ⟨rfl, hh.op, hh.fin pc⟩
    · have he : stepS b n L (.look v) = on n v := if_neg hx
      rw [he]; unfold on
      by_cases hv : v + 1 = n
      · rw [if_pos hv]
        refine (dstep_via 52 #[] (enters_of Try.func52 (by kernel_rfl) rfl) hO (look_end v hS hv hx t2)).mono ?_
        rintro e w' ⟨rfl, hh⟩
        exact ⟨rfl, ⟨_, _, _, hh.op⟩, hh.fin pc⟩
      · rw [if_neg hv]
        have hv2 : v + 1 < n := by have : v < n := hok; omega
        refine (dstep_via 52 #[] (enters_of Try.func52 (by kernel_rfl) rfl) hO (look_on v hS hv2 hx t2)).mono ?_
        rintro e w' ⟨rfl, hh⟩
        exact ⟨rfl, hh.op, hh.fin pc⟩
  | rouse v =>
    have hS := mk _ _ _ _ hO
    by_cases hx : L.getD (b + v) 0 = 1
    · have he : stepS b n L (.rouse v) = .over 7 v := if_neg (fun hz => absurd ((congrArg Prod.snd (if_pos hx)).symm.trans hz) (by decide : ¬ (1 : Int) = 0))
      rw [he]
      refine (dstep_via 79 #[] (enters_of Try.func79 (by kernel_rfl) rfl) hO (rouse_yes v hS hok hx t2)).mono ?_
      rintro e w' ⟨rfl, hh⟩
      exact ⟨rfl, ⟨_, _, _, hh.op⟩, hh.fin pc⟩
    · have he : stepS b n L (.rouse v) = on n v := if_pos (congrArg Prod.snd (if_neg hx))
      rw [he]; unfold on
      by_cases hv : v + 1 = n
      · rw [if_pos hv]
        refine (dstep_via 79 #[] (enters_of Try.func79 (by kernel_rfl) rfl) hO (rouse_end v hS hv hx t2)).mono ?_
        rintro e w' ⟨rfl, hh⟩
        exact ⟨rfl, ⟨_, _, _, hh.op⟩, hh.fin pc⟩
      · rw [if_neg hv]
        have hv2 : v + 1 < n := by have : v < n := hok; omega
        refine (dstep_via 79 #[] (enters_of Try.func79 (by kernel_rfl) rfl) hO (rouse_on v hS hv2 hx t2)).mono ?_
        rintro e w' ⟨rfl, hh⟩
        exact ⟨rfl, hh.op, hh.fin pc⟩
  | over o x =>
    obtain ⟨nb, nx, at_, hC⟩ := hO
    refine (dstep_over hC (by have : 1 ≤ o := hok; omega)).mono ?_
    rintro e w' ⟨rfl, rfl⟩
    exact ⟨rfl, ⟨_, _, _, hC⟩, hR, Only.refl _ _⟩

/-- alone, of a worker that there is. -/
theorem alone_yes {w : World} {dq hb b n : Nat} (hB : BlAt w dq hb b n) (v : Nat) (f : Nat) (xs : Array Value) (hv : v < n) :
    Calls Try.prog 53 #[.pointer (some ⟨dq, 0, none⟩), .int .i64 (v : Int), .func (.func f) #[] xs] w fun e w' =>
      e = .returned (.pointer (some ⟨w.heap.size, 0, none⟩)) ∧ w.alloc (.cells (opCells (.pointer (some ⟨dq, 0, none⟩)) (.func (.func f) #[] xs) 0 0 (-1)).toArray 104) = w' := by
  obtain ⟨d0, d1, d2⟩ := hB.c
  have h0 : ¬ ((v : Int) < 0) := by omega
  have h1 : (v : Int) < (n : Int) := by omega
  clear hv
  clear hB
  unfold opCells
  go_enter Try.func53, Try.ntmps53
  go_wp2
  go_ret
  exact ⟨rfl, rfl⟩
theorem alone_no {w : World} {dq hb b n : Nat} (hB : BlAt w dq hb b n) (v : Int) (nx : Value) (hv : v < 0 ∨ (n : Int) ≤ v) :
    Calls Try.prog 53 #[.pointer (some ⟨dq, 0, none⟩), .int .i64 v, nx] w fun e w' =>
      e = .returned (.pointer (some ⟨w.heap.size, 0, none⟩)) ∧ ∃ nb nx2, w.alloc (.cells (opCells nb nx2 0 4 (-1)).toArray 104) = w' := by
  obtain ⟨d0, d1, d2⟩ := hB.c
  clear hB
  unfold opCells
  by_cases h0 : v < 0
  · clear hv
    go_enter Try.func53, Try.ntmps53
    go_wp2
    go_ret
    exact ⟨rfl, _, _, rfl⟩
  · have h1 : (n : Int) ≤ v := by omega
    clear hv
    go_enter Try.func53, Try.ntmps53
    go_wp2
    go_ret
    exact ⟨rfl, _, _, rfl⟩
end Go.Proofs.Ytfhbgabblegecaa.Bl
