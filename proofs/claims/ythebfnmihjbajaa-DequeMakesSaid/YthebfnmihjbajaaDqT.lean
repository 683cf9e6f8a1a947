/- One step of an operation of the deque, wherever it stands: one contract. -/
import Derived.Test.YthebfnmihjbajaaDqQ
import Derived.Shelf.Abstract
namespace Go.Proofs.Ythebfnmihjbajaa.Dq
open Go.RowKit

section
variable {w : World} {ob dq : Nat} {nx : Value} {out tt bb v val : Int}
theorem over_false (h : OpC w ob dq nx 0 tt bb v val) :
    Calls Try.prog 12 #[.pointer (some ⟨ob, 0, none⟩)] w fun e w' => e = .returned (.bool false) ∧ w = w' := by
  obtain ⟨c0, c1, c2, c3, c4, c5, c6⟩ := h.c
  clear h
  go_enter Try.func12, Try.ntmps12
  go_wp2
  go_ret
  exact ⟨rfl, rfl⟩
theorem over_any (h : OpC w ob dq nx out tt bb v val) :
    Calls Try.prog 12 #[.pointer (some ⟨ob, 0, none⟩)] w fun e w' => e = .returned (.bool (out != 0)) ∧ w = w' := by
  obtain ⟨c0, c1, c2, c3, c4, c5, c6⟩ := h.c
  clear h
  go_enter Try.func12, Try.ntmps12
  go_wp2
  go_ret
  exact ⟨rfl, rfl⟩
theorem outcome_any (h : OpC w ob dq nx out tt bb v val) :
    Calls Try.prog 29 #[.pointer (some ⟨ob, 0, none⟩)] w fun e w' => e = .returned (.int .i64 out) ∧ w = w' := by
  obtain ⟨c0, c1, c2, c3, c4, c5, c6⟩ := h.c
  clear h
  go_enter Try.func29, Try.ntmps29
  go_wp2
  go_ret
  exact ⟨rfl, rfl⟩
theorem ovalue_any (h : OpC w ob dq nx out tt bb v val) :
    Calls Try.prog 30 #[.pointer (some ⟨ob, 0, none⟩)] w fun e w' => e = .returned (.int .u64 val) ∧ w = w' := by
  obtain ⟨c0, c1, c2, c3, c4, c5, c6⟩ := h.c
  clear h
  go_enter Try.func30, Try.ntmps30
  go_wp2
  go_ret
  exact ⟨rfl, rfl⟩
/-- Step of an operation that is over. -/
theorem dstep_over (h : OpC w ob dq nx out tt bb v val) (ho : 1 ≤ out) :
    Calls Try.prog 15 #[.pointer (some ⟨ob, 0, none⟩)] w fun e w' => e = .returned (.bool true) ∧ w = w' := by
  have ov := Lib.hid (over_any h)
  have hb : (out != 0) = true := by simp; omega
  rw [hb] at ov
  clear h ho hb
  go_enter Try.func15, Try.ntmps15
  go_wp2_with (go_at_call 12; (with_reducible refine (ov.out).mono ?_); rintro e w1 ⟨rfl, rfl⟩)
  go_ret
  exact ⟨rfl, rfl⟩
end

set_option maxHeartbeats 1000000 in
/-- Step of one that isn't: what its next method does. -/
theorem dstep_via (f : Nat) {w w0 : World} {ob dq hb rb b c : Nat} {nx' : Value} {tt bb v val out' tt' bb' v' val' : Int} {L' : List Int} {t' : Int}
    (eg : ∀ args w, (callFunc f args).run Try.prog w = .ok (.enter f args) w)
    (ho : OpC w ob dq (mv f ob) 0 tt bb v val)
    (hf : Calls Try.prog f #[.pointer (some ⟨ob, 0, none⟩)] w fun e w' => e = .returned (.tuple #[]) ∧ St w0 w' ob dq hb rb b c nx' out' tt' bb' v' val' L' t') :
    Calls Try.prog 15 #[.pointer (some ⟨ob, 0, none⟩)] w fun e w' => e = .returned (.bool (out' != 0)) ∧ St w0 w' ob dq hb rb b c nx' out' tt' bb' v' val' L' t' := by
  have ov := Lib.hid (over_false ho)
  have ov2 := Lib.hid (fun (w' : World) (h : St w0 w' ob dq hb rb b c nx' out' tt' bb' v' val' L' t') => over_any h.op)
  have hf' := Lib.hid hf
  obtain ⟨c0, c1, c2, c3, c4, c5, c6⟩ := ho.c
  unfold mv at c1
  clear ho hf
  go_enter Try.func15, Try.ntmps15
  go_wp2_with (first
    | (go_at_call 12; (with_reducible refine (ov.out).mono ?_); rintro e w1 ⟨rfl, rfl⟩)
    | (go_at_fn f; refine (hf'.out).mono ?_; rintro e w2 ⟨rfl, s2⟩)
    | (go_at_call 12; (with_reducible refine (ov2.out _ s2).mono ?_); rintro e w3 ⟨rfl, rfl⟩))
  go_ret
  exact ⟨rfl, s2⟩

/-- What its cells hold, where it stands so. -/
def Stands (ob : Nat) : OS → Value → Int → Int → Int → Prop
  | .push0 v, nx, _, _, z => nx = mv 39 ob ∧ z = v
  | .push1 v x, nx, _, y, z => nx = mv 51 ob ∧ y = x ∧ z = v
  | .push2 v x, nx, _, y, z => nx = mv 55 ob ∧ y = x ∧ z = v
  | .push3 x, nx, _, y, _ => nx = mv 59 ob ∧ y = x
  | .pop0, nx, _, _, _ => nx = mv 40 ob
  | .pop1 x, nx, _, y, _ => nx = mv 52 ob ∧ y = x
  | .pop2 x, nx, _, y, _ => nx = mv 56 ob ∧ y = x
  | .popN x, nx, _, y, _ => nx = mv 60 ob ∧ y = x
  | .popS x, nx, _, y, _ => nx = mv 61 ob ∧ y = x
  | .popF x, nx, a, y, _ => nx = mv 62 ob ∧ y = x ∧ a = dn x
  | .popR x v, nx, a, y, z => nx = mv 65 ob ∧ y = x ∧ a = dn x ∧ z = v
  | .popW x v, nx, _, y, z => nx = mv 67 ob ∧ y = x ∧ z = v
  | .st0, nx, _, _, _ => nx = mv 41 ob
  | .st1 t, nx, a, _, _ => nx = mv 53 ob ∧ a = t
  | .st2 t, nx, a, _, _ => nx = mv 57 ob ∧ a = t
  | .st3 t v, nx, a, _, z => nx = mv 63 ob ∧ a = t ∧ z = v
  | .over _ _, _, _, _, _ => True

/-- An operation of the deque at dq stands, at block ob, at s. -/
def OpIn (w : World) (ob dq : Nat) (s : OS) : Prop := ∃ nx a y z, OpC w ob dq nx s.o a y z s.x ∧ Stands ob s nx a y z
theorem OpIn.lt {w : World} {ob dq : Nat} {s : OS} (h : OpIn w ob dq s) : ob < w.heap.size := by obtain ⟨_, _, _, _, h, _⟩ := h; exact h.lt
theorem OpIn.keep {S : Nat → Prop} {w w' : World} {ob dq : Nat} {s : OS} (h : OpIn w ob dq s) (o : Only S w w') (h1 : ¬ S ob) : OpIn w' ob dq s := by
  obtain ⟨nx, a, y, z, h, hs⟩ := h
  exact ⟨nx, a, y, z, h.keep o h1, hs⟩
theorem OpIn.drewN {w : World} {ob dq : Nat} {s : OS} (h : OpIn w ob dq s) (n : Nat) : OpIn (w.drewN n) ob dq s := by
  obtain ⟨nx, a, y, z, h, hs⟩ := h
  exact ⟨nx, a, y, z, h.drewN n, hs⟩

/-- A deque, and its memory. -/
structure Rng (w : World) (dq hb rb b c : Nat) (L : List Int) (t : Int) : Prop where
  ring : DqAt w dq hb b c
  mem : MemAt w hb rb L t
  ne : ¬ Blk hb rb dq
  pc : 0 < c
  uc : c ≤ 64
  ub : b ≤ 1000
  len : b + 2 + c ≤ L.length
  t0 : 0 ≤ t
theorem Rng.keep {S : Nat → Prop} {w w' : World} {dq hb rb b c : Nat} {L : List Int} {t : Int} (h : Rng w dq hb rb b c L t) (o : Only S w w') (h1 : ¬ S dq) (h2 : ¬ S hb) (h3 : ¬ S rb) : Rng w' dq hb rb b c L t :=
  { h with ring := h.ring.keep o h1, mem := h.mem.keep o h2 h3 }
theorem Rng.nil {w w' : World} {dq hb rb b c : Nat} {L : List Int} {t : Int} (h : Rng w dq hb rb b c L t) (o : Only Nil w w') : Rng w' dq hb rb b c L t := h.keep o (fun h => h) (fun h => h) (fun h => h)
theorem Rng.drewN {w : World} {dq hb rb b c : Nat} {L : List Int} {t : Int} (h : Rng w dq hb rb b c L t) (n : Nat) : Rng (w.drewN n) dq hb rb b c L t :=
  { h with ring := h.ring.drewN n, mem := h.mem.drewN n }

theorem step_fin {w w' : World} {ob dq hb rb b c : Nat} {nx : Value} {out a y z val : Int} {L : List Int} {t : Int} (s : OS)
    (h : St w w' ob dq hb rb b c nx out a y z val L t) (ho : out = s.o) (hx : val = s.x) (hs : Stands ob s nx a y z) :
    OpIn w' ob dq s ∧ Rng w' dq hb rb b c L t ∧ Only (OB hb rb ob) w w' := by
  subst ho hx
  exact ⟨⟨nx, a, y, z, h.op, hs⟩, ⟨h.deq, h.mem, fun hh => h.n2 (.inl hh), h.pc, h.uc, h.ub, h.len, h.t0⟩, h.only⟩

set_option maxHeartbeats 4000000 in
/-- ONE STEP, WHEREVER THE OPERATION STANDS. -/
theorem dstep_any {w : World} {ob dq hb rb b c : Nat} {L : List Int} {t : Int} (s : OS) (hR : Rng w dq hb rb b c L t) (hO : OpIn w ob dq s) (n1 : ¬ Blk hb rb ob) (n2 : ob ≠ dq) (hok : s.ok) (hu : U64s L) (t1 : t < 4611686018427386000) :
    Calls Try.prog 15 #[.pointer (some ⟨ob, 0, none⟩)] w fun e w' =>
      e = .returned (.bool (stepS b c L s).isO) ∧ OpIn w' ob dq (stepS b c L s) ∧ Rng w' dq hb rb b c (stepL b c L s) (stepT s t) ∧ Only (OB hb rb ob) w w' := by
  have hok' := stepS_ok b c s hok hu
  obtain ⟨nx, a, y, z, hC, hs⟩ := hO
  have t2 : t + 1 < 4611686018427387000 := by omega
  have hS : St w w ob dq hb rb b c nx s.o a y z s.x L t :=
    ⟨hC, hR.ring, hR.mem, Only.refl _ w, n1, fun hh => hh.elim (fun h => hR.ne h) (fun h => n2 h.symm), hR.pc, hR.uc, hR.ub, hR.len, hR.t0, by omega⟩
  rw [← isO_ne _ hok']
  cases s <;> simp only [OS.o, OS.x] at hC hS <;> simp only [OS.ok] at hok
  case push0 v =>
    obtain ⟨rfl, rfl⟩ := hs
    have he : stepS b c L (.push0 z) = (.push1 z (L.getD (b + 1) 0)) := rfl
    rw [he] at hok' ⊢
    have hl : stepL b c L (.push0 z) = L := rfl
    rw [hl]
    refine (dstep_via 39 (enters_of Try.func39 (by kernel_rfl) rfl) hC (pushBottom_any hS t2)).mono ?_
    rintro e w' ⟨rfl, hh⟩
    exact ⟨rfl, step_fin (.push1 z (L.getD (b + 1) 0)) hh rfl rfl ⟨rfl, rfl, rfl⟩⟩
  case push1 v x =>
    obtain ⟨rfl, rfl, rfl⟩ := hs
    by_cases hx : (c : Int) ≤ dif y (L.getD b 0)
    · skip
      have he : stepS b c L (.push1 z y) = (.over 2 0) := if_pos hx
      rw [he] at hok' ⊢
      have hl : stepL b c L (.push1 z y) = L := rfl
      rw [hl]
      refine (dstep_via 51 (enters_of Try.func51 (by kernel_rfl) rfl) hC (pushTop_full hS t2 hx)).mono ?_
      rintro e w' ⟨rfl, hh⟩
      exact ⟨rfl, step_fin (.over 2 0) hh rfl rfl trivial⟩
    · skip
      have he : stepS b c L (.push1 z y) = (.push2 z y) := if_neg hx
      rw [he] at hok' ⊢
      have hl : stepL b c L (.push1 z y) = L := rfl
      rw [hl]
      refine (dstep_via 51 (enters_of Try.func51 (by kernel_rfl) rfl) hC (pushTop_on hS t2 hx)).mono ?_
      rintro e w' ⟨rfl, hh⟩
      exact ⟨rfl, step_fin (.push2 z y) hh rfl rfl ⟨rfl, rfl, rfl⟩⟩
  case push2 v x =>
    obtain ⟨rfl, rfl, rfl⟩ := hs
    have he : stepS b c L (.push2 z y) = (.push3 y) := rfl
    rw [he] at hok' ⊢
    have hl : stepL b c L (.push2 z y) = (L.set (slotAt b c y) z) := rfl
    rw [hl]
    refine (dstep_via 55 (enters_of Try.func55 (by kernel_rfl) rfl) hC (pushSlot_any hS t2 hok.2)).mono ?_
    rintro e w' ⟨rfl, hh⟩
    exact ⟨rfl, step_fin (.push3 y) hh rfl rfl ⟨rfl, rfl⟩⟩
  case push3 x =>
    obtain ⟨rfl, rfl⟩ := hs
    have he : stepS b c L (.push3 y) = (.over 1 0) := rfl
    rw [he] at hok' ⊢
    have hl : stepL b c L (.push3 y) = (L.set (b + 1) (up y)) := rfl
    rw [hl]
    refine (dstep_via 59 (enters_of Try.func59 (by kernel_rfl) rfl) hC (pushOn_any hS t2)).mono ?_
    rintro e w' ⟨rfl, hh⟩
    exact ⟨rfl, step_fin (.over 1 0) hh rfl rfl trivial⟩
  case pop0 =>
    subst hs
    have he : stepS b c L (.pop0) = (.pop1 (L.getD (b + 1) 0)) := rfl
    rw [he] at hok' ⊢
    have hl : stepL b c L (.pop0) = L := rfl
    rw [hl]
    refine (dstep_via 40 (enters_of Try.func40 (by kernel_rfl) rfl) hC (popBottom_any hS t2)).mono ?_
    rintro e w' ⟨rfl, hh⟩
    exact ⟨rfl, step_fin (.pop1 (L.getD (b + 1) 0)) hh rfl rfl ⟨rfl, rfl⟩⟩
  case pop1 x =>
    obtain ⟨rfl, rfl⟩ := hs
    have he : stepS b c L (.pop1 y) = (.pop2 y) := rfl
    rw [he] at hok' ⊢
    have hl : stepL b c L (.pop1 y) = (L.set (b + 1) (dn y)) := rfl
    rw [hl]
    refine (dstep_via 52 (enters_of Try.func52 (by kernel_rfl) rfl) hC (popClaim_any hS t2)).mono ?_
    rintro e w' ⟨rfl, hh⟩
    exact ⟨rfl, step_fin (.pop2 y) hh rfl rfl ⟨rfl, rfl⟩⟩
  case pop2 x =>
    obtain ⟨rfl, rfl⟩ := hs
    by_cases hx : dn y < L.getD b 0
    · skip
      have he : stepS b c L (.pop2 y) = (.popN y) := if_pos hx
      rw [he] at hok' ⊢
      have hl : stepL b c L (.pop2 y) = L := rfl
      rw [hl]
      refine (dstep_via 56 (enters_of Try.func56 (by kernel_rfl) rfl) hC (popTop_none hS t2 hx)).mono ?_
      rintro e w' ⟨rfl, hh⟩
      exact ⟨rfl, step_fin (.popN y) hh rfl rfl ⟨rfl, rfl⟩⟩
    · skip
      by_cases hx2 : L.getD b 0 < dn y
      · skip
        have he : stepS b c L (.pop2 y) = (.popS y) := (if_neg hx).trans (if_pos hx2)
        rw [he] at hok' ⊢
        have hl : stepL b c L (.pop2 y) = L := rfl
        rw [hl]
        refine (dstep_via 56 (enters_of Try.func56 (by kernel_rfl) rfl) hC (popTop_slot hS t2 hx2)).mono ?_
        rintro e w' ⟨rfl, hh⟩
        exact ⟨rfl, step_fin (.popS y) hh rfl rfl ⟨rfl, rfl⟩⟩
      · skip
        have he : stepS b c L (.pop2 y) = (.popF y) := (if_neg hx).trans (if_neg hx2)
        rw [he] at hok' ⊢
        have hl : stepL b c L (.pop2 y) = L := rfl
        rw [hl]
        refine (dstep_via 56 (enters_of Try.func56 (by kernel_rfl) rfl) hC (popTop_first hS t2 (by omega))).mono ?_
        rintro e w' ⟨rfl, hh⟩
        exact ⟨rfl, step_fin (.popF y) hh rfl rfl ⟨rfl, rfl, by omega⟩⟩
  case popN x =>
    obtain ⟨rfl, rfl⟩ := hs
    have he : stepS b c L (.popN y) = (.over 4 0) := rfl
    rw [he] at hok' ⊢
    have hl : stepL b c L (.popN y) = (L.set (b + 1) y) := rfl
    rw [hl]
    refine (dstep_via 60 (enters_of Try.func60 (by kernel_rfl) rfl) hC (popNone_any hS t2)).mono ?_
    rintro e w' ⟨rfl, hh⟩
    exact ⟨rfl, step_fin (.over 4 0) hh rfl rfl trivial⟩
  case popS x =>
    obtain ⟨rfl, rfl⟩ := hs
    have he : stepS b c L (.popS y) = (.over 1 (L.getD (slotAt b c (dn y)) 0)) := rfl
    rw [he] at hok' ⊢
    have hl : stepL b c L (.popS y) = L := rfl
    rw [hl]
    refine (dstep_via 61 (enters_of Try.func61 (by kernel_rfl) rfl) hC (popSlot_any hS t2)).mono ?_
    rintro e w' ⟨rfl, hh⟩
    exact ⟨rfl, step_fin (.over 1 (L.getD (slotAt b c (dn y)) 0)) hh rfl rfl trivial⟩
  case popF x =>
    obtain ⟨rfl, rfl, rfl⟩ := hs
    have he : stepS b c L (.popF y) = (.popR y (L.getD (slotAt b c (dn y)) 0)) := rfl
    rw [he] at hok' ⊢
    have hl : stepL b c L (.popF y) = L := rfl
    rw [hl]
    refine (dstep_via 62 (enters_of Try.func62 (by kernel_rfl) rfl) hC (popFirst_any hS t2 (dn_in y))).mono ?_
    rintro e w' ⟨rfl, hh⟩
    exact ⟨rfl, step_fin (.popR y (L.getD (slotAt b c (dn y)) 0)) hh rfl rfl ⟨rfl, rfl, rfl, rfl⟩⟩
  case popR x v =>
    obtain ⟨rfl, rfl, rfl, rfl⟩ := hs
    by_cases hx : L.getD b 0 = dn y
    · skip
      have he : stepS b c L (.popR y z) = (.popW y z) := if_neg (fun hz => absurd ((congrArg Prod.snd (if_pos hx)).symm.trans hz) (by decide : ¬ (1 : Int) = 0))
      rw [he] at hok' ⊢
      have hl : stepL b c L (.popR y z) = (doAcc L (.swap b (dn y) (up (dn y)))).1 := rfl
      rw [hl]
      refine (dstep_via 65 (enters_of Try.func65 (by kernel_rfl) rfl) hC (popRace_yes hS t2 hx)).mono ?_
      rintro e w' ⟨rfl, hh⟩
      exact ⟨rfl, step_fin (.popW y z) hh rfl rfl ⟨rfl, rfl, rfl⟩⟩
    · skip
      have he : stepS b c L (.popR y z) = (.popN y) := if_pos (congrArg Prod.snd (if_neg hx))
      rw [he] at hok' ⊢
      have hl : stepL b c L (.popR y z) = (doAcc L (.swap b (dn y) (up (dn y)))).1 := rfl
      rw [hl]
      refine (dstep_via 65 (enters_of Try.func65 (by kernel_rfl) rfl) hC (popRace_no hS t2 hx)).mono ?_
      rintro e w' ⟨rfl, hh⟩
      exact ⟨rfl, step_fin (.popN y) hh rfl rfl ⟨rfl, rfl⟩⟩
  case popW x v =>
    obtain ⟨rfl, rfl, rfl⟩ := hs
    have he : stepS b c L (.popW y z) = (.over 1 z) := rfl
    rw [he] at hok' ⊢
    have hl : stepL b c L (.popW y z) = (L.set (b + 1) y) := rfl
    rw [hl]
    refine (dstep_via 67 (enters_of Try.func67 (by kernel_rfl) rfl) hC (popWon_any hS t2)).mono ?_
    rintro e w' ⟨rfl, hh⟩
    exact ⟨rfl, step_fin (.over 1 z) hh rfl rfl trivial⟩
  case st0 =>
    subst hs
    have he : stepS b c L (.st0) = (.st1 (L.getD b 0)) := rfl
    rw [he] at hok' ⊢
    have hl : stepL b c L (.st0) = L := rfl
    rw [hl]
    refine (dstep_via 41 (enters_of Try.func41 (by kernel_rfl) rfl) hC (stealTop_any hS t2)).mono ?_
    rintro e w' ⟨rfl, hh⟩
    exact ⟨rfl, step_fin (.st1 (L.getD b 0)) hh rfl rfl ⟨rfl, rfl⟩⟩
  case st1 t =>
    obtain ⟨rfl, rfl⟩ := hs
    by_cases hx : L.getD (b + 1) 0 ≤ a
    · skip
      have he : stepS b c L (.st1 a) = (.over 4 0) := if_pos hx
      rw [he] at hok' ⊢
      have hl : stepL b c L (.st1 a) = L := rfl
      rw [hl]
      refine (dstep_via 53 (enters_of Try.func53 (by kernel_rfl) rfl) hC (stealBottom_none hS t2 hx)).mono ?_
      rintro e w' ⟨rfl, hh⟩
      exact ⟨rfl, step_fin (.over 4 0) hh rfl rfl trivial⟩
    · skip
      have he : stepS b c L (.st1 a) = (.st2 a) := if_neg hx
      rw [he] at hok' ⊢
      have hl : stepL b c L (.st1 a) = L := rfl
      rw [hl]
      refine (dstep_via 53 (enters_of Try.func53 (by kernel_rfl) rfl) hC (stealBottom_on hS t2 hx)).mono ?_
      rintro e w' ⟨rfl, hh⟩
      exact ⟨rfl, step_fin (.st2 a) hh rfl rfl ⟨rfl, rfl⟩⟩
  case st2 t =>
    obtain ⟨rfl, rfl⟩ := hs
    have he : stepS b c L (.st2 a) = (.st3 a (L.getD (slotAt b c a) 0)) := rfl
    rw [he] at hok' ⊢
    have hl : stepL b c L (.st2 a) = L := rfl
    rw [hl]
    refine (dstep_via 57 (enters_of Try.func57 (by kernel_rfl) rfl) hC (stealSlot_any hS t2 hok)).mono ?_
    rintro e w' ⟨rfl, hh⟩
    exact ⟨rfl, step_fin (.st3 a (L.getD (slotAt b c a) 0)) hh rfl rfl ⟨rfl, rfl, rfl⟩⟩
  case st3 t v =>
    obtain ⟨rfl, rfl, rfl⟩ := hs
    by_cases hx : L.getD b 0 = a
    · skip
      have he : stepS b c L (.st3 a z) = (.over 1 z) := if_neg (fun hz => absurd ((congrArg Prod.snd (if_pos hx)).symm.trans hz) (by decide : ¬ (1 : Int) = 0))
      rw [he] at hok' ⊢
      have hl : stepL b c L (.st3 a z) = (doAcc L (.swap b a (up a))).1 := rfl
      rw [hl]
      refine (dstep_via 63 (enters_of Try.func63 (by kernel_rfl) rfl) hC (stealSwap_yes hS t2 hx)).mono ?_
      rintro e w' ⟨rfl, hh⟩
      exact ⟨rfl, step_fin (.over 1 z) hh rfl rfl trivial⟩
    · skip
      have he : stepS b c L (.st3 a z) = (.over 6 0) := if_pos (congrArg Prod.snd (if_neg hx))
      rw [he] at hok' ⊢
      have hl : stepL b c L (.st3 a z) = (doAcc L (.swap b a (up a))).1 := rfl
      rw [hl]
      refine (dstep_via 63 (enters_of Try.func63 (by kernel_rfl) rfl) hC (stealSwap_no hS t2 hx)).mono ?_
      rintro e w' ⟨rfl, hh⟩
      exact ⟨rfl, step_fin (.over 6 0) hh rfl rfl trivial⟩
  case over o x =>
    refine (dstep_over hC (by have := hok.1; omega)).mono ?_
    rintro e w' ⟨rfl, rfl⟩
    exact ⟨by rw [isO_ne _ hok']; rfl, step_fin (.over o x) hS rfl rfl trivial⟩
end Go.Proofs.Ythebfnmihjbajaa.Dq
