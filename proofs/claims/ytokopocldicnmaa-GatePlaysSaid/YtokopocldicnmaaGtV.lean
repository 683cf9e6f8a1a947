/- A gate's operation wherever it stands, its step as one contract; an operation begun; a gate made. -/
import Derived.Test.YtokopocldicnmaaGtT
import Derived.Test.YtokopocldicnmaaRgM
namespace Go.Proofs.Ytokopocldicnmaa.Gt
open Go.RowKit

def Dir.mo : Dir → Int
  | .put _ => 3
  | .take => 4
def Dir.inn (i : Int) : Dir → Prop
  | .put v => i = v
  | .take => True
def OS.ph : OS → Int
  | .s0 _ => 0
  | .s1 _ _ => 1
  | .s2 _ _ => 2
  | .s3 d _ => d.mo
  | .s4 _ _ _ => 5
  | .over _ _ => 6
def Kind (d : Dir) (cn ld er mo i : Int) : Prop := cn = (d.cnt : Int) ∧ ld = d.lead ∧ er = (d.early : Int) ∧ mo = d.mo ∧ d.inn i
/-- What its cells hold, where it stands so. -/
def Stands : OS → Int → Int → Int → Int → Int → Int → Int → Prop
  | .s0 d, cn, ld, er, mo, _, i, o => Kind d cn ld er mo i ∧ o = 0
  | .s1 d t, cn, ld, er, mo, tk, i, o => Kind d cn ld er mo i ∧ tk = t ∧ o = 0
  | .s2 d t, cn, ld, er, mo, tk, i, o => Kind d cn ld er mo i ∧ tk = t ∧ o = 0
  | .s3 d t, cn, ld, er, mo, tk, i, o => Kind d cn ld er mo i ∧ tk = t ∧ o = 0
  | .s4 d t x, cn, ld, er, mo, tk, i, o => Kind d cn ld er mo i ∧ tk = t ∧ o = x
  | .over _ x, _, _, _, _, _, _, o => o = x
/-- An operation of the gate at dq stands, at block ob, at s. -/
def OpIn (w : World) (ob dq : Nat) (s : OS) : Prop := ∃ cn ld er mo tk i o, OpC w ob dq s.ph cn ld er mo tk i o s.o ∧ Stands s cn ld er mo tk i o
theorem OpIn.lt {w : World} {ob dq : Nat} {s : OS} (h : OpIn w ob dq s) : ob < w.heap.size := by obtain ⟨_, _, _, _, _, _, _, h, _⟩ := h; exact h.lt
theorem OpIn.keep {S : Nat → Prop} {w w' : World} {ob dq : Nat} {s : OS} (h : OpIn w ob dq s) (o : Only S w w') (h1 : ¬ S ob) : OpIn w' ob dq s := by
  obtain ⟨_, _, _, _, _, _, _, h, hs⟩ := h
  exact ⟨_, _, _, _, _, _, _, h.keep o h1, hs⟩
theorem OpIn.drewN {w : World} {ob dq : Nat} {s : OS} (h : OpIn w ob dq s) (n : Nat) : OpIn (w.drewN n) ob dq s := by
  obtain ⟨_, _, _, _, _, _, _, h, hs⟩ := h
  exact ⟨_, _, _, _, _, _, _, h.drewN n, hs⟩
theorem mo_ne (d : Dir) : (d.mo == 6) = false := by cases d <;> rfl
theorem ph_isO (s : OS) : (s.ph == 6) = s.isO := by
  cases s <;> first | rfl | exact mo_ne _

/-- A gate, and its memory. -/
structure Rng (w : World) (dq hb rb b c : Nat) (L : List Int) (t : Int) : Prop where
  ring : GtAt w dq hb b c
  mem : MemAt w hb rb L t
  ne : ¬ Blk hb rb dq
  pc : 0 < c
  uc : c ≤ 64
  ub : b ≤ 1000
  len : b + 2 + 2 * c ≤ L.length
  t0 : 0 ≤ t
theorem Rng.keep {S : Nat → Prop} {w w' : World} {dq hb rb b c : Nat} {L : List Int} {t : Int} (h : Rng w dq hb rb b c L t) (o : Only S w w') (h1 : ¬ S dq) (h2 : ¬ S hb) (h3 : ¬ S rb) : Rng w' dq hb rb b c L t :=
  { h with ring := h.ring.keep o h1, mem := h.mem.keep o h2 h3 }
theorem Rng.nil {w w' : World} {dq hb rb b c : Nat} {L : List Int} {t : Int} (h : Rng w dq hb rb b c L t) (o : Only Nil w w') : Rng w' dq hb rb b c L t := h.keep o (fun h => h) (fun h => h) (fun h => h)
theorem Rng.drewN {w : World} {dq hb rb b c : Nat} {L : List Int} {t : Int} (h : Rng w dq hb rb b c L t) (n : Nat) : Rng (w.drewN n) dq hb rb b c L t :=
  { h with ring := h.ring.drewN n, mem := h.mem.drewN n }

theorem step_fin {w w' : World} {ob dq hb rb b c : Nat} {ph cn ld er mo tk i o oc : Int} {L : List Int} {t : Int} (s : OS)
    (h : St w w' ob dq hb rb b c ph cn ld er mo tk i o oc L t) (ho : oc = s.o) (hx : ph = s.ph) (hs : Stands s cn ld er mo tk i o) :
    OpIn w' ob dq s ∧ Rng w' dq hb rb b c L t ∧ Only (OB hb rb ob) w w' := by
  subst ho hx
  exact ⟨⟨_, _, _, _, _, _, _, h.op, hs⟩, ⟨h.deq, h.mem, fun hh => h.n2 (.inl hh), h.pc, h.uc, h.ub, h.len, h.t0⟩, h.only⟩

theorem cnt_sum (b : Nat) (d : Dir) : (b : Int) + (d.cnt : Int) = ((b + d.cnt : Nat) : Int) := by omega

set_option maxHeartbeats 4000000 in
/-- ONE STEP, WHEREVER THE OPERATION STANDS. -/
theorem dstep_any {w : World} {ob dq hb rb b c : Nat} {L : List Int} {t : Int} (s : OS) (hR : Rng w dq hb rb b c L t) (hO : OpIn w ob dq s) (n1 : ¬ Blk hb rb ob) (n2 : ob ≠ dq) (hok : s.ok) (t1 : t < 4611686018427386000) :
    Calls Try.prog 28 #[.pointer (some ⟨ob, 0, none⟩)] w fun e w' =>
      e = .returned (.bool (stepS b c L s).isO) ∧ OpIn w' ob dq (stepS b c L s) ∧ Rng w' dq hb rb b c (stepL b c L s) (stepT s t) ∧ Only (OB hb rb ob) w w' := by
  obtain ⟨cn, ld, er, mo, tk, i, o, hC, hs⟩ := hO
  have t2 : t + 1 < 4611686018427387000 := by omega
  have hS : St w w ob dq hb rb b c s.ph cn ld er mo tk i o s.o L t :=
    ⟨hC, hR.ring, hR.mem, Only.refl _ w, n1, fun hh => hh.elim (fun h => hR.ne h) (fun h => n2 h.symm), hR.pc, hR.uc, hR.ub, hR.len, hR.t0, by omega⟩
  have hlen := hR.len
  have hpc := hR.pc
  cases s with
  | s0 d =>
    obtain ⟨⟨rfl, rfl, rfl, rfl, hi⟩, rfl⟩ := hs
    have hd := cnt_lt d
    refine (step_0 hS (b + d.cnt) (cnt_sum b d) (by omega) (by omega) (by omega) t2).mono ?_
    rintro e w' ⟨rfl, hh⟩
    exact ⟨rfl, step_fin (.s1 d (L.getD (b + d.cnt) 0)) hh rfl rfl ⟨⟨rfl, rfl, rfl, rfl, hi⟩, rfl, rfl⟩⟩
  | s1 d x =>
    obtain ⟨⟨rfl, rfl, rfl, rfl, hi⟩, rfl, rfl⟩ := hs
    have hl : stepL b c L (.s1 d tk) = L := rfl
    rw [hl]
    by_cases h1 : due c d.lead tk < L.getD (turnAt b c tk) 0
    · have he : stepS b c L (.s1 d tk) = .s0 d := if_pos h1
      rw [he]
      refine (step_1_ahead hS hok.2 h1 t2).mono ?_
      rintro e w' ⟨rfl, hh⟩
      exact ⟨rfl, step_fin (.s0 d) hh rfl rfl ⟨⟨rfl, rfl, rfl, rfl, hi⟩, rfl⟩⟩
    · by_cases h2 : L.getD (turnAt b c tk) 0 < due c d.lead tk
      · have he : stepS b c L (.s1 d tk) = .over d.early 0 := (if_neg h1).trans (if_pos h2)
        rw [he]
        refine (step_1_behind hS hok.2 h2 t2).mono ?_
        rintro e w' ⟨rfl, hh⟩
        exact ⟨rfl, step_fin (.over d.early 0) hh rfl rfl rfl⟩
      · have he : stepS b c L (.s1 d tk) = .s2 d tk := (if_neg h1).trans (if_neg h2)
        rw [he]
        refine (step_1_on hS hok.2 (by omega) t2).mono ?_
        rintro e w' ⟨rfl, hh⟩
        exact ⟨rfl, step_fin (.s2 d tk) hh rfl rfl ⟨⟨rfl, rfl, rfl, rfl, hi⟩, rfl, rfl⟩⟩
  | s2 d x =>
    obtain ⟨⟨rfl, rfl, rfl, rfl, hi⟩, rfl, rfl⟩ := hs
    have hd := cnt_lt d
    have hl : stepL b c L (.s2 d tk) = (doAcc L (.swap (b + d.cnt) tk (up tk))).1 := rfl
    rw [hl]
    by_cases h1 : L.getD (b + d.cnt) 0 = tk
    · have he : stepS b c L (.s2 d tk) = .s3 d tk := if_neg (fun hz => absurd ((congrArg Prod.snd (if_pos h1)).symm.trans hz) (by decide : ¬ (1 : Int) = 0))
      rw [he]
      refine (step_2_yes hS (b + d.cnt) (cnt_sum b d) (by omega) (by omega) (by omega) h1 (mo_ne d) t2).mono ?_
      rintro e w' ⟨rfl, hh⟩
      exact ⟨rfl, step_fin (.s3 d tk) hh rfl rfl ⟨⟨rfl, rfl, rfl, rfl, hi⟩, rfl, rfl⟩⟩
    · have he : stepS b c L (.s2 d tk) = .s0 d := if_pos (congrArg Prod.snd (if_neg h1))
      rw [he]
      refine (step_2_no hS (b + d.cnt) (cnt_sum b d) (by omega) (by omega) (by omega) h1 t2).mono ?_
      rintro e w' ⟨rfl, hh⟩
      exact ⟨rfl, step_fin (.s0 d) hh rfl rfl ⟨⟨rfl, rfl, rfl, rfl, hi⟩, rfl⟩⟩
  | s3 d x =>
    obtain ⟨⟨rfl, rfl, rfl, rfl, hi⟩, rfl, rfl⟩ := hs
    cases d with
    | put v =>
      obtain rfl : i = v := hi
      refine (step_3 hS hok.2 t2).mono ?_
      rintro e w' ⟨rfl, hh⟩
      exact ⟨rfl, step_fin (.s4 (.put i) tk 0) hh rfl rfl ⟨⟨rfl, rfl, rfl, rfl, rfl⟩, rfl, rfl⟩⟩
    | take =>
      refine (step_4 hS hok.2 t2).mono ?_
      rintro e w' ⟨rfl, hh⟩
      exact ⟨rfl, step_fin (.s4 .take tk (L.getD (turnAt b c tk + 1) 0)) hh rfl rfl ⟨⟨rfl, rfl, rfl, rfl, trivial⟩, rfl, rfl⟩⟩
  | s4 d x y =>
    obtain ⟨⟨rfl, rfl, rfl, rfl, hi⟩, rfl, rfl⟩ := hs
    refine (step_5 hS hok.2.1 t2).mono ?_
    rintro e w' ⟨rfl, hh⟩
    exact ⟨rfl, step_fin (.over 1 o) hh rfl rfl rfl⟩
  | over n x =>
    refine (step_over hC).mono ?_
    rintro e w' ⟨rfl, rfl⟩
    exact ⟨rfl, step_fin (.over n x) hS rfl rfl hs⟩

/-- What an operation tells. -/
theorem overO {w : World} {ob dq : Nat} {s : OS} (h : OpIn w ob dq s) :
    Calls Try.prog 24 #[.pointer (some ⟨ob, 0, none⟩)] w fun e w' => e = .returned (.bool s.isO) ∧ w = w' := by
  obtain ⟨_, _, _, _, _, _, _, h, _⟩ := h
  rw [← ph_isO]; exact gover_any h
theorem outcomeO {w : World} {ob dq : Nat} {s : OS} (h : OpIn w ob dq s) :
    Calls Try.prog 68 #[.pointer (some ⟨ob, 0, none⟩)] w fun e w' => e = .returned (.int .i64 s.o) ∧ w = w' := by
  obtain ⟨_, _, _, _, _, _, _, h, _⟩ := h
  exact goutcome_any h
theorem valueO {w : World} {ob dq : Nat} {s : OS} (h : OpIn w ob dq s) :
    Calls Try.prog 69 #[.pointer (some ⟨ob, 0, none⟩)] w fun e w' => e = .returned (.int .u64 s.x) ∧ w = w' := by
  obtain ⟨_, _, _, _, _, _, _, h, hs⟩ := h
  cases s with
  | over n x => obtain rfl := hs; exact gvalue_over h
  | _ => exact gvalue_not h (ph_isO _)

theorem op_new (w : World) (dq : Nat) (cn ld er mo v : Int) : OpC (w.alloc (.cells (opCells dq 0 cn ld er mo 0 v 0 0).toArray 107)) w.heap.size dq 0 cn ld er mo 0 v 0 0 := ⟨heap_new w _⟩
set_option maxHeartbeats 1000000 in
theorem dput_any (w : World) (dq : Nat) (v : Int) :
    Calls Try.prog 26 #[.pointer (some ⟨dq, 0, none⟩), .int .u64 v] w fun e w' => e = .returned (.pointer (some ⟨w.heap.size, 0, none⟩)) ∧ OpIn w' w.heap.size dq (.s0 (.put v)) ∧ Only Nil w w' ∧ w.heap.size < w'.heap.size := by
  have n' := Lib.hid (op_new w dq 0 0 2 3 v)
  have o' := Lib.hid ((Only.refl Nil w).alloc (.cells (opCells dq 0 0 0 2 3 0 v 0 0).toArray 107))
  go_enter Try.func26, Try.ntmps26
  go_wp2
  go_ret
  exact ⟨rfl, ⟨_, _, _, _, _, _, _, n'.out, ⟨⟨rfl, rfl, rfl, rfl, rfl⟩, rfl⟩⟩, o'.out, n'.out.lt⟩
set_option maxHeartbeats 1000000 in
theorem dtake_any (w : World) (dq : Nat) :
    Calls Try.prog 25 #[.pointer (some ⟨dq, 0, none⟩)] w fun e w' => e = .returned (.pointer (some ⟨w.heap.size, 0, none⟩)) ∧ OpIn w' w.heap.size dq (.s0 .take) ∧ Only Nil w w' ∧ w.heap.size < w'.heap.size := by
  have n' := Lib.hid (op_new w dq 1 1 4 4 0)
  have o' := Lib.hid ((Only.refl Nil w).alloc (.cells (opCells dq 0 1 1 4 4 0 0 0 0).toArray 107))
  go_enter Try.func25, Try.ntmps25
  go_wp2
  go_ret
  exact ⟨rfl, ⟨_, _, _, _, _, _, _, n'.out, ⟨⟨rfl, rfl, rfl, rfl, trivial⟩, rfl⟩⟩, o'.out, n'.out.lt⟩

theorem gsize_any (w : World) (x y : Int)
    (h : Calls Try.prog 73 #[.int .i64 x] w fun e w' => e = .returned (.int .i64 y) ∧ w = w') :
    Calls Try.prog 36 #[.int .i64 x] w fun e w' => e = .returned (.int .i64 y) ∧ w = w' := by
  have sz := Lib.hid h
  clear h
  go_enter Try.func36, Try.ntmps36
  go_wp2_with (go_at_call 73; refine (sz.out).mono ?_; rintro e w1 ⟨rfl, rfl⟩)
  go_ret
  exact ⟨rfl, rfl⟩
section
variable {w : World} {dq hb rb b c : Nat} {L : List Int} {t : Int}
set_option maxHeartbeats 1000000 in
theorem gmake_yes (h : MemAt w hb rb L t) (t0 : 0 ≤ t) (t1 : t < 4611686018427380000) (hc : 0 < c) (hc2 : c ≤ 64) (hb1 : b ≤ 1000) (hL : b + 2 + 2 * c ≤ L.length) (hL2 : L.length ≤ 65536) :
    Calls Try.prog 21 #[.pointer (some ⟨hb, 0, none⟩), .int .i64 (b : Int), .int .i64 (c : Int)] w fun e w' => ∃ g,
      e = .returned (.tuple #[.pointer (some ⟨g, 0, none⟩), .int .i64 0]) ∧ w.heap.size ≤ g ∧ Rng w' g hb rb b c (layL L b c) (t + 2 + 2 * (c : Int)) ∧ Only (Blk hb rb) w w' ∧ g < w'.heap.size := by
  have sz := Lib.hid (gsize_any w (c : Int) (2 + 2 * (c : Int)) (rgsize_yes w c hc hc2))
  have at' := Lib.hid (at_yes h b (2 + 2 * (c : Int)) (by omega) (by omega) hL2 (by omega))
  unfold spanV at at'
  have mk := Lib.hid (fun w2 (o : Only Nil w w2) => rmake_yes (h.keep o (fun z => z) (fun z => z)) t0 t1 hc hc2 hb1 hL hL2)
  have hh := Lib.hid (And.intro h (And.intro hc (And.intro hc2 (And.intro hb1 (And.intro hL t0)))))
  have g3 : (c : Int) ≤ 64 := by omega
  clear h t0 t1 hc hc2 hb1 hL hL2
  go_enter Try.func21, Try.ntmps21
  go_wp2_with (first
    | (go_at_call 36; refine (sz.out).mono ?_; rintro e w1 ⟨rfl, rfl⟩)
    | (go_at_call 57; refine at'.out.mono ?_; rintro e w2 ⟨rfl, o2⟩; obtain ⟨u0, u1⟩ := two_new w2 (.pointer (some ⟨hb, 0, none⟩)) (.int .i64 (b : Int)) 97; have oA := Lib.hid (o2.alloc (.cells #[.pointer (some ⟨hb, 0, none⟩), .int .i64 (b : Int)] 97)))
    | (go_at_call 58; (with_reducible refine (mk.out _ oA.out).mono ?_); rintro e w3 ⟨g3_, rfl, r3⟩; have q3 := r3; have bb := (r3.out.2.block w2.heap.size (by simp) (fun z => by have := hh.out.1.lt_hb; have := hh.out.1.lt_rb; have := o2.size; rcases z with z | z <;> omega)).trans (heap_new w2 (.cells #[.pointer (some ⟨hb, 0, none⟩), .int .i64 (b : Int)] 97)); have v0 : w3.cell? ⟨w2.heap.size, 0, none⟩ = some (.pointer (some ⟨hb, 0, none⟩)) := (by simp [World.cell?, bb]); have v1 : w3.cell? ⟨w2.heap.size, 1, none⟩ = some (.int .i64 (b : Int)) := (by simp [World.cell?, bb])))
  have fin : Hid (Rng (w3.alloc (.cells #[.pointer (some ⟨hb, 0, none⟩), .int .i64 (b : Int), .int .i64 (c : Int)] 104)) w3.heap.size hb rb b c (layL L b c) (t + 2 + 2 * (c : Int)) ∧ Only (Blk hb rb) w (w3.alloc (.cells #[.pointer (some ⟨hb, 0, none⟩), .int .i64 (b : Int), .int .i64 (c : Int)] 104)) ∧ w.heap.size ≤ w3.heap.size) := Lib.hid (by
    obtain ⟨h, hc, hc2, hb1, hL, t0⟩ := hh.out
    refine ⟨⟨⟨heap_new w3 _⟩, q3.out.1.alloc _, fun z => by have := q3.out.1.lt_hb; have := q3.out.1.lt_rb; rcases z with z | z <;> omega, hc, hc2, hb1, by rw [layL_length]; exact hL, by omega⟩, ((oA.out.nilTo _).trans q3.out.2).alloc _, ?_⟩
    have := oA.out.size; have := q3.out.2.size; omega)
  clear bb v0 v1 u0 u1 r3 q3 o2
  go_ret2
  exact ⟨_, rfl, fin.out.2.2, fin.out.1, fin.out.2.1, by simp⟩
end
end Go.Proofs.Ytokopocldicnmaa.Gt
