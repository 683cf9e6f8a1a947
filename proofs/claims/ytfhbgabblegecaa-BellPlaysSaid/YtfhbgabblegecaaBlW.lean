/- An operation of the bell that is done at once; what a law's walk carries along. -/
import Derived.Test.YtfhbgabblegecaaBlM
namespace Go.Proofs.Ytfhbgabblegecaa.Bl
open Go.RowKit

/-- k steps, and the operation is over. -/
inductive Runs (b n : Nat) : Nat → List Int → OS → List Int → OS → Prop
  | over {L : List Int} {s : OS} (h : s.isO = true) : Runs b n 0 L s L s
  | step {k : Nat} {L L' : List Int} {s s' : OS} (h : s.isO = false) (hr : Runs b n k (stepL b L s) (stepS b n L s) L' s') : Runs b n (k + 1) L s L' s'
theorem Runs.isO {b n k : Nat} {L L' : List Int} {s s' : OS} (h : Runs b n k L s L' s') : s'.isO = true := by
  induction h with
  | over h => exact h
  | step _ _ ih => exact ih
theorem Runs.ok {b n k : Nat} {L L' : List Int} {s s' : OS} (h : Runs b n k L s L' s') (hs : s.ok n) : s'.ok n := by
  induction h with
  | over h => exact hs
  | step _ _ ih => exact ih (stepS_ok _ _ _ _ hs)
theorem Runs.apart {b n k : Nat} {L L' : List Int} {s s' : OS} {S : Nat → Prop} (h : Runs b n k L s L' s') (hs : s.apart S) : s'.apart S := by
  induction h with
  | over h => exact hs
  | step _ _ ih => exact ih (stepS_apart _ _ _ _ _ hs)
theorem Runs.length {b n k : Nat} {L L' : List Int} {s s' : OS} (h : Runs b n k L s L' s') : L'.length = L.length := by
  induction h with
  | over h => rfl
  | step _ _ ih => rw [ih, stepL_length]

section
variable {w : World} {ob rg hb rb b c : Nat} {L L' : List Int} {t : Int} {s s' : OS} {n : Nat}
set_option maxHeartbeats 2000000 in
/-- done: the steps that there are. -/
theorem done_any (hR : Rng w rg hb rb b c L t) (hO : OpIn w ob rg s) (n1 : ¬ Blk hb rb ob) (n2 : ob ≠ rg) (hok : s.ok c) (hu : s.apart (OB hb rb ob)) (hr : Runs b c n L s L' s') (hn : n < 100) (t1 : t < 4611686018427380000) :
    Calls Try.prog 36 #[.pointer (some ⟨ob, 0, none⟩)] w fun e w' =>
      e = .returned (.tuple #[.int .i64 s'.o, .int .i64 s'.x, .int .i64 (n : Int)]) ∧ Rng w' rg hb rb b c L' (t + (n : Int)) ∧ OpIn w' ob rg s' ∧ Only (OB hb rb ob) w w' := by
  have hR' := Lib.hid hR
  have hO' := Lib.hid hO
  have m1 := Lib.hid n1
  have m2 := Lib.hid n2
  have tt := Lib.hid t1
  have hs := Lib.hid hok
  have hU := Lib.hid hu
  have hr' := Lib.hid hr
  have hn' := Lib.hid hn
  clear hR hO n1 n2 hok hr t1 hn hu
  go_enter Try.func36, Try.ntmps36
  go_wp2
  go_loopw [5] (fun s3 wr => ∃ k : Nat, k ≤ n ∧ s3 = .int .i64 (k : Int) ∧ Hid (∃ L1 s1, Runs b c (n - k) L1 s1 L' s' ∧ s1.ok c ∧ s1.apart (OB hb rb ob) ∧ Rng wr rg hb rb b c L1 (t + (k : Int)) ∧ OpIn wr ob rg s1 ∧ Only (OB hb rb ob) w wr))
    (fun s3 _ => n - (intOf s3).toNat)
  case atStart => exact ⟨0, Nat.zero_le _, rfl, Lib.hid ⟨L, s, hr'.out, hs.out, hU.out, by simpa using hR'.out, hO'.out, Only.refl _ _⟩⟩
  case round =>
    obtain ⟨k, hk, rfl, hh⟩ := hrel
    obtain ⟨L1, s1, r1, k1, u1, R1, Q1, O1⟩ := hh.out
    have hk100 : (k : Int) < 100 := by have := hn'.out; omega
    have ov := Lib.hid (overO Q1 k1)
    generalize hm : n - k = m at r1
    have hm' := Lib.hid hm
    clear hm
    cases r1 with
    | over h0 =>
      rw [h0] at ov
      have hkn : k = n := by have := hm'.out; omega
      have oc := Lib.hid (outcomeO Q1)
      have vc := Lib.hid (whoO Q1)
      have R1' := Lib.hid R1
      have Q1' := Lib.hid Q1
      have O1' := Lib.hid O1
      subst hkn
      clear hk R1 Q1 O1 k1 u1 h0
      go_wp2_with (first
        | (go_at_call 17; refine (ov.out).mono ?_; rintro e w1 ⟨rfl, rfl⟩)
        | (go_at_call 32; refine (oc.out).mono ?_; rintro e w1 ⟨rfl, rfl⟩)
        | (go_at_call 33; refine (vc.out).mono ?_; rintro e w1 ⟨rfl, rfl⟩))
      go_ret3
      exact ⟨rfl, R1'.out, Q1'.out, O1'.out⟩
    | @step m3 _ _ _ _ h0 r2 =>
      rw [h0] at ov
      have st := Lib.hid (dstep_any s1 R1 Q1 m1.out m2.out k1 u1 (by have := tt.out; omega))
      have e1 : stepT s1 (t + (k : Int)) = t + ((k + 1 : Nat) : Int) := by unfold stepT; rw [h0]; simp; omega
      rw [e1] at st
      have r2' := Lib.hid r2
      have k2 := Lib.hid (stepS_ok b c L1 s1 k1)
      have u2 := Lib.hid (stepS_apart b c L1 s1 _ u1)
      have O1' := Lib.hid O1
      clear R1 Q1 O1 k1 u1 h0 e1 r2
      go_wp2_with (first
        | (go_at_call 17; refine (ov.out).mono ?_; rintro e w1 ⟨rfl, rfl⟩)
        | (go_at_call 20; refine (st.out).mono ?_; rintro e w2 ⟨rfl, Q2, R2, O2⟩))
      have hh2 := Lib.hid (And.intro Q2 (And.intro R2 O2))
      clear Q2 R2 O2
      go_roundw
      case rel => exact ⟨k + 1, by have := hm'.out; omega, by go_num, Lib.hid ⟨_, _, (show n - (k + 1) = m3 by have := hm'.out; omega) ▸ r2'.out, k2.out, u2.out, hh2.out.2.1, hh2.out.1, O1'.out.trans hh2.out.2.2⟩⟩
      case measure => have := hm'.out; simp [intOf]; omega
end

/-- What a law's walk carries along: a bell of its own, and nothing older has turned. -/
structure Lw (w0 w : World) (rg hb rb b c : Nat) (L : List Int) (t : Int) : Prop where
  rng : Rng w rg hb rb b c L t
  only : Only Nil w0 w
  g1 : w0.heap.size ≤ hb
  g2 : w0.heap.size ≤ rb
  g3 : w0.heap.size ≤ rg
  tt : t < 4611686018427000000
/-- An operation of it, at a block of its own. -/
structure Op1 (w0 w : World) (ob rg hb rb c : Nat) (s : OS) : Prop where
  op : OpIn w ob rg s
  n1 : ¬ Blk hb rb ob
  n2 : ob ≠ rg
  g : w0.heap.size ≤ ob
  ok : s.ok c
  ap : s.apart (OB hb rb ob)

section
variable {w0 w w' : World} {ob rg hb rb b c n : Nat} {L L' : List Int} {t : Int} {s s' : OS}
theorem Lw.nil (h : Lw w0 w rg hb rb b c L t) (o : Only Nil w w') : Lw w0 w' rg hb rb b c L t := { h with rng := h.rng.nil o, only := h.only.trans o }
theorem Op1.nil (h : Op1 w0 w ob rg hb rb c s) (o : Only Nil w w') : Op1 w0 w' ob rg hb rb c s := { h with op := h.op.nil o }
/-- Another operation's doing leaves it as it is. -/
theorem Op1.other (h : Op1 w0 w ob rg hb rb c s) {ob' : Nat} (o : Only (OB hb rb ob') w w') (hne : ob ≠ ob') (ha : s.apart (OB hb rb ob')) : Op1 w0 w' ob rg hb rb c s := { h with op := h.op.keep o (fun hh => hh.elim h.n1 hne) ha }
theorem Lw.step (h : Lw w0 w rg hb rb b c L t) (q : Op1 w0 w ob rg hb rb c s) (t2 : t + 1 < 4611686018427000000) :
    Calls Try.prog 20 #[.pointer (some ⟨ob, 0, none⟩)] w fun e w' =>
      e = .returned (.bool (stepS b c L s).isO) ∧ Lw w0 w' rg hb rb b c (stepL b L s) (stepT s t) ∧ Op1 w0 w' ob rg hb rb c (stepS b c L s) ∧ Only (OB hb rb ob) w w' := by
  refine (dstep_any s h.rng q.op q.n1 q.n2 q.ok q.ap (by omega)).mono ?_
  rintro e w1 ⟨rfl, Q, R, O⟩
  refine ⟨rfl, { h with rng := R, only := h.only.then O ?_, tt := ?_ }, { q with op := Q, ok := stepS_ok _ _ _ _ q.ok, ap := stepS_apart _ _ _ _ _ q.ap }, O⟩
  · intro i hi hlt
    have := h.g1; have := h.g2; have := q.g
    rcases hi with (e | e) | e <;> omega
  · unfold stepT; split
    · exact h.tt
    · exact t2
theorem Lw.done (h : Lw w0 w rg hb rb b c L t) (q : Op1 w0 w ob rg hb rb c s) (hr : Runs b c n L s L' s') (hn : n < 100) (t2 : t + (n : Int) < 4611686018427000000) :
    Calls Try.prog 36 #[.pointer (some ⟨ob, 0, none⟩)] w fun e w' =>
      e = .returned (.tuple #[.int .i64 s'.o, .int .i64 s'.x, .int .i64 (n : Int)]) ∧ Lw w0 w' rg hb rb b c L' (t + (n : Int)) ∧ Op1 w0 w' ob rg hb rb c s' ∧ Only (OB hb rb ob) w w' := by
  refine (done_any h.rng q.op q.n1 q.n2 q.ok q.ap hr hn (by have := h.tt; omega)).mono ?_
  rintro e w1 ⟨rfl, R, Q, O⟩
  refine ⟨rfl, { h with rng := R, only := h.only.then O ?_, tt := t2 }, { q with op := Q, ok := hr.ok q.ok, ap := hr.apart q.ap }, O⟩
  intro i hi hlt
  have := h.g1; have := h.g2; have := q.g
  rcases hi with (e | e) | e <;> omega
theorem Lw.keep {S : Nat → Prop} (h : Lw w0 w rg hb rb b c L t) (o : Only S w w') (h1 : ¬ S rg) (h2 : ¬ S hb) (h3 : ¬ S rb) (hS : ∀ k, S k → w0.heap.size ≤ k) : Lw w0 w' rg hb rb b c L t :=
  { h with rng := h.rng.keep o h1 h2 h3, only := h.only.then o (fun i hi hlt => by have := hS i hi; omega) }
theorem Op1.keep {S : Nat → Prop} (h : Op1 w0 w ob rg hb rb c s) (o : Only S w w') (h1 : ¬ S ob) (h2 : s.apart S) : Op1 w0 w' ob rg hb rb c s := { h with op := h.op.keep o h1 h2 }
theorem Lw.ring (h : Lw w0 w rg hb rb b c L t) :
    Calls Try.prog 31 #[.pointer (some ⟨rg, 0, none⟩)] w fun e w' => e = .returned (.pointer (some ⟨w.heap.size, 0, none⟩)) ∧ Lw w0 w' rg hb rb b c L t ∧ Op1 w0 w' w.heap.size rg hb rb c (.look 0) ∧ Only Nil w w' ∧ w.heap.size < w'.heap.size := by
  refine (dring_any w rg).mono ?_
  rintro e w1 ⟨rfl, Q, O, Z⟩
  refine ⟨rfl, h.nil O, ⟨Q, fun hh => ?_, ?_, h.only.size, h.rng.pc, trivial⟩, O, Z⟩
  · have := h.rng.mem.lt_hb; have := h.rng.mem.lt_rb; rcases hh with e | e <;> omega
  · have := h.rng.ring.lt; omega
theorem bgn_ok (k : Kd) (n : Nat) (v : Int) (x : Nat) : (bgn k n v x).ok n := by
  unfold bgn; split
  · rename_i h; show v.toNat < n; omega
  · show 1 ≤ 4; omega
theorem bgn_apart (k : Kd) (n : Nat) (v : Int) (x : Nat) (S : Nat → Prop) (h0 : ¬ S x) (h1 : ¬ S (x + 1)) : (bgn k n v x).apart S := by
  unfold bgn; split
  · exact ⟨h0, h1⟩
  · trivial
theorem Lw.new2 (h : Lw w0 w rg hb rb b c L t) {k : Kd} {v : Int} (Q : OpIn w' (w.heap.size + 2) rg (bgn k c v w.heap.size)) (O : Only Nil w w') : Lw w0 w' rg hb rb b c L t ∧ Op1 w0 w' (w.heap.size + 2) rg hb rb c (bgn k c v w.heap.size) := by
  have a1 := h.rng.mem.lt_hb; have a2 := h.rng.mem.lt_rb; have a3 := h.rng.ring.lt
  have a4 := h.only.size
  refine ⟨h.nil O, ⟨Q, fun hh => ?_, by omega, by omega, bgn_ok _ _ _ _, bgn_apart _ _ _ _ _ (fun hh => ?_) (fun hh => ?_)⟩⟩
  · rcases hh with e | e <;> omega
  · rcases hh with (e | e) | e <;> omega
  · rcases hh with (e | e) | e <;> omega
theorem Lw.sleep (h : Lw w0 w rg hb rb b c L t) (v : Int) :
    Calls Try.prog 34 #[.pointer (some ⟨rg, 0, none⟩), .int .i64 v] w fun e w' => e = .returned (.pointer (some ⟨w.heap.size + 2, 0, none⟩)) ∧ Lw w0 w' rg hb rb b c L t ∧ Op1 w0 w' (w.heap.size + 2) rg hb rb c (bgn .sleep c v w.heap.size) ∧ Only Nil w w' ∧ w.heap.size + 2 < w'.heap.size := by
  refine (dsleep_any h.rng.ring v).mono ?_
  rintro e w1 ⟨rfl, Q, O, Z⟩
  exact ⟨rfl, (h.new2 Q O).1, (h.new2 Q O).2, O, Z⟩
theorem Lw.up (h : Lw w0 w rg hb rb b c L t) (v : Int) :
    Calls Try.prog 47 #[.pointer (some ⟨rg, 0, none⟩), .int .i64 v] w fun e w' => e = .returned (.pointer (some ⟨w.heap.size + 2, 0, none⟩)) ∧ Lw w0 w' rg hb rb b c L t ∧ Op1 w0 w' (w.heap.size + 2) rg hb rb c (bgn .up c v w.heap.size) ∧ Only Nil w w' ∧ w.heap.size + 2 < w'.heap.size := by
  refine (dup_any h.rng.ring v).mono ?_
  rintro e w1 ⟨rfl, Q, O, Z⟩
  exact ⟨rfl, (h.new2 Q O).1, (h.new2 Q O).2, O, Z⟩
theorem Lw.poll (h : Lw w0 w rg hb rb b c L t) (v : Int) :
    Calls Try.prog 37 #[.pointer (some ⟨rg, 0, none⟩), .int .i64 v] w fun e w' => e = .returned (.pointer (some ⟨w.heap.size + 2, 0, none⟩)) ∧ Lw w0 w' rg hb rb b c L t ∧ Op1 w0 w' (w.heap.size + 2) rg hb rb c (bgn .poll c v w.heap.size) ∧ Only Nil w w' ∧ w.heap.size + 2 < w'.heap.size := by
  refine (dpoll_any h.rng.ring v).mono ?_
  rintro e w1 ⟨rfl, Q, O, Z⟩
  exact ⟨rfl, (h.new2 Q O).1, (h.new2 Q O).2, O, Z⟩
end
end Go.Proofs.Ytfhbgabblegecaa.Bl
