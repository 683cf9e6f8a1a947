/- An operation of the ring, as it lies in memory; what each of its methods does. -/
import Derived.Test.YtmkcmncbiancgaaRingP
import Derived.IntWalk
import Derived.Laws.EntriesVeiled
namespace Go.Proofs.Ytmkcmncbiancgaa
open Go.RowKit

/-- The cells of an operation. -/
structure OpC (w : World) (ob rg : Nat) (nx : Value) (out at_ v val tk : Int) : Prop where
  head : w.heap[ob]? = some (.cells [.pointer (some ⟨rg, 0, none⟩), nx, .int .i64 out, .int .u64 at_, .int .u64 v, .int .u64 val, .int .u64 tk].toArray 116 (0, 0))

section
variable {w w' : World} {ob rg : Nat} {nx : Value} {out at_ v val tk : Int}
theorem OpC.lt (h : OpC w ob rg nx out at_ v val tk) : ob < w.heap.size := lt_of_block h.head
theorem OpC.keep {S : Nat → Prop} (h : OpC w ob rg nx out at_ v val tk) (o : Only S w w') (h1 : ¬ S ob) : OpC w' ob rg nx out at_ v val tk := ⟨(o.block ob h.lt h1).trans h.head⟩
theorem OpC.drewN (h : OpC w ob rg nx out at_ v val tk) (n : Nat) : OpC (w.drewN n) ob rg nx out at_ v val tk := ⟨h.head⟩
theorem OpC.c (h : OpC w ob rg nx out at_ v val tk) : w.cell? ⟨ob, 0, none⟩ = some (.pointer (some ⟨rg, 0, none⟩)) ∧ w.cell? ⟨ob, 1, none⟩ = some nx ∧ w.cell? ⟨ob, 2, none⟩ = some (.int .i64 out) ∧ w.cell? ⟨ob, 3, none⟩ = some (.int .u64 at_)
    ∧ w.cell? ⟨ob, 4, none⟩ = some (.int .u64 v) ∧ w.cell? ⟨ob, 5, none⟩ = some (.int .u64 val) ∧ w.cell? ⟨ob, 6, none⟩ = some (.int .u64 tk) := by
  simp [World.cell?, h.head]
theorem OpC.f (h : OpC w ob rg nx out at_ v val tk) : w.frozen? ⟨ob, 1, none⟩ = false ∧ w.frozen? ⟨ob, 2, none⟩ = false ∧ w.frozen? ⟨ob, 3, none⟩ = false ∧ w.frozen? ⟨ob, 4, none⟩ = false ∧ w.frozen? ⟨ob, 5, none⟩ = false ∧ w.frozen? ⟨ob, 6, none⟩ = false := by simp [World.frozen?, h.head]
end
theorem RgAt.drewN {w : World} {rg hb b c : Nat} (h : RgAt w rg hb b c) (n : Nat) : RgAt (w.drewN n) rg hb b c := ⟨h.head⟩

/-- An operation, its ring, the memory; nothing else has turned since w0. -/
structure St (w0 w : World) (ob rg hb rb b c : Nat) (nx : Value) (out at_ v val tk : Int) (L : List Int) (t : Int) : Prop where
  op : OpC w ob rg nx out at_ v val tk
  ring : RgAt w rg hb b c
  mem : MemAt w hb rb L t
  only : Only (OB hb rb ob) w0 w
  n1 : ¬ Blk hb rb ob
  n2 : ¬ OB hb rb ob rg
  pc : 0 < c
  uc : c ≤ 64
  ub : b ≤ 1000
  len : b + 2 + 2 * c ≤ L.length
  t0 : 0 ≤ t
  t1 : t < 4611686018427387000

section
variable {w0 w w' : World} {ob rg hb rb b c : Nat} {nx : Value} {out at_ v val tk : Int} {L : List Int} {t : Int}
theorem St.drewN (h : St w0 w ob rg hb rb b c nx out at_ v val tk L t) (n : Nat) : St w0 (w.drewN n) ob rg hb rb b c nx out at_ v val tk L t :=
  { h with op := h.op.drewN n, ring := h.ring.drewN n, mem := h.mem.drewN n, only := h.only.drewN n }
theorem St.nil (h : St w0 w ob rg hb rb b c nx out at_ v val tk L t) (o : Only Nil w w') : St w0 w' ob rg hb rb b c nx out at_ v val tk L t :=
  { h with op := h.op.keep o (fun h => h), ring := h.ring.keep o (fun h => h), mem := h.mem.keep o (fun h => h) (fun h => h), only := h.only.trans (o.mono (fun _ h => h.elim)) }
theorem St.step (h : St w0 w ob rg hb rb b c nx out at_ v val tk L t) {L' : List Int} (m : MemAt w' hb rb L' (t + 1)) (o : Only (Blk hb rb) w w') (hl : L'.length = L.length) (t2 : t + 1 < 4611686018427387000) : St w0 w' ob rg hb rb b c nx out at_ v val tk L' (t + 1) :=
  { h with op := h.op.keep o h.n1, ring := h.ring.keep o (fun hh => h.n2 (.inl hh)), mem := m, only := h.only.trans (o.mono (fun _ h => .inl h)), len := by rw [hl]; exact h.len, t0 := by have := h.t0; omega, t1 := t2 }
theorem St.put (h : St w0 w ob rg hb rb b c nx out at_ v val tk L t) {nx' : Value} {out' at' v' val' tk' : Int} (i : Nat) (x : Value)
    (e : ([.pointer (some ⟨rg, 0, none⟩), nx, .int .i64 out, .int .u64 at_, .int .u64 v, .int .u64 val, .int .u64 tk].toArray : Array Value).setIfInBounds i x = [.pointer (some ⟨rg, 0, none⟩), nx', .int .i64 out', .int .u64 at', .int .u64 v', .int .u64 val', .int .u64 tk'].toArray) :
    St w0 (w.setCell ⟨ob, i, none⟩ x) ob rg hb rb b c nx' out' at' v' val' tk' L t :=
  have o : Only (fun k => k = ob) w (w.setCell ⟨ob, i, none⟩ x) := (Only.refl (fun k => k = ob) w).setCell (p := ⟨ob, i, none⟩) rfl x
  { h with
    op := ⟨by rw [heap_setCell_self _ h.op.head, e]⟩
    ring := h.ring.keep o (fun hh => h.n2 (.inr hh))
    mem := h.mem.keep o (fun hh => h.n1 (.inl hh.symm)) (fun hh => h.n1 (.inr hh.symm))
    only := h.only.setCell (p := ⟨ob, i, none⟩) (.inr rfl) x }
theorem St.set1 (h : St w0 w ob rg hb rb b c nx out at_ v val tk L t) (x : Value) : St w0 (w.setCell ⟨ob, 1, none⟩ x) ob rg hb rb b c x out at_ v val tk L t := h.put 1 x rfl
theorem St.set2 (h : St w0 w ob rg hb rb b c nx out at_ v val tk L t) (x : Int) : St w0 (w.setCell ⟨ob, 2, none⟩ (.int .i64 x)) ob rg hb rb b c nx x at_ v val tk L t := h.put 2 (.int .i64 x) rfl
theorem St.set3 (h : St w0 w ob rg hb rb b c nx out at_ v val tk L t) (x : Int) : St w0 (w.setCell ⟨ob, 3, none⟩ (.int .u64 x)) ob rg hb rb b c nx out x v val tk L t := h.put 3 (.int .u64 x) rfl
theorem St.set4 (h : St w0 w ob rg hb rb b c nx out at_ v val tk L t) (x : Int) : St w0 (w.setCell ⟨ob, 4, none⟩ (.int .u64 x)) ob rg hb rb b c nx out at_ x val tk L t := h.put 4 (.int .u64 x) rfl
theorem St.set5 (h : St w0 w ob rg hb rb b c nx out at_ v val tk L t) (x : Int) : St w0 (w.setCell ⟨ob, 5, none⟩ (.int .u64 x)) ob rg hb rb b c nx out at_ v x tk L t := h.put 5 (.int .u64 x) rfl
theorem St.set6 (h : St w0 w ob rg hb rb b c nx out at_ v val tk L t) (x : Int) : St w0 (w.setCell ⟨ob, 6, none⟩ (.int .u64 x)) ob rg hb rb b c nx out at_ v val x L t := h.put 6 (.int .u64 x) rfl
theorem St.r0 (h : St w0 w ob rg hb rb b c nx out at_ v val tk L t) : w.cell? ⟨rg, 0, none⟩ = some (.pointer (some ⟨hb, 0, none⟩)) := h.ring.c0

theorem St.r1 (h : St w0 w ob rg hb rb b c nx out at_ v val tk L t) : w.cell? ⟨rg, 1, none⟩ = some (.int .i64 (b : Int)) := h.ring.c1

theorem St.load (h : St w0 w ob rg hb rb b c nx out at_ v val tk L t) (k : Int) (i : Nat) (hk : (b : Int) + k = (i : Int)) (hi : i < L.length) (k0 : 0 ≤ k) (k1 : k ≤ 1000) (t2 : t + 1 < 4611686018427387000) :
    Calls Try.prog 64 #[spanV hb b, .int .i64 k] w fun e w' => e = .returned (.int .u64 (L.getD i 0)) ∧ St w0 w' ob rg hb rb b c nx out at_ v val tk L (t + 1) := by
  refine (sload_any h.mem k i hk hi (by have := h.ub; omega) k0 (by omega) h.t0 (by have := h.t1; omega)).mono ?_
  rintro e w1 ⟨rfl, m, o⟩
  exact ⟨rfl, h.step m o rfl t2⟩
theorem St.swap (h : St w0 w ob rg hb rb b c nx out at_ v val tk L t) (k : Int) (i : Nat) (o x : Int) (hk : (b : Int) + k = (i : Int)) (hi : i < L.length) (k0 : 0 ≤ k) (k1 : k ≤ 1000) (t2 : t + 1 < 4611686018427387000) :
    Calls Try.prog 61 #[spanV hb b, .int .i64 k, .int .u64 o, .int .u64 x] w fun e w' => e = .returned (.bool (decide (L.getD i 0 = o))) ∧ St w0 w' ob rg hb rb b c nx out at_ v val tk (doAcc L (.swap i o x)).1 (t + 1) := by
  refine (sswap_any h.mem k i o x hk hi (by have := h.ub; omega) k0 (by omega) h.t0 (by have := h.t1; omega)).mono ?_
  rintro e w1 ⟨rfl, m, o⟩
  exact ⟨rfl, h.step m o (by simp only [doAcc]; split <;> simp) t2⟩
theorem St.store (h : St w0 w ob rg hb rb b c nx out at_ v val tk L t) (k : Int) (i : Nat) (x : Int) (hk : (b : Int) + k = (i : Int)) (hi : i < L.length) (k0 : 0 ≤ k) (k1 : k ≤ 1000) (t2 : t + 1 < 4611686018427387000) :
    Calls Try.prog 39 #[spanV hb b, .int .i64 k, .int .u64 x] w fun e w' => e = .returned (.tuple #[]) ∧ St w0 w' ob rg hb rb b c nx out at_ v val tk (L.set i x) (t + 1) := by
  refine (sstore_any h.mem k i x hk hi (by have := h.ub; omega) k0 (by omega) h.t0 (by have := h.t1; omega)).mono ?_
  rintro e w1 ⟨rfl, m, o⟩
  exact ⟨rfl, h.step m o (by simp) t2⟩
theorem St.turn (h : St w0 w ob rg hb rb b c nx out at_ v val tk L t) (k : Nat) :
    Calls Try.prog 67 #[.pointer (some ⟨rg, 0, none⟩), .int .u64 (k : Int)] w fun e w' => e = .returned (.int .i64 (turnIn c k : Int)) ∧ St w0 w' ob rg hb rb b c nx out at_ v val tk L t := by
  refine (turn_any h.ring k h.pc h.uc).mono ?_
  rintro e w1 ⟨rfl, rfl⟩
  exact ⟨rfl, h⟩
theorem St.value (h : St w0 w ob rg hb rb b c nx out at_ v val tk L t) (k : Nat) :
    Calls Try.prog 68 #[.pointer (some ⟨rg, 0, none⟩), .int .u64 (k : Int)] w fun e w' => e = .returned (.int .i64 ((turnIn c k + 1 : Nat) : Int)) ∧ St w0 w' ob rg hb rb b c nx out at_ v val tk L t := by
  refine (value_any h.ring k h.pc h.uc).mono ?_
  rintro e w1 ⟨rfl, rfl⟩
  exact ⟨rfl, h⟩
theorem St.waits (h : St w0 w ob rg hb rb b c nx out at_ v val tk L t) (k : Nat) (hk : k < 9223372036854775808) :
    Calls Try.prog 98 #[.pointer (some ⟨rg, 0, none⟩), .int .u64 (k : Int)] w fun e w' => e = .returned (.int .u64 (waitAt c k : Int)) ∧ w = w' := waits_any h.ring k h.pc h.uc hk
/-- Where a ticket's turn is, counted from the base and not. -/
theorem St.here (h : St w0 w ob rg hb rb b c nx out at_ v val tk L t) (k : Nat) : (b : Int) + (turnIn c k : Int) = (turnAt b c k : Int) ∧ (b : Int) + ((turnIn c k + 1 : Nat) : Int) = ((turnAt b c k + 1 : Nat) : Int) ∧ turnIn c k < 200 := by
  have := turnIn_at b c k
  exact ⟨by omega, by omega, turnIn_lt c k h.pc h.uc⟩
theorem St.turn_lt (h : St w0 w ob rg hb rb b c nx out at_ v val tk L t) (k : Nat) : turnAt b c k + 1 < L.length := Nat.lt_of_lt_of_le (turnAt_lt b c k h.pc) h.len

set_option maxHeartbeats 4000000 in
theorem putTail_closed (h : St w0 w ob rg hb rb b c nx 0 at_ v 0 0 L t) (t2 : t + 1 < 4611686018427387000) (hx : (9223372036854775808 : Int) ≤ L.getD b 0) :
    Calls Try.prog 78 #[.pointer (some ⟨ob, 0, none⟩)] w fun e w' => e = .returned (.tuple #[]) ∧ St w0 w' ob rg hb rb b c nx 3 (L.getD b 0) v 0 0 L (t + 1) := by
  have hmf : ∀ (fn : Fn) (first cap : Array Value) (w : World), (Instr.makeFunc fn first cap).run Try.prog w = .ok (.func fn first cap) w := fun _ _ _ _ => rfl
  have ld := Lib.hid (h.load 0 b (by omega) (by have := h.len; have := h.pc; omega) (by omega) (by omega) t2)
  unfold spanV at ld
  have c0 := h.op.c.1
  have cr := h.r0
  have cq := h.r1
  clear h
  generalize hxx : L.getD b 0 = x at *
  clear hxx
  go_enter Try.func78, Try.ntmps78
  go_wp2_with (go_at_call 64; refine ld.out.mono ?_; rintro e w2 ⟨rfl, s2⟩; obtain ⟨k0, k1, k2, k3, k4, k5, k6⟩ := s2.op.c; obtain ⟨f1, f2, f3, f4, f5, f6⟩ := s2.op.f; have q3 := s2.set3 x; obtain ⟨j0, j1, j2, j3, j4, j5, j6⟩ := q3.op.c; obtain ⟨g1, g2, g3, g4, g5, g6⟩ := q3.op.f; have q3' := Lib.hid q3; clear q3 s2)
  refine bodyPost_ret (results_none rfl _ _ _) rfl ?_
  exact ⟨rfl, q3'.out.set2 3⟩

set_option maxHeartbeats 4000000 in
theorem putTail_on (h : St w0 w ob rg hb rb b c nx 0 at_ v 0 0 L t) (t2 : t + 1 < 4611686018427387000) (hx : ¬ (9223372036854775808 : Int) ≤ L.getD b 0) :
    Calls Try.prog 78 #[.pointer (some ⟨ob, 0, none⟩)] w fun e w' => e = .returned (.tuple #[]) ∧ St w0 w' ob rg hb rb b c (mv 92 ob) 0 (L.getD b 0) v 0 0 L (t + 1) := by
  have hmf : ∀ (fn : Fn) (first cap : Array Value) (w : World), (Instr.makeFunc fn first cap).run Try.prog w = .ok (.func fn first cap) w := fun _ _ _ _ => rfl
  have ld := Lib.hid (h.load 0 b (by omega) (by have := h.len; have := h.pc; omega) (by omega) (by omega) t2)
  unfold spanV at ld
  have c0 := h.op.c.1
  have cr := h.r0
  have cq := h.r1
  clear h
  generalize hxx : L.getD b 0 = x at *
  clear hxx
  go_enter Try.func78, Try.ntmps78
  go_wp2_with (go_at_call 64; refine ld.out.mono ?_; rintro e w2 ⟨rfl, s2⟩; obtain ⟨k0, k1, k2, k3, k4, k5, k6⟩ := s2.op.c; obtain ⟨f1, f2, f3, f4, f5, f6⟩ := s2.op.f; have q3 := s2.set3 x; obtain ⟨j0, j1, j2, j3, j4, j5, j6⟩ := q3.op.c; obtain ⟨g1, g2, g3, g4, g5, g6⟩ := q3.op.f; have q3' := Lib.hid q3; clear q3 s2)
  go_end0
  exact ⟨rfl, q3'.out.set1 _⟩

set_option maxHeartbeats 4000000 in
theorem closeTail_done (h : St w0 w ob rg hb rb b c nx 0 at_ v 0 0 L t) (t2 : t + 1 < 4611686018427387000) (hx : (9223372036854775808 : Int) ≤ L.getD b 0) :
    Calls Try.prog 85 #[.pointer (some ⟨ob, 0, none⟩)] w fun e w' => e = .returned (.tuple #[]) ∧ St w0 w' ob rg hb rb b c nx 1 (L.getD b 0) v 0 0 L (t + 1) := by
  have hmf : ∀ (fn : Fn) (first cap : Array Value) (w : World), (Instr.makeFunc fn first cap).run Try.prog w = .ok (.func fn first cap) w := fun _ _ _ _ => rfl
  have ld := Lib.hid (h.load 0 b (by omega) (by have := h.len; have := h.pc; omega) (by omega) (by omega) t2)
  unfold spanV at ld
  have c0 := h.op.c.1
  have cr := h.r0
  have cq := h.r1
  clear h
  generalize hxx : L.getD b 0 = x at *
  clear hxx
  go_enter Try.func85, Try.ntmps85
  go_wp2_with (go_at_call 64; refine ld.out.mono ?_; rintro e w2 ⟨rfl, s2⟩; obtain ⟨k0, k1, k2, k3, k4, k5, k6⟩ := s2.op.c; obtain ⟨f1, f2, f3, f4, f5, f6⟩ := s2.op.f; have q3 := s2.set3 x; obtain ⟨j0, j1, j2, j3, j4, j5, j6⟩ := q3.op.c; obtain ⟨g1, g2, g3, g4, g5, g6⟩ := q3.op.f; have q3' := Lib.hid q3; clear q3 s2)
  refine bodyPost_ret (results_none rfl _ _ _) rfl ?_
  exact ⟨rfl, q3'.out.set2 1⟩

set_option maxHeartbeats 4000000 in
theorem closeTail_on (h : St w0 w ob rg hb rb b c nx 0 at_ v 0 0 L t) (t2 : t + 1 < 4611686018427387000) (hx : ¬ (9223372036854775808 : Int) ≤ L.getD b 0) :
    Calls Try.prog 85 #[.pointer (some ⟨ob, 0, none⟩)] w fun e w' => e = .returned (.tuple #[]) ∧ St w0 w' ob rg hb rb b c (mv 94 ob) 0 (L.getD b 0) v 0 0 L (t + 1) := by
  have hmf : ∀ (fn : Fn) (first cap : Array Value) (w : World), (Instr.makeFunc fn first cap).run Try.prog w = .ok (.func fn first cap) w := fun _ _ _ _ => rfl
  have ld := Lib.hid (h.load 0 b (by omega) (by have := h.len; have := h.pc; omega) (by omega) (by omega) t2)
  unfold spanV at ld
  have c0 := h.op.c.1
  have cr := h.r0
  have cq := h.r1
  clear h
  generalize hxx : L.getD b 0 = x at *
  clear hxx
  go_enter Try.func85, Try.ntmps85
  go_wp2_with (go_at_call 64; refine ld.out.mono ?_; rintro e w2 ⟨rfl, s2⟩; obtain ⟨k0, k1, k2, k3, k4, k5, k6⟩ := s2.op.c; obtain ⟨f1, f2, f3, f4, f5, f6⟩ := s2.op.f; have q3 := s2.set3 x; obtain ⟨j0, j1, j2, j3, j4, j5, j6⟩ := q3.op.c; obtain ⟨g1, g2, g3, g4, g5, g6⟩ := q3.op.f; have q3' := Lib.hid q3; clear q3 s2)
  go_end0
  exact ⟨rfl, q3'.out.set1 _⟩

set_option maxHeartbeats 4000000 in
theorem takeHead_any (h : St w0 w ob rg hb rb b c nx 0 at_ v 0 0 L t) (t2 : t + 1 < 4611686018427387000)  :
    Calls Try.prog 82 #[.pointer (some ⟨ob, 0, none⟩)] w fun e w' => e = .returned (.tuple #[]) ∧ St w0 w' ob rg hb rb b c (mv 93 ob) 0 (L.getD (b + 1) 0) v 0 0 L (t + 1) := by
  have hmf : ∀ (fn : Fn) (first cap : Array Value) (w : World), (Instr.makeFunc fn first cap).run Try.prog w = .ok (.func fn first cap) w := fun _ _ _ _ => rfl
  have ld := Lib.hid (h.load 1 (b + 1) (by omega) (by have := h.len; have := h.pc; omega) (by omega) (by omega) t2)
  unfold spanV at ld
  have c0 := h.op.c.1
  have cr := h.r0
  have cq := h.r1
  clear h
  generalize hxx : L.getD (b + 1) 0 = x at *
  clear hxx
  go_enter Try.func82, Try.ntmps82
  go_wp2_with (go_at_call 64; refine ld.out.mono ?_; rintro e w2 ⟨rfl, s2⟩; obtain ⟨k0, k1, k2, k3, k4, k5, k6⟩ := s2.op.c; obtain ⟨f1, f2, f3, f4, f5, f6⟩ := s2.op.f; have q3 := s2.set3 x; obtain ⟨j0, j1, j2, j3, j4, j5, j6⟩ := q3.op.c; obtain ⟨g1, g2, g3, g4, g5, g6⟩ := q3.op.f; have q3' := Lib.hid q3; clear q3 s2)
  go_end0
  exact ⟨rfl, q3'.out.set1 _⟩

set_option maxHeartbeats 4000000 in
theorem lookHead_any (h : St w0 w ob rg hb rb b c nx 0 at_ v 0 0 L t) (t2 : t + 1 < 4611686018427387000)  :
    Calls Try.prog 87 #[.pointer (some ⟨ob, 0, none⟩)] w fun e w' => e = .returned (.tuple #[]) ∧ St w0 w' ob rg hb rb b c (mv 96 ob) 0 (L.getD (b + 1) 0) v 0 0 L (t + 1) := by
  have hmf : ∀ (fn : Fn) (first cap : Array Value) (w : World), (Instr.makeFunc fn first cap).run Try.prog w = .ok (.func fn first cap) w := fun _ _ _ _ => rfl
  have ld := Lib.hid (h.load 1 (b + 1) (by omega) (by have := h.len; have := h.pc; omega) (by omega) (by omega) t2)
  unfold spanV at ld
  have c0 := h.op.c.1
  have cr := h.r0
  have cq := h.r1
  clear h
  generalize hxx : L.getD (b + 1) 0 = x at *
  clear hxx
  go_enter Try.func87, Try.ntmps87
  go_wp2_with (go_at_call 64; refine ld.out.mono ?_; rintro e w2 ⟨rfl, s2⟩; obtain ⟨k0, k1, k2, k3, k4, k5, k6⟩ := s2.op.c; obtain ⟨f1, f2, f3, f4, f5, f6⟩ := s2.op.f; have q3 := s2.set3 x; obtain ⟨j0, j1, j2, j3, j4, j5, j6⟩ := q3.op.c; obtain ⟨g1, g2, g3, g4, g5, g6⟩ := q3.op.f; have q3' := Lib.hid q3; clear q3 s2)
  go_end0
  exact ⟨rfl, q3'.out.set1 _⟩

set_option maxHeartbeats 4000000 in
theorem drainTail_any (h : St w0 w ob rg hb rb b c nx 0 at_ v 0 0 L t) (t2 : t + 1 < 4611686018427387000)  :
    Calls Try.prog 86 #[.pointer (some ⟨ob, 0, none⟩)] w fun e w' => e = .returned (.tuple #[]) ∧ St w0 w' ob rg hb rb b c (mv 95 ob) 0 at_ (L.getD b 0) 0 0 L (t + 1) := by
  have hmf : ∀ (fn : Fn) (first cap : Array Value) (w : World), (Instr.makeFunc fn first cap).run Try.prog w = .ok (.func fn first cap) w := fun _ _ _ _ => rfl
  have ld := Lib.hid (h.load 0 b (by omega) (by have := h.len; have := h.pc; omega) (by omega) (by omega) t2)
  unfold spanV at ld
  have c0 := h.op.c.1
  have cr := h.r0
  have cq := h.r1
  clear h
  generalize hxx : L.getD b 0 = x at *
  clear hxx
  go_enter Try.func86, Try.ntmps86
  go_wp2_with (go_at_call 64; refine ld.out.mono ?_; rintro e w2 ⟨rfl, s2⟩; obtain ⟨k0, k1, k2, k3, k4, k5, k6⟩ := s2.op.c; obtain ⟨f1, f2, f3, f4, f5, f6⟩ := s2.op.f; have q3 := s2.set4 x; obtain ⟨j0, j1, j2, j3, j4, j5, j6⟩ := q3.op.c; obtain ⟨g1, g2, g3, g4, g5, g6⟩ := q3.op.f; have q3' := Lib.hid q3; clear q3 s2)
  go_end0
  exact ⟨rfl, q3'.out.set1 _⟩

end
end Go.Proofs.Ytmkcmncbiancgaa
