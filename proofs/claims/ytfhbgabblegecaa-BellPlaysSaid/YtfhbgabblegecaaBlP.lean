/- A bell and its operations, laid; what each of an operation's methods does. -/
import Derived.Test.YtfhbgabblegecaaBlA
import Derived.Laws.EntriesVeiled
import Derived.BigQuiet
import Derived.Deep.QuietTactic
import Derived.Deep.RegionHeld3
import Derived.Shelf.Abstract
namespace Go.Proofs.Ytfhbgabblegecaa.Bl
open Go.RowKit

/-- World w holds, at block dq, a bell of n workers, over the memory at hb, from the cell b on. -/
structure BlAt (w : World) (dq hb b n : Nat) : Prop where
  head : w.heap[dq]? = some (.cells #[.pointer (some ⟨hb, 0, none⟩), .int .i64 (b : Int), .int .i64 (n : Int)] 101 (0, 0))
theorem BlAt.lt {w : World} {dq hb b n : Nat} (h : BlAt w dq hb b n) : dq < w.heap.size := lt_of_block h.head
theorem BlAt.keep {S : Nat → Prop} {w w' : World} {dq hb b n : Nat} (h : BlAt w dq hb b n) (o : Only S w w') (h1 : ¬ S dq) : BlAt w' dq hb b n := ⟨(o.block dq h.lt h1).trans h.head⟩
theorem BlAt.drewN {w : World} {dq hb b n : Nat} (h : BlAt w dq hb b n) (k : Nat) : BlAt (w.drewN k) dq hb b n := ⟨h.head⟩
theorem BlAt.c {w : World} {dq hb b n : Nat} (h : BlAt w dq hb b n) : w.cell? ⟨dq, 0, none⟩ = some (.pointer (some ⟨hb, 0, none⟩)) ∧ w.cell? ⟨dq, 1, none⟩ = some (.int .i64 (b : Int)) ∧ w.cell? ⟨dq, 2, none⟩ = some (.int .i64 (n : Int)) := by simp [World.cell?, h.head]

/-- The cells of an operation. -/
def opCells (nb nx : Value) (at_ oc who : Int) : List Value := [nb, nx, .int .i64 at_, .int .i64 oc, .int .i64 who]
structure OpC (w : World) (ob : Nat) (nb nx : Value) (at_ oc who : Int) : Prop where
  head : w.heap[ob]? = some (.cells (opCells nb nx at_ oc who).toArray 104 (0, 0))
section
variable {w w' : World} {ob : Nat} {nb nx : Value} {at_ oc who : Int}
theorem OpC.lt (h : OpC w ob nb nx at_ oc who) : ob < w.heap.size := lt_of_block h.head
theorem OpC.keep {S : Nat → Prop} (h : OpC w ob nb nx at_ oc who) (k : Only S w w') (h1 : ¬ S ob) : OpC w' ob nb nx at_ oc who := ⟨(k.block ob h.lt h1).trans h.head⟩
theorem OpC.drewN (h : OpC w ob nb nx at_ oc who) (n : Nat) : OpC (w.drewN n) ob nb nx at_ oc who := ⟨h.head⟩
theorem OpC.c (h : OpC w ob nb nx at_ oc who) : w.cell? ⟨ob, 0, none⟩ = some nb ∧ w.cell? ⟨ob, 1, none⟩ = some nx ∧ w.cell? ⟨ob, 2, none⟩ = some (.int .i64 at_) ∧ w.cell? ⟨ob, 3, none⟩ = some (.int .i64 oc) ∧ w.cell? ⟨ob, 4, none⟩ = some (.int .i64 who) := by
  simp [World.cell?, h.head, opCells]
theorem OpC.f (h : OpC w ob nb nx at_ oc who) : w.frozen? ⟨ob, 1, none⟩ = false ∧ w.frozen? ⟨ob, 2, none⟩ = false ∧ w.frozen? ⟨ob, 3, none⟩ = false ∧ w.frozen? ⟨ob, 4, none⟩ = false := by simp [World.frozen?, h.head]

theorem over_any (h : OpC w ob nb nx at_ oc who) :
    Calls Try.prog 17 #[.pointer (some ⟨ob, 0, none⟩)] w fun e w' => e = .returned (.bool (oc != 0)) ∧ w = w' := by
  obtain ⟨c0, c1, c2, c3, c4⟩ := h.c
  clear h
  go_enter Try.func17, Try.ntmps17
  go_wp2
  go_ret
  exact ⟨rfl, rfl⟩
theorem outcome_any (h : OpC w ob nb nx at_ oc who) :
    Calls Try.prog 32 #[.pointer (some ⟨ob, 0, none⟩)] w fun e w' => e = .returned (.int .i64 oc) ∧ w = w' := by
  obtain ⟨c0, c1, c2, c3, c4⟩ := h.c
  clear h
  go_enter Try.func32, Try.ntmps32
  go_wp2
  go_ret
  exact ⟨rfl, rfl⟩
theorem who_any (h : OpC w ob nb nx at_ oc who) :
    Calls Try.prog 33 #[.pointer (some ⟨ob, 0, none⟩)] w fun e w' => e = .returned (.int .i64 who) ∧ w = w' := by
  obtain ⟨c0, c1, c2, c3, c4⟩ := h.c
  clear h
  go_enter Try.func33, Try.ntmps33
  go_wp2
  go_ret
  exact ⟨rfl, rfl⟩
end

/-- An operation, its bell, the memory; nothing else has turned since w0. -/
structure St (w0 w : World) (ob dq hb rb b n : Nat) (nx : Value) (at_ oc who : Int) (L : List Int) (t : Int) : Prop where
  op : OpC w ob (.pointer (some ⟨dq, 0, none⟩)) nx at_ oc who
  bel : BlAt w dq hb b n
  mem : MemAt w hb rb L t
  only : Only (OB hb rb ob) w0 w
  n1 : ¬ Blk hb rb ob
  n2 : ¬ OB hb rb ob dq
  uc : n ≤ 8
  ub : b ≤ 1000
  len : b + n ≤ L.length
  t0 : 0 ≤ t
  t1 : t < 4611686018427387000

section
variable {w0 w w' : World} {ob dq hb rb b n : Nat} {nx : Value} {at_ oc who : Int} {L : List Int} {t : Int}
theorem St.drewN (h : St w0 w ob dq hb rb b n nx at_ oc who L t) (k : Nat) : St w0 (w.drewN k) ob dq hb rb b n nx at_ oc who L t :=
  { h with op := h.op.drewN k, bel := h.bel.drewN k, mem := h.mem.drewN k, only := h.only.drewN k }
theorem St.step (h : St w0 w ob dq hb rb b n nx at_ oc who L t) {L' : List Int} (m : MemAt w' hb rb L' (t + 1)) (k : Only (Blk hb rb) w w') (hl : L'.length = L.length) (t2 : t + 1 < 4611686018427387000) : St w0 w' ob dq hb rb b n nx at_ oc who L' (t + 1) :=
  { h with op := h.op.keep k h.n1, bel := h.bel.keep k (fun hh => h.n2 (.inl hh)), mem := m, only := h.only.trans (k.mono (fun _ h => .inl h)), len := by rw [hl]; exact h.len, t0 := by have := h.t0; omega, t1 := t2 }
theorem St.put (h : St w0 w ob dq hb rb b n nx at_ oc who L t) {nx' : Value} {at' oc' who' : Int} (k : Nat) (x : Value)
    (e : ((opCells (.pointer (some ⟨dq, 0, none⟩)) nx at_ oc who).toArray : Array Value).setIfInBounds k x = (opCells (.pointer (some ⟨dq, 0, none⟩)) nx' at' oc' who').toArray) :
    St w0 (w.setCell ⟨ob, k, none⟩ x) ob dq hb rb b n nx' at' oc' who' L t :=
  have kk : Only (fun k => k = ob) w (w.setCell ⟨ob, k, none⟩ x) := (Only.refl (fun k => k = ob) w).setCell (p := ⟨ob, k, none⟩) rfl x
  { h with
    op := ⟨by rw [heap_setCell_self _ h.op.head, e]⟩
    bel := h.bel.keep kk (fun hh => h.n2 (.inr hh))
    mem := h.mem.keep kk (fun hh => h.n1 (.inl hh.symm)) (fun hh => h.n1 (.inr hh.symm))
    only := h.only.setCell (p := ⟨ob, k, none⟩) (.inr rfl) x }
theorem St.setNx (h : St w0 w ob dq hb rb b n nx at_ oc who L t) (x : Value) : St w0 (w.setCell ⟨ob, 1, none⟩ x) ob dq hb rb b n x at_ oc who L t := h.put 1 x rfl
theorem St.setAt (h : St w0 w ob dq hb rb b n nx at_ oc who L t) (x : Int) : St w0 (w.setCell ⟨ob, 2, none⟩ (.int .i64 x)) ob dq hb rb b n nx x oc who L t := h.put 2 (.int .i64 x) rfl
theorem St.setOc (h : St w0 w ob dq hb rb b n nx at_ oc who L t) (x : Int) : St w0 (w.setCell ⟨ob, 3, none⟩ (.int .i64 x)) ob dq hb rb b n nx at_ x who L t := h.put 3 (.int .i64 x) rfl
theorem St.setWho (h : St w0 w ob dq hb rb b n nx at_ oc who L t) (x : Int) : St w0 (w.setCell ⟨ob, 4, none⟩ (.int .i64 x)) ob dq hb rb b n nx at_ oc x L t := h.put 4 (.int .i64 x) rfl

theorem St.load (h : St w0 w ob dq hb rb b n nx at_ oc who L t) (v : Nat) (hv : v < n) (t2 : t + 1 < 4611686018427387000) :
    Calls Try.prog 56 #[spanV hb b, .int .i64 (v : Int)] w fun e w' => e = .returned (.int .u64 (L.getD (b + v) 0)) ∧ St w0 w' ob dq hb rb b n nx at_ oc who L (t + 1) := by
  have hu := h.ub; have hc := h.uc; have hl := h.len
  refine (sload_any h.mem v (b + v) (by omega) (by omega) (by omega) (by omega) (by omega) h.t0 (by have := h.t1; omega)).mono ?_
  rintro e w1 ⟨rfl, m, k⟩
  exact ⟨rfl, h.step m k rfl t2⟩
theorem St.store (h : St w0 w ob dq hb rb b n nx at_ oc who L t) (v : Nat) (x : Int) (hv : v < n) (t2 : t + 1 < 4611686018427387000) :
    Calls Try.prog 45 #[spanV hb b, .int .i64 (v : Int), .int .u64 x] w fun e w' => e = .returned (.tuple #[]) ∧ St w0 w' ob dq hb rb b n nx at_ oc who (L.set (b + v) x) (t + 1) := by
  have hu := h.ub; have hc := h.uc; have hl := h.len
  refine (sstore_any h.mem v (b + v) x (by omega) (by omega) (by omega) (by omega) (by omega) h.t0 (by have := h.t1; omega)).mono ?_
  rintro e w1 ⟨rfl, m, k⟩
  exact ⟨rfl, h.step m k (by simp) t2⟩
theorem St.swap (h : St w0 w ob dq hb rb b n nx at_ oc who L t) (v : Nat) (y x : Int) (hv : v < n) (t2 : t + 1 < 4611686018427387000) :
    Calls Try.prog 91 #[spanV hb b, .int .i64 (v : Int), .int .u64 y, .int .u64 x] w fun e w' => e = .returned (.bool (decide (L.getD (b + v) 0 = y))) ∧ St w0 w' ob dq hb rb b n nx at_ oc who (doAcc L (.swap (b + v) y x)).1 (t + 1) := by
  have hu := h.ub; have hc := h.uc; have hl := h.len
  refine (sswap_any h.mem v (b + v) y x (by omega) (by omega) (by omega) (by omega) (by omega) h.t0 (by have := h.t1; omega)).mono ?_
  rintro e w1 ⟨rfl, m, k⟩
  exact ⟨rfl, h.step m k (doAcc_length _ _) t2⟩

/-- A method expression, as a value. -/
def me (f : Nat) : Value := .func (.func f) #[] #[]
/-- ringOn, behind the last worker. -/
theorem ringOn_end (h : St w0 w ob dq hb rb b n nx at_ 0 who L t) (ha : 0 ≤ at_) (he : at_ + 1 = (n : Int)) :
    Calls Try.prog 80 #[.pointer (some ⟨ob, 0, none⟩)] w fun e w' => e = .returned (.tuple #[]) ∧ St w0 w' ob dq hb rb b n nx (n : Int) 4 who L t := by
  have hc := h.uc
  have q1 := Lib.hid (h.setAt (n : Int))
  obtain ⟨c0, c1, c2, c3, c4⟩ := h.op.c
  obtain ⟨f1, f2, f3, f4⟩ := h.op.f
  obtain ⟨k0, k1, k2, k3, k4⟩ := q1.out.op.c
  obtain ⟨g1, g2, g3, g4⟩ := q1.out.op.f
  obtain ⟨d0, d1, d2⟩ := q1.out.bel.c
  have hw : IntKind.i64.wrap (at_ + 1) = (n : Int) := by rw [he]; exact IntWalk.i64_in _ (by omega)
  clear h he ha hc
  go_enter Try.func80, Try.ntmps80
  go_wp2
  go_quiet (fail)
  go_wp2
  refine bodyPost_ret (results_none rfl _ _ _) rfl ?_
  exact ⟨rfl, (q1.out.drewN _).setOc 4⟩
theorem ringOn_on (h : St w0 w ob dq hb rb b n nx at_ 0 who L t) (v : Nat) (ha : at_ = (v : Int)) (he : v + 1 < n) :
    Calls Try.prog 80 #[.pointer (some ⟨ob, 0, none⟩)] w fun e w' => e = .returned (.tuple #[]) ∧ St w0 w' ob dq hb rb b n (me 52) ((v + 1 : Nat) : Int) 0 who L t := by
  have hmf : ∀ (fn : Fn) (first cap : Array Value) (w : World), (Instr.makeFunc fn first cap).run Try.prog w = .ok (.func fn first cap) w := fun _ _ _ _ => rfl
  have hc := h.uc
  have q1 := Lib.hid (h.setAt ((v + 1 : Nat) : Int))
  obtain ⟨c0, c1, c2, c3, c4⟩ := h.op.c
  obtain ⟨f1, f2, f3, f4⟩ := h.op.f
  obtain ⟨k0, k1, k2, k3, k4⟩ := q1.out.op.c
  obtain ⟨g1, g2, g3, g4⟩ := q1.out.op.f
  obtain ⟨d0, d1, d2⟩ := q1.out.bel.c
  subst ha
  have hw : IntKind.i64.wrap ((v : Int) + 1) = ((v + 1 : Nat) : Int) := IntWalk.i64_in _ (by omega)
  have hne : ¬ (((v + 1 : Nat) : Int) = (n : Int)) := by omega
  clear h he hc
  generalize ((v + 1 : Nat) : Int) = y at *
  go_enter Try.func80, Try.ntmps80
  go_wp2
  go_quiet (fail)
  go_wp2
  go_end0
  exact ⟨rfl, (q1.out.drewN _).setNx _⟩
end
end Go.Proofs.Ytfhbgabblegecaa.Bl
