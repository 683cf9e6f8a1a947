/- The calls that an operation of the gate makes of it: where a slot lies, and the accesses. -/
import Derived.Test.YtokopocldicnmaaGtA
import Derived.Test.YtokopocldicnmaaSpanA
import Derived.StillTailTactics
import Derived.IntWalk
namespace Go.Proofs.Ytokopocldicnmaa.Gt
open Go.RowKit

/-- World w holds, at block dq, a gate of c slots, over the memory at hb, from the cell b on. -/
structure GtAt (w : World) (dq hb b c : Nat) : Prop where
  head : w.heap[dq]? = some (.cells #[.pointer (some ⟨hb, 0, none⟩), .int .i64 (b : Int), .int .i64 (c : Int)] 104 (0, 0))
theorem GtAt.lt {w : World} {dq hb b c : Nat} (h : GtAt w dq hb b c) : dq < w.heap.size := lt_of_block h.head
theorem GtAt.keep {S : Nat → Prop} {w w' : World} {dq hb b c : Nat} (h : GtAt w dq hb b c) (o : Only S w w') (h1 : ¬ S dq) : GtAt w' dq hb b c := ⟨(o.block dq h.lt h1).trans h.head⟩
theorem GtAt.drewN {w : World} {dq hb b c : Nat} (h : GtAt w dq hb b c) (n : Nat) : GtAt (w.drewN n) dq hb b c := ⟨h.head⟩
theorem GtAt.c0 {w : World} {dq hb b c : Nat} (h : GtAt w dq hb b c) : w.cell? ⟨dq, 0, none⟩ = some (.pointer (some ⟨hb, 0, none⟩)) := by simp [World.cell?, h.head]
theorem GtAt.c1 {w : World} {dq hb b c : Nat} (h : GtAt w dq hb b c) : w.cell? ⟨dq, 1, none⟩ = some (.int .i64 (b : Int)) := by simp [World.cell?, h.head]
theorem GtAt.c2 {w : World} {dq hb b c : Nat} (h : GtAt w dq hb b c) : w.cell? ⟨dq, 2, none⟩ = some (.int .i64 (c : Int)) := by simp [World.cell?, h.head]

theorem slot_any {w : World} {dq hb b c : Nat} (h : GtAt w dq hb b c) (x : Int) (hx : In64 x) (hc : 0 < c) (hc2 : c ≤ 64) :
    Calls Try.prog 86 #[.pointer (some ⟨dq, 0, none⟩), .int .u64 x] w fun e w' => e = .returned (.int .i64 (turnIn c x : Int)) ∧ w = w' := by
  have c2 := h.c2
  obtain ⟨t, rfl⟩ := Int.eq_ofNat_of_zero_le hx.1
  have e1 : IntKind.u64.wrap (c : Int) = (c : Int) := by rw [IntKind.wrap_u64]; omega
  have e2 : Int.tmod (t : Int) (c : Int) = ((t % c : Nat) : Int) := rfl
  have e3 : ¬ ((c : Int) = 0) := by omega
  have hm := Nat.mod_lt t hc
  have e4 : (turnIn c (t : Int) : Int) = 2 + 2 * ((t % c : Nat) : Int) := by unfold turnIn; simp
  rw [e4]
  clear h hx
  generalize hr : t % c = r at e2 hm ⊢
  have hr' : (r : Int) < 64 := by omega
  go_enter Try.func86, Try.ntmps86
  go_wp2
  go_ret
  exact ⟨rfl, rfl⟩


/-- The cells of an operation. -/
def opCells (dq : Nat) (ph cn : Int) (ld er mo tk i o oc : Int) : List Value := [.pointer (some ⟨dq, 0, none⟩), .int .i64 ph, .int .i64 cn, .int .u64 ld, .int .i64 er, .int .i64 mo, .int .u64 tk, .int .u64 i, .int .u64 o, .int .i64 oc]
structure OpC (w : World) (ob dq : Nat) (ph cn ld er mo tk i o oc : Int) : Prop where
  head : w.heap[ob]? = some (.cells (opCells dq ph cn ld er mo tk i o oc).toArray 107 (0, 0))
section
variable {w w' : World} {ob dq : Nat} {ph cn ld er mo tk i o oc : Int}
theorem OpC.lt (h : OpC w ob dq ph cn ld er mo tk i o oc) : ob < w.heap.size := lt_of_block h.head
theorem OpC.keep {S : Nat → Prop} (h : OpC w ob dq ph cn ld er mo tk i o oc) (k : Only S w w') (h1 : ¬ S ob) : OpC w' ob dq ph cn ld er mo tk i o oc := ⟨(k.block ob h.lt h1).trans h.head⟩
theorem OpC.drewN (h : OpC w ob dq ph cn ld er mo tk i o oc) (n : Nat) : OpC (w.drewN n) ob dq ph cn ld er mo tk i o oc := ⟨h.head⟩
theorem OpC.c (h : OpC w ob dq ph cn ld er mo tk i o oc) : w.cell? ⟨ob, 0, none⟩ = some (.pointer (some ⟨dq, 0, none⟩)) ∧ w.cell? ⟨ob, 1, none⟩ = some (.int .i64 ph) ∧ w.cell? ⟨ob, 2, none⟩ = some (.int .i64 cn) ∧ w.cell? ⟨ob, 3, none⟩ = some (.int .u64 ld)
    ∧ w.cell? ⟨ob, 4, none⟩ = some (.int .i64 er) ∧ w.cell? ⟨ob, 5, none⟩ = some (.int .i64 mo) ∧ w.cell? ⟨ob, 6, none⟩ = some (.int .u64 tk) ∧ w.cell? ⟨ob, 7, none⟩ = some (.int .u64 i) ∧ w.cell? ⟨ob, 8, none⟩ = some (.int .u64 o) ∧ w.cell? ⟨ob, 9, none⟩ = some (.int .i64 oc) := by
  simp [World.cell?, h.head, opCells]
theorem OpC.f (h : OpC w ob dq ph cn ld er mo tk i o oc) : w.frozen? ⟨ob, 1, none⟩ = false ∧ w.frozen? ⟨ob, 6, none⟩ = false ∧ w.frozen? ⟨ob, 8, none⟩ = false ∧ w.frozen? ⟨ob, 9, none⟩ = false := by simp [World.frozen?, h.head]
end

/-- An operation, its gate, the memory; nothing else has turned since w0. -/
structure St (w0 w : World) (ob dq hb rb b c : Nat) (ph cn ld er mo tk i o oc : Int) (L : List Int) (t : Int) : Prop where
  op : OpC w ob dq ph cn ld er mo tk i o oc
  deq : GtAt w dq hb b c
  mem : MemAt w hb rb L t
  only : Only (OB hb rb ob) w0 w
  n1 : ¬ Blk hb rb ob
  n2 : ¬ OB hb rb ob dq
  pc : 0 < c
  uc : c ≤ 64
  ub : b ≤ 1000
  len : b + 2 + 2 * c ≤ L.length
  t0 : 0 ≤ t
  t1 : t < 4611686018427387000

section
variable {w0 w w' : World} {ob dq hb rb b c : Nat} {ph cn ld er mo tk i o oc : Int} {L : List Int} {t : Int}
theorem St.drewN (h : St w0 w ob dq hb rb b c ph cn ld er mo tk i o oc L t) (n : Nat) : St w0 (w.drewN n) ob dq hb rb b c ph cn ld er mo tk i o oc L t :=
  { h with op := h.op.drewN n, deq := h.deq.drewN n, mem := h.mem.drewN n, only := h.only.drewN n }
theorem St.step (h : St w0 w ob dq hb rb b c ph cn ld er mo tk i o oc L t) {L' : List Int} (m : MemAt w' hb rb L' (t + 1)) (k : Only (Blk hb rb) w w') (hl : L'.length = L.length) (t2 : t + 1 < 4611686018427387000) : St w0 w' ob dq hb rb b c ph cn ld er mo tk i o oc L' (t + 1) :=
  { h with op := h.op.keep k h.n1, deq := h.deq.keep k (fun hh => h.n2 (.inl hh)), mem := m, only := h.only.trans (k.mono (fun _ h => .inl h)), len := by rw [hl]; exact h.len, t0 := by have := h.t0; omega, t1 := t2 }
theorem St.put (h : St w0 w ob dq hb rb b c ph cn ld er mo tk i o oc L t) {ph' cn' ld' er' mo' tk' i' o' oc' : Int} (n : Nat) (x : Value)
    (e : ((opCells dq ph cn ld er mo tk i o oc).toArray : Array Value).setIfInBounds n x = (opCells dq ph' cn' ld' er' mo' tk' i' o' oc').toArray) :
    St w0 (w.setCell ⟨ob, n, none⟩ x) ob dq hb rb b c ph' cn' ld' er' mo' tk' i' o' oc' L t :=
  have k : Only (fun k => k = ob) w (w.setCell ⟨ob, n, none⟩ x) := (Only.refl (fun k => k = ob) w).setCell (p := ⟨ob, n, none⟩) rfl x
  { h with
    op := ⟨by rw [heap_setCell_self _ h.op.head, e]⟩
    deq := h.deq.keep k (fun hh => h.n2 (.inr hh))
    mem := h.mem.keep k (fun hh => h.n1 (.inl hh.symm)) (fun hh => h.n1 (.inr hh.symm))
    only := h.only.setCell (p := ⟨ob, n, none⟩) (.inr rfl) x }
theorem St.setPh (h : St w0 w ob dq hb rb b c ph cn ld er mo tk i o oc L t) (x : Int) : St w0 (w.setCell ⟨ob, 1, none⟩ (.int .i64 x)) ob dq hb rb b c x cn ld er mo tk i o oc L t := h.put 1 (.int .i64 x) rfl
theorem St.setTk (h : St w0 w ob dq hb rb b c ph cn ld er mo tk i o oc L t) (x : Int) : St w0 (w.setCell ⟨ob, 6, none⟩ (.int .u64 x)) ob dq hb rb b c ph cn ld er mo x i o oc L t := h.put 6 (.int .u64 x) rfl
theorem St.setOut (h : St w0 w ob dq hb rb b c ph cn ld er mo tk i o oc L t) (x : Int) : St w0 (w.setCell ⟨ob, 8, none⟩ (.int .u64 x)) ob dq hb rb b c ph cn ld er mo tk i x oc L t := h.put 8 (.int .u64 x) rfl
theorem St.setOc (h : St w0 w ob dq hb rb b c ph cn ld er mo tk i o oc L t) (x : Int) : St w0 (w.setCell ⟨ob, 9, none⟩ (.int .i64 x)) ob dq hb rb b c ph cn ld er mo tk i o x L t := h.put 9 (.int .i64 x) rfl

theorem St.load (h : St w0 w ob dq hb rb b c ph cn ld er mo tk i o oc L t) (k : Int) (n : Nat) (hk : (b : Int) + k = (n : Int)) (hi : n < L.length) (k0 : 0 ≤ k) (k1 : k ≤ 1000) (t2 : t + 1 < 4611686018427387000) :
    Calls Try.prog 60 #[spanV hb b, .int .i64 k] w fun e w' => e = .returned (.int .u64 (L.getD n 0)) ∧ St w0 w' ob dq hb rb b c ph cn ld er mo tk i o oc L (t + 1) := by
  refine (sload_any h.mem k n hk hi (by have := h.ub; omega) k0 (by omega) h.t0 (by have := h.t1; omega)).mono ?_
  rintro e w1 ⟨rfl, m, k⟩
  exact ⟨rfl, h.step m k rfl t2⟩
theorem St.store (h : St w0 w ob dq hb rb b c ph cn ld er mo tk i o oc L t) (k : Int) (n : Nat) (x : Int) (hk : (b : Int) + k = (n : Int)) (hi : n < L.length) (k0 : 0 ≤ k) (k1 : k ≤ 1000) (t2 : t + 1 < 4611686018427387000) :
    Calls Try.prog 64 #[spanV hb b, .int .i64 k, .int .u64 x] w fun e w' => e = .returned (.tuple #[]) ∧ St w0 w' ob dq hb rb b c ph cn ld er mo tk i o oc (L.set n x) (t + 1) := by
  refine (sstore_any h.mem k n x hk hi (by have := h.ub; omega) k0 (by omega) h.t0 (by have := h.t1; omega)).mono ?_
  rintro e w1 ⟨rfl, m, k⟩
  exact ⟨rfl, h.step m k (by simp) t2⟩
theorem St.swap (h : St w0 w ob dq hb rb b c ph cn ld er mo tk i o oc L t) (k : Int) (n : Nat) (y x : Int) (hk : (b : Int) + k = (n : Int)) (hi : n < L.length) (k0 : 0 ≤ k) (k1 : k ≤ 1000) (t2 : t + 1 < 4611686018427387000) :
    Calls Try.prog 87 #[spanV hb b, .int .i64 k, .int .u64 y, .int .u64 x] w fun e w' => e = .returned (.bool (decide (L.getD n 0 = y))) ∧ St w0 w' ob dq hb rb b c ph cn ld er mo tk i o oc (doAcc L (.swap n y x)).1 (t + 1) := by
  refine (sswap_any h.mem k n y x hk hi (by have := h.ub; omega) k0 (by omega) h.t0 (by have := h.t1; omega)).mono ?_
  rintro e w1 ⟨rfl, m, k⟩
  exact ⟨rfl, h.step m k (by simp only [doAcc]; split <;> simp) t2⟩
theorem St.turn_lt (h : St w0 w ob dq hb rb b c ph cn ld er mo tk i o oc L t) (x : Int) : turnAt b c x + 1 < L.length := Nat.lt_of_lt_of_le (turnAt_lt b c x h.pc) h.len

/-- An operation's slot, and when it is there. -/
theorem oslot_any (h : OpC w ob dq ph cn ld er mo tk i o oc) (hg : GtAt w dq hb b c) (hx : In64 tk) (hc : 0 < c) (hc2 : c ≤ 64) :
    Calls Try.prog 62 #[.pointer (some ⟨ob, 0, none⟩)] w fun e w' => e = .returned (.int .i64 (turnIn c tk : Int)) ∧ ∃ n, w' = w.drewN n := by
  have sl := Lib.hid (fun n => slot_any (hg.drewN n) tk hx hc hc2)
  obtain ⟨c0, c1, c2, c3, c4, c5, c6, c7, c8, c9⟩ := h.c
  clear h hg hx hc hc2
  go_enter Try.func62, Try.ntmps62
  go_wp2
  go_quiet ((go_at_call 86; exact Calls.quiet_of_same ((sl.out _).mono fun _ _ h => ⟨h.1, h.2.symm⟩)))
  go_wp2
  go_ret
  exact ⟨rfl, _, rfl⟩
end
end Go.Proofs.Ytokopocldicnmaa.Gt
