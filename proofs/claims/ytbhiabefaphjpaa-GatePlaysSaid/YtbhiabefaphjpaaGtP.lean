/- The calls that an operation of the gate makes of it: where a slot lies, and the accesses. -/
import Derived.Test.YtbhiabefaphjpaaGtA
import Derived.StillTailTactics
import Derived.IntWalk
namespace Go.Proofs.Ytbhiabefaphjpaa.Gt
open Go.RowKit

/-- World w holds, at block dq, a gate of c slots, over the memory at hb, from the cell b on. -/
structure GtAt (w : World) (dq hb b c : Nat) : Prop where
  head : w.heap[dq]? = some (.cells #[.pointer (some ⟨hb, 0, none⟩), .int .i64 (b : Int), .int .i64 (c : Int)] 109 (0, 0))
theorem GtAt.lt {w : World} {dq hb b c : Nat} (h : GtAt w dq hb b c) : dq < w.heap.size := lt_of_block h.head
theorem GtAt.keep {S : Nat → Prop} {w w' : World} {dq hb b c : Nat} (h : GtAt w dq hb b c) (o : Only S w w') (h1 : ¬ S dq) : GtAt w' dq hb b c := ⟨(o.block dq h.lt h1).trans h.head⟩
theorem GtAt.drewN {w : World} {dq hb b c : Nat} (h : GtAt w dq hb b c) (n : Nat) : GtAt (w.drewN n) dq hb b c := ⟨h.head⟩
theorem GtAt.c0 {w : World} {dq hb b c : Nat} (h : GtAt w dq hb b c) : w.cell? ⟨dq, 0, none⟩ = some (.pointer (some ⟨hb, 0, none⟩)) := by simp [World.cell?, h.head]
theorem GtAt.c1 {w : World} {dq hb b c : Nat} (h : GtAt w dq hb b c) : w.cell? ⟨dq, 1, none⟩ = some (.int .i64 (b : Int)) := by simp [World.cell?, h.head]
theorem GtAt.c2 {w : World} {dq hb b c : Nat} (h : GtAt w dq hb b c) : w.cell? ⟨dq, 2, none⟩ = some (.int .i64 (c : Int)) := by simp [World.cell?, h.head]

theorem slot_any {w : World} {dq hb b c : Nat} (h : GtAt w dq hb b c) (x : Int) (hx : In64 x) (hc : 0 < c) (hc2 : c ≤ 64) :
    Calls Try.prog 101 #[.pointer (some ⟨dq, 0, none⟩), .int .u64 x] w fun e w' => e = .returned (.int .i64 (turnIn c x : Int)) ∧ w = w' := by
  have c2 := h.c2
  obtain ⟨t, rfl⟩ := Int.eq_ofNat_of_zero_le hx.1
  have e1 : IntKind.u64.wrap (c : Int) = (c : Int) := by rw [IntKind.wrap_u64]; omega
  have e2 : Int.tmod (t : Int) (c : Int) = ((t % c : Nat) : Int) := rfl
  have e3 : ¬ ((c : Int) = 0) := by omega
  have hm := Nat.mod_lt t hc
  have e4 : (turnIn c (t : Int) : Int) = 2 + 2 * ((t % c : Nat) : Int) := by unfold turnIn; simp
  rw [e4]
  clear h hx
  generalize hr : t % c = r at e2 hm ⊢
  have hr' : (r : Int) < 64 := by omega
  go_enter Try.func101, Try.ntmps101
  go_wp2
  go_ret
  exact ⟨rfl, rfl⟩

section
variable {w : World} {dq hb rb b c : Nat} {L : List Int} {t : Int}
theorem gload_any (h : GtAt w dq hb b c) (hm : MemAt w hb rb L t) (hne : ¬ Blk hb rb dq) (k : Int) (i : Nat) (hk : (b : Int) + k = (i : Int)) (hi : i < L.length) (hb1 : b ≤ 1000) (k0 : 0 ≤ k) (k1 : k ≤ 1000) (t0 : 0 ≤ t) (t1 : t < 4611686018427387904) :
    Calls Try.prog 56 #[.pointer (some ⟨dq, 0, none⟩), .int .i64 k] w fun e w' => e = .returned (.int .u64 (L.getD i 0)) ∧ MemAt w' hb rb L (t + 1) ∧ Only (Blk hb rb) w w' := by
  have c0 := h.c0
  have c1 := h.c1
  have ld := Lib.hid (fun n => (load_yes (hm.drewN n) i hi t0 t1).mono (R' := fun e w' => e = .returned (.tuple #[.int .u64 (L.getD i 0), .int .i64 0]) ∧ MemAt w' hb rb L (t + 1) ∧ Only (Blk hb rb) w w') (fun e w' hh => ⟨hh.1, hh.2.1, ((Only.refl _ w).drewN n).trans hh.2.2⟩))
  simp only [← hk] at ld
  have h' := Lib.hid h
  have n' := Lib.hid hne
  clear h hne hm hk
  generalize L.getD i 0 = x at ld ⊢
  have hw : IntKind.i64.wrap ((b : Int) + k) = (b : Int) + k := IntWalk.i64_in _ (by omega)
  clear t0 t1 hi hb1 k0 k1
  go_enter Try.func56, Try.ntmps56
  go_wp2
  go_region_held3 (fun w' => w'.cell? ⟨dq, 0, none⟩ = some (.pointer (some ⟨hb, 0, none⟩)) ∧ w'.cell? ⟨dq, 1, none⟩ = some (.int .i64 (b : Int)))
    (first | exact ⟨c0, c1⟩ | exact ⟨k0, k1⟩ | go_keep)
    ((go_at_call 100; refine (ld.out _).mono ?_; rintro e w1 ⟨rfl, h3, o3⟩; have k2 := h'.out.keep o3 n'.out; have k0 := k2.c0; have k1 := k2.c1))
  go_wp2
  go_ret
  exact ⟨rfl, h3, o3⟩
theorem gstore_any (h : GtAt w dq hb b c) (hm : MemAt w hb rb L t) (hne : ¬ Blk hb rb dq) (k : Int) (i : Nat) (x : Int) (hk : (b : Int) + k = (i : Int)) (hi : i < L.length) (hb1 : b ≤ 1000) (k0 : 0 ≤ k) (k1 : k ≤ 1000) (t0 : 0 ≤ t) (t1 : t < 4611686018427387904) :
    Calls Try.prog 60 #[.pointer (some ⟨dq, 0, none⟩), .int .i64 k, .int .u64 x] w fun e w' => e = .returned (.tuple #[]) ∧ MemAt w' hb rb (L.set i x) (t + 1) ∧ Only (Blk hb rb) w w' := by
  have c0 := h.c0
  have c1 := h.c1
  have ld := Lib.hid (fun n => (store_yes (hm.drewN n) i x hi t0 t1).mono (R' := fun e w' => e = .returned (.int .i64 0) ∧ MemAt w' hb rb (L.set i x) (t + 1) ∧ Only (Blk hb rb) w w') (fun e w' hh => ⟨hh.1, hh.2.1, ((Only.refl _ w).drewN n).trans hh.2.2⟩))
  simp only [← hk] at ld
  have h' := Lib.hid h
  have n' := Lib.hid hne
  clear h hne hm hk
  have hw : IntKind.i64.wrap ((b : Int) + k) = (b : Int) + k := IntWalk.i64_in _ (by omega)
  clear t0 t1 hi hb1 k0 k1
  go_enter Try.func60, Try.ntmps60
  go_wp2
  go_region_held3 (fun w' => w'.cell? ⟨dq, 0, none⟩ = some (.pointer (some ⟨hb, 0, none⟩)) ∧ w'.cell? ⟨dq, 1, none⟩ = some (.int .i64 (b : Int)))
    (first | exact ⟨c0, c1⟩ | exact ⟨k0, k1⟩ | go_keep)
    ((go_at_call 30; refine (ld.out _).mono ?_; rintro e w1 ⟨rfl, h3, o3⟩; have k2 := h'.out.keep o3 n'.out; have k0 := k2.c0; have k1 := k2.c1))
  go_wp2
  go_end0
  exact ⟨rfl, h3, o3⟩
theorem gswap_any (h : GtAt w dq hb b c) (hm : MemAt w hb rb L t) (hne : ¬ Blk hb rb dq) (k : Int) (i : Nat) (o x : Int) (hk : (b : Int) + k = (i : Int)) (hi : i < L.length) (hb1 : b ≤ 1000) (k0 : 0 ≤ k) (k1 : k ≤ 1000) (t0 : 0 ≤ t) (t1 : t < 4611686018427387904) :
    Calls Try.prog 102 #[.pointer (some ⟨dq, 0, none⟩), .int .i64 k, .int .u64 o, .int .u64 x] w fun e w' => e = .returned (.bool (decide (L.getD i 0 = o))) ∧ MemAt w' hb rb (doAcc L (.swap i o x)).1 (t + 1) ∧ Only (Blk hb rb) w w' := by
  have c0 := h.c0
  have c1 := h.c1
  have hw : IntKind.i64.wrap ((b : Int) + k) = (b : Int) + k := IntWalk.i64_in _ (by omega)
  simp only [doAcc]
  by_cases he : L.getD i 0 = o
  · rw [if_pos he]
    have ld := Lib.hid (fun n => (swap_done (hm.drewN n) i o x hi he t0 t1).mono (R' := fun e w' => e = .returned (.tuple #[.bool true, .int .i64 0]) ∧ MemAt w' hb rb (L.set i x) (t + 1) ∧ Only (Blk hb rb) w w') (fun e w' hh => ⟨hh.1, hh.2.1, ((Only.refl _ w).drewN n).trans hh.2.2⟩))
    rw [decide_eq_true he]
    simp only [← hk] at ld
    have h' := Lib.hid h
    have n' := Lib.hid hne
    clear h hne hm he t0 t1 hi hk hb1 k0 k1
    go_enter Try.func102, Try.ntmps102
    go_wp2
    go_region_held3 (fun w' => w'.cell? ⟨dq, 0, none⟩ = some (.pointer (some ⟨hb, 0, none⟩)) ∧ w'.cell? ⟨dq, 1, none⟩ = some (.int .i64 (b : Int)))
      (first | exact ⟨c0, c1⟩ | exact ⟨k0, k1⟩ | go_keep)
      ((go_at_call 120; refine (ld.out _).mono ?_; rintro e w1 ⟨rfl, h3, o3⟩; have k2 := h'.out.keep o3 n'.out; have k0 := k2.c0; have k1 := k2.c1))
    go_wp2
    go_ret
    exact ⟨rfl, h3, o3⟩
  · rw [if_neg he]
    have ld := Lib.hid (fun n => (swap_not (hm.drewN n) i o x hi (by simpa using he) t0 t1).mono (R' := fun e w' => e = .returned (.tuple #[.bool false, .int .i64 0]) ∧ MemAt w' hb rb L (t + 1) ∧ Only (Blk hb rb) w w') (fun e w' hh => ⟨hh.1, hh.2.1, ((Only.refl _ w).drewN n).trans hh.2.2⟩))
    rw [decide_eq_false he]
    simp only [← hk] at ld
    have h' := Lib.hid h
    have n' := Lib.hid hne
    clear h hne hm he t0 t1 hi hk hb1 k0 k1
    go_enter Try.func102, Try.ntmps102
    go_wp2
    go_region_held3 (fun w' => w'.cell? ⟨dq, 0, none⟩ = some (.pointer (some ⟨hb, 0, none⟩)) ∧ w'.cell? ⟨dq, 1, none⟩ = some (.int .i64 (b : Int)))
      (first | exact ⟨c0, c1⟩ | exact ⟨k0, k1⟩ | go_keep)
      ((go_at_call 120; refine (ld.out _).mono ?_; rintro e w1 ⟨rfl, h3, o3⟩; have k2 := h'.out.keep o3 n'.out; have k0 := k2.c0; have k1 := k2.c1))
    go_wp2
    go_ret
    exact ⟨rfl, h3, o3⟩
end

/-- The cells of an operation. -/
def opCells (dq : Nat) (ph cn : Int) (ld er mo tk i o oc : Int) : List Value := [.pointer (some ⟨dq, 0, none⟩), .int .i64 ph, .int .i64 cn, .int .u64 ld, .int .i64 er, .int .i64 mo, .int .u64 tk, .int .u64 i, .int .u64 o, .int .i64 oc]
structure OpC (w : World) (ob dq : Nat) (ph cn ld er mo tk i o oc : Int) : Prop where
  head : w.heap[ob]? = some (.cells (opCells dq ph cn ld er mo tk i o oc).toArray 112 (0, 0))
section
variable {w w' : World} {ob dq : Nat} {ph cn ld er mo tk i o oc : Int}
theorem OpC.lt (h : OpC w ob dq ph cn ld er mo tk i o oc) : ob < w.heap.size := lt_of_block h.head
theorem OpC.keep {S : Nat → Prop} (h : OpC w ob dq ph cn ld er mo tk i o oc) (k : Only S w w') (h1 : ¬ S ob) : OpC w' ob dq ph cn ld er mo tk i o oc := ⟨(k.block ob h.lt h1).trans h.head⟩
theorem OpC.drewN (h : OpC w ob dq ph cn ld er mo tk i o oc) (n : Nat) : OpC (w.drewN n) ob dq ph cn ld er mo tk i o oc := ⟨h.head⟩
theorem OpC.c (h : OpC w ob dq ph cn ld er mo tk i o oc) : w.cell? ⟨ob, 0, none⟩ = some (.pointer (some ⟨dq, 0, none⟩)) ∧ w.cell? ⟨ob, 1, none⟩ = some (.int .i64 ph) ∧ w.cell? ⟨ob, 2, none⟩ = some (.int .i64 cn) ∧ w.cell? ⟨ob, 3, none⟩ = some (.int .u64 ld)
    ∧ w.cell? ⟨ob, 4, none⟩ = some (.int .i64 er) ∧ w.cell? ⟨ob, 5, none⟩ = some (.int .i64 mo) ∧ w.cell? ⟨ob, 6, none⟩ = some (.int .u64 tk) ∧ w.cell? ⟨ob, 7, none⟩ = some (.int .u64 i) ∧ w.cell? ⟨ob, 8, none⟩ = some (.int .u64 o) ∧ w.cell? ⟨ob, 9, none⟩ = some (.int .i64 oc) := by
  simp [World.cell?, h.head, opCells]
theorem OpC.f (h : OpC w ob dq ph cn ld er mo tk i o oc) : w.frozen? ⟨ob, 1, none⟩ = false ∧ w.frozen? ⟨ob, 6, none⟩ = false ∧ w.frozen? ⟨ob, 8, none⟩ = false ∧ w.frozen? ⟨ob, 9, none⟩ = false := by simp [World.frozen?, h.head]
end

/-- An operation, its gate, the memory; nothing else has turned since w0. -/
structure St (w0 w : World) (ob dq hb rb b c : Nat) (ph cn ld er mo tk i o oc : Int) (L : List Int) (t : Int) : Prop where
  op : OpC w ob dq ph cn ld er mo tk i o oc
  deq : GtAt w dq hb b c
  mem : MemAt w hb rb L t
  only : Only (OB hb rb ob) w0 w
  n1 : ¬ Blk hb rb ob
  n2 : ¬ OB hb rb ob dq
  pc : 0 < c
  uc : c ≤ 64
  ub : b ≤ 1000
  len : b + 2 + 2 * c ≤ L.length
  t0 : 0 ≤ t
  t1 : t < 4611686018427387000

section
variable {w0 w w' : World} {ob dq hb rb b c : Nat} {ph cn ld er mo tk i o oc : Int} {L : List Int} {t : Int}
theorem St.drewN (h : St w0 w ob dq hb rb b c ph cn ld er mo tk i o oc L t) (n : Nat) : St w0 (w.drewN n) ob dq hb rb b c ph cn ld er mo tk i o oc L t :=
  { h with op := h.op.drewN n, deq := h.deq.drewN n, mem := h.mem.drewN n, only := h.only.drewN n }
theorem St.step (h : St w0 w ob dq hb rb b c ph cn ld er mo tk i o oc L t) {L' : List Int} (m : MemAt w' hb rb L' (t + 1)) (k : Only (Blk hb rb) w w') (hl : L'.length = L.length) (t2 : t + 1 < 4611686018427387000) : St w0 w' ob dq hb rb b c ph cn ld er mo tk i o oc L' (t + 1) :=
  { h with op := h.op.keep k h.n1, deq := h.deq.keep k (fun hh => h.n2 (.inl hh)), mem := m, only := h.only.trans (k.mono (fun _ h => .inl h)), len := by rw [hl]; exact h.len, t0 := by have := h.t0; omega, t1 := t2 }
theorem St.put (h : St w0 w ob dq hb rb b c ph cn ld er mo tk i o oc L t) {ph' cn' ld' er' mo' tk' i' o' oc' : Int} (n : Nat) (x : Value)
    (e : ((opCells dq ph cn ld er mo tk i o oc).toArray : Array Value).setIfInBounds n x = (opCells dq ph' cn' ld' er' mo' tk' i' o' oc').toArray) :
    St w0 (w.setCell ⟨ob, n, none⟩ x) ob dq hb rb b c ph' cn' ld' er' mo' tk' i' o' oc' L t :=
  have k : Only (fun k => k = ob) w (w.setCell ⟨ob, n, none⟩ x) := (Only.refl (fun k => k = ob) w).setCell (p := ⟨ob, n, none⟩) rfl x
  { h with
    op := ⟨by rw [heap_setCell_self _ h.op.head, e]⟩
    deq := h.deq.keep k (fun hh => h.n2 (.inr hh))
    mem := h.mem.keep k (fun hh => h.n1 (.inl hh.symm)) (fun hh => h.n1 (.inr hh.symm))
    only := h.only.setCell (p := ⟨ob, n, none⟩) (.inr rfl) x }
theorem St.setPh (h : St w0 w ob dq hb rb b c ph cn ld er mo tk i o oc L t) (x : Int) : St w0 (w.setCell ⟨ob, 1, none⟩ (.int .i64 x)) ob dq hb rb b c x cn ld er mo tk i o oc L t := h.put 1 (.int .i64 x) rfl
theorem St.setTk (h : St w0 w ob dq hb rb b c ph cn ld er mo tk i o oc L t) (x : Int) : St w0 (w.setCell ⟨ob, 6, none⟩ (.int .u64 x)) ob dq hb rb b c ph cn ld er mo x i o oc L t := h.put 6 (.int .u64 x) rfl
theorem St.setOut (h : St w0 w ob dq hb rb b c ph cn ld er mo tk i o oc L t) (x : Int) : St w0 (w.setCell ⟨ob, 8, none⟩ (.int .u64 x)) ob dq hb rb b c ph cn ld er mo tk i x oc L t := h.put 8 (.int .u64 x) rfl
theorem St.setOc (h : St w0 w ob dq hb rb b c ph cn ld er mo tk i o oc L t) (x : Int) : St w0 (w.setCell ⟨ob, 9, none⟩ (.int .i64 x)) ob dq hb rb b c ph cn ld er mo tk i o x L t := h.put 9 (.int .i64 x) rfl

theorem St.load (h : St w0 w ob dq hb rb b c ph cn ld er mo tk i o oc L t) (k : Int) (n : Nat) (hk : (b : Int) + k = (n : Int)) (hi : n < L.length) (k0 : 0 ≤ k) (k1 : k ≤ 1000) (t2 : t + 1 < 4611686018427387000) :
    Calls Try.prog 56 #[.pointer (some ⟨dq, 0, none⟩), .int .i64 k] w fun e w' => e = .returned (.int .u64 (L.getD n 0)) ∧ St w0 w' ob dq hb rb b c ph cn ld er mo tk i o oc L (t + 1) := by
  refine (gload_any h.deq h.mem (fun hh => h.n2 (.inl hh)) k n hk hi h.ub k0 k1 h.t0 (by have := h.t1; omega)).mono ?_
  rintro e w1 ⟨rfl, m, k⟩
  exact ⟨rfl, h.step m k rfl t2⟩
theorem St.store (h : St w0 w ob dq hb rb b c ph cn ld er mo tk i o oc L t) (k : Int) (n : Nat) (x : Int) (hk : (b : Int) + k = (n : Int)) (hi : n < L.length) (k0 : 0 ≤ k) (k1 : k ≤ 1000) (t2 : t + 1 < 4611686018427387000) :
    Calls Try.prog 60 #[.pointer (some ⟨dq, 0, none⟩), .int .i64 k, .int .u64 x] w fun e w' => e = .returned (.tuple #[]) ∧ St w0 w' ob dq hb rb b c ph cn ld er mo tk i o oc (L.set n x) (t + 1) := by
  refine (gstore_any h.deq h.mem (fun hh => h.n2 (.inl hh)) k n x hk hi h.ub k0 k1 h.t0 (by have := h.t1; omega)).mono ?_
  rintro e w1 ⟨rfl, m, k⟩
  exact ⟨rfl, h.step m k (by simp) t2⟩
theorem St.swap (h : St w0 w ob dq hb rb b c ph cn ld er mo tk i o oc L t) (k : Int) (n : Nat) (y x : Int) (hk : (b : Int) + k = (n : Int)) (hi : n < L.length) (k0 : 0 ≤ k) (k1 : k ≤ 1000) (t2 : t + 1 < 4611686018427387000) :
    Calls Try.prog 102 #[.pointer (some ⟨dq, 0, none⟩), .int .i64 k, .int .u64 y, .int .u64 x] w fun e w' => e = .returned (.bool (decide (L.getD n 0 = y))) ∧ St w0 w' ob dq hb rb b c ph cn ld er mo tk i o oc (doAcc L (.swap n y x)).1 (t + 1) := by
  refine (gswap_any h.deq h.mem (fun hh => h.n2 (.inl hh)) k n y x hk hi h.ub k0 k1 h.t0 (by have := h.t1; omega)).mono ?_
  rintro e w1 ⟨rfl, m, k⟩
  exact ⟨rfl, h.step m k (by simp only [doAcc]; split <;> simp) t2⟩
theorem St.turn_lt (h : St w0 w ob dq hb rb b c ph cn ld er mo tk i o oc L t) (x : Int) : turnAt b c x + 1 < L.length := Nat.lt_of_lt_of_le (turnAt_lt b c x h.pc) h.len

/-- An operation's slot, and when it is there. -/
theorem oslot_any (h : OpC w ob dq ph cn ld er mo tk i o oc) (hg : GtAt w dq hb b c) (hx : In64 tk) (hc : 0 < c) (hc2 : c ≤ 64) :
    Calls Try.prog 58 #[.pointer (some ⟨ob, 0, none⟩)] w fun e w' => e = .returned (.int .i64 (turnIn c tk : Int)) ∧ ∃ n, w' = w.drewN n := by
  have sl := Lib.hid (fun n => slot_any (hg.drewN n) tk hx hc hc2)
  obtain ⟨c0, c1, c2, c3, c4, c5, c6, c7, c8, c9⟩ := h.c
  clear h hg hx hc hc2
  go_enter Try.func58, Try.ntmps58
  go_wp2
  go_quiet ((go_at_call 101; exact Calls.quiet_of_same ((sl.out _).mono fun _ _ h => ⟨h.1, h.2.symm⟩)))
  go_wp2
  go_ret
  exact ⟨rfl, _, rfl⟩
end
end Go.Proofs.Ytbhiabefaphjpaa.Gt
