/- The calls that an operation of the deque makes of it: where a slot lies, and the accesses. -/
import Derived.Test.YthebfnmihjbajaaDqA
import Derived.Test.YthebfnmihjbajaaSpanA
import Derived.StillTailTactics
import Derived.IntWalk
namespace Go.Proofs.Ythebfnmihjbajaa.Dq
open Go.RowKit

/-- World w holds, at block dq, a deque of c slots, over the memory at hb, from the cell b on. -/
structure DqAt (w : World) (dq hb b c : Nat) : Prop where
  head : w.heap[dq]? = some (.cells #[.pointer (some ⟨hb, 0, none⟩), .int .i64 (b : Int), .int .i64 (c : Int)] 76 (0, 0))
theorem DqAt.lt {w : World} {dq hb b c : Nat} (h : DqAt w dq hb b c) : dq < w.heap.size := lt_of_block h.head
theorem DqAt.keep {S : Nat → Prop} {w w' : World} {dq hb b c : Nat} (h : DqAt w dq hb b c) (o : Only S w w') (h1 : ¬ S dq) : DqAt w' dq hb b c := ⟨(o.block dq h.lt h1).trans h.head⟩
theorem DqAt.drewN {w : World} {dq hb b c : Nat} (h : DqAt w dq hb b c) (n : Nat) : DqAt (w.drewN n) dq hb b c := ⟨h.head⟩
theorem DqAt.c0 {w : World} {dq hb b c : Nat} (h : DqAt w dq hb b c) : w.cell? ⟨dq, 0, none⟩ = some (.pointer (some ⟨hb, 0, none⟩)) := by simp [World.cell?, h.head]
theorem DqAt.c1 {w : World} {dq hb b c : Nat} (h : DqAt w dq hb b c) : w.cell? ⟨dq, 1, none⟩ = some (.int .i64 (b : Int)) := by simp [World.cell?, h.head]
theorem DqAt.c2 {w : World} {dq hb b c : Nat} (h : DqAt w dq hb b c) : w.cell? ⟨dq, 2, none⟩ = some (.int .i64 (c : Int)) := by simp [World.cell?, h.head]

/-- Which of the deque's cells a slot is. -/
def slotIn (c : Nat) (x : Int) : Nat := 2 + x.toNat % c
theorem slotIn_lt (c : Nat) (x : Int) (hc : 0 < c) (hc2 : c ≤ 64) : slotIn c x < 66 := by
  have := Nat.mod_lt x.toNat hc
  unfold slotIn; omega
theorem slot_any {w : World} {dq hb b c : Nat} (h : DqAt w dq hb b c) (x : Int) (hx : In64 x) (hc : 0 < c) (hc2 : c ≤ 64) :
    Calls Try.prog 58 #[.pointer (some ⟨dq, 0, none⟩), .int .u64 x] w fun e w' => e = .returned (.int .i64 (slotIn c x : Int)) ∧ w = w' := by
  have c2 := h.c2
  obtain ⟨t, rfl⟩ := Int.eq_ofNat_of_zero_le hx.1
  have e1 : IntKind.u64.wrap (c : Int) = (c : Int) := by rw [IntKind.wrap_u64]; omega
  have e2 : Int.tmod (t : Int) (c : Int) = ((t % c : Nat) : Int) := rfl
  have e3 : ¬ ((c : Int) = 0) := by omega
  have hm := Nat.mod_lt t hc
  have e4 : (slotIn c (t : Int) : Int) = 2 + ((t % c : Nat) : Int) := by unfold slotIn; simp
  rw [e4]
  clear h hx
  generalize hr : t % c = r at e2 hm ⊢
  have hr' : (r : Int) < 64 := by omega
  go_enter Try.func58, Try.ntmps58
  go_wp2
  go_ret
  exact ⟨rfl, rfl⟩


/-- The cells of an operation. -/
structure OpC (w : World) (ob dq : Nat) (nx : Value) (out tt bb v val : Int) : Prop where
  head : w.heap[ob]? = some (.cells [.pointer (some ⟨dq, 0, none⟩), nx, .int .i64 out, .int .u64 tt, .int .u64 bb, .int .u64 v, .int .u64 val].toArray 78 (0, 0))
section
variable {w w' : World} {ob dq : Nat} {nx : Value} {out tt bb v val : Int}
theorem OpC.lt (h : OpC w ob dq nx out tt bb v val) : ob < w.heap.size := lt_of_block h.head
theorem OpC.keep {S : Nat → Prop} (h : OpC w ob dq nx out tt bb v val) (o : Only S w w') (h1 : ¬ S ob) : OpC w' ob dq nx out tt bb v val := ⟨(o.block ob h.lt h1).trans h.head⟩
theorem OpC.drewN (h : OpC w ob dq nx out tt bb v val) (n : Nat) : OpC (w.drewN n) ob dq nx out tt bb v val := ⟨h.head⟩
theorem OpC.c (h : OpC w ob dq nx out tt bb v val) : w.cell? ⟨ob, 0, none⟩ = some (.pointer (some ⟨dq, 0, none⟩)) ∧ w.cell? ⟨ob, 1, none⟩ = some nx ∧ w.cell? ⟨ob, 2, none⟩ = some (.int .i64 out) ∧ w.cell? ⟨ob, 3, none⟩ = some (.int .u64 tt)
    ∧ w.cell? ⟨ob, 4, none⟩ = some (.int .u64 bb) ∧ w.cell? ⟨ob, 5, none⟩ = some (.int .u64 v) ∧ w.cell? ⟨ob, 6, none⟩ = some (.int .u64 val) := by
  simp [World.cell?, h.head]
theorem OpC.f (h : OpC w ob dq nx out tt bb v val) : w.frozen? ⟨ob, 1, none⟩ = false ∧ w.frozen? ⟨ob, 2, none⟩ = false ∧ w.frozen? ⟨ob, 3, none⟩ = false ∧ w.frozen? ⟨ob, 4, none⟩ = false ∧ w.frozen? ⟨ob, 5, none⟩ = false ∧ w.frozen? ⟨ob, 6, none⟩ = false := by simp [World.frozen?, h.head]
end

/-- An operation, its deque, the memory; nothing else has turned since w0. -/
structure St (w0 w : World) (ob dq hb rb b c : Nat) (nx : Value) (out tt bb v val : Int) (L : List Int) (t : Int) : Prop where
  op : OpC w ob dq nx out tt bb v val
  deq : DqAt w dq hb b c
  mem : MemAt w hb rb L t
  only : Only (OB hb rb ob) w0 w
  n1 : ¬ Blk hb rb ob
  n2 : ¬ OB hb rb ob dq
  pc : 0 < c
  uc : c ≤ 64
  ub : b ≤ 1000
  len : b + 2 + c ≤ L.length
  t0 : 0 ≤ t
  t1 : t < 4611686018427387000

section
variable {w0 w w' : World} {ob dq hb rb b c : Nat} {nx : Value} {out tt bb v val : Int} {L : List Int} {t : Int}
theorem St.drewN (h : St w0 w ob dq hb rb b c nx out tt bb v val L t) (n : Nat) : St w0 (w.drewN n) ob dq hb rb b c nx out tt bb v val L t :=
  { h with op := h.op.drewN n, deq := h.deq.drewN n, mem := h.mem.drewN n, only := h.only.drewN n }
theorem St.step (h : St w0 w ob dq hb rb b c nx out tt bb v val L t) {L' : List Int} (m : MemAt w' hb rb L' (t + 1)) (o : Only (Blk hb rb) w w') (hl : L'.length = L.length) (t2 : t + 1 < 4611686018427387000) : St w0 w' ob dq hb rb b c nx out tt bb v val L' (t + 1) :=
  { h with op := h.op.keep o h.n1, deq := h.deq.keep o (fun hh => h.n2 (.inl hh)), mem := m, only := h.only.trans (o.mono (fun _ h => .inl h)), len := by rw [hl]; exact h.len, t0 := by have := h.t0; omega, t1 := t2 }
theorem St.put (h : St w0 w ob dq hb rb b c nx out tt bb v val L t) {nx' : Value} {out' tt' bb' v' val' : Int} (i : Nat) (x : Value)
    (e : ([.pointer (some ⟨dq, 0, none⟩), nx, .int .i64 out, .int .u64 tt, .int .u64 bb, .int .u64 v, .int .u64 val].toArray : Array Value).setIfInBounds i x = [.pointer (some ⟨dq, 0, none⟩), nx', .int .i64 out', .int .u64 tt', .int .u64 bb', .int .u64 v', .int .u64 val'].toArray) :
    St w0 (w.setCell ⟨ob, i, none⟩ x) ob dq hb rb b c nx' out' tt' bb' v' val' L t :=
  have o : Only (fun k => k = ob) w (w.setCell ⟨ob, i, none⟩ x) := (Only.refl (fun k => k = ob) w).setCell (p := ⟨ob, i, none⟩) rfl x
  { h with
    op := ⟨by rw [heap_setCell_self _ h.op.head, e]⟩
    deq := h.deq.keep o (fun hh => h.n2 (.inr hh))
    mem := h.mem.keep o (fun hh => h.n1 (.inl hh.symm)) (fun hh => h.n1 (.inr hh.symm))
    only := h.only.setCell (p := ⟨ob, i, none⟩) (.inr rfl) x }
theorem St.set1 (h : St w0 w ob dq hb rb b c nx out tt bb v val L t) (x : Value) : St w0 (w.setCell ⟨ob, 1, none⟩ x) ob dq hb rb b c x out tt bb v val L t := h.put 1 x rfl
theorem St.set2 (h : St w0 w ob dq hb rb b c nx out tt bb v val L t) (x : Int) : St w0 (w.setCell ⟨ob, 2, none⟩ (.int .i64 x)) ob dq hb rb b c nx x tt bb v val L t := h.put 2 (.int .i64 x) rfl
theorem St.set3 (h : St w0 w ob dq hb rb b c nx out tt bb v val L t) (x : Int) : St w0 (w.setCell ⟨ob, 3, none⟩ (.int .u64 x)) ob dq hb rb b c nx out x bb v val L t := h.put 3 (.int .u64 x) rfl
theorem St.set4 (h : St w0 w ob dq hb rb b c nx out tt bb v val L t) (x : Int) : St w0 (w.setCell ⟨ob, 4, none⟩ (.int .u64 x)) ob dq hb rb b c nx out tt x v val L t := h.put 4 (.int .u64 x) rfl
theorem St.set5 (h : St w0 w ob dq hb rb b c nx out tt bb v val L t) (x : Int) : St w0 (w.setCell ⟨ob, 5, none⟩ (.int .u64 x)) ob dq hb rb b c nx out tt bb x val L t := h.put 5 (.int .u64 x) rfl
theorem St.set6 (h : St w0 w ob dq hb rb b c nx out tt bb v val L t) (x : Int) : St w0 (w.setCell ⟨ob, 6, none⟩ (.int .u64 x)) ob dq hb rb b c nx out tt bb v x L t := h.put 6 (.int .u64 x) rfl
theorem St.r0 (h : St w0 w ob dq hb rb b c nx out tt bb v val L t) : w.cell? ⟨dq, 0, none⟩ = some (.pointer (some ⟨hb, 0, none⟩)) := h.deq.c0

theorem St.load (h : St w0 w ob dq hb rb b c nx out tt bb v val L t) (k : Int) (i : Nat) (hk : (b : Int) + k = (i : Int)) (hi : i < L.length) (k0 : 0 ≤ k) (k1 : k ≤ 100) (t2 : t + 1 < 4611686018427387000) :
    Calls Try.prog 50 #[spanV hb b, .int .i64 k] w fun e w' => e = .returned (.int .u64 (L.getD i 0)) ∧ St w0 w' ob dq hb rb b c nx out tt bb v val L (t + 1) := by
  refine (sload_any h.mem k i hk hi (by have := h.ub; omega) k0 (by omega) h.t0 (by have := h.t1; omega)).mono ?_
  rintro e w1 ⟨rfl, m, o⟩
  exact ⟨rfl, h.step m o rfl t2⟩
theorem St.store (h : St w0 w ob dq hb rb b c nx out tt bb v val L t) (k : Int) (i : Nat) (x : Int) (hk : (b : Int) + k = (i : Int)) (hi : i < L.length) (k0 : 0 ≤ k) (k1 : k ≤ 100) (t2 : t + 1 < 4611686018427387000) :
    Calls Try.prog 32 #[spanV hb b, .int .i64 k, .int .u64 x] w fun e w' => e = .returned (.tuple #[]) ∧ St w0 w' ob dq hb rb b c nx out tt bb v val (L.set i x) (t + 1) := by
  refine (sstore_any h.mem k i x hk hi (by have := h.ub; omega) k0 (by omega) h.t0 (by have := h.t1; omega)).mono ?_
  rintro e w1 ⟨rfl, m, o⟩
  exact ⟨rfl, h.step m o (by simp) t2⟩
theorem St.swap (h : St w0 w ob dq hb rb b c nx out tt bb v val L t) (k : Int) (i : Nat) (o x : Int) (hk : (b : Int) + k = (i : Int)) (hi : i < L.length) (k0 : 0 ≤ k) (k1 : k ≤ 100) (t2 : t + 1 < 4611686018427387000) :
    Calls Try.prog 66 #[spanV hb b, .int .i64 k, .int .u64 o, .int .u64 x] w fun e w' => e = .returned (.bool (decide (L.getD i 0 = o))) ∧ St w0 w' ob dq hb rb b c nx out tt bb v val (doAcc L (.swap i o x)).1 (t + 1) := by
  refine (sswap_any h.mem k i o x hk hi (by have := h.ub; omega) k0 (by omega) h.t0 (by have := h.t1; omega)).mono ?_
  rintro e w1 ⟨rfl, m, o⟩
  exact ⟨rfl, h.step m o (by simp only [doAcc]; split <;> simp) t2⟩
theorem St.slot (h : St w0 w ob dq hb rb b c nx out tt bb v val L t) (x : Int) (hx : In64 x) :
    Calls Try.prog 58 #[.pointer (some ⟨dq, 0, none⟩), .int .u64 x] w fun e w' => e = .returned (.int .i64 (slotIn c x : Int)) ∧ w = w' := slot_any h.deq x hx h.pc h.uc
theorem St.slot_lt (h : St w0 w ob dq hb rb b c nx out tt bb v val L t) (x : Int) : slotAt b c x < L.length := Nat.lt_of_lt_of_le (slotAt_lt b c x h.pc) h.len
end
theorem slot_cell (b c : Nat) (x : Int) : (b : Int) + (slotIn c x : Int) = (slotAt b c x : Int) := by unfold slotIn slotAt; omega
end Go.Proofs.Ythebfnmihjbajaa.Dq
