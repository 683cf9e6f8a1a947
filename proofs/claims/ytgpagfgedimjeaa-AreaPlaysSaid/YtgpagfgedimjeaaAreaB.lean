/- Worlds that hold an area; what a call may turn; copies of rows of regions. -/
import Derived.Test.YtgpagfgedimjeaaAreaA
import Derived.WalkKit
import Derived.WalkSpells
import Derived.WalkLawsBesides
import Derived.OneCell
import Derived.BigQuiet
import Derived.Deep.QuietTactic
import Derived.Outline
import Derived.Lib.Hide
import Derived.Deep.OwnRows
import Derived.Laws.CopyOwn
import Derived.Laws.AppendOwnNone
import Derived.Lib.MinMax
import Derived.Lib.Walk
import Derived.LoopTactic
import Derived.RegionTactic
import Derived.BigRegion
import Derived.Deep.RegionLaw
namespace Go.Proofs.Ytgpagfgedimjeaa
open Go.RowKit

/-- Nothing but the blocks of S has turned between w and w'; new blocks may have come. -/
structure Only (S : Nat → Prop) (w w' : World) : Prop where
  os : w'.os = w.os
  tape : w'.tape = w.tape
  output : w'.output = w.output
  size : w.heap.size ≤ w'.heap.size
  block : ∀ k, k < w.heap.size → ¬ S k → w'.heap[k]? = w.heap[k]?

/-- Nothing that there was has turned. -/
def Nil (_ : Nat) : Prop := False

theorem Only.refl (S : Nat → Prop) (w : World) : Only S w w := ⟨rfl, rfl, rfl, Nat.le_refl _, fun _ _ _ => rfl⟩
theorem Only.trans {S : Nat → Prop} {a b c : World} (h : Only S a b) (k : Only S b c) : Only S a c :=
  ⟨k.os.trans h.os, k.tape.trans h.tape, k.output.trans h.output, Nat.le_trans h.size k.size, fun i hi hs => (k.block i (Nat.lt_of_lt_of_le hi h.size) hs).trans (h.block i hi hs)⟩
theorem Only.mono {S T : Nat → Prop} {w w' : World} (h : Only S w w') (hS : ∀ k, S k → T k) : Only T w w' :=
  ⟨h.os, h.tape, h.output, h.size, fun k hk ht => h.block k hk (fun hs => ht (hS k hs))⟩
theorem Only.nilTo {w w' : World} (h : Only Nil w w') (S : Nat → Prop) : Only S w w' := h.mono (fun _ hk => hk.elim)
/-- What is new may turn. -/
theorem Only.then {S T : Nat → Prop} {a b c : World} (h : Only S a b) (k : Only T b c) (hT : ∀ i, T i → i < a.heap.size → S i) : Only S a c :=
  ⟨k.os.trans h.os, k.tape.trans h.tape, k.output.trans h.output, Nat.le_trans h.size k.size, fun i hi hs => (k.block i (Nat.lt_of_lt_of_le hi h.size) (fun t => hs (hT i t hi))).trans (h.block i hi hs)⟩
theorem Only.setCell {S : Nat → Prop} {a w : World} (h : Only S a w) {p : Addr} (hp : S p.block) (u : Value) : Only S a (w.setCell p u) :=
  h.trans ⟨rfl, rfl, rfl, by simp [World.setCell], fun k _ hs => Below.heap_setCell _ _ _ _ (fun e => hs (e ▸ hp))⟩
theorem Only.setRow {S : Nat → Prop} {a w : World} (h : Only S a w) {g : Nat} (hp : S g) (u : Array Value) : Only S a (w.setRow g u) :=
  h.trans ⟨rfl, rfl, rfl, by simp [World.setRow], fun k _ hs => setRow_other w g k u (fun e => hs (e ▸ hp))⟩
theorem Only.alloc {S : Nat → Prop} {a w : World} (h : Only S a w) (o : Obj) : Only S a (w.alloc o) :=
  h.trans ⟨rfl, rfl, rfl, by simp, fun k hk _ => Below.heap_alloc _ _ _ hk⟩
theorem Only.drew {S : Nat → Prop} {a w : World} (h : Only S a w) : Only S a w.drew := ⟨h.os, h.tape, h.output, h.size, h.block⟩
theorem Only.drewN {S : Nat → Prop} {a w : World} (h : Only S a w) (n : Nat) : Only S a (w.drewN n) := ⟨h.os, h.tape, h.output, h.size, h.block⟩
theorem Only.below {S : Nat → Prop} {w w' : World} (h : Only S w w') {B : Nat} (hB : B ≤ w.heap.size) (hS : ∀ k, S k → B ≤ k) : Below B w w' :=
  ⟨h.os, h.tape, h.output, h.size, fun k hk => h.block k (by omega) (fun s => by have := hS k s; omega)⟩
theorem Only.ofBelow {w w' : World} (h : Below w.heap.size w w') (S : Nat → Prop) : Only S w w' := ⟨h.os, h.tape, h.output, h.size, fun k hk _ => h.block k hk⟩
theorem Only.fresh {S : Nat → Prop} {w w' : World} (h : Only S w w') (hS : ∀ k, S k → w.heap.size ≤ k) : Only Nil w w' :=
  ⟨h.os, h.tape, h.output, h.size, fun k hk _ => h.block k hk (fun s => by have := hS k s; omega)⟩
theorem Only.ofGrown {w w' : World} {row : Option Nat} (h : w.grownBy w' row) : Only (fun k => some k = row) w w' := ⟨h.os, h.tape, h.output, h.size, h.block⟩

theorem heap_new (w : World) (o : Obj) : (w.alloc o).heap[w.heap.size]? = some o := by
  show (w.heap.push o)[w.heap.size]? = _
  simp
theorem heap_setCell_self {w : World} {b o : Nat} {vs : Array Value} {t : TypeId} {m : Nat × Nat} (u : Value) (h : w.heap[b]? = some (.cells vs t m)) :
    (w.setCell ⟨b, o, none⟩ u).heap[b]? = some (.cells (vs.setIfInBounds o u) t m) := by
  have hlt := lt_of_block h
  have h' : w.heap[b] = .cells vs t m := by simpa [Array.getElem?_eq_getElem hlt] using h
  show (w.heap.modify b _)[b]? = _
  rw [Array.getElem?_eq_getElem (by simpa using hlt), Array.getElem_modify_self, h']
  rfl
theorem add_lit0 (g o j : Nat) : (⟨g, o, none⟩ : Addr).add j = ⟨g, o + j, none⟩ := by unfold Addr.add; split <;> simp_all
theorem own_slice {w : World} {e : TypeId} {s : Nat} {v : Value} {n : Nat} {xs : List Value} (h : w.ownsRow 0 e s v n xs) : ∃ a c, v = .slice a n c := by
  rcases h.2 with ⟨rfl, rfl⟩ | ⟨g, c, _, h, _⟩
  · exact ⟨none, 0, rfl⟩
  · exact ⟨_, c, h⟩

/-- A callee that turns nothing, met in a region that draws. -/
theorem quiet_same {P : Program} {f : FuncId} {args : Array Value} {w : World} {n : Nat} {v : Value}
    (h : Calls P f args (w.drewN n) fun e w' => e = .returned v ∧ w.drewN n = w') : Calls P f args (w.drewN n) fun e w'' => e = .returned v ∧ ∃ m, w'' = w.drewN m :=
  h.mono fun _ _ ⟨he, hm⟩ => ⟨he, n, hm.symm⟩

section
variable {P : Program}
/-- copy at elements of two cells. -/
theorem run_copy2 (w : World) (dT sT ty elem : TypeId) (hu : P.underlying dT = some (.slice elem)) (hz : (P.info? elem).map (·.size) = some 2) (g o dLen dCap : Nat) (ad : Addr) (sLen sCap : Nat)
    (cur : List Value) (t : TypeId) (hg : w.heap[g]? = some (.cells cur.toArray t (0, 0))) (m : Nat) (hm : m = Nat.min sLen dLen) (cs : List Value) (hn : cs.length = m * 2)
    (hsrc : ∀ j v, cs[j]? = some v → w.cell? (ad.add j) = some v) (hfit : o + cs.length ≤ cur.length) (h1 : ∀ v ∈ cs, v.oneCell' = true) :
    (Builtin.copy_ #[dT, sT] ty #[.slice (some ⟨g, o, none⟩) dLen dCap, .slice (some ad) sLen sCap]).run P w = .ok (goInt m) (w.setRow g (splice cur o cs).toArray) := by
  subst hm
  have hl := run_loadCells_list (P := P) w ad cs hsrc
  have hst := run_storeCells_at P g o t cs 0 cur.toArray w hg (by simpa using hfit) h1
  cases hq : P.info? elem with
  | none => simp [hq] at hz
  | some i =>
    have hi : i.size = 2 := by simpa [hq] using hz
    rw [hn] at hl
    simp [Builtin.copy_, run_underlying hu, Builtin.lenOf, Builtin.firstCells, sizeOf, typeInfo, hq, hi, hl, hst, splice]
theorem run_copy2_none (w : World) (dT sT ty elem : TypeId) (hu : P.underlying dT = some (.slice elem)) (hz : (P.info? elem).map (·.size) = some 2) (d a : Option Addr) (dLen dCap sLen sCap : Nat) (hn : Nat.min sLen dLen = 0) :
    (Builtin.copy_ #[dT, sT] ty #[.slice d dLen dCap, .slice a sLen sCap]).run P w = .ok (goInt 0) w := by
  cases hq : P.info? elem with
  | none => simp [hq] at hz
  | some i =>
    have hl : ∀ (x : Addr), (loadCells x 0).run P w = .ok #[] w := fun x => by simpa using run_loadCells_list (P := P) w x [] (by simp)
    cases d <;> cases a <;> simp [Builtin.copy_, run_underlying hu, Builtin.lenOf, Builtin.firstCells, sizeOf, typeInfo, hq, hn, storeCells, hl]

/-- The same, of a destination and a source that are told only where something goes over. -/
theorem run_copy2_any (w : World) (dT sT ty elem : TypeId) (hu : P.underlying dT = some (.slice elem)) (hz : (P.info? elem).map (·.size) = some 2) (dp sp : Option Addr) (dLen dCap sLen sCap : Nat)
    (g o : Nat) (cur : List Value) (t : TypeId) (hg : w.heap[g]? = some (.cells cur.toArray t (0, 0))) (m : Nat) (hm : m = Nat.min sLen dLen) (cs : List Value) (hn : cs.length = m * 2)
    (hpos : 0 < m → dp = some ⟨g, o, none⟩ ∧ ∃ ad, sp = some ad ∧ ∀ j v, cs[j]? = some v → w.cell? (ad.add j) = some v) (hfit : o + cs.length ≤ cur.length) (h1 : ∀ v ∈ cs, v.oneCell' = true) :
    ∃ w', (Builtin.copy_ #[dT, sT] ty #[.slice dp dLen dCap, .slice sp sLen sCap]).run P w = .ok (goInt m) w' ∧ w'.heap[g]? = some (.cells (splice cur o cs).toArray t (0, 0)) ∧ Only (fun k => k = g) w w' := by
  by_cases h0 : m = 0
  · subst h0
    obtain rfl : cs = [] := List.eq_nil_of_length_eq_zero (by simpa using hn)
    exact ⟨w, run_copy2_none w dT sT ty elem hu hz dp sp dLen dCap sLen sCap hm.symm, by simpa [splice] using hg, Only.refl _ _⟩
  · obtain ⟨rfl, ad, rfl, hsrc⟩ := hpos (by omega)
    exact ⟨_, run_copy2 w dT sT ty elem hu hz g o dLen dCap ad sLen sCap cur t hg m hm cs hn hsrc hfit h1, setRow_heap w g _ _ t _ hg, (Only.refl (fun k => k = g) w).setRow (g := g) rfl _⟩

theorem wpList_copy2 {w : World} {ops : Array Oper} {rest : List Oper} {op : Oper} {a : Act} {Q : Exit → Act → World → Prop} (hgd : op.guard = none) (d s : Operand) (dT sT : TypeId)
    (ho : op.op = .call { callee := .builtin .copy, args := #[d, s], argTypes := #[dT, sT] }) (elem : TypeId) (hu : P.underlying dT = some (.slice elem)) (hz : (P.info? elem).map (·.size) = some 2)
    (dp sp : Option Addr) (dLen dCap sLen sCap : Nat) (hd : a.eval d = .slice dp dLen dCap) (hs : a.eval s = .slice sp sLen sCap)
    (g o : Nat) (cur : List Value) (t : TypeId) (hg : w.heap[g]? = some (.cells cur.toArray t (0, 0))) (m : Nat) (hm : m = Nat.min sLen dLen) (cs : List Value) (hn : cs.length = m * 2)
    (hpos : 0 < m → dp = some ⟨g, o, none⟩ ∧ ∃ ad, sp = some ad ∧ ∀ j v, cs[j]? = some v → w.cell? (ad.add j) = some v) (hfit : o + cs.length ≤ cur.length) (h1 : ∀ v ∈ cs, v.oneCell' = true)
    (h : ∀ w', Hid (w'.heap[g]? = some (.cells (splice cur o cs).toArray t (0, 0))) → Hid (Only (fun k => k = g) w w') → wpList P ops Q rest (a.put op.dst (goInt m)) w') :
    wpList P ops Q (op :: rest) a w := by
  refine wpList_plain hgd fun K hK => ?_
  obtain ⟨w', hrun, hr, hon⟩ := run_copy2_any w dT sT op.type elem hu hz dp sp dLen dCap sLen sCap g o cur t hg m hm cs hn hpos hfit h1
  unfold Oper.wp
  simp [execOp, ho, resolve, invoke, builtin, hd, hs, hrun, Result.andThen]
  exact hK _ _ (h w' hr hon)

theorem step_copy2 {ops : Array Oper} {op : Oper} {a : Act} {w : World} {K : Act → World → Prop} {Q : Exit → Act → World → Prop} {E : Prop} (hgd : op.guard = none) (d s : Operand) (dT sT : TypeId)
    (ho : op.op = .call { callee := .builtin .copy, args := #[d, s], argTypes := #[dT, sT] }) (elem : TypeId) (hu : P.underlying dT = some (.slice elem)) (hz : (P.info? elem).map (·.size) = some 2)
    (dp sp : Option Addr) (dLen dCap sLen sCap : Nat) (hd : a.eval d = .slice dp dLen dCap) (hs : a.eval s = .slice sp sLen sCap)
    (g o : Nat) (cur : List Value) (t : TypeId) (hg : w.heap[g]? = some (.cells cur.toArray t (0, 0))) (m : Nat) (hm : m = Nat.min sLen dLen) (cs : List Value) (hn : cs.length = m * 2)
    (hpos : 0 < m → dp = some ⟨g, o, none⟩ ∧ ∃ ad, sp = some ad ∧ ∀ j v, cs[j]? = some v → w.cell? (ad.add j) = some v) (hfit : o + cs.length ≤ cur.length) (h1 : ∀ v ∈ cs, v.oneCell' = true)
    (h : ∀ w', Hid (w'.heap[g]? = some (.cells (splice cur o cs).toArray t (0, 0))) → Hid (Only (fun k => k = g) w w') → K (a.put op.dst (goInt m)) w') :
    if Region.wanted op (yielded ops a.tmps) = true then Oper.wp P op a w K Q else E := by
  have hw : Region.wanted op (yielded ops a.tmps) = true := by simp [Region.wanted, hgd]
  rw [if_pos hw]
  obtain ⟨w', hrun, hr, hon⟩ := run_copy2_any w dT sT op.type elem hu hz dp sp dLen dCap sLen sCap g o cur t hg m hm cs hn hpos hfit h1
  unfold Oper.wp
  simp [execOp, ho, resolve, invoke, builtin, hd, hs, hrun, Result.andThen]
  exact h w' hr hon
end

theorem Try.infoReg : (Try.prog.info? 47).map (fun i => (i.zero, i.size, i.bytes)) = some (some (.agg #[.int .i64 0, .int .i64 0]), 2, 16) := by kernel_rfl
theorem Try.sizeReg : (Try.prog.info? 47).map (·.size) = some 2 := by kernel_rfl

/-- The slice at a, of the regions L: where there is one, it leads to a row of cells that hold them. -/
def RegsIn (w : World) (a : Option Addr) (L : List Reg) : Prop :=
  ∀ i, i < L.length → ∃ g, a = some ⟨g, 0, none⟩ ∧ g < w.heap.size ∧ ∀ j, j < L.length →
    w.cell? ⟨g, j * 2, none⟩ = some (.int .i64 ((regAt L j).1 : Int)) ∧ w.cell? ⟨g, j * 2 + 1, none⟩ = some (.int .i64 ((regAt L j).2 : Int))

/-- What an area may turn: its own block, its row's. -/
def Own (hb : Nat) (a : Option Addr) (k : Nat) : Prop := k = hb ∨ ∃ b, a = some b ∧ k = b.block
theorem Own.l (hb : Nat) (a : Option Addr) : Own hb a hb := .inl rfl
theorem Own.r (hb g o : Nat) : Own hb (some ⟨g, o, none⟩) g := .inr ⟨_, rfl, rfl⟩

/-- World w holds, at block hb, an area of n cells whose regions are L; they lie at a, room for cap. -/
structure AreaAt (w : World) (hb : Nat) (a : Option Addr) (cap n : Nat) (L : List Reg) : Prop where
  head : w.heap[hb]? = some (.cells #[.int .i64 (n : Int), .slice a L.length cap] 51 (0, 0))
  row : w.ownsRow 0 47 2 (.slice a L.length cap) L.length (regs L)
  ne : ∀ b, a = some b → b.block ≠ hb
  ok : Ok n L
  nle : n ≤ 65536

section
variable {w w' : World} {hb : Nat} {a : Option Addr} {cap n : Nat} {L : List Reg}
theorem AreaAt.lt_hb (h : AreaAt w hb a cap n L) : hb < w.heap.size := lt_of_block h.head
theorem AreaAt.lt_a (h : AreaAt w hb a cap n L) (b : Addr) (e : a = some b) : b.block < w.heap.size := (h.row.lt b.block (by rw [e]; rfl)).2
theorem AreaAt.own_lt (h : AreaAt w hb a cap n L) (k : Nat) (hk : Own hb a k) : k < w.heap.size := by
  rcases hk with rfl | ⟨b, e, rfl⟩
  · exact h.lt_hb
  · exact h.lt_a b e
theorem own_keep {S : Nat → Prop} {v : Value} {xs : List Value} (h : w.ownsRow 0 47 2 v n xs) (o : Only S w w') (hS : ∀ g, v.ownBlock = some g → ¬ S g) : w'.ownsRow 0 47 2 v n xs := by
  refine ⟨h.1, ?_⟩
  rcases h.2 with hn | ⟨g, c, cur, rfl, h0, hg, hr⟩
  · exact .inl hn
  · exact .inr ⟨g, c, cur, rfl, h0, (o.block g (lt_of_block hg) (hS g rfl)).trans hg, hr⟩
theorem AreaAt.keep {S : Nat → Prop} (h : AreaAt w hb a cap n L) (o : Only S w w') (hS : ∀ k, S k → ¬ Own hb a k) : AreaAt w' hb a cap n L :=
  ⟨(o.block hb h.lt_hb (fun s => hS _ s (Own.l _ _))).trans h.head,
   own_keep h.row o (fun g e s => hS g s (by
    cases a with
    | none => simp [Value.ownBlock] at e
    | some b => simp [Value.ownBlock] at e; exact .inr ⟨b, rfl, e.symm⟩)), h.ne, h.ok, h.nle⟩
theorem AreaAt.drewN (h : AreaAt w hb a cap n L) (q : Nat) : AreaAt (w.drewN q) hb a cap n L := ⟨h.head, h.row, h.ne, h.ok, h.nle⟩
theorem AreaAt.alloc (h : AreaAt w hb a cap n L) (o : Obj) : AreaAt (w.alloc o) hb a cap n L := h.keep ((Only.refl Nil w).alloc o) (fun _ h => h.elim)
theorem AreaAt.c0 (h : AreaAt w hb a cap n L) : w.cell? ⟨hb, 0, none⟩ = some (.int .i64 (n : Int)) := by simp [World.cell?, h.head]
theorem AreaAt.c1 (h : AreaAt w hb a cap n L) : w.cell? ⟨hb, 1, none⟩ = some (.slice a L.length cap) := by simp [World.cell?, h.head]
theorem AreaAt.f1 (h : AreaAt w hb a cap n L) : w.frozen? ⟨hb, 1, none⟩ = false := by simp [World.frozen?, h.head]
theorem AreaAt.len (h : AreaAt w hb a cap n L) : L.length ≤ 65536 := Nat.le_trans h.ok.length_le h.nle
theorem own_regs (h : w.ownsRow 0 47 2 (.slice a L.length cap) L.length (regs L)) : RegsIn w a L := by
  intro i hi
  rcases h.2 with ⟨_, h0⟩ | ⟨g, c, cur, hv, _, hg, _⟩
  · omega
  · simp only [Value.slice.injEq] at hv
    obtain ⟨rfl, _, rfl⟩ := hv
    refine ⟨g, rfl, lt_of_block hg, fun j hj => ?_⟩
    have e := regs_get L j hj
    exact ⟨by rw [h.cellAt _ (by omega)]; exact e.1, by rw [h.cellAt _ (by omega)]; exact e.2⟩
theorem AreaAt.regs (h : AreaAt w hb a cap n L) : RegsIn w a L := own_regs h.row
theorem RegsIn.keep {S : Nat → Prop} (h : RegsIn w a L) (o : Only S w w') (hS : ∀ k b, a = some b → S k → k ≠ b.block) : RegsIn w' a L := by
  intro i hi
  obtain ⟨g, ha, hlt, hc⟩ := h i hi
  have e := o.block g hlt (fun s => hS g _ ha s rfl)
  refine ⟨g, ha, Nat.lt_of_lt_of_le hlt o.size, fun j hj => ?_⟩
  obtain ⟨c1, c2⟩ := hc j hj
  exact ⟨(World.cell?_of_block (a := ⟨g, j * 2, none⟩) e).trans c1, (World.cell?_of_block (a := ⟨g, j * 2 + 1, none⟩) e).trans c2⟩
theorem RegsIn.drewN (h : RegsIn w a L) (q : Nat) : RegsIn (w.drewN q) a L := h
end

/-- How many cells an area for n has. -/
def count (n : Int) : Nat := (min (max n 0) 65536).toNat
theorem count_eq (n : Int) : min (max n 0) 65536 = (count n : Int) := by unfold count; omega
theorem count_le (n : Int) : count n ≤ 65536 := by unfold count; omega

theorem new_any (n : Int) (w : World) :
    Calls Try.prog 9 #[.int .i64 n] w fun e w' =>
      e = .returned (.pointer (some ⟨w.heap.size, 0, none⟩)) ∧ AreaAt w' w.heap.size none 0 (count n) [] ∧ Only Nil w w' := by
  have hk := count_eq n
  have hle := count_le n
  generalize hc : count n = k at hk hle ⊢
  clear hc
  have fin := Lib.hid (And.intro (heap_new w (.cells #[.int .i64 (k : Int), .slice none 0 0] 51)) ((Only.refl Nil w).alloc (.cells #[.int .i64 (k : Int), .slice none 0 0] 51)))
  go_enter Try.func9, Try.ntmps9
  go_wp2
  go_ret
  exact ⟨rfl, ⟨fin.out.1, World.ownsRow_nil _ _ _ _, fun b e => by simp at e, ok_nil _, hle⟩, fin.out.2⟩

/-- Free: how many cells no region has. -/
theorem free_any {w : World} {hb : Nat} {a : Option Addr} {cap n : Nat} {L : List Reg} (h : AreaAt w hb a cap n L) :
    Calls Try.prog 15 #[.pointer (some ⟨hb, 0, none⟩)] w fun e w' => e = .returned (.int .i64 ((n : Int) - (total L : Int))) ∧ Only Nil w w' := by
  have c0 := h.c0
  have c1 := h.c1
  have rg := Lib.hid h.regs
  have nle := h.nle
  have lle := h.len
  have tt := Lib.hid (total_take_succ L)
  have tl := Lib.hid (fun i hi => Nat.le_trans (h.ok.total_le i hi) (h.ok.end_le i hi))
  have rl := Lib.hid h.ok.reg_le
  have tf : total (L.take L.length) = total L := by rw [List.take_length]
  clear h
  generalize hlen : L.length = len at c1 lle tt tl tf rl ⊢
  have hlen' := Lib.hid hlen
  have tf' := Lib.hid tf
  clear hlen tf
  have nle' : (n : Int) ≤ 65536 := by omega
  have lle' : (len : Int) ≤ 65536 := by omega
  go_enter Try.func15, Try.ntmps15
  go_wp2
  go_loopw [3, 15] (fun s i wr => ∃ (k : Nat), k ≤ len ∧ i = .int .i64 (k : Int) ∧ s = .int .i64 ((n : Int) - (total (L.take k) : Int)) ∧ Only Nil w wr)
    (fun _ i _ => len - (intOf i).toNat)
  case atStart => exact ⟨0, Nat.zero_le _, rfl, by simp [total], Only.refl _ _⟩
  case round =>
    obtain ⟨k, hk, rfl, rfl, ho⟩ := hrel
    have ho' := Lib.hid ho
    clear ho
    by_cases hlt : k < len
    · obtain ⟨g, rfl, hg1, hg2⟩ := (rg.out.keep ho'.out (fun _ _ _ h => h.elim)) k (by rw [hlen'.out]; exact hlt)
      obtain ⟨x0, x1⟩ := hg2 k (by rw [hlen'.out]; exact hlt)
      have e1 := tt.out k hlt
      have e2 := tl.out (k + 1) (by omega)
      have e3 := rl.out k hlt
      clear hg2
      generalize regAt L k = r at x0 x1 e1 e3
      obtain ⟨rb, rl⟩ := r
      simp only at x0 x1 e1 e3
      rw [e1] at e2
      have e1' := Lib.hid e1
      clear e1
      generalize total (L.take k) = T at e1' e2 ⊢
      go_wp2
      go_roundw
      case rel => exact ⟨k + 1, by omega, by go_num, by rw [e1'.out]; go_num, ho'.out.alloc _⟩
      case measure => simp [intOf]; omega
    · obtain rfl : k = len := by omega
      rw [tf'.out]
      have hk0 : ¬ (k : Int) < (k : Int) := by omega
      go_wp2
      go_ret
      exact ⟨rfl, ho'.out⟩
end Go.Proofs.Ytgpagfgedimjeaa
