/- Accesses, and what the document makes of them (its Do); the answers that an operation has had so far; small laws of blocks and rows. (Of no layer.) -/
import Derived.Test.YtmkcmncbiancgaaMemR
import Derived.Deep.RegionHeld3
import Derived.Laws.AppendOwnNone
import Derived.OwnWalk
import Derived.Deep.DeepCutAuto
namespace Go.Proofs.Ytmkcmncbiancgaa
open Go.RowKit

/-- An access. -/
inductive Acc where
  | none | load (i : Nat) | store (i : Nat) (x : Int) | swap (i : Nat) (o x : Int)

/-- The access is made. -/
def doAcc (L : List Int) : Acc → List Int × Int
  | .none => (L, 0)
  | .load i => (L, L.getD i 0)
  | .store i x => (L.set i x, 0)
  | .swap i o x => if L.getD i 0 = o then (L.set i x, 1) else (L, 0)

/-- A Want that is an access. -/
def accWant : Acc → Value
  | .none => .agg #[.bool false, .int .i64 0, .int .i64 0, .int .u64 0, .int .u64 0, .int .i64 0, .int .u64 0, .int .u64 0]
  | .load i => .agg #[.bool false, .int .i64 1, .int .i64 (i : Int), .int .u64 0, .int .u64 0, .int .i64 0, .int .u64 0, .int .u64 0]
  | .store i x => .agg #[.bool false, .int .i64 2, .int .i64 (i : Int), .int .u64 x, .int .u64 0, .int .i64 0, .int .u64 0, .int .u64 0]
  | .swap i o x => .agg #[.bool false, .int .i64 3, .int .i64 (i : Int), .int .u64 o, .int .u64 x, .int .i64 0, .int .u64 0, .int .u64 0]
section
variable {w : World} {hb rb : Nat} {L : List Int} {t : Int}
end
/-- What is new may turn. -/
theorem Only.then {S T : Nat → Prop} {a b c : World} (h : Only S a b) (k : Only T b c) (hT : ∀ i, T i → i < a.heap.size → S i) : Only S a c :=
  ⟨k.os.trans h.os, k.tape.trans h.tape, k.output.trans h.output, Nat.le_trans h.size k.size, fun i hi hs => (k.block i (Nat.lt_of_lt_of_le hi h.size) (fun t => hs (hT i t hi))).trans (h.block i hi hs)⟩

/-- The slice at a, of the answers log. -/
def LogIn (w : World) (a : Option Addr) (log : List Int) : Prop :=
  ∀ i, i < log.length → ∃ g, a = some ⟨g, 0, none⟩ ∧ g < w.heap.size ∧ ∀ j, j < log.length → w.cell? ⟨g, j, none⟩ = some (.int .u64 (log.getD j 0))
theorem LogIn.keep {S : Nat → Prop} {w w' : World} {a : Option Addr} {X : List Int} (h : LogIn w a X) (o : Only S w w') (hS : ∀ k b, a = some b → S k → k ≠ b.block) : LogIn w' a X := by
  intro i hi
  obtain ⟨g, ha, hlt, hc⟩ := h i hi
  have e := o.block g hlt (fun s => hS g _ ha s rfl)
  exact ⟨g, ha, Nat.lt_of_lt_of_le hlt o.size, fun j hj => (World.cell?_of_block (a := ⟨g, j, none⟩) e).trans (hc j hj)⟩
/-- One result, an aggregate that lies in a block of its own. -/
theorem results_agg {P : Program} {fn : Func} {p : Tmp} {ty te : TypeId} (h : fn.results = #[.cell p ty]) (tmps : Array Value) (w : World) (b : Nat) (cs : List Value)
    (hag : ∀ w, (isAgg ty).run P w = .ok true w) (hsz : ∀ w, (Go.sizeOf ty).run P w = .ok cs.length w) (hp : tmps.getD p undef = .pointer (some ⟨b, 0, none⟩)) (hc : w.heap[b]? = some (.cells cs.toArray te (0, 0))) :
    (results fn tmps).run P w = .ok (.agg cs.toArray) w := by
  have hp' : tmps[p]?.getD undef = .pointer (some ⟨b, 0, none⟩) := by simpa using hp
  have hl := run_loadCells_list (P := P) w ⟨b, 0, none⟩ cs (fun j v hj => by
    have e : (⟨b, 0, none⟩ : Addr).add j = ⟨b, j, none⟩ := by unfold Addr.add; split <;> simp_all
    rw [e, cell_of_row w b j _ _ _ hc]; simpa using hj)
  simp only [results, h]
  simp [Sem.run_bind, Result.andThen, asAddr, loadVar, hag, hsz, hp', hl]

/-- What three new blocks hold. -/
theorem three_new (w : World) (o1 o2 o3 : Obj) : (((w.alloc o1).alloc o2).alloc o3).heap[w.heap.size]? = some o1 ∧ (((w.alloc o1).alloc o2).alloc o3).heap[w.heap.size + 1]? = some o2 ∧ (((w.alloc o1).alloc o2).alloc o3).heap[w.heap.size + 1 + 1]? = some o3 ∧ Only Nil w (((w.alloc o1).alloc o2).alloc o3) := by
  have s1 : (w.alloc o1).heap.size = w.heap.size + 1 := by simp
  have s2 : ((w.alloc o1).alloc o2).heap.size = w.heap.size + 1 + 1 := by simp
  refine ⟨?_, ?_, ?_, (((Only.refl _ _).alloc _).alloc _).alloc _⟩
  · rw [Below.heap_alloc _ _ _ (by omega), Below.heap_alloc _ _ _ (by omega)]; exact heap_new w o1
  · rw [Below.heap_alloc _ _ _ (by omega)]; have := heap_new (w.alloc o1) o2; rwa [s1] at this
  · have := heap_new ((w.alloc o1).alloc o2) o3; rwa [s2] at this
/-- The eight cells of a Want that is laid, and what a store of a Want leaves. -/
theorem want_cells {w : World} {q : Nat} {t : TypeId} (h : w.heap[q]? = some (.cells #[.bool false, .int .i64 0, .int .i64 0, .int .u64 0, .int .u64 0, .int .i64 0, .int .u64 0, .int .u64 0] t (0, 0))) :
    w.cell? ⟨q, 0, none⟩ = some (.bool false) ∧ w.cell? ⟨q, 1, none⟩ = some (.int .i64 0) ∧ w.cell? ⟨q, 2, none⟩ = some (.int .i64 0) ∧ w.cell? ⟨q, 3, none⟩ = some (.int .u64 0) ∧ w.cell? ⟨q, 4, none⟩ = some (.int .u64 0) ∧ w.cell? ⟨q, 5, none⟩ = some (.int .i64 0) ∧ w.cell? ⟨q, 6, none⟩ = some (.int .u64 0) ∧ w.cell? ⟨q, 7, none⟩ = some (.int .u64 0) ∧
    w.frozen? ⟨q, 0, none⟩ = false ∧ w.frozen? ⟨q, 1, none⟩ = false ∧ w.frozen? ⟨q, 2, none⟩ = false ∧ w.frozen? ⟨q, 3, none⟩ = false ∧ w.frozen? ⟨q, 4, none⟩ = false ∧ w.frozen? ⟨q, 5, none⟩ = false ∧ w.frozen? ⟨q, 6, none⟩ = false ∧ w.frozen? ⟨q, 7, none⟩ = false := by
  simp [World.cell?, World.frozen?, h]
theorem set1_only {w0 w : World} {q : Nat} (h : Only (fun k => k = q) w0 w) (o : Nat) (y : Value) : Only (fun k => k = q) w0 (w.setCell ⟨q, o, none⟩ y) := h.setCell (p := ⟨q, o, none⟩) rfl y
theorem set8_only (w : World) (q : Nat) (y0 y1 y2 y3 y4 y5 y6 y7 : Value) : Only (fun k => k = q) w ((((((((w.setCell ⟨q, 0, none⟩ y0).setCell ⟨q, 1, none⟩ y1).setCell ⟨q, 2, none⟩ y2).setCell ⟨q, 3, none⟩ y3).setCell ⟨q, 4, none⟩ y4).setCell ⟨q, 5, none⟩ y5).setCell ⟨q, 6, none⟩ y6).setCell ⟨q, 7, none⟩ y7) :=
  set1_only (set1_only (set1_only (set1_only (set1_only (set1_only (set1_only (set1_only (Only.refl _ w) 0 y0) 1 y1) 2 y2) 3 y3) 4 y4) 5 y5) 6 y6) 7 y7
theorem set1_heap {w : World} {q : Nat} {vs : List Value} {t : TypeId} (h : w.heap[q]? = some (.cells vs.toArray t (0, 0))) (o : Nat) (y : Value) : (w.setCell ⟨q, o, none⟩ y).heap[q]? = some (.cells (vs.set o y).toArray t (0, 0)) := by
  rw [heap_setCell_self (o := o) y h]; simp
theorem set8_heap {w : World} {q : Nat} {x0 x1 x2 x3 x4 x5 x6 x7 : Value} {t : TypeId} (h : w.heap[q]? = some (.cells [x0, x1, x2, x3, x4, x5, x6, x7].toArray t (0, 0))) (y0 y1 y2 y3 y4 y5 y6 y7 : Value) :
    (((((((((w.setCell ⟨q, 0, none⟩ y0).setCell ⟨q, 1, none⟩ y1).setCell ⟨q, 2, none⟩ y2).setCell ⟨q, 3, none⟩ y3).setCell ⟨q, 4, none⟩ y4).setCell ⟨q, 5, none⟩ y5).setCell ⟨q, 6, none⟩ y6).setCell ⟨q, 7, none⟩ y7)).heap[q]? = some (.cells [y0, y1, y2, y3, y4, y5, y6, y7].toArray t (0, 0)) :=
  set1_heap (set1_heap (set1_heap (set1_heap (set1_heap (set1_heap (set1_heap (set1_heap h 0 y0) 1 y1) 2 y2) 3 y3) 4 y4) 5 y5) 6 y6) 7 y7

theorem set3_only (w : World) (q : Nat) (y0 y1 y2 : Value) : Only (fun k => k = q) w (((w.setCell ⟨q, 0, none⟩ y0).setCell ⟨q, 1, none⟩ y1).setCell ⟨q, 2, none⟩ y2) :=
  set1_only (set1_only (set1_only (Only.refl _ w) 0 y0) 1 y1) 2 y2
theorem set3_heap {w : World} {q : Nat} {x0 x1 x2 : Value} {t : TypeId} (h : w.heap[q]? = some (.cells [x0, x1, x2].toArray t (0, 0))) (y0 y1 y2 : Value) :
    ((((w.setCell ⟨q, 0, none⟩ y0).setCell ⟨q, 1, none⟩ y1).setCell ⟨q, 2, none⟩ y2)).heap[q]? = some (.cells [y0, y1, y2].toArray t (0, 0)) :=
  set1_heap (set1_heap (set1_heap h 0 y0) 1 y1) 2 y2

/-- An access of a cell that there is. -/
def Acc.inn (n : Nat) : Acc → Prop
  | .none => False
  | .load i => i < n
  | .store i _ => i < n
  | .swap i _ _ => i < n
theorem accWant_form (x : Acc) : ∃ x1 x2 x3 x4, accWant x = .agg #[.bool false, .int .i64 x1, .int .i64 x2, .int .u64 x3, .int .u64 x4, .int .i64 0, .int .u64 0, .int .u64 0] := by
  cases x <;> exact ⟨_, _, _, _, rfl⟩
theorem Try.infoU64' : (Try.prog.info? 28).map (fun i => (i.zero, i.size, i.bytes)) = some (some (.int .u64 0), 1, 8) := by kernel_rfl
def uvz (X : List Int) : List Value := X.map (Value.int .u64)
theorem own_logZ {w : World} {base : Nat} {v : Value} {X : List Int} {n : Nat} (h : w.ownsRow base 28 1 v n (uvz X)) (hn : X.length = n) (h0 : 0 < n) : ∃ g cap, v = .slice (some ⟨g, 0, none⟩) n cap ∧ base ≤ g ∧ LogIn w (some ⟨g, 0, none⟩) X := by
  subst hn
  rcases h.2 with ⟨rfl, z⟩ | ⟨g, c, cur, rfl, hg, hb, _⟩
  · omega
  · refine ⟨g, c, rfl, hg, fun i hi => ⟨g, rfl, lt_of_block hb, fun j hj => ?_⟩⟩
    rw [h.cellAt j (by omega)]
    simp [uvz, hj]
theorem Only.ofGrownZ {w w' : World} {row : Option Nat} (h : w.grownBy w' row) : Only (fun k => some k = row) w w' := ⟨h.os, h.tape, h.output, h.size, h.block⟩
theorem add_zeroZ (b j : Nat) : (⟨b, 0, none⟩ : Addr).add j = ⟨b, j, none⟩ := by
  by_cases h : j = 0
  · subst h; simp [Addr.add]
  · simp [Addr.add, h]
theorem src_oneZ {w : World} {b : Nat} {u : Value} {t : TypeId} (h : w.heap[b]? = some (.cells #[u] t (0, 0))) : ∀ j v, [u][j]? = some v → w.cell? ((⟨b, 0, none⟩ : Addr).add j) = some v := by
  intro j v hj
  rw [add_zeroZ]
  match j, hj with
  | 0, hj => simp at hj; subst hj; simp [World.cell?, h]
  | j + 1, hj => simp at hj
theorem own_keepZ {S : Nat → Prop} {w w' : World} {base : Nat} {e : TypeId} {s n : Nat} {v : Value} {xs : List Value} (h : w.ownsRow base e s v n xs) (o : Only S w w') (hS : ∀ k, some k = v.ownBlock → ¬ S k) : w'.ownsRow base e s v n xs := by
  refine ⟨h.1, h.2.imp id ?_⟩
  rintro ⟨g, c, cur, h1, h2, h3, h4⟩
  exact ⟨g, c, cur, h1, h2, (o.block g (lt_of_block h3) (hS g (by rw [h1]; rfl))).trans h3, h4⟩

theorem uvz_one (X : List Int) : ∀ u ∈ uvz X, u.oneCell' = true := by
  intro u hu
  simp only [uvz, List.mem_map] at hu
  obtain ⟨_, _, rfl⟩ := hu
  rfl
theorem log_cells {w : World} {g : Nat} {X : List Int} (h : LogIn w (some ⟨g, 0, none⟩) X) : ∀ j u, (uvz X)[j]? = some u → w.cell? ((⟨g, 0, none⟩ : Addr).add j) = some u := by
  intro j u hj
  rw [add_zeroZ]
  obtain ⟨hlt, e⟩ := List.getElem?_eq_some_iff.1 hj
  have hl : j < X.length := by simpa [uvz] using hlt
  obtain ⟨g', e', _, hc⟩ := h j hl
  cases e'
  rw [hc j hl]
  simp [uvz] at e
  simp [hl, e]

theorem doAcc_length (L : List Int) (a : Acc) : (doAcc L a).1.length = L.length := by
  cases a <;> simp only [doAcc]
  · simp
  · split <;> simp
def upd {α : Type} (f : Nat → α) (k : Nat) (x : α) : Nat → α := fun i => if i = k then x else f i
theorem upd_same {α : Type} (f : Nat → α) (k : Nat) (x : α) : upd f k x k = x := by simp [upd]
theorem upd_other {α : Type} (f : Nat → α) (k : Nat) (x : α) (i : Nat) (h : i ≠ k) : upd f k x i = f i := by simp [upd, h]

/-- A method value of the operation at ob. -/
def mv (f ob : Nat) : Value := .func (.func f) #[.pointer (some ⟨ob, 0, none⟩)] #[]

/-- What a step may turn: the memory's blocks and the operation's. -/
def OB (hb rb ob k : Nat) : Prop := Blk hb rb k ∨ k = ob
theorem OB.o (hb rb ob : Nat) : OB hb rb ob ob := .inr rfl

end Go.Proofs.Ytmkcmncbiancgaa
