/- Of no layer and of no program's numbers: worlds of which some blocks turned; rows of cells; slices that a call owns. -/
import Derived.Test.YtnkokonkbklelaaGreatDoorRows
import Derived.WalkKit
import Derived.WalkSpells
import Derived.WalkLawsBesides
import Derived.OneCell
import Derived.BigQuiet
import Derived.Deep.QuietTactic
import Derived.Outline
import Derived.Lib.Hide
import Derived.Deep.OwnRows
import Derived.Laws.CopyOwn
import Derived.Laws.AppendOwnNone
import Derived.Laws.Externs
import Derived.Laws.NewBlocks
import Derived.Lib.MinMax
import Derived.Lib.Walk
import Derived.LoopTactic
import Derived.RegionTactic
import Derived.BigRegion
import Derived.Deep.RegionLaw
import Derived.Deep.RegionHeld3
import Derived.OwnWalk
import Derived.Deep.DeepCutAuto
namespace Go.Proofs.YtnkokonkbklelaaGreatDoor
open Go.RowKit

/-- Nothing but the blocks of S has turned between w and w'; new blocks may have come. -/
structure Only (S : Nat → Prop) (w w' : World) : Prop where
  os : w'.os = w.os
  tape : w'.tape = w.tape
  output : w'.output = w.output
  size : w.heap.size ≤ w'.heap.size
  block : ∀ k, k < w.heap.size → ¬ S k → w'.heap[k]? = w.heap[k]?

/-- Nothing that there was has turned. -/
def Nil (_ : Nat) : Prop := False

theorem Only.refl (S : Nat → Prop) (w : World) : Only S w w := ⟨rfl, rfl, rfl, Nat.le_refl _, fun _ _ _ => rfl⟩
theorem Only.trans {S : Nat → Prop} {a b c : World} (h : Only S a b) (k : Only S b c) : Only S a c :=
  ⟨k.os.trans h.os, k.tape.trans h.tape, k.output.trans h.output, Nat.le_trans h.size k.size, fun i hi hs => (k.block i (Nat.lt_of_lt_of_le hi h.size) hs).trans (h.block i hi hs)⟩
theorem Only.mono {S T : Nat → Prop} {w w' : World} (h : Only S w w') (hS : ∀ k, S k → T k) : Only T w w' :=
  ⟨h.os, h.tape, h.output, h.size, fun k hk ht => h.block k hk (fun hs => ht (hS k hs))⟩
theorem Only.nilTo {w w' : World} (h : Only Nil w w') (S : Nat → Prop) : Only S w w' := h.mono (fun _ hk => hk.elim)
/-- What is new may turn. -/
theorem Only.then {S T : Nat → Prop} {a b c : World} (h : Only S a b) (k : Only T b c) (hT : ∀ i, T i → i < a.heap.size → S i) : Only S a c :=
  ⟨k.os.trans h.os, k.tape.trans h.tape, k.output.trans h.output, Nat.le_trans h.size k.size, fun i hi hs => (k.block i (Nat.lt_of_lt_of_le hi h.size) (fun t => hs (hT i t hi))).trans (h.block i hi hs)⟩
theorem Only.setCell {S : Nat → Prop} {a w : World} (h : Only S a w) {p : Addr} (hp : S p.block) (u : Value) : Only S a (w.setCell p u) :=
  h.trans ⟨rfl, rfl, rfl, by simp [World.setCell], fun k _ hs => Below.heap_setCell _ _ _ _ (fun e => hs (e ▸ hp))⟩
theorem Only.setRow {S : Nat → Prop} {a w : World} (h : Only S a w) {g : Nat} (hp : S g) (u : Array Value) : Only S a (w.setRow g u) :=
  h.trans ⟨rfl, rfl, rfl, by simp [World.setRow], fun k _ hs => setRow_other w g k u (fun e => hs (e ▸ hp))⟩
theorem Only.alloc {S : Nat → Prop} {a w : World} (h : Only S a w) (o : Obj) : Only S a (w.alloc o) :=
  h.trans ⟨rfl, rfl, rfl, by simp, fun k hk _ => Below.heap_alloc _ _ _ hk⟩
theorem Only.drew {S : Nat → Prop} {a w : World} (h : Only S a w) : Only S a w.drew := ⟨h.os, h.tape, h.output, h.size, h.block⟩
theorem Only.drewN {S : Nat → Prop} {a w : World} (h : Only S a w) (n : Nat) : Only S a (w.drewN n) := ⟨h.os, h.tape, h.output, h.size, h.block⟩
theorem Only.below {S : Nat → Prop} {w w' : World} (h : Only S w w') {B : Nat} (hB : B ≤ w.heap.size) (hS : ∀ k, S k → B ≤ k) : Below B w w' :=
  ⟨h.os, h.tape, h.output, h.size, fun k hk => h.block k (by omega) (fun s => by have := hS k s; omega)⟩
theorem Only.ofBelow {w w' : World} (h : Below w.heap.size w w') (S : Nat → Prop) : Only S w w' := ⟨h.os, h.tape, h.output, h.size, fun k hk _ => h.block k hk⟩
theorem Only.fresh {S : Nat → Prop} {w w' : World} (h : Only S w w') (hS : ∀ k, S k → w.heap.size ≤ k) : Only Nil w w' :=
  ⟨h.os, h.tape, h.output, h.size, fun k hk _ => h.block k hk (fun s => by have := hS k s; omega)⟩
theorem Only.ofGrown {w w' : World} {row : Option Nat} (h : w.grownBy w' row) : Only (fun k => some k = row) w w' := ⟨h.os, h.tape, h.output, h.size, h.block⟩

theorem heap_new (w : World) (o : Obj) : (w.alloc o).heap[w.heap.size]? = some o := by
  show (w.heap.push o)[w.heap.size]? = _
  simp
theorem heap_setCell_self {w : World} {b o : Nat} {vs : Array Value} {t : TypeId} {m : Nat × Nat} (u : Value) (h : w.heap[b]? = some (.cells vs t m)) :
    (w.setCell ⟨b, o, none⟩ u).heap[b]? = some (.cells (vs.setIfInBounds o u) t m) := by
  have hlt := lt_of_block h
  have h' : w.heap[b] = .cells vs t m := by simpa [Array.getElem?_eq_getElem hlt] using h
  show (w.heap.modify b _)[b]? = _
  rw [Array.getElem?_eq_getElem (by simpa using hlt), Array.getElem_modify_self, h']
  rfl
theorem add_lit0 (g o j : Nat) : (⟨g, o, none⟩ : Addr).add j = ⟨g, o + j, none⟩ := by unfold Addr.add; split <;> simp_all
/-- A callee that turns nothing, met in a region that draws. -/
theorem quiet_same {P : Program} {f : FuncId} {args : Array Value} {w : World} {n : Nat} {v : Value}
    (h : Calls P f args (w.drewN n) fun e w' => e = .returned v ∧ w.drewN n = w') : Calls P f args (w.drewN n) fun e w'' => e = .returned v ∧ ∃ m, w'' = w.drewN m :=
  h.mono fun _ _ ⟨he, hm⟩ => ⟨he, n, hm.symm⟩

theorem splice_get {α : Type} (L : List α) (o : Nat) (cs : List α) (h : o + cs.length ≤ L.length) (j : Nat) :
    (splice L o cs)[j]? = if j < o then L[j]? else if j < o + cs.length then cs[j - o]? else L[j]? := by
  simp only [splice]
  by_cases h1 : j < o
  · rw [if_pos h1, List.getElem?_append_left (by simp; omega), List.getElem?_take, if_pos h1]
  · rw [if_neg h1, List.getElem?_append_right (by simp; omega)]
    have e : j - (L.take o).length = j - o := by simp; omega
    rw [e]
    by_cases h2 : j < o + cs.length
    · rw [if_pos h2, List.getElem?_append_left (by omega)]
    · rw [if_neg h2, List.getElem?_append_right (by omega), List.getElem?_drop]
      congr 1
      omega

/-- A function turned in one place. -/
def upd {α : Type} (f : Nat → α) (i : Nat) (x : α) : Nat → α := fun j => if j = i then x else f j
/-- A row of n cells. -/
def rowC (n : Nat) (g : Nat → Value) : Array Value := ((List.range n).map g).toArray
theorem rowC_size (n : Nat) (g : Nat → Value) : (rowC n g).size = n := by simp [rowC]
theorem rowC_get (n : Nat) (g : Nat → Value) (i : Nat) (hi : i < n) : (rowC n g)[i]? = some (g i) := by simp [rowC, hi]
theorem rowC_set (n : Nat) (g : Nat → Value) (i : Nat) (x : Value) : (rowC n g).setIfInBounds i x = rowC n (upd g i x) := by
  apply Array.ext
  · simp [rowC]
  · intro j h1 h2
    have hj : j < n := by simpa [rowC] using h1
    by_cases e : i = j
    · subst e; simp [rowC, upd]
    · have e2 : ¬ j = i := fun h => e h.symm
      simp [rowC, upd, e, e2]
theorem rowC_congr {n : Nat} {g h : Nat → Value} (e : ∀ i, i < n → g i = h i) : rowC n g = rowC n h := by
  unfold rowC
  congr 1
  apply List.map_congr_left
  intro i hi
  exact e i (by simpa using hi)
theorem made_row (z : Value) (n : Nat) : madeCells #[z] n = rowC n (fun _ => z) := by
  apply Array.ext
  · simp [rowC, size_madeCells]
  · intro i h1 h2
    simp [madeCells, rowC, Nat.mod_one]
theorem row_cell {w : World} {b n : Nat} {g : Nat → Value} {t : TypeId} (h : w.heap[b]? = some (.cells (rowC n g) t (0, 0))) (i : Nat) (hi : i < n) : w.cell? ⟨b, i, none⟩ = some (g i) := by
  have := rowC_get n g i hi
  simp only [World.cell?, h]; simpa using this
theorem row_frozen {w : World} {b n : Nat} {g : Nat → Value} {t : TypeId} (h : w.heap[b]? = some (.cells (rowC n g) t (0, 0))) (i : Nat) : w.frozen? ⟨b, i, none⟩ = false := by
  simp only [World.frozen?, h]; simp
theorem row_set {w : World} {b n : Nat} {g : Nat → Value} {t : TypeId} (h : w.heap[b]? = some (.cells (rowC n g) t (0, 0))) (i : Nat) (x : Value) : (w.setCell ⟨b, i, none⟩ x).heap[b]? = some (.cells (rowC n (upd g i x)) t (0, 0)) := by
  rw [heap_setCell_self _ h, rowC_set]

/-- Blocks of unlike types are two. -/
theorem blk_ne {w : World} {a b : Nat} {x y : Array Value} {t u : TypeId} {m m' : Nat × Nat} (h : w.heap[a]? = some (.cells x t m)) (h' : w.heap[b]? = some (.cells y u m')) (ht : t ≠ u) : a ≠ b := by
  rintro rfl
  rw [h] at h'
  injection h' with h'
  injection h' with _ e
  exact ht e
theorem own_keep {S : Nat → Prop} {w w' : World} {base : Nat} {e : TypeId} {s n : Nat} {v : Value} {xs : List Value} (h : w.ownsRow base e s v n xs) (o : Only S w w') (hS : ∀ k, some k = v.ownBlock → ¬ S k) : w'.ownsRow base e s v n xs := by
  refine ⟨h.1, h.2.imp id ?_⟩
  rintro ⟨g, c, cur, h1, h2, h3, h4⟩
  exact ⟨g, c, cur, h1, h2, (o.block g (lt_of_block h3) (hS g (by rw [h1]; rfl))).trans h3, h4⟩
theorem own_slice_n {w : World} {b : Nat} {e : TypeId} {s : Nat} {v : Value} {n : Nat} {xs : List Value} (h : w.ownsRow b e s v n xs) : ∃ a c, v = .slice a n c := by
  rcases h.2 with ⟨rfl, rfl⟩ | ⟨g, c, _, h, _⟩
  · exact ⟨none, 0, rfl⟩
  · exact ⟨_, c, h⟩
/-- One result, an aggregate that lies in a block of its own. -/
theorem results_agg {P : Program} {fn : Func} {p : Tmp} {ty te : TypeId} (h : fn.results = #[.cell p ty]) (tmps : Array Value) (w : World) (b : Nat) (cs : List Value)
    (hag : ∀ w, (isAgg ty).run P w = .ok true w) (hsz : ∀ w, (Go.sizeOf ty).run P w = .ok cs.length w) (hp : tmps.getD p undef = .pointer (some ⟨b, 0, none⟩)) (hc : w.heap[b]? = some (.cells cs.toArray te (0, 0))) :
    (results fn tmps).run P w = .ok (.agg cs.toArray) w := by
  have hp' : tmps[p]?.getD undef = .pointer (some ⟨b, 0, none⟩) := by simpa using hp
  have hl := run_loadCells_list (P := P) w ⟨b, 0, none⟩ cs (fun j v hj => by
    have e : (⟨b, 0, none⟩ : Addr).add j = ⟨b, j, none⟩ := by unfold Addr.add; split <;> simp_all
    rw [e, cell_of_row w b j _ _ _ hc]; simpa using hj)
  simp only [results, h]
  simp [Sem.run_bind, Result.andThen, asAddr, loadVar, hag, hsz, hp', hl]

/-- Only the row of a has turned. -/
def RowOf (a : Option Addr) (q : Nat) : Prop := ∃ x, a = some x ∧ q = x.block
/-- The row at a' is a's own, or a new one. -/
def SameOrNew (w : World) (a a' : Option Addr) : Prop := ∀ x, a' = some x → (∃ y, a = some y ∧ x.block = y.block) ∨ w.heap.size ≤ x.block

/-- append, where there is no room: a new row. -/
theorem run_append_new {P : Program} (w : World) (t ty e : TypeId) (i : TypeInfo) (z : Value) (size bytes : Nat) (ht : P.underlying t = some (.slice e)) (hi : P.info? e = some i) (hz : i.zero = some z)
    (hsize : i.size = size) (hby : i.bytes = bytes) (hzs : z.cells.size = size) (a : Option Addr) (n : Nat) (xs : List Value) (hown : w.ownsRow 0 e size (.slice a n n) n xs)
    (ad : Addr) (m c : Nat) (hm : 0 < m) (news : List Value) (hl : news.length = m * size) (hnews : ∀ j u, news[j]? = some u → w.cell? (ad.add j) = some u)
    (h63 : n + m ≤ maxLen) (hbytes : (n + m) * bytes ≤ 140737488355328) :
    ∃ c' w', (Builtin.append_ #[t, t] ty #[.slice a n n, .slice (some ad) m c]).run P w = .ok (.slice (some ⟨w.heap.size, 0, none⟩) (n + m) c') w' ∧
      w'.ownsRow 0 e size (.slice (some ⟨w.heap.size, 0, none⟩) (n + m) c') (n + m) (xs ++ news) ∧ Only Nil w w' := by
  subst hsize
  subst hby
  have hlen : (xs ++ news).length = (n + m) * i.size := by rw [List.length_append, hown.1, hl, Nat.add_mul]
  have h63' : n + m ≤ 9223372036854775807 := by simp only [maxLen] at h63; omega
  have grown : (w.drew.alloc (.cells (xs.toArray ++ news.toArray ++ Builtin.zeroCells z.cells (grownCap w (n + m) n e - (n + m))) e)).ownsRow 0 e i.size
        (.slice (some ⟨w.heap.size, 0, none⟩) (n + m) (grownCap w (n + m) n e)) (n + m) (xs ++ news) ∧
      Only Nil w (w.drew.alloc (.cells (xs.toArray ++ news.toArray ++ Builtin.zeroCells z.cells (grownCap w (n + m) n e - (n + m))) e)) := by
    have hge := grownCap_ge w (n + m) n e
    have hcm : grownCap w (n + m) n e ≤ maxLen := grownCap_le_maxLen w (n + m) n e h63
    refine ⟨⟨hlen, .inr ⟨w.heap.size, _, _, rfl, Nat.zero_le _, heap_alloc_new w.drew _, hge, hcm, ?_, ?_⟩⟩, (Only.refl Nil w).drew.alloc _⟩
    · simp only [Array.size_append, List.size_toArray, size_zeroCells, hzs, hown.1, hl, ← Nat.add_mul]
      congr 1
      omega
    · simp only [Array.toList_append, List.append_assoc]
      rw [← List.append_assoc, ← hlen]
      exact List.take_left
  rcases hown.2 with ⟨e1, e2⟩ | ⟨g, cap, cur, e1, hbg, hg, hnc, hcm, hcs, htake⟩
  · simp only [Value.slice.injEq] at e1
    obtain ⟨rfl, rfl, _⟩ := e1
    have hx : xs = [] := List.eq_nil_of_length_eq_zero (by simpa using hown.1)
    subst hx
    have hr := run_append_nil (P := P) w t ty e i z ht hi hz ad m c news hl hnews (by omega) (by omega) (by have hb := hbytes; simp only [Nat.zero_add] at hb; omega)
    simp only [Nat.zero_add, List.nil_append, Array.empty_append] at grown ⊢
    exact ⟨_, _, hr, grown.1, grown.2⟩
  · simp only [Value.slice.injEq] at e1
    obtain ⟨rfl, _, rfl⟩ := e1
    have holds : ∀ j u, xs[j]? = some u → w.cell? ((⟨g, 0, none⟩ : Addr).add j) = some u := hown.cells (g := g) rfl
    have hr := run_append_grow (P := P) w t ty e i z ht hi hz ⟨g, 0, none⟩ n n xs hown.1 holds ad m c news hl hnews (by omega) (by omega) (growslice_fits (by omega) hbytes)
    exact ⟨_, _, hr, grown.1, grown.2⟩

/-- One element more at the end, with room or without. -/
theorem run_append_end {P : Program} {w : World} {t ty e : TypeId} {z : Value} {size bytes : Nat} (ht : P.underlying t = some (.slice e)) (hi : (P.info? e).map (fun i => (i.zero, i.size, i.bytes)) = some (some z, size, bytes)) (hzs : z.cells.size = size)
    {a : Option Addr} {len cap : Nat} {xs : List Value} (hown : w.ownsRow 0 e size (.slice a len cap) len xs) (ad : Addr) (news : List Value) (hl : news.length = size) (hone : ∀ u ∈ news, u.oneCell' = true)
    (hnews : ∀ j u, news[j]? = some u → w.cell? (ad.add j) = some u) (lle : len ≤ 65536) (hb : bytes ≤ 65536) :
    ∃ a' cap' w', (Builtin.append_ #[t, t] ty #[.slice a len cap, .slice (some ad) 1 1]).run P w = .ok (.slice a' (len + 1) cap') w' ∧
      w'.ownsRow 0 e size (.slice a' (len + 1) cap') (len + 1) (xs ++ news) ∧ Only (RowOf a) w w' ∧ SameOrNew w a a' := by
  obtain ⟨i0, hi0, hz0, hz1, hz2⟩ := info_parts hi
  by_cases hroom : len + 1 ≤ cap
  · rcases hown.2 with ⟨e, e2⟩ | ⟨g, c, cur, e, _, _, hc, _⟩
    · simp only [Value.slice.injEq] at e; omega
    · simp only [Value.slice.injEq] at e
      obtain ⟨rfl, _, rfl⟩ := e
      obtain ⟨w', hr, ho, hg⟩ := run_append_fits (P := P) w 0 t ty _ i0 size ht hi0 hz1 g len cap xs hown ad 1 1 news (by rw [hl]; omega) hnews hone hroom
      exact ⟨_, _, w', hr, ho, (Only.ofGrown hg).mono (fun q hq => by simp at hq; exact ⟨_, rfl, hq⟩), fun x hx => .inl ⟨x, hx, rfl⟩⟩
  · obtain rfl : cap = len := by
      rcases hown.2 with ⟨e, e2⟩ | ⟨g, c, cur, e, _, _, hc, _⟩
      · simp only [Value.slice.injEq] at e; omega
      · simp only [Value.slice.injEq] at e; omega
    have hbb : (cap + 1) * bytes ≤ 65537 * 65536 := Nat.mul_le_mul (by omega) hb
    obtain ⟨c', w', hr, ho, hg⟩ := run_append_new (P := P) w t ty _ i0 _ size bytes ht hi0 hz0 hz1 hz2 hzs a cap xs hown ad 1 1 (by decide) news (by rw [hl]; omega) hnews (by unfold maxLen; omega) (by omega)
    exact ⟨_, _, w', hr, ho, hg.nilTo _, fun x hx => .inr (by simp only [Option.some.injEq] at hx; rw [← hx]; exact Nat.le_refl _)⟩
end Go.Proofs.YtnkokonkbklelaaGreatDoor
