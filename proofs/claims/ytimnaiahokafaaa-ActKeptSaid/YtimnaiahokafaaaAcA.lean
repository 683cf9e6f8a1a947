/- act: programs in memory, cut out of the elder layers. -/
import Derived.WalkKit
import Derived.WalkSpells
import Derived.WalkLawsBesides
import Derived.OneCell
import Derived.BigQuiet
import Derived.Deep.QuietTactic
import Derived.Outline
import Derived.Lib.Hide
import Derived.Deep.OwnRows
import Derived.Laws.CopyOwn
import Derived.Laws.AppendOwnNone
import Derived.Laws.Externs
import Derived.Laws.NewBlocks
import Derived.Lib.MinMax
import Derived.Lib.Walk
import Derived.LoopTactic
import Derived.RegionTactic
import Derived.BigRegion
import Derived.Deep.RegionLaw
import Derived.Deep.RegionHeld3
import Derived.OwnWalk
import Derived.Deep.DeepCutAuto
import Derived.Lib.SlTrimSet
import Derived.Lib.IndexLaws
import Derived.Lib.ParseIntB
import Derived.Lib.OthersKept
import Derived.Lib.AppendZerosOnto
import Derived.Shelf.Abstract
import Derived.Laws.EntriesVeiled
import Derived.Recover
import Derived.Defers
import Derived.Laws.Pointers
import Derived.Laws.StructEq
import Derived.Shelf.Strconv.Itoa3
import Derived.Lib.AppendStr
import Derived.Lib.UnsafeStr
import Derived.Lib.Builder
import Derived.Lib.ItoaLen
import Derived.Deep.Slices
import Derived.Deep.Fields
import Derived.Lib.SmallJoins
import Derived.SizedLaws
import Derived.ChangeMaps5
import Derived.Shelf.Spec.SlicesInsertGrow
import Derived.Shelf.Spec.SlicesInsert
import Derived.Shelf.Slices.Clone
import Derived.Shelf.Slices.Turned
import Derived.StillTailTactics
import Derived.Test.YtimnaiahokafaaaRows
namespace Go.Proofs.Ytimnaiahokafaaa
open Go.RowKit
structure Only (S : Nat → Prop) (w w' : World) : Prop where
  os : w'.os = w.os
  tape : w'.tape = w.tape
  output : w'.output = w.output
  size : w.heap.size ≤ w'.heap.size
  block : ∀ k, k < w.heap.size → ¬ S k → w'.heap[k]? = w.heap[k]?

def Nil (_ : Nat) : Prop := False

theorem Only.refl (S : Nat → Prop) (w : World) : Only S w w := ⟨rfl, rfl, rfl, Nat.le_refl _, fun _ _ _ => rfl⟩
theorem Only.trans {S : Nat → Prop} {a b c : World} (h : Only S a b) (k : Only S b c) : Only S a c :=
  ⟨k.os.trans h.os, k.tape.trans h.tape, k.output.trans h.output, Nat.le_trans h.size k.size, fun i hi hs => (k.block i (Nat.lt_of_lt_of_le hi h.size) hs).trans (h.block i hi hs)⟩
theorem Only.mono {S T : Nat → Prop} {w w' : World} (h : Only S w w') (hS : ∀ k, S k → T k) : Only T w w' :=
  ⟨h.os, h.tape, h.output, h.size, fun k hk ht => h.block k hk (fun hs => ht (hS k hs))⟩
theorem Only.nilTo {w w' : World} (h : Only Nil w w') (S : Nat → Prop) : Only S w w' := h.mono (fun _ hk => hk.elim)
theorem Only.then {S T : Nat → Prop} {a b c : World} (h : Only S a b) (k : Only T b c) (hT : ∀ i, T i → i < a.heap.size → S i) : Only S a c :=
  ⟨k.os.trans h.os, k.tape.trans h.tape, k.output.trans h.output, Nat.le_trans h.size k.size, fun i hi hs => (k.block i (Nat.lt_of_lt_of_le hi h.size) (fun t => hs (hT i t hi))).trans (h.block i hi hs)⟩
theorem Only.setCell {S : Nat → Prop} {a w : World} (h : Only S a w) {p : Addr} (hp : S p.block) (u : Value) : Only S a (w.setCell p u) :=
  h.trans ⟨rfl, rfl, rfl, by simp [World.setCell], fun k _ hs => Below.heap_setCell _ _ _ _ (fun e => hs (e ▸ hp))⟩
theorem Only.setRow {S : Nat → Prop} {a w : World} (h : Only S a w) {g : Nat} (hp : S g) (u : Array Value) : Only S a (w.setRow g u) :=
  h.trans ⟨rfl, rfl, rfl, by simp [World.setRow], fun k _ hs => setRow_other w g k u (fun e => hs (e ▸ hp))⟩
theorem Only.alloc {S : Nat → Prop} {a w : World} (h : Only S a w) (o : Obj) : Only S a (w.alloc o) :=
  h.trans ⟨rfl, rfl, rfl, by simp, fun k hk _ => Below.heap_alloc _ _ _ hk⟩
theorem Only.drew {S : Nat → Prop} {a w : World} (h : Only S a w) : Only S a w.drew := ⟨h.os, h.tape, h.output, h.size, h.block⟩
theorem Only.drewN {S : Nat → Prop} {a w : World} (h : Only S a w) (n : Nat) : Only S a (w.drewN n) := ⟨h.os, h.tape, h.output, h.size, h.block⟩
theorem Only.below {S : Nat → Prop} {w w' : World} (h : Only S w w') {B : Nat} (hB : B ≤ w.heap.size) (hS : ∀ k, S k → B ≤ k) : Below B w w' :=
  ⟨h.os, h.tape, h.output, h.size, fun k hk => h.block k (by omega) (fun s => by have := hS k s; omega)⟩
theorem Only.fresh {S : Nat → Prop} {w w' : World} (h : Only S w w') (hS : ∀ k, S k → w.heap.size ≤ k) : Only Nil w w' :=
  ⟨h.os, h.tape, h.output, h.size, fun k hk _ => h.block k hk (fun s => by have := hS k s; omega)⟩
theorem Only.ofGrown {w w' : World} {row : Option Nat} (h : w.grownBy w' row) : Only (fun k => some k = row) w w' := ⟨h.os, h.tape, h.output, h.size, h.block⟩

theorem heap_new (w : World) (o : Obj) : (w.alloc o).heap[w.heap.size]? = some o := by
  show (w.heap.push o)[w.heap.size]? = _
  simp
theorem heap_setCell_self {w : World} {b o : Nat} {vs : Array Value} {t : TypeId} {m : Nat × Nat} (u : Value) (h : w.heap[b]? = some (.cells vs t m)) :
    (w.setCell ⟨b, o, none⟩ u).heap[b]? = some (.cells (vs.setIfInBounds o u) t m) := by
  have hlt := lt_of_block h
  have h' : w.heap[b] = .cells vs t m := by simpa [Array.getElem?_eq_getElem hlt] using h
  show (w.heap.modify b _)[b]? = _
  rw [Array.getElem?_eq_getElem (by simpa using hlt), Array.getElem_modify_self, h']
  rfl
theorem add_lit0 (g o j : Nat) : (⟨g, o, none⟩ : Addr).add j = ⟨g, o + j, none⟩ := by unfold Addr.add; split <;> simp_all
theorem quiet_same {P : Program} {f : FuncId} {args : Array Value} {w : World} {n : Nat} {v : Value}
    (h : Calls P f args (w.drewN n) fun e w' => e = .returned v ∧ w.drewN n = w') : Calls P f args (w.drewN n) fun e w'' => e = .returned v ∧ ∃ m, w'' = w.drewN m :=
  h.mono fun _ _ ⟨he, hm⟩ => ⟨he, n, hm.symm⟩

theorem own_keep {S : Nat → Prop} {w w' : World} {base : Nat} {e : TypeId} {s n : Nat} {v : Value} {xs : List Value} (h : w.ownsRow base e s v n xs) (o : Only S w w') (hS : ∀ k, some k = v.ownBlock → ¬ S k) : w'.ownsRow base e s v n xs := by
  refine ⟨h.1, h.2.imp id ?_⟩
  rintro ⟨g, c, cur, h1, h2, h3, h4⟩
  exact ⟨g, c, cur, h1, h2, (o.block g (lt_of_block h3) (hS g (by rw [h1]; rfl))).trans h3, h4⟩
theorem own_slice_n {w : World} {b : Nat} {e : TypeId} {s : Nat} {v : Value} {n : Nat} {xs : List Value} (h : w.ownsRow b e s v n xs) : ∃ a c, v = .slice a n c := by
  rcases h.2 with ⟨rfl, rfl⟩ | ⟨g, c, _, h, _⟩
  · exact ⟨none, 0, rfl⟩
  · exact ⟨_, c, h⟩
theorem results_agg {P : Program} {fn : Func} {p : Tmp} {ty te : TypeId} (h : fn.results = #[.cell p ty]) (tmps : Array Value) (w : World) (b : Nat) (cs : List Value)
    (hag : ∀ w, (isAgg ty).run P w = .ok true w) (hsz : ∀ w, (Go.sizeOf ty).run P w = .ok cs.length w) (hp : tmps.getD p undef = .pointer (some ⟨b, 0, none⟩)) (hc : w.heap[b]? = some (.cells cs.toArray te (0, 0))) :
    (results fn tmps).run P w = .ok (.agg cs.toArray) w := by
  have hp' : tmps[p]?.getD undef = .pointer (some ⟨b, 0, none⟩) := by simpa using hp
  have hl := run_loadCells_list (P := P) w ⟨b, 0, none⟩ cs (fun j v hj => by
    have e : (⟨b, 0, none⟩ : Addr).add j = ⟨b, j, none⟩ := by unfold Addr.add; split <;> simp_all
    rw [e, cell_of_row w b j _ _ _ hc]; simpa using hj)
  simp only [results, h]
  simp [Sem.run_bind, Result.andThen, asAddr, loadVar, hag, hsz, hp', hl]

def RowOf (a : Option Addr) (q : Nat) : Prop := ∃ x, a = some x ∧ q = x.block
def SameOrNew (w : World) (a a' : Option Addr) : Prop := ∀ x, a' = some x → (∃ y, a = some y ∧ x.block = y.block) ∨ w.heap.size ≤ x.block

theorem run_append_new {P : Program} (w : World) (t ty e : TypeId) (i : TypeInfo) (z : Value) (size bytes : Nat) (ht : P.underlying t = some (.slice e)) (hi : P.info? e = some i) (hz : i.zero = some z)
    (hsize : i.size = size) (hby : i.bytes = bytes) (hzs : z.cells.size = size) (a : Option Addr) (n : Nat) (xs : List Value) (hown : w.ownsRow 0 e size (.slice a n n) n xs)
    (ad : Addr) (m c : Nat) (hm : 0 < m) (news : List Value) (hl : news.length = m * size) (hnews : ∀ j u, news[j]? = some u → w.cell? (ad.add j) = some u)
    (h63 : n + m ≤ maxLen) (hbytes : (n + m) * bytes ≤ 140737488355328) :
    ∃ c' w', (Builtin.append_ #[t, t] ty #[.slice a n n, .slice (some ad) m c]).run P w = .ok (.slice (some ⟨w.heap.size, 0, none⟩) (n + m) c') w' ∧
      w'.ownsRow 0 e size (.slice (some ⟨w.heap.size, 0, none⟩) (n + m) c') (n + m) (xs ++ news) ∧ Only Nil w w' := by
  subst hsize
  subst hby
  have hlen : (xs ++ news).length = (n + m) * i.size := by rw [List.length_append, hown.1, hl, Nat.add_mul]
  have h63' : n + m ≤ 9223372036854775807 := by simp only [maxLen] at h63; omega
  have grown : (w.drew.alloc (.cells (xs.toArray ++ news.toArray ++ Builtin.zeroCells z.cells (grownCap w (n + m) n e - (n + m))) e)).ownsRow 0 e i.size
        (.slice (some ⟨w.heap.size, 0, none⟩) (n + m) (grownCap w (n + m) n e)) (n + m) (xs ++ news) ∧
      Only Nil w (w.drew.alloc (.cells (xs.toArray ++ news.toArray ++ Builtin.zeroCells z.cells (grownCap w (n + m) n e - (n + m))) e)) := by
    have hge := grownCap_ge w (n + m) n e
    have hcm : grownCap w (n + m) n e ≤ maxLen := grownCap_le_maxLen w (n + m) n e h63
    refine ⟨⟨hlen, .inr ⟨w.heap.size, _, _, rfl, Nat.zero_le _, heap_alloc_new w.drew _, hge, hcm, ?_, ?_⟩⟩, (Only.refl Nil w).drew.alloc _⟩
    · simp only [Array.size_append, List.size_toArray, size_zeroCells, hzs, hown.1, hl, ← Nat.add_mul]
      congr 1
      omega
    · simp only [Array.toList_append, List.append_assoc]
      rw [← List.append_assoc, ← hlen]
      exact List.take_left
  rcases hown.2 with ⟨e1, e2⟩ | ⟨g, cap, cur, e1, hbg, hg, hnc, hcm, hcs, htake⟩
  · simp only [Value.slice.injEq] at e1
    obtain ⟨rfl, rfl, _⟩ := e1
    have hx : xs = [] := List.eq_nil_of_length_eq_zero (by simpa using hown.1)
    subst hx
    have hr := run_append_nil (P := P) w t ty e i z ht hi hz ad m c news hl hnews (by omega) (by omega) (by have hb := hbytes; simp only [Nat.zero_add] at hb; omega)
    simp only [Nat.zero_add, List.nil_append, Array.empty_append] at grown ⊢
    exact ⟨_, _, hr, grown.1, grown.2⟩
  · simp only [Value.slice.injEq] at e1
    obtain ⟨rfl, _, rfl⟩ := e1
    have holds : ∀ j u, xs[j]? = some u → w.cell? ((⟨g, 0, none⟩ : Addr).add j) = some u := hown.cells (g := g) rfl
    have hr := run_append_grow (P := P) w t ty e i z ht hi hz ⟨g, 0, none⟩ n n xs hown.1 holds ad m c news hl hnews (by omega) (by omega) (growslice_fits (by omega) hbytes)
    exact ⟨_, _, hr, grown.1, grown.2⟩

theorem run_append_end {P : Program} {w : World} {t ty e : TypeId} {z : Value} {size bytes : Nat} (ht : P.underlying t = some (.slice e)) (hi : (P.info? e).map (fun i => (i.zero, i.size, i.bytes)) = some (some z, size, bytes)) (hzs : z.cells.size = size)
    {a : Option Addr} {len cap : Nat} {xs : List Value} (hown : w.ownsRow 0 e size (.slice a len cap) len xs) (ad : Addr) (news : List Value) (hl : news.length = size) (hone : ∀ u ∈ news, u.oneCell' = true)
    (hnews : ∀ j u, news[j]? = some u → w.cell? (ad.add j) = some u) (lle : (len + 1) * bytes ≤ 140737488355328) (hb : 0 < bytes) :
    ∃ a' cap' w', (Builtin.append_ #[t, t] ty #[.slice a len cap, .slice (some ad) 1 1]).run P w = .ok (.slice a' (len + 1) cap') w' ∧
      w'.ownsRow 0 e size (.slice a' (len + 1) cap') (len + 1) (xs ++ news) ∧ Only (RowOf a) w w' ∧ SameOrNew w a a' := by
  obtain ⟨i0, hi0, hz0, hz1, hz2⟩ := info_parts hi
  by_cases hroom : len + 1 ≤ cap
  · rcases hown.2 with ⟨e, e2⟩ | ⟨g, c, cur, e, _, _, hc, _⟩
    · simp only [Value.slice.injEq] at e; omega
    · simp only [Value.slice.injEq] at e
      obtain ⟨rfl, _, rfl⟩ := e
      obtain ⟨w', hr, ho, hg⟩ := run_append_fits (P := P) w 0 t ty _ i0 size ht hi0 hz1 g len cap xs hown ad 1 1 news (by rw [hl]; omega) hnews hone hroom
      exact ⟨_, _, w', hr, ho, (Only.ofGrown hg).mono (fun q hq => by simp at hq; exact ⟨_, rfl, hq⟩), fun x hx => .inl ⟨x, hx, rfl⟩⟩
  · obtain rfl : cap = len := by
      rcases hown.2 with ⟨e, e2⟩ | ⟨g, c, cur, e, _, _, hc, _⟩
      · simp only [Value.slice.injEq] at e; omega
      · simp only [Value.slice.injEq] at e; omega
    have hbb : cap + 1 ≤ (cap + 1) * bytes := Nat.le_mul_of_pos_right _ hb
    obtain ⟨c', w', hr, ho, hg⟩ := run_append_new (P := P) w t ty _ i0 _ size bytes ht hi0 hz0 hz1 hz2 hzs a cap xs hown ad 1 1 (by decide) news (by rw [hl]; omega) hnews (by unfold maxLen; omega) (by omega)
    exact ⟨_, _, w', hr, ho, hg.nilTo _, fun x hx => .inr (by simp only [Option.some.injEq] at hx; rw [← hx]; exact Nat.le_refl _)⟩
end Go.Proofs.Ytimnaiahokafaaa
namespace Go.Proofs.Ytimnaiahokafaaa.Lx
open Go.RowKit Go.Proofs.Ytimnaiahokafaaa
def bs (l : List UInt8) : ByteArray := ⟨l.toArray⟩
@[simp] theorem bs_list (l : List UInt8) : (bs l).data.toList = l := by simp [bs]
@[simp] theorem bs_size (l : List UInt8) : (bs l).size = l.length := by simp [bs, ByteArray.size]
theorem bs_of (s : ByteArray) : bs s.data.toList = s := by cases s; simp [bs]
theorem bs_inj {a b : List UInt8} (h : bs a = bs b) : a = b := by
  have := congrArg (fun s : ByteArray => s.data.toList) h
  simpa using this

structure Tok where
  k : Nat
  w : List UInt8
  n : Nat
deriving Inhabited, DecidableEq
end Go.Proofs.Ytimnaiahokafaaa.Lx
set_option linter.unusedVariables false
namespace Go.Proofs.Ytimnaiahokafaaa.Ps
open Go.RowKit Go.Proofs.Ytimnaiahokafaaa Lx
abbrev Wd := List UInt8
structure Eff where
  act : Int
  ref : Wd
  slot : Wd
  name : Wd
  val : Int
  n : Int
  delay : Int
deriving Inhabited, DecidableEq
structure Rw where
  tag : Wd
  only : Bool
  n : Int
  effs : List Eff
deriving Inhabited, DecidableEq
structure Sta where
  name : Wd
  rows : List Rw
deriving Inhabited, DecidableEq
structure Cs where
  reason : Wd
  act : Int
deriving Inhabited, DecidableEq
structure Kd where
  name : Wd
  limit : Int
  within : Int
  cases : List Cs
  states : List Sta
deriving Inhabited, DecidableEq

def w_open : Wd := [123]
def w_close : Wd := [125]
abbrev Tks := List (Tok × Nat)
inductive PR (α : Type) where
  | ok (a : α) (r : Tks)
  | bad (r : Tks)
def PR.bind {α β : Type} (p : PR α) (f : α → Tks → PR β) : PR β := match p with | .ok a r => f a r | .bad r => .bad r
def hw : Tks → Wd | [] => [] | x :: _ => x.1.w
def hk : Tks → Nat | [] => 0 | x :: _ => x.1.k
def pass (s : Wd) (T : Tks) : PR Unit := if hw T = s then .ok () T.tail else .bad T
def many {α : Type} (p : Tks → PR α) (stop : Tks → Bool) : Nat → Tks → PR (List α)
  | 0, T => .bad T
  | n + 1, T => if stop T then .ok [] T else (p T).bind fun a r => (many p stop n r).bind fun l r' => .ok (a :: l) r'
def Many {α : Type} (p : Tks → PR α) (stop : Tks → Bool) (T : Tks) : PR (List α) := many p stop (T.length + 1) T
def isW (s : Wd) (T : Tks) : Bool := hw T == s
def block {α : Type} (p : Tks → PR α) (T : Tks) : PR (List α) :=
  (pass w_open T).bind fun _ r => (Many p (isW w_close) r).bind fun l r' => (pass w_close r').bind fun _ r'' => .ok l r''
end Go.Proofs.Ytimnaiahokafaaa.Ps
set_option linter.unusedVariables false
namespace Go.Proofs.Ytimnaiahokafaaa.Ps
open Go.RowKit Go.Proofs.Ytimnaiahokafaaa Lx
end Go.Proofs.Ytimnaiahokafaaa.Ps
set_option linter.unusedVariables false
namespace Go.Proofs.Ytimnaiahokafaaa.Ps
open Go.RowKit Go.Proofs.Ytimnaiahokafaaa Lx
theorem cellLt {w : World} {b k : Nat} {v : Value} (h : w.cell? ⟨b, k, none⟩ = some v) : b < w.heap.size := by
  rcases Nat.lt_or_ge b w.heap.size with h' | h'
  · exact h'
  · simp [World.cell?, Array.getElem?_eq_none h'] at h
theorem only_cellS {S : Nat → Prop} {w w' : World} (o : Only S w w') {b k : Nat} {v : Value} (hb : ¬ S b) (h : w.cell? ⟨b, k, none⟩ = some v) : w'.cell? ⟨b, k, none⟩ = some v := by
  have := o.block b (cellLt h) hb
  simp only [World.cell?] at h ⊢
  rw [this]; exact h
def At (R : Nat) (q : Nat) : Prop := q = R
theorem frozen_blk {w : World} {R : Nat} {cs : Array Value} {t : TypeId} (h : w.heap[R]? = some (.cells cs t (0, 0))) (k : Nat) : w.frozen? ⟨R, k, none⟩ = false := by simp [World.frozen?, h]
theorem only_cell0 {w w' : World} (o : Only Nil w w') {b k : Nat} {v : Value} (h : w.cell? ⟨b, k, none⟩ = some v) : w'.cell? ⟨b, k, none⟩ = some v := only_cellS o (fun q => q.elim) h
def hn : Tks → Nat | [] => 0 | x :: _ => x.1.n
def ha (N : Nat) : Tks → Nat | [] => N | x :: _ => x.2
def sets (b : Nat) : Nat → List Value → World → World
  | _, [], w => w
  | k, v :: vs, w => sets b (k + 1) vs (w.setCell ⟨b, k, none⟩ v)
theorem sets_only (b k : Nat) (vs : List Value) (w : World) : Only (At b) w (sets b k vs w) := by
  induction vs generalizing k w with
  | nil => exact Only.refl _ _
  | cons v vs ih => exact ((Only.refl (At b) w).setCell (p := ⟨b, k, none⟩) rfl v).trans (ih (k + 1) _)
theorem sets_from (b : Nat) (vs pre post : List Value) (w : World) (t : TypeId) (hl : post.length = vs.length) (h : w.heap[b]? = some (.cells (pre ++ post).toArray t (0, 0))) :
    (sets b pre.length vs w).heap[b]? = some (.cells (pre ++ vs).toArray t (0, 0)) := by
  induction vs generalizing pre post w with
  | nil =>
    have : post = [] := List.eq_nil_of_length_eq_zero hl
    subst this; exact h
  | cons v vs ih =>
    cases post with
    | nil => simp at hl
    | cons p post =>
      have h1 := heap_setCell_self (o := pre.length) v h
      have e : (pre ++ p :: post).toArray.setIfInBounds pre.length v = (pre ++ [v] ++ post).toArray := by
        rw [List.setIfInBounds_toArray]
        congr 1
        rw [List.set_append_right _ _ (Nat.le_refl _)]
        simp
      rw [e] at h1
      have h2 := ih (pre ++ [v]) post (w.setCell ⟨b, pre.length, none⟩ v) (by simpa using hl) h1
      have e2 : (pre ++ [v]).length = pre.length + 1 := by simp
      rw [e2] at h2
      have e3 : pre ++ [v] ++ vs = pre ++ v :: vs := by simp
      rw [e3] at h2
      exact h2
theorem sets_all {b : Nat} {cs vs : List Value} {w : World} {t : TypeId} (h : w.heap[b]? = some (.cells cs.toArray t (0, 0))) (hl : cs.length = vs.length) : (sets b 0 vs w).heap[b]? = some (.cells vs.toArray t (0, 0)) :=
  sets_from b vs [] cs w t hl h
structure Own (w0 : World) (R O : Nat) (cs : List Value) (t : TypeId) (w : World) : Prop where
  only : Only (At R) w0 w
  new : w0.heap.size ≤ O
  low : R < w0.heap.size
  heap : w.heap[O]? = some (.cells cs.toArray t (0, 0))
theorem Own.made {w0 w : World} {R : Nat} (o : Only (At R) w0 w) (hR : R < w0.heap.size) (cs : List Value) (t : TypeId) : Own w0 R w.heap.size cs t (w.alloc (.cells cs.toArray t)) :=
  ⟨o.alloc _, o.size, hR, heap_new w _⟩
theorem Own.keep {w0 w w' : World} {R O : Nat} {cs : List Value} {t : TypeId} (h : Own w0 R O cs t w) (o : Only (At R) w w') : Own w0 R O cs t w' :=
  ⟨h.only.trans o, h.new, h.low, (o.block O (lt_of_block h.heap) (fun q => by have := h.new; have := h.low; unfold At at q; omega)).trans h.heap⟩
theorem Own.set {w0 w : World} {R O : Nat} {cs : List Value} {t : TypeId} (h : Own w0 R O cs t w) (vs : List Value) (hl : cs.length = vs.length) : Own w0 R O vs t (sets O 0 vs w) :=
  ⟨h.only.then (sets_only O 0 vs w) (fun q hq hlt => by have := h.new; unfold At at hq; omega), h.new, h.low, sets_all h.heap hl⟩
theorem Own.cell {w0 w : World} {R O : Nat} {cs : List Value} {t : TypeId} (h : Own w0 R O cs t w) (k : Nat) {v : Value} (hk : cs[k]? = some v) : w.cell? ⟨O, k, none⟩ = some v := by
  rw [cell_of_row w O k _ _ _ h.heap]; simpa using hk
theorem Own.free {w0 w : World} {R O : Nat} {cs : List Value} {t : TypeId} (h : Own w0 R O cs t w) (k : Nat) : w.frozen? ⟨O, k, none⟩ = false := frozen_blk h.heap k

end Go.Proofs.Ytimnaiahokafaaa.Ps
set_option linter.unusedVariables false
namespace Go.Proofs.Ytimnaiahokafaaa.Ps
open Go.RowKit Go.Proofs.Ytimnaiahokafaaa Lx
theorem toList_bs (l : Wd) : (bs l).toList = l := by rw [ByteArray.toList_eq, bs_list]

end Go.Proofs.Ytimnaiahokafaaa.Ps
set_option linter.unusedVariables false
namespace Go.Proofs.Ytimnaiahokafaaa.Ps
open Go.RowKit Go.Proofs.Ytimnaiahokafaaa Lx
theorem box2 {w0 w1 : World} {R : Nat} (o : Only (At R) w0 w1) (hR : R < w0.heap.size) (cs : List Value) (t : TypeId) :
    ∃ W2, W2 = w1.alloc (.cells cs.toArray t) ∧ Own w0 R w1.heap.size cs t W2 ∧ Only Nil w1 W2 := ⟨_, rfl, Own.made o hR cs t, (Only.refl Nil w1).alloc _⟩
end Go.Proofs.Ytimnaiahokafaaa.Ps
set_option linter.unusedVariables false
namespace Go.Proofs.Ytimnaiahokafaaa.Ps
open Go.RowKit Go.Proofs.Ytimnaiahokafaaa Lx
end Go.Proofs.Ytimnaiahokafaaa.Ps
set_option linter.unusedVariables false
namespace Go.Proofs.Ytimnaiahokafaaa.Ps
open Go.RowKit Go.Proofs.Ytimnaiahokafaaa Lx
def effC (e : Eff) : List Value := [.int .i64 e.act, .string (bs e.ref), .string (bs e.slot), .string (bs e.name), .int .i64 e.val, .int .i64 e.n, .int .i64 e.delay]
theorem Own.put {w0 w : World} {R O : Nat} {cs : List Value} {t : TypeId} (h : Own w0 R O cs t w) (k : Nat) (v : Value) : Own w0 R O (cs.set k v) t (w.setCell ⟨O, k, none⟩ v) := by
  refine ⟨h.only.then ((Only.refl (At O) w).setCell (p := ⟨O, k, none⟩) rfl v) (fun q hq hlt => by have := h.new; unfold At at hq; omega), h.new, h.low, ?_⟩
  have := heap_setCell_self (o := k) v h.heap
  rw [List.setIfInBounds_toArray] at this
  exact this
end Go.Proofs.Ytimnaiahokafaaa.Ps
set_option linter.unusedVariables false
namespace Go.Proofs.Ytimnaiahokafaaa.Ps
open Go.RowKit Go.Proofs.Ytimnaiahokafaaa Lx
end Go.Proofs.Ytimnaiahokafaaa.Ps
set_option linter.unusedVariables false
namespace Go.Proofs.Ytimnaiahokafaaa.Ps
open Go.RowKit Go.Proofs.Ytimnaiahokafaaa Lx
def OfT (t : TypeId) (S : Nat → Prop) (w : World) : Prop := ∀ g, S g → ∃ cs m, w.heap[g]? = some (.cells cs t m)
theorem ofT_nil (t : TypeId) (w : World) : OfT t Nil w := fun g h => h.elim
theorem ofT_at {w : World} {q : Nat} {cs : Array Value} {t : TypeId} {m : Nat × Nat} (h : w.heap[q]? = some (.cells cs t m)) : OfT t (At q) w := fun g hg => by
  unfold At at hg; subst hg; exact ⟨_, _, h⟩
theorem ofT_row {w : World} {lo s n n' c : Nat} {e : TypeId} {a : Option Addr} {xs : List Value} (h : w.ownsRow lo e s (.slice a n c) n' xs) : OfT e (RowOf a) w := by
  rintro g ⟨x, rfl, rfl⟩
  rcases h.2 with ⟨h1, _⟩ | ⟨b, c', cur, h1, _, hb, _⟩
  · cases h1
  · cases h1; exact ⟨_, _, hb⟩
theorem own_keepT {S : Nat → Prop} {w w' : World} {base : Nat} {e t : TypeId} {s n : Nat} {v : Value} {xs : List Value} (h : w.ownsRow base e s v n xs) (o : Only S w w') (hS : OfT t S w) (ht : t ≠ e) : w'.ownsRow base e s v n xs := by
  refine own_keep h o (fun k hk hs => ?_)
  obtain ⟨cs, m, h1⟩ := hS k hs
  rcases h.2 with ⟨rfl, _⟩ | ⟨b, c', cur, rfl, _, hb, _⟩
  · simp [Value.ownBlock] at hk
  · have : k = b := by simpa [Value.ownBlock] using hk
    subst this
    rw [h1] at hb
    injection hb with hb
    injection hb with _ e2
    exact ht e2
def MEff (w : World) (v : Value) (E : List Eff) : Prop := w.ownsRow 0 50 7 v E.length (E.flatMap effC)
def rowCs (x : Rw × Value) : List Value := [.string (bs x.1.tag), .bool x.1.only, .int .i64 x.1.n, x.2]
def MRows (w : World) (v : Value) (L : List Rw) : Prop :=
  ∃ Z : List (Rw × Value), Z.map Prod.fst = L ∧ w.ownsRow 0 40 4 v L.length (Z.flatMap rowCs) ∧ ∀ x ∈ Z, MEff w x.2 x.1.effs
def staCs (x : Sta × Value) : List Value := [.string (bs x.1.name), x.2]
def MStas (w : World) (v : Value) (L : List Sta) : Prop :=
  ∃ Z : List (Sta × Value), Z.map Prod.fst = L ∧ w.ownsRow 0 48 2 v L.length (Z.flatMap staCs) ∧ ∀ x ∈ Z, MRows w x.2 x.1.rows
def csC (c : Cs) : List Value := [.string (bs c.reason), .int .i64 c.act]
def MCs (w : World) (v : Value) (C : List Cs) : Prop := w.ownsRow 0 70 2 v C.length (C.flatMap csC)
def kdCs (x : Kd × Value × Value) : List Value := [.string (bs x.1.name), .int .i64 x.1.limit, .int .i64 x.1.within, x.2.1, x.2.2]
def MKds (w : World) (v : Value) (L : List Kd) : Prop :=
  ∃ Z : List (Kd × Value × Value), Z.map Prod.fst = L ∧ w.ownsRow 0 25 5 v L.length (Z.flatMap kdCs) ∧ ∀ x ∈ Z, MCs w x.2.1 x.1.cases ∧ MStas w x.2.2 x.1.states
theorem MEff.keep {S : Nat → Prop} {w w' : World} {t : TypeId} {v : Value} {E : List Eff} (h : MEff w v E) (o : Only S w w') (hS : OfT t S w) (h1 : t ≠ 50) : MEff w' v E := own_keepT h o hS h1
theorem MRows.keep {S : Nat → Prop} {w w' : World} {t : TypeId} {v : Value} {E : List Rw} (h : MRows w v E) (o : Only S w w') (hS : OfT t S w) (h1 : t ≠ 50) (h2 : t ≠ 40) : MRows w' v E := by
  obtain ⟨Z, hz, ho, hi⟩ := h
  exact ⟨Z, hz, own_keepT ho o hS h2, fun x hx => (hi x hx).keep o hS h1⟩
theorem MStas.keep {S : Nat → Prop} {w w' : World} {t : TypeId} {v : Value} {E : List Sta} (h : MStas w v E) (o : Only S w w') (hS : OfT t S w) (h1 : t ≠ 50) (h2 : t ≠ 40) (h3 : t ≠ 48) : MStas w' v E := by
  obtain ⟨Z, hz, ho, hi⟩ := h
  exact ⟨Z, hz, own_keepT ho o hS h3, fun x hx => (hi x hx).keep o hS h1 h2⟩
theorem MCs.keep {S : Nat → Prop} {w w' : World} {t : TypeId} {v : Value} {E : List Cs} (h : MCs w v E) (o : Only S w w') (hS : OfT t S w) (h1 : t ≠ 70) : MCs w' v E := own_keepT h o hS h1
theorem MKds.keep {S : Nat → Prop} {w w' : World} {t : TypeId} {v : Value} {E : List Kd} (h : MKds w v E) (o : Only S w w') (hS : OfT t S w) (h1 : t ≠ 50) (h2 : t ≠ 40) (h3 : t ≠ 48) (h4 : t ≠ 70) (h5 : t ≠ 25) : MKds w' v E := by
  obtain ⟨Z, hz, ho, hi⟩ := h
  exact ⟨Z, hz, own_keepT ho o hS h5, fun x hx => ⟨(hi x hx).1.keep o hS h4, (hi x hx).2.keep o hS h1 h2 h3⟩⟩
def New (w0 : World) (v : Value) : Prop := ∀ g, v.ownBlock = some g → w0.heap.size ≤ g
theorem new_none (w0 : World) : New w0 (.slice none 0 0) := fun g h => by simp [Value.ownBlock] at h
theorem push_any {P : Program} {t ty e : TypeId} {z : Value} {s bytes : Nat} (ht : P.underlying t = some (.slice e)) (hi : (P.info? e).map (fun i => (i.zero, i.size, i.bytes)) = some (some z, s, bytes)) (hzs : z.cells.size = s) (hb : 0 < bytes)
    {w0 w : World} {a : Option Addr} {n c : Nat} {xs : List Value} (hown : w.ownsRow 0 e s (.slice a n c) n xs) (fr : New w0 (.slice a n c)) (hw : w0.heap.size ≤ w.heap.size) (few : (n + 1) * bytes ≤ 140737488355328)
    (cs : List Value) (hl : cs.length = s) (hone : ∀ u ∈ cs, u.oneCell' = true) :
    ∃ a' c' w5, (Builtin.append_ #[t, t] ty #[.slice a n c, .slice (some ⟨w.heap.size, 0, none⟩) 1 1]).run P (w.alloc (.cells cs.toArray e)) = .ok (.slice a' (n + 1) c') w5 ∧
      w5.ownsRow 0 e s (.slice a' (n + 1) c') (n + 1) (xs ++ cs) ∧ New w0 (.slice a' (n + 1) c') ∧ Only (RowOf a) w w5 := by
  have oA : Only Nil w (w.alloc (.cells cs.toArray e)) := (Only.refl Nil w).alloc _
  obtain ⟨a', c', w5, hr, ho, hon, hsn⟩ := run_append_end (P := P) (ty := ty) ht hi hzs (own_keep hown oA (fun _ _ h => h)) ⟨w.heap.size, 0, none⟩ cs hl hone
    (fun j u hj => by
      rw [add_lit0, cell_of_row _ w.heap.size _ _ _ _ (heap_new w (.cells cs.toArray e)), Nat.zero_add]
      simpa using hj) few hb
  refine ⟨a', c', w5, hr, ho, fun g hg => ?_, (oA.nilTo _).trans hon⟩
  cases a' with
  | none => simp [Value.ownBlock] at hg
  | some x =>
    have hg' : x.block = g := by simpa [Value.ownBlock] using hg
    have hs2 := oA.size
    rcases hsn x rfl with ⟨y, hy, e⟩ | e
    · have h1 := fr y.block (by rw [hy]; rfl)
      omega
    · omega
theorem only_new {w0 w w5 : World} {R : Nat} {a : Option Addr} {n c : Nat} (h : Only (At R) w0 w) (fr : New w0 (.slice a n c)) (o : Only (RowOf a) w w5) : Only (At R) w0 w5 :=
  h.then o (fun g hg hlt => by
    obtain ⟨x, rfl, rfl⟩ := hg
    have := fr x.block rfl
    omega)
theorem step_append_run {P : Program} {ops : Array Oper} {o : Oper} {a : Act} {w : World} {K : Act → World → Prop} {Q : Exit → Act → World → Prop} {E : Prop}
    (hgd : o.guard = none) (s x : Operand) (t : TypeId) (hop : o.op = Op.call { callee := Callee.builtin Builtin.append, args := #[s, x], argTypes := #[t, t] })
    (v1 v2 : Value) (hs : a.eval s = v1) (hx : a.eval x = v2) (v : Value) (w' : World) (hrun : (Builtin.append_ #[t, t] o.type #[v1, v2]).run P w = .ok v w') (h : K (a.put o.dst v) w') :
    if Region.wanted o (yielded ops a.tmps) = true then Oper.wp P o a w K Q else E := by
  have hw : Region.wanted o (yielded ops a.tmps) = true := by simp [Region.wanted, hgd]
  rw [if_pos hw]
  unfold Oper.wp
  simp [execOp, hop, resolve, invoke, builtin, hs, hx, hrun, Result.andThen]
  exact h
theorem Try.infoEff : (Try.prog.info? 50).map (fun i => (i.zero, i.size, i.bytes)) = some (some (.agg #[.int .i64 0, .string ⟨#[]⟩, .string ⟨#[]⟩, .string ⟨#[]⟩, .int .i64 0, .int .i64 0, .int .i64 0]), 7, 80) := by kernel_rfl
theorem Try.infoRow : (Try.prog.info? 40).map (fun i => (i.zero, i.size, i.bytes)) = some (some (.agg #[.string ⟨#[]⟩, .bool false, .int .i64 0, .slice none 0 0]), 4, 56) := by kernel_rfl
theorem Try.infoSta : (Try.prog.info? 48).map (fun i => (i.zero, i.size, i.bytes)) = some (some (.agg #[.string ⟨#[]⟩, .slice none 0 0]), 2, 40) := by kernel_rfl
theorem Try.infoCs : (Try.prog.info? 70).map (fun i => (i.zero, i.size, i.bytes)) = some (some (.agg #[.string ⟨#[]⟩, .int .i64 0]), 2, 24) := by kernel_rfl
theorem Try.infoKd : (Try.prog.info? 25).map (fun i => (i.zero, i.size, i.bytes)) = some (some (.agg #[.string ⟨#[]⟩, .int .i64 0, .int .i64 0, .slice none 0 0, .slice none 0 0]), 5, 80) := by kernel_rfl
theorem eff_pushed {w0 w : World} {a : Option Addr} {n c : Nat} {X : List Eff} (h : MEff w (.slice a n c) X) (hn : X.length = n) (fr : New w0 (.slice a n c)) (hw : w0.heap.size ≤ w.heap.size) (few : (n + 1) * 80 ≤ 140737488355328) (x : Eff) :
    ∃ a' c' w5, (Builtin.append_ #[28, 28] 28 #[.slice a n c, .slice (some ⟨w.heap.size, 0, none⟩) 1 1]).run Try.prog (w.alloc (.cells #[.int .i64 x.act, .string (bs x.ref), .string (bs x.slot), .string (bs x.name), .int .i64 x.val, .int .i64 x.n, .int .i64 x.delay] 50)) = .ok (.slice a' (n + 1) c') w5 ∧
      Hid (MEff w5 (.slice a' (n + 1) c') (X ++ [x])) ∧ Hid (New w0 (.slice a' (n + 1) c')) ∧ Only (RowOf a) w w5 := by
  subst hn
  obtain ⟨a', c', w5, hr, ho, hN, o⟩ := push_any (P := Try.prog) (t := 28) (ty := 28) Try.underlying28 Try.infoEff rfl (by decide) h fr hw few (effC x) rfl (by intro u hu; simp [effC] at hu; rcases hu with rfl | rfl | rfl | rfl | rfl | rfl | rfl <;> rfl)
  refine ⟨a', c', w5, hr, Lib.hid ?_, Lib.hid hN, o⟩
  unfold MEff
  rw [List.length_append, List.flatMap_append]
  simpa using ho
theorem cs_pushed {w0 w : World} {a : Option Addr} {n c : Nat} {X : List Cs} (h : MCs w (.slice a n c) X) (hn : X.length = n) (fr : New w0 (.slice a n c)) (hw : w0.heap.size ≤ w.heap.size) (few : (n + 1) * 24 ≤ 140737488355328) (x : Cs) :
    ∃ a' c' w5, (Builtin.append_ #[22, 22] 22 #[.slice a n c, .slice (some ⟨w.heap.size, 0, none⟩) 1 1]).run Try.prog (w.alloc (.cells #[.string (bs x.reason), .int .i64 x.act] 70)) = .ok (.slice a' (n + 1) c') w5 ∧
      Hid (MCs w5 (.slice a' (n + 1) c') (X ++ [x])) ∧ Hid (New w0 (.slice a' (n + 1) c')) ∧ Only (RowOf a) w w5 := by
  subst hn
  obtain ⟨a', c', w5, hr, ho, hN, o⟩ := push_any (P := Try.prog) (t := 22) (ty := 22) Try.underlying22 Try.infoCs rfl (by decide) h fr hw few (csC x) rfl (by intro u hu; simp [csC] at hu; rcases hu with rfl | rfl <;> rfl)
  refine ⟨a', c', w5, hr, Lib.hid ?_, Lib.hid hN, o⟩
  unfold MCs
  rw [List.length_append, List.flatMap_append]
  simpa using ho
theorem row_pushed {w0 w : World} {a : Option Addr} {n c : Nat} {X : List Rw} (h : MRows w (.slice a n c) X) (hn : X.length = n) (fr : New w0 (.slice a n c)) (hw : w0.heap.size ≤ w.heap.size) (few : (n + 1) * 56 ≤ 140737488355328) (x : Rw) (sl : Value) (hv : MEff w sl x.effs) :
    ∃ a' c' w5, (Builtin.append_ #[46, 46] 46 #[.slice a n c, .slice (some ⟨w.heap.size, 0, none⟩) 1 1]).run Try.prog (w.alloc (.cells #[.string (bs x.tag), .bool x.only, .int .i64 x.n, sl] 40)) = .ok (.slice a' (n + 1) c') w5 ∧
      Hid (MRows w5 (.slice a' (n + 1) c') (X ++ [x])) ∧ Hid (New w0 (.slice a' (n + 1) c')) ∧ Only (RowOf a) w w5 := by
  subst hn
  obtain ⟨Z, hz, ho0, hi⟩ := h
  subst hz
  rw [List.length_map] at ho0 fr few ⊢
  obtain ⟨a', c', w5, hr, ho, hN, o⟩ := push_any (P := Try.prog) (t := 46) (ty := 46) Try.underlying46 Try.infoRow rfl (by decide) ho0 fr hw few (rowCs (x, sl)) rfl (by obtain ⟨a1, c1, hs1⟩ := own_slice_n hv; subst hs1; intro u hu; simp [rowCs] at hu; rcases hu with rfl | rfl | rfl | rfl <;> rfl)
  have hS := ofT_row ho0
  refine ⟨a', c', w5, hr, Lib.hid ⟨Z ++ [(x, sl)], by simp, ?_, fun y hy => ?_⟩, Lib.hid hN, o⟩
  · rw [List.length_append, List.flatMap_append]
    simpa using ho
  · rcases List.mem_append.1 hy with hy | hy
    · exact (hi y hy).keep o hS (by decide)
    · obtain rfl := List.mem_singleton.1 hy
      exact hv.keep o hS (by decide)
theorem sta_pushed {w0 w : World} {a : Option Addr} {n c : Nat} {X : List Sta} (h : MStas w (.slice a n c) X) (hn : X.length = n) (fr : New w0 (.slice a n c)) (hw : w0.heap.size ≤ w.heap.size) (few : (n + 1) * 40 ≤ 140737488355328) (x : Sta) (sl : Value) (hv : MRows w sl x.rows) :
    ∃ a' c' w5, (Builtin.append_ #[23, 23] 23 #[.slice a n c, .slice (some ⟨w.heap.size, 0, none⟩) 1 1]).run Try.prog (w.alloc (.cells #[.string (bs x.name), sl] 48)) = .ok (.slice a' (n + 1) c') w5 ∧
      Hid (MStas w5 (.slice a' (n + 1) c') (X ++ [x])) ∧ Hid (New w0 (.slice a' (n + 1) c')) ∧ Only (RowOf a) w w5 := by
  subst hn
  obtain ⟨Z, hz, ho0, hi⟩ := h
  subst hz
  rw [List.length_map] at ho0 fr few ⊢
  obtain ⟨a', c', w5, hr, ho, hN, o⟩ := push_any (P := Try.prog) (t := 23) (ty := 23) Try.underlying23 Try.infoSta rfl (by decide) ho0 fr hw few (staCs (x, sl)) rfl (by obtain ⟨Z1, _, hv1, _⟩ := hv; obtain ⟨a1, c1, hs1⟩ := own_slice_n hv1; subst hs1; intro u hu; simp [staCs] at hu; rcases hu with rfl | rfl <;> rfl)
  have hS := ofT_row ho0
  refine ⟨a', c', w5, hr, Lib.hid ⟨Z ++ [(x, sl)], by simp, ?_, fun y hy => ?_⟩, Lib.hid hN, o⟩
  · rw [List.length_append, List.flatMap_append]
    simpa using ho
  · rcases List.mem_append.1 hy with hy | hy
    · exact (hi y hy).keep o hS (by decide) (by decide)
    · obtain rfl := List.mem_singleton.1 hy
      exact hv.keep o hS (by decide) (by decide)
theorem kd_pushed {w0 w : World} {a : Option Addr} {n c : Nat} {X : List Kd} (h : MKds w (.slice a n c) X) (hn : X.length = n) (fr : New w0 (.slice a n c)) (hw : w0.heap.size ≤ w.heap.size) (few : (n + 1) * 80 ≤ 140737488355328) (x : Kd) (s1 s2 : Value) (hv : MCs w s1 x.cases) (hv2 : MStas w s2 x.states) :
    ∃ a' c' w5, (Builtin.append_ #[33, 33] 33 #[.slice a n c, .slice (some ⟨w.heap.size, 0, none⟩) 1 1]).run Try.prog (w.alloc (.cells #[.string (bs x.name), .int .i64 x.limit, .int .i64 x.within, s1, s2] 25)) = .ok (.slice a' (n + 1) c') w5 ∧
      Hid (MKds w5 (.slice a' (n + 1) c') (X ++ [x])) ∧ Hid (New w0 (.slice a' (n + 1) c')) ∧ Only (RowOf a) w w5 := by
  subst hn
  obtain ⟨Z, hz, ho0, hi⟩ := h
  subst hz
  rw [List.length_map] at ho0 fr few ⊢
  obtain ⟨a', c', w5, hr, ho, hN, o⟩ := push_any (P := Try.prog) (t := 33) (ty := 33) Try.underlying33 Try.infoKd rfl (by decide) ho0 fr hw few (kdCs (x, s1, s2)) rfl (by obtain ⟨a1, c1, hs1⟩ := own_slice_n hv; subst hs1; obtain ⟨Z1, _, hv1, _⟩ := hv2; obtain ⟨a2, c2, hs2⟩ := own_slice_n hv1; subst hs2; intro u hu; simp [kdCs] at hu; rcases hu with rfl | rfl | rfl | rfl | rfl <;> rfl)
  have hS := ofT_row ho0
  refine ⟨a', c', w5, hr, Lib.hid ⟨Z ++ [(x, s1, s2)], by simp, ?_, fun y hy => ?_⟩, Lib.hid hN, o⟩
  · rw [List.length_append, List.flatMap_append]
    simpa using ho
  · rcases List.mem_append.1 hy with hy | hy
    · exact ⟨(hi y hy).1.keep o hS (by decide), (hi y hy).2.keep o hS (by decide) (by decide) (by decide)⟩
    · obtain rfl := List.mem_singleton.1 hy
      exact ⟨hv.keep o hS (by decide), hv2.keep o hS (by decide) (by decide) (by decide)⟩
end Go.Proofs.Ytimnaiahokafaaa.Ps
set_option linter.unusedVariables false
namespace Go.Proofs.Ytimnaiahokafaaa.Ps
open Go.RowKit Go.Proofs.Ytimnaiahokafaaa Lx
end Go.Proofs.Ytimnaiahokafaaa.Ps
set_option linter.unusedVariables false
namespace Go.Proofs.Ytimnaiahokafaaa.Ps
open Go.RowKit Go.Proofs.Ytimnaiahokafaaa Lx
end Go.Proofs.Ytimnaiahokafaaa.Ps
set_option linter.unusedVariables false
namespace Go.Proofs.Ytimnaiahokafaaa.Ps
open Go.RowKit Go.Proofs.Ytimnaiahokafaaa Lx
end Go.Proofs.Ytimnaiahokafaaa.Ps
set_option linter.unusedVariables false
namespace Go.Proofs.Ytimnaiahokafaaa.Ps
open Go.RowKit Go.Proofs.Ytimnaiahokafaaa Lx
end Go.Proofs.Ytimnaiahokafaaa.Ps
set_option linter.unusedVariables false
namespace Go.Proofs.Ytimnaiahokafaaa.Ps
open Go.RowKit Go.Proofs.Ytimnaiahokafaaa Lx
def kdL (n : Wd) (a b : Int) (u v : Value) : List Value := [.string (bs n), .int .i64 a, .int .i64 b, u, v]

end Go.Proofs.Ytimnaiahokafaaa.Ps
set_option linter.unusedVariables false
namespace Go.Proofs.Ytimnaiahokafaaa.Ps
open Go.RowKit Go.Proofs.Ytimnaiahokafaaa Lx
end Go.Proofs.Ytimnaiahokafaaa.Ps
set_option linter.unusedVariables false
namespace Go.Proofs.Ytimnaiahokafaaa.Ps
open Go.RowKit Go.Proofs.Ytimnaiahokafaaa Lx
end Go.Proofs.Ytimnaiahokafaaa.Ps
set_option linter.unusedVariables false
namespace Go.Proofs.Ytimnaiahokafaaa.Ps
open Go.RowKit Go.Proofs.Ytimnaiahokafaaa Lx
theorem results_cc {P : Program} {fn : Func} {p q : Tmp} {ty te t1 t2 : TypeId} (h : fn.results = #[.cell p ty, .cell q te]) (tmps : Array Value) (w : World) (b d : Nat) (cs : List Value) (u : Value)
    (hag : ∀ w, (isAgg ty).run P w = .ok true w) (hsz : ∀ w, (Go.sizeOf ty).run P w = .ok cs.length w) (hag2 : ∀ w, (isAgg te).run P w = .ok false w)
    (hp : tmps.getD p undef = .pointer (some ⟨b, 0, none⟩)) (hq : tmps.getD q undef = .pointer (some ⟨d, 0, none⟩)) (hc : w.heap[b]? = some (.cells cs.toArray t1 (0, 0))) (hd : w.heap[d]? = some (.cells #[u] t2 (0, 0))) :
    (results fn tmps).run P w = .ok (.tuple #[.agg cs.toArray, u]) w := by
  have hp' : tmps[p]?.getD undef = .pointer (some ⟨b, 0, none⟩) := by simpa using hp
  have hq' : tmps[q]?.getD undef = .pointer (some ⟨d, 0, none⟩) := by simpa using hq
  have hl := run_loadCells_list (P := P) w ⟨b, 0, none⟩ cs (fun j v hj => by
    have e : (⟨b, 0, none⟩ : Addr).add j = ⟨b, j, none⟩ := by unfold Addr.add; split <;> simp_all
    rw [e, cell_of_row w b j _ _ _ hc]; simpa using hj)
  have hu : w.cell? ⟨d, 0, none⟩ = some u := by simp [World.cell?, hd]
  have hl2 : (load (⟨d, 0, none⟩ : Addr)).run P w = .ok u w := by simp [go_sem, hu]
  simp only [results, h]
  simp [Sem.run_bind, Result.andThen, asAddr, loadVar, hag, hsz, hag2, hp', hq', hl, hl2]
theorem run_mf (fn : Fn) (first cap : Array Value) (w : World) : (Instr.makeFunc fn first cap).run Try.prog w = .ok (.func fn first cap) w := rfl

end Go.Proofs.Ytimnaiahokafaaa.Ps
set_option linter.unusedVariables false
namespace Go.Proofs.Ytimnaiahokafaaa.Ps
open Go.RowKit Go.Proofs.Ytimnaiahokafaaa Lx
end Go.Proofs.Ytimnaiahokafaaa.Ps
set_option linter.unusedVariables false
namespace Go.Proofs.Ytimnaiahokafaaa.Ps
open Go.RowKit Go.Proofs.Ytimnaiahokafaaa Lx
end Go.Proofs.Ytimnaiahokafaaa.Ps
set_option linter.unusedVariables false
namespace Go.Proofs.Ytimnaiahokafaaa.Ps
open Go.RowKit Go.Proofs.Ytimnaiahokafaaa Lx
def CIn (D : Nat) (w : World) (v : Value) (n s : Nat) (cs : List Value) : Prop :=
  ∃ a c, (v = .slice a n c ∧ n ≤ c) ∧ cs.length = n * s ∧ ∀ i, i < cs.length → ∃ b off, a = some ⟨b, off, none⟩ ∧ b < D ∧ b < w.heap.size ∧ ∀ j, j < cs.length → w.cell? ⟨b, off + j, none⟩ = cs[j]?
theorem CIn.keep {D : Nat} {S : Nat → Prop} {w w' : World} {v : Value} {n s : Nat} {cs : List Value} (h : CIn D w v n s cs) (o : Only S w w') (hS : ∀ b, b < D → ¬ S b) : CIn D w' v n s cs := by
  obtain ⟨a, c, h1, h2, h3⟩ := h
  refine ⟨a, c, h1, h2, fun i hi => ?_⟩
  obtain ⟨b, off, ha, hD, hlt, hc⟩ := h3 i hi
  refine ⟨b, off, ha, hD, Nat.lt_of_lt_of_le hlt o.size, fun j hj => ?_⟩
  have e : cs[j]? = some cs[j] := by simp [hj]
  rw [e]
  exact only_cellS o (hS b hD) ((hc j hj).trans e)
theorem CIn.mono {D D' : Nat} {w : World} {v : Value} {n s : Nat} {cs : List Value} (h : CIn D w v n s cs) (hD : D ≤ D') : CIn D' w v n s cs := by
  obtain ⟨a, c, h1, h2, h3⟩ := h
  refine ⟨a, c, h1, h2, fun i hi => ?_⟩
  obtain ⟨b, off, ha, hb, hlt, hc⟩ := h3 i hi
  exact ⟨b, off, ha, by omega, hlt, hc⟩
theorem CIn.slice {D : Nat} {w : World} {v : Value} {n s : Nat} {cs : List Value} (h : CIn D w v n s cs) : ∃ a c, v = .slice a n c := by
  obtain ⟨a, c, h1, _⟩ := h; exact ⟨a, c, h1.1⟩
def XE (D : Nat) (w : World) (v : Value) (E : List Eff) : Prop := CIn D w v E.length 7 (E.flatMap effC)
def XR (D : Nat) (w : World) (v : Value) (L : List Rw) : Prop := ∃ Z : List (Rw × Value), Z.map Prod.fst = L ∧ CIn D w v L.length 4 (Z.flatMap rowCs) ∧ ∀ x ∈ Z, XE D w x.2 x.1.effs
def XS (D : Nat) (w : World) (v : Value) (L : List Sta) : Prop := ∃ Z : List (Sta × Value), Z.map Prod.fst = L ∧ CIn D w v L.length 2 (Z.flatMap staCs) ∧ ∀ x ∈ Z, XR D w x.2 x.1.rows
def XC (D : Nat) (w : World) (v : Value) (L : List Cs) : Prop := CIn D w v L.length 2 (L.flatMap csC)
def XK (D : Nat) (w : World) (v : Value) (L : List Kd) : Prop := ∃ Z : List (Kd × Value × Value), Z.map Prod.fst = L ∧ CIn D w v L.length 5 (Z.flatMap kdCs) ∧ ∀ x ∈ Z, XC D w x.2.1 x.1.cases ∧ XS D w x.2.2 x.1.states
section
variable {D D' : Nat} {S : Nat → Prop} {w w' : World} {v : Value}
theorem XE.keep {L : List Eff} (h : XE D w v L) (o : Only S w w') (hS : ∀ b, b < D → ¬ S b) : XE D w' v L := CIn.keep h o hS
theorem XR.keep {L : List Rw} (h : XR D w v L) (o : Only S w w') (hS : ∀ b, b < D → ¬ S b) : XR D w' v L := by
  obtain ⟨Z, hz, hc, hi⟩ := h; exact ⟨Z, hz, hc.keep o hS, fun x hx => (hi x hx).keep o hS⟩
theorem XS.keep {L : List Sta} (h : XS D w v L) (o : Only S w w') (hS : ∀ b, b < D → ¬ S b) : XS D w' v L := by
  obtain ⟨Z, hz, hc, hi⟩ := h; exact ⟨Z, hz, hc.keep o hS, fun x hx => (hi x hx).keep o hS⟩
theorem XC.keep {L : List Cs} (h : XC D w v L) (o : Only S w w') (hS : ∀ b, b < D → ¬ S b) : XC D w' v L := CIn.keep h o hS
theorem XK.keep {L : List Kd} (h : XK D w v L) (o : Only S w w') (hS : ∀ b, b < D → ¬ S b) : XK D w' v L := by
  obtain ⟨Z, hz, hc, hi⟩ := h; exact ⟨Z, hz, hc.keep o hS, fun x hx => ⟨(hi x hx).1.keep o hS, (hi x hx).2.keep o hS⟩⟩
theorem XE.mono {L : List Eff} (h : XE D w v L) (hD : D ≤ D') : XE D' w v L := CIn.mono h hD
theorem XR.mono {L : List Rw} (h : XR D w v L) (hD : D ≤ D') : XR D' w v L := by
  obtain ⟨Z, hz, hc, hi⟩ := h; exact ⟨Z, hz, hc.mono hD, fun x hx => (hi x hx).mono hD⟩
theorem XS.mono {L : List Sta} (h : XS D w v L) (hD : D ≤ D') : XS D' w v L := by
  obtain ⟨Z, hz, hc, hi⟩ := h; exact ⟨Z, hz, hc.mono hD, fun x hx => (hi x hx).mono hD⟩
theorem XC.mono {L : List Cs} (h : XC D w v L) (hD : D ≤ D') : XC D' w v L := CIn.mono h hD
theorem XK.mono {L : List Kd} (h : XK D w v L) (hD : D ≤ D') : XK D' w v L := by
  obtain ⟨Z, hz, hc, hi⟩ := h; exact ⟨Z, hz, hc.mono hD, fun x hx => ⟨(hi x hx).1.mono hD, (hi x hx).2.mono hD⟩⟩
end
theorem nilS (b D : Nat) : b < D → ¬ Nil b := fun _ q => q.elim
theorem own_cin {w : World} {lo s n : Nat} {e : TypeId} {v : Value} {xs : List Value} (h : w.ownsRow lo e s v n xs) : CIn w.heap.size w v n s xs := by
  obtain ⟨a, c, rfl⟩ := own_slice_n h
  refine ⟨a, c, ⟨rfl, ?_⟩, h.1, fun i hi => ?_⟩
  · rcases h.2 with ⟨h1, h2⟩ | ⟨g, c', cur, h1, _, _, h4, _⟩
    · omega
    · simp only [Value.slice.injEq] at h1; omega
  rcases h.2 with ⟨_, h0⟩ | ⟨g, c', cur, hv, _, hg, _, _, _, ht⟩
  · have := h.1; rw [h0, Nat.zero_mul] at this; omega
  · simp only [Value.slice.injEq] at hv
    obtain ⟨rfl, _, _⟩ := hv
    refine ⟨g, 0, rfl, lt_of_block hg, lt_of_block hg, fun j hj => ?_⟩
    rw [Nat.zero_add, cell_of_row w g j _ _ _ hg]
    have h1 := h.1
    have : xs[j]? = (cur.toList.take (n * s))[j]? := by rw [ht]
    rw [this, List.getElem?_take, if_pos (by omega)]
    simp
theorem MEff.x {w : World} {v : Value} {E : List Eff} (h : MEff w v E) : XE w.heap.size w v E := own_cin h
theorem MRows.x {w : World} {v : Value} {E : List Rw} (h : MRows w v E) : XR w.heap.size w v E := by
  obtain ⟨Z, hz, ho, hi⟩ := h; exact ⟨Z, hz, own_cin ho, fun x hx => (hi x hx).x⟩
theorem MStas.x {w : World} {v : Value} {E : List Sta} (h : MStas w v E) : XS w.heap.size w v E := by
  obtain ⟨Z, hz, ho, hi⟩ := h; exact ⟨Z, hz, own_cin ho, fun x hx => (hi x hx).x⟩
theorem MCs.x {w : World} {v : Value} {E : List Cs} (h : MCs w v E) : XC w.heap.size w v E := own_cin h
theorem MKds.x {w : World} {v : Value} {E : List Kd} (h : MKds w v E) : XK w.heap.size w v E := by
  obtain ⟨Z, hz, ho, hi⟩ := h; exact ⟨Z, hz, own_cin ho, fun x hx => ⟨(hi x hx).1.x, (hi x hx).2.x⟩⟩

theorem flat_get {α : Type} (f : α → List Value) (s : Nat) (hf : ∀ x, (f x).length = s) (L : List α) (j k : Nat) (hj : j < L.length) (hk : k < s) : (L.flatMap f)[j * s + k]? = (f L[j])[k]? := by
  induction L generalizing j with
  | nil => simp at hj
  | cons x L ih =>
    rw [List.flatMap_cons]
    cases j with
    | zero => rw [Nat.zero_mul, Nat.zero_add, List.getElem?_append_left (by rw [hf]; exact hk)]; rfl
    | succ j =>
      rw [List.getElem?_append_right (by rw [hf, Nat.add_mul]; omega), hf]
      have e : (j + 1) * s + k - s = j * s + k := by rw [Nat.add_mul]; omega
      rw [e, ih j (by simpa using hj)]
      rfl
def Ats (w : World) (a : Option Addr) (s j : Nat) (cs : List Value) : Prop := ∃ b off, a = some ⟨b, off, none⟩ ∧ b < w.heap.size ∧ ∀ k, k < s → w.cell? ⟨b, off + j * s + k, none⟩ = cs[k]?
theorem CIn.at_ {α : Type} {D : Nat} {w : World} {a : Option Addr} {n s c : Nat} {f : α → List Value} {Z : List α} (hf : ∀ x, (f x).length = s) (hs : 0 < s) (h : CIn D w (.slice a n c) n s (Z.flatMap f)) (hZ : Z.length = n) (j : Nat) (hj : j < n) : Ats w a s j (f (Z[j]'(by omega))) := by
  obtain ⟨a', c', ⟨h1, _⟩, h2, h3⟩ := h
  simp only [Value.slice.injEq] at h1
  obtain ⟨rfl, _, rfl⟩ := h1
  have hlt : j * s + s ≤ n * s := by rw [← Nat.succ_mul]; exact Nat.mul_le_mul_right _ hj
  obtain ⟨b, off, ha, _, hb, hc⟩ := h3 (j * s) (by omega)
  refine ⟨b, off, ha, hb, fun k hk => ?_⟩
  rw [Nat.add_assoc, hc (j * s + k) (by omega), flat_get f s hf Z j k (by omega) hk]
theorem XE.at_ {D : Nat} {w : World} {a : Option Addr} {n c : Nat} {L : List Eff} (h : XE D w (.slice a n c) L) (hn : L.length = n) (j : Nat) (hj : j < n) : Ats w a 7 j (effC (L[j]'(by omega))) := by
  subst hn; exact CIn.at_ (f := effC) (s := 7) (fun _ => rfl) (by decide) h rfl j hj
theorem XC.at_ {D : Nat} {w : World} {a : Option Addr} {n c : Nat} {L : List Cs} (h : XC D w (.slice a n c) L) (hn : L.length = n) (j : Nat) (hj : j < n) : Ats w a 2 j (csC (L[j]'(by omega))) := by
  subst hn; exact CIn.at_ (f := csC) (s := 2) (fun _ => rfl) (by decide) h rfl j hj
theorem XR.at_ {D : Nat} {w : World} {a : Option Addr} {n c : Nat} {L : List Rw} (h : XR D w (.slice a n c) L) (hn : L.length = n) (j : Nat) (hj : j < n) : ∃ sl, Ats w a 4 j (rowCs (L[j]'(by omega), sl)) ∧ XE D w sl (L[j]'(by omega)).effs := by
  obtain ⟨Z, hz, hc, hi⟩ := h
  subst hz
  rw [List.length_map] at hn hc
  rw [hn] at hc
  have := CIn.at_ (f := rowCs) (s := 4) (fun _ => rfl) (by decide) hc hn j hj
  refine ⟨(Z[j]'(by omega)).2, ?_, ?_⟩
  · simpa using this
  · simpa using hi _ (List.getElem_mem (by omega : j < Z.length))
theorem XS.at_ {D : Nat} {w : World} {a : Option Addr} {n c : Nat} {L : List Sta} (h : XS D w (.slice a n c) L) (hn : L.length = n) (j : Nat) (hj : j < n) : ∃ sl, Ats w a 2 j (staCs (L[j]'(by omega), sl)) ∧ XR D w sl (L[j]'(by omega)).rows := by
  obtain ⟨Z, hz, hc, hi⟩ := h
  subst hz
  rw [List.length_map] at hn hc
  rw [hn] at hc
  have := CIn.at_ (f := staCs) (s := 2) (fun _ => rfl) (by decide) hc hn j hj
  refine ⟨(Z[j]'(by omega)).2, ?_, ?_⟩
  · simpa using this
  · simpa using hi _ (List.getElem_mem (by omega : j < Z.length))
theorem XK.at_ {D : Nat} {w : World} {a : Option Addr} {n c : Nat} {L : List Kd} (h : XK D w (.slice a n c) L) (hn : L.length = n) (j : Nat) (hj : j < n) : ∃ s1 s2, Ats w a 5 j (kdCs (L[j]'(by omega), s1, s2)) ∧ XC D w s1 (L[j]'(by omega)).cases ∧ XS D w s2 (L[j]'(by omega)).states := by
  obtain ⟨Z, hz, hc, hi⟩ := h
  subst hz
  rw [List.length_map] at hn hc
  rw [hn] at hc
  have := CIn.at_ (f := kdCs) (s := 5) (fun _ => rfl) (by decide) hc hn j hj
  refine ⟨(Z[j]'(by omega)).2.1, (Z[j]'(by omega)).2.2, ?_, ?_⟩
  · simpa using this
  · simpa using hi _ (List.getElem_mem (by omega : j < Z.length))
theorem XE.slice {D : Nat} {w : World} {v : Value} {L : List Eff} (h : XE D w v L) : ∃ a c, v = .slice a L.length c := CIn.slice h
theorem XC.slice {D : Nat} {w : World} {v : Value} {L : List Cs} (h : XC D w v L) : ∃ a c, v = .slice a L.length c := CIn.slice h
theorem XR.slice {D : Nat} {w : World} {v : Value} {L : List Rw} (h : XR D w v L) : ∃ a c, v = .slice a L.length c := by obtain ⟨_, _, h, _⟩ := h; exact CIn.slice h
theorem XS.slice {D : Nat} {w : World} {v : Value} {L : List Sta} (h : XS D w v L) : ∃ a c, v = .slice a L.length c := by obtain ⟨_, _, h, _⟩ := h; exact CIn.slice h
theorem XK.slice {D : Nat} {w : World} {v : Value} {L : List Kd} (h : XK D w v L) : ∃ a c, v = .slice a L.length c := by obtain ⟨_, _, h, _⟩ := h; exact CIn.slice h
end Go.Proofs.Ytimnaiahokafaaa.Ps
set_option linter.unusedVariables false
namespace Go.Proofs.Ytimnaiahokafaaa.Ps
open Go.RowKit Go.Proofs.Ytimnaiahokafaaa Lx
theorem bs_beq (a b : Wd) : ((bs a).toList == (bs b).toList) = decide (a = b) := by
  rw [toList_bs, toList_bs]; exact Bool.eq_iff_iff.2 (by simp)
def smR (x : Rw) : Prop := x.effs.length ≤ 140737488355328
def smS (x : Sta) : Prop := x.rows.length ≤ 140737488355328 ∧ ∀ r ∈ x.rows, smR r
def smK (x : Kd) : Prop := x.cases.length ≤ 140737488355328 ∧ x.states.length ≤ 140737488355328 ∧ ∀ s ∈ x.states, smS s
def smP (P : List Kd) : Prop := P.length ≤ 140737488355328 ∧ ∀ k ∈ P, smK k
theorem neq_cs (e f : Cs) (w : World) : (binOp .neq 70 (.agg #[.string (bs e.reason), .int .i64 e.act]) (.agg #[.string (bs f.reason), .int .i64 f.act])).run Try.prog w = .ok (.bool (!decide (e = f))) w := by
  have hp : Try.prog.stoodInHeld 70 = false := by kernel_rfl
  have hu := Try.underlying70
  have h9 := Try.underlying9
  have h3 := Try.underlying3
  rw [run_neq_struct]
  simp [go_sem, hp, hu, h9, h3]
  obtain ⟨a, b⟩ := e
  obtain ⟨c, d⟩ := f
  simp only [toList_bs, Cs.mk.injEq]
  (repeat' split) <;> simp_all
theorem neq_eff (e f : Eff) (w : World) : (binOp .neq 50 (.agg #[.int .i64 e.act, .string (bs e.ref), .string (bs e.slot), .string (bs e.name), .int .i64 e.val, .int .i64 e.n, .int .i64 e.delay]) (.agg #[.int .i64 f.act, .string (bs f.ref), .string (bs f.slot), .string (bs f.name), .int .i64 f.val, .int .i64 f.n, .int .i64 f.delay])).run Try.prog w = .ok (.bool (!decide (e = f))) w := by
  have hp : Try.prog.stoodInHeld 50 = false := by kernel_rfl
  have hu := Try.underlying50
  have h9 := Try.underlying9
  have h3 := Try.underlying3
  rw [run_neq_struct]
  simp [go_sem, hp, hu, h9, h3]
  obtain ⟨a, b, c, d, e, f, g⟩ := e
  rename_i f0
  obtain ⟨a', b', c', d', e', f', g'⟩ := f0
  simp only [toList_bs, Eff.mk.injEq]
  (repeat' split) <;> simp_all
theorem guard_cs (x y : Operand) (xs ys : Array Value) (w : World) : (eqGuard .neq 70 x y (.agg xs) (.agg ys)).run Try.prog w = .ok () w := run_eqGuard_agg w _ _ _ _ _ _ (by kernel_rfl)
theorem guard_eff (x y : Operand) (xs ys : Array Value) (w : World) : (eqGuard .neq 50 x y (.agg xs) (.agg ys)).run Try.prog w = .ok () w := run_eqGuard_agg w _ _ _ _ _ _ (by kernel_rfl)
theorem eq_upto {α : Type} {L M : List α} {n : Nat} (hl : L.length = n) (hm : M.length = n) (h : ∀ j, j < n → L[j]? = M[j]?) : L = M := by
  refine List.ext_getElem? fun j => ?_
  rcases Nat.lt_or_ge j n with hj | hj
  · exact h j hj
  · rw [List.getElem?_eq_none (by omega), List.getElem?_eq_none (by omega)]

end Go.Proofs.Ytimnaiahokafaaa.Ps
set_option linter.unusedVariables false
namespace Go.Proofs.Ytimnaiahokafaaa.Ps
open Go.RowKit Go.Proofs.Ytimnaiahokafaaa Lx
theorem str_ne {a b : Wd} (h : ¬ a = b) : ((bs a).toList == (bs b).toList) = false := by rw [bs_beq]; exact decide_eq_false h
theorem str_eq (a : Wd) : ((bs a).toList == (bs a).toList) = true := by simp

theorem Rw_eq (x y : Rw) : (x = y) ↔ (x.tag = y.tag ∧ x.only = y.only ∧ x.n = y.n ∧ x.effs = y.effs) := by cases x; cases y; simp
theorem Sta_eq (x y : Sta) : (x = y) ↔ (x.name = y.name ∧ x.rows = y.rows) := by cases x; cases y; simp
theorem Kd_eq (x y : Kd) : (x = y) ↔ (x.name = y.name ∧ x.limit = y.limit ∧ x.within = y.within ∧ x.cases = y.cases ∧ x.states = y.states) := by cases x; cases y; simp
end Go.Proofs.Ytimnaiahokafaaa.Ps
namespace Go.Proofs.Ytimnaiahokafaaa.Lx
open Go.RowKit Go.Proofs.Ytimnaiahokafaaa Go.Shelf
end Go.Proofs.Ytimnaiahokafaaa.Lx
set_option linter.unusedVariables false
namespace Go.Proofs.Ytimnaiahokafaaa.Ps
open Go.RowKit Go.Proofs.Ytimnaiahokafaaa Lx
def inW (n : Int) : Prop := -9223372036854775808 ≤ n ∧ n ≤ 9223372036854775807
end Go.Proofs.Ytimnaiahokafaaa.Ps
set_option linter.unusedVariables false
namespace Go.Proofs.Ytimnaiahokafaaa.Ps
open Go.RowKit Go.Proofs.Ytimnaiahokafaaa Lx
end Go.Proofs.Ytimnaiahokafaaa.Ps
set_option linter.unusedVariables false
namespace Go.Proofs.Ytimnaiahokafaaa.Ps
open Go.RowKit Go.Proofs.Ytimnaiahokafaaa Lx
end Go.Proofs.Ytimnaiahokafaaa.Ps
set_option linter.unusedVariables false
namespace Go.Proofs.Ytimnaiahokafaaa.Ps
open Go.RowKit Go.Proofs.Ytimnaiahokafaaa Lx
end Go.Proofs.Ytimnaiahokafaaa.Ps
set_option linter.unusedVariables false
namespace Go.Proofs.Ytimnaiahokafaaa.Ps
open Go.RowKit Go.Proofs.Ytimnaiahokafaaa Lx
def Bx (w : World) (O : Nat) (cs : List Value) (t : TypeId) : Prop := w.heap[O]? = some (.cells cs.toArray t (0, 0))
theorem Bx.keep {w w' : World} {O : Nat} {cs : List Value} {t : TypeId} (h : Bx w O cs t) (o : Only Nil w w') : Bx w' O cs t := (o.block O (lt_of_block h) (fun q => q.elim)).trans h
theorem Bx.cell {w : World} {O : Nat} {cs : List Value} {t : TypeId} (h : Bx w O cs t) (k : Nat) {v : Value} (hk : cs[k]? = some v) : w.cell? ⟨O, k, none⟩ = some v := by
  rw [cell_of_row w O k _ _ _ h]; simpa using hk
theorem Bx.free {w : World} {O : Nat} {cs : List Value} {t : TypeId} (h : Bx w O cs t) (k : Nat) : w.frozen? ⟨O, k, none⟩ = false := frozen_blk h k
theorem bx_new (w : World) (cs : List Value) (t : TypeId) : Bx (w.alloc (.cells cs.toArray t)) w.heap.size cs t := heap_new w _
end Go.Proofs.Ytimnaiahokafaaa.Ps
set_option linter.unusedVariables false
namespace Go.Proofs.Ytimnaiahokafaaa.Ps
open Go.RowKit Go.Proofs.Ytimnaiahokafaaa Lx
structure wfE (x : Eff) : Prop where
  act : inW x.act
  val : inW x.val
  n : inW x.n
  delay : inW x.delay
  ref : x.ref.length ≤ 140737488355328
  slot : x.slot.length ≤ 140737488355328
  name : x.name.length ≤ 140737488355328
theorem Bx.at_ {w w' : World} {O q : Nat} {cs : List Value} {t : TypeId} (h : Bx w O cs t) (o : Only (At q) w w') (hq : O ≠ q) : Bx w' O cs t := (o.block O (lt_of_block h) (fun e => hq e)).trans h
theorem Bx.put {w : World} {O : Nat} {cs : List Value} {t : TypeId} (h : Bx w O cs t) (k : Nat) (v : Value) : Bx (w.setCell ⟨O, k, none⟩ v) O (cs.set k v) t := by
  have := heap_setCell_self (o := k) v h
  rw [List.setIfInBounds_toArray] at this
  exact this
end Go.Proofs.Ytimnaiahokafaaa.Ps
set_option linter.unusedVariables false
namespace Go.Proofs.Ytimnaiahokafaaa.Ps
open Go.RowKit Go.Proofs.Ytimnaiahokafaaa Lx
structure wfR (x : Rw) : Prop where
  n : inW x.n
  tag : x.tag.length ≤ 140737488355328
  effs : ∀ e ∈ x.effs, wfE e
structure wfC (c : Cs) : Prop where
  act : inW c.act
  reason : c.reason.length ≤ 140737488355328
structure wfS (s : Sta) : Prop where
  name : s.name.length ≤ 140737488355328
  rows : ∀ r ∈ s.rows, wfR r
structure wfK (k : Kd) : Prop where
  limit : inW k.limit
  within : inW k.within
  name : k.name.length ≤ 140737488355328
  cases : ∀ c ∈ k.cases, wfC c
  states : ∀ s ∈ k.states, wfS s
def wfP (P : List Kd) : Prop := ∀ k ∈ P, wfK k
end Go.Proofs.Ytimnaiahokafaaa.Ps
set_option linter.unusedVariables false
namespace Go.Proofs.Ytimnaiahokafaaa.Ps
open Go.RowKit Go.Proofs.Ytimnaiahokafaaa Lx
end Go.Proofs.Ytimnaiahokafaaa.Ps
set_option linter.unusedVariables false
namespace Go.Proofs.Ytimnaiahokafaaa.Ps
open Go.RowKit Go.Proofs.Ytimnaiahokafaaa Lx
end Go.Proofs.Ytimnaiahokafaaa.Ps
set_option linter.unusedVariables false
namespace Go.Proofs.Ytimnaiahokafaaa.Ps
open Go.RowKit Go.Proofs.Ytimnaiahokafaaa Lx
theorem Ats.cell {w : World} {a : Option Addr} {s j : Nat} {cs : List Value} (h : Ats w a s j cs) : ∃ b off, a = some ⟨b, off, none⟩ ∧ ∀ k v, k < s → cs[k]? = some v → w.cell? ⟨b, off + j * s + k, none⟩ = some v := by
  obtain ⟨b, off, ha, _, h⟩ := h
  exact ⟨b, off, ha, fun k v hk hv => (h k hk).trans hv⟩
theorem eff_same (w : World) : (binOp .eql 50 (.agg #[.int .i64 1, .string ⟨#[98]⟩, .string ⟨#[]⟩, .string ⟨#[120]⟩, .int .i64 1, .int .i64 0, .int .i64 0]) (.agg #[.int .i64 1, .string ⟨#[98]⟩, .string ⟨#[]⟩, .string ⟨#[120]⟩, .int .i64 1, .int .i64 0, .int .i64 0])).run Try.prog w = .ok (.bool true) w := by kernel_rfl
end Go.Proofs.Ytimnaiahokafaaa.Ps
set_option linter.unusedVariables false
namespace Go.Proofs.Ytimnaiahokafaaa.Ps
open Go.RowKit Go.Proofs.Ytimnaiahokafaaa Lx
theorem below_nil {w w' : World} (o : Only Nil w w') : Below w.heap.size w w' := o.below (Nat.le_refl _) (fun k h => h.elim)
end Go.Proofs.Ytimnaiahokafaaa.Ps
set_option linter.unusedVariables false
namespace Go.Proofs.Ytimnaiahokafaaa.Ps
open Go.RowKit Go.ChangeShapes Go.WideShapes Go.ChangeAt Go.Joins Go.Deep Go.Proofs.Ytimnaiahokafaaa Lx
theorem add_addP (b off j k : Nat) : ((⟨b, off, none⟩ : Addr).add j).add k = ⟨b, off + j + k, none⟩ := by
  have e : ∀ o n, (⟨b, o, none⟩ : Addr).add n = ⟨b, o + n, none⟩ := fun o n => by
    by_cases h : n = 0
    · subst h; simp [Addr.add]
    · simp [Addr.add, h]
  rw [e, e]
section
variable {H : Type} {enc : TypeId × Value → H} {w : World} {held : Bool}
def Sz (P : Program) (t : TypeId) (d : DataW H) : Prop := ∀ k ∈ d.weights P t, k ≤ 140737488355328
theorem sz_all {P : Program} {e : TypeId} {l : List (DataW H)} (h : ∀ k ∈ DataW.weightsAll P e l, k ≤ 140737488355328) {d : DataW H} (hd : d ∈ l) : Sz P e d := by
  induction l with
  | nil => cases hd
  | cons x l ih =>
    simp only [DataW.weightsAll, List.mem_append] at h
    rcases List.mem_cons.1 hd with rfl | hd
    · exact fun k hk => h k (Or.inl hk)
    · exact ih (fun k hk => h k (Or.inr hk)) hd
set_option maxRecDepth 100000 in
theorem open_sl {α : Type} [Inhabited α] {P : Program} {t e : TypeId} {s : Nat} {f : α → List Value} {Q : α → Prop} (ht : P.underlying t = some (.slice e)) (hC : P.cellsOf e = s) (hs : 0 < s) (hf : ∀ x, (f x).length = s)
    (elem : ∀ {m : Nat} {cs : List Value} {x : DataW H × List MemPlace}, DataW.trod enc P w 0 (fun _ => true) held m e cs = some x → Sz P e x.1 → ∃ z : α, cs = f z ∧ Q z)
    {fuel : Nat} {cs : List Value} {x : DataW H × List MemPlace} (h : DataW.trod enc P w 0 (fun _ => true) held fuel t cs = some x) (hw : Sz P t x.1) :
    ∃ v, cs = [v] ∧ ∃ Z : List α, CIn w.heap.size w v Z.length s (Z.flatMap f) ∧ (∀ z ∈ Z, Q z) ∧ Z.length * P.bytesOf e ≤ 140737488355328 := by
  rcases open_slice ht h with ⟨rfl, rfl⟩ | ⟨y, len, c, m, n, D, Pl, rfl, _, hl, hm, hmm, rfl, hi⟩
  · exact ⟨_, rfl, [], ⟨none, 0, ⟨rfl, Nat.le_refl _⟩, by simp, (fun i hi => by simp at hi)⟩, (fun z hz => by cases hz), by simp⟩
  · simp only [if_true] at hmm
    subst hmm
    rw [hC] at hi
    have hw' : (∀ k, k = (len + (m - len)) * P.bytesOf e → k ≤ 140737488355328) ∧ ∀ k ∈ DataW.weightsAll P e ((List.range len).map D), k ≤ 140737488355328 := by
      have h0 : ∀ k ∈ (((List.range len).map D).length + ((List.range (m - len)).map fun j => D (len + j)).length) * P.bytesOf e :: (DataW.weightsAll P e ((List.range len).map D) ++ DataW.weightsAll P e ((List.range (m - len)).map fun j => D (len + j))), k ≤ 140737488355328 := by
        have := hw
        unfold Sz at this
        simp only [DataW.weights, ht] at this
        exact this
      refine ⟨fun k hk => h0 k ?_, fun k hk => h0 k (List.mem_cons_of_mem _ (List.mem_append_left _ hk))⟩
      rw [hk]; simp
    obtain ⟨g, hg⟩ := choose_lt (α := α) (n := len) (p := fun i z => (∀ k, k < s → w.cell? ((y.add (i * s)).add k) = (f z)[k]?) ∧ Q z) (fun i hil => by
      obtain ⟨cs', hc, htr⟩ := hi i (by omega)
      obtain ⟨_, hlc, hat⟩ := World.cells?_some hc
      obtain ⟨z, rfl, hz⟩ := elem htr (sz_all hw'.2 (List.mem_map.2 ⟨i, by simpa using hil, rfl⟩))
      exact ⟨z, hat, hz⟩)
    have hlen : ((List.range len).map g).length = len := by simp
    refine ⟨_, rfl, (List.range len).map g, ⟨some y, m, ⟨by rw [hlen], by rw [hlen]; omega⟩, ?_, ?_⟩, ?_, ?_⟩
    · have : ∀ L : List α, (L.flatMap f).length = L.length * s := fun L => by
        induction L with
        | nil => simp
        | cons a L ih => rw [List.flatMap_cons, List.length_append, hf, ih, List.length_cons, Nat.add_mul]; omega
      exact this _
    · have hL : ∀ L : List α, (L.flatMap f).length = L.length * s := fun L => by
        induction L with
        | nil => simp
        | cons a L ih => rw [List.flatMap_cons, List.length_append, hf, ih, List.length_cons, Nat.add_mul]; omega
      intro i hi'
      rw [hL, hlen] at hi'
      have hl0 : 0 < len := by rcases Nat.eq_zero_or_pos len with h0 | h0; (subst h0; simp at hi'); exact h0
      obtain ⟨b, off, spot⟩ := y
      have hx : ∃ v, (f (g 0))[0]? = some v := ⟨(f (g 0))[0]'(by rw [hf]; exact hs), by simp⟩
      obtain ⟨v0, hv0⟩ := hx
      have h0 := ((hg 0 hl0).1 0 hs).trans hv0
      have hspot : spot = none := by simpa [Addr.add] using World.cell?_spot h0
      subst hspot
      have hb : b < w.heap.size := by
        rw [add_addP] at h0
        exact cellLt h0
      refine ⟨b, off, rfl, hb, hb, fun j hj => ?_⟩
      rw [hL, hlen] at hj
      have hj1 : j / s < len := (Nat.div_lt_iff_lt_mul hs).2 hj
      have hj2 : j % s < s := Nat.mod_lt _ hs
      have hj3 : j = j / s * s + j % s := by rw [Nat.mul_comm]; exact (Nat.div_add_mod j s).symm
      have h1 := (hg (j / s) hj1).1 (j % s) hj2
      rw [add_addP] at h1
      have h2 := flat_get f s hf ((List.range len).map g) (j / s) (j % s) (by rw [hlen]; exact hj1) hj2
      simp only [List.getElem_map, List.getElem_range] at h2
      rw [hj3, h2, ← Nat.add_assoc]
      exact h1
    · intro z hz
      obtain ⟨i, hi', rfl⟩ := List.mem_map.1 hz
      exact (hg i (by simpa using hi')).2
    · rw [hlen]
      have := hw'.1 _ rfl
      refine Nat.le_trans (Nat.mul_le_mul_right _ ?_) this
      omega
theorem trod_struct5 {P : Program} {base : Nat} {spare : Nat → Bool} {t : TypeId} {f0 f1 f2 f3 f4 : Field} {fuel : Nat} {cs : List Value} {x : DataW H × List MemPlace} (ht : P.underlying t = some (.struct #[f0, f1, f2, f3, f4])) (h : DataW.trod enc P w base spare held fuel t cs = some x) :
    ∃ y0 y1 y2 y3 y4 n, x.1 = .agg [y0.1, y1.1, y2.1, y3.1, y4.1] ∧ cs.length = P.cellsOf t ∧ DataW.trod enc P w base spare held n f0.type ((cs.drop f0.offset).take (P.cellsOf f0.type)) = some y0 ∧
      DataW.trod enc P w base spare held n f1.type ((cs.drop f1.offset).take (P.cellsOf f1.type)) = some y1 ∧ DataW.trod enc P w base spare held n f2.type ((cs.drop f2.offset).take (P.cellsOf f2.type)) = some y2 ∧
      DataW.trod enc P w base spare held n f3.type ((cs.drop f3.offset).take (P.cellsOf f3.type)) = some y3 ∧ DataW.trod enc P w base spare held n f4.type ((cs.drop f4.offset).take (P.cellsOf f4.type)) = some y4 := by
  obtain ⟨xs, n, _, rfl, hl, hlen, hf⟩ := DataW.trod_struct ht h
  match xs, hlen with
  | [y0, y1, y2, y3, y4], _ => exact ⟨y0, y1, y2, y3, y4, n, by simp, hl, by simpa using hf 0 f0 rfl, by simpa using hf 1 f1 rfl, by simpa using hf 2 f2 rfl, by simpa using hf 3 f3 rfl, by simpa using hf 4 f4 rfl⟩
theorem trod_struct7 {P : Program} {base : Nat} {spare : Nat → Bool} {t : TypeId} {f0 f1 f2 f3 f4 f5 f6 : Field} {fuel : Nat} {cs : List Value} {x : DataW H × List MemPlace} (ht : P.underlying t = some (.struct #[f0, f1, f2, f3, f4, f5, f6])) (h : DataW.trod enc P w base spare held fuel t cs = some x) :
    ∃ y0 y1 y2 y3 y4 y5 y6 n, x.1 = .agg [y0.1, y1.1, y2.1, y3.1, y4.1, y5.1, y6.1] ∧ cs.length = P.cellsOf t ∧ DataW.trod enc P w base spare held n f0.type ((cs.drop f0.offset).take (P.cellsOf f0.type)) = some y0 ∧
      DataW.trod enc P w base spare held n f1.type ((cs.drop f1.offset).take (P.cellsOf f1.type)) = some y1 ∧ DataW.trod enc P w base spare held n f2.type ((cs.drop f2.offset).take (P.cellsOf f2.type)) = some y2 ∧
      DataW.trod enc P w base spare held n f3.type ((cs.drop f3.offset).take (P.cellsOf f3.type)) = some y3 ∧ DataW.trod enc P w base spare held n f4.type ((cs.drop f4.offset).take (P.cellsOf f4.type)) = some y4 ∧
      DataW.trod enc P w base spare held n f5.type ((cs.drop f5.offset).take (P.cellsOf f5.type)) = some y5 ∧ DataW.trod enc P w base spare held n f6.type ((cs.drop f6.offset).take (P.cellsOf f6.type)) = some y6 := by
  obtain ⟨xs, n, _, rfl, hl, hlen, hf⟩ := DataW.trod_struct ht h
  match xs, hlen with
  | [y0, y1, y2, y3, y4, y5, y6], _ => exact ⟨y0, y1, y2, y3, y4, y5, y6, n, by simp, hl, by simpa using hf 0 f0 rfl, by simpa using hf 1 f1 rfl, by simpa using hf 2 f2 rfl, by simpa using hf 3 f3 rfl, by simpa using hf 4 f4 rfl, by simpa using hf 5 f5 rfl, by simpa using hf 6 f6 rfl⟩
theorem inw_of {n : Int} (h : (Lit.int .i64 n).wf = true) : inW n := by
  simp [Lit.wf, IntKind.min, IntKind.max, IntKind.signed, IntKind.bits] at h
  unfold inW
  omega
theorem op_str {m : Nat} {v : Value} {y : DataW H × List MemPlace} (h : DataW.trod enc Try.prog w 0 (fun _ => true) held m 9 [v] = some y) (hz : Sz Try.prog 9 y.1) : ∃ l : Wd, v = .string (bs l) ∧ l.length ≤ 140737488355328 := by
  obtain ⟨s, e, rfl, _⟩ := DataW.trod_string Try.underlying9 h
  simp only [List.cons.injEq, and_true] at e
  subst e
  exact ⟨s.data.toList, by rw [bs_of], hz _ (by simp [DataW.weights])⟩
theorem op_int {m : Nat} {v : Value} {y : DataW H × List MemPlace} (h : DataW.trod enc Try.prog w 0 (fun _ => true) held m 3 [v] = some y) : ∃ n : Int, v = .int .i64 n ∧ inW n := by
  obtain ⟨n, e, _, wf⟩ := DataW.trod_int Try.underlying3 h
  simp only [List.cons.injEq, and_true] at e
  subst e
  exact ⟨n, rfl, inw_of wf⟩
theorem op_bool {m : Nat} {v : Value} {y : DataW H × List MemPlace} (h : DataW.trod enc Try.prog w 0 (fun _ => true) held m 4 [v] = some y) : ∃ b : Bool, v = .bool b := by
  obtain ⟨n, e, _⟩ := DataW.trod_bool Try.underlying4 h
  simp only [List.cons.injEq, and_true] at e
  exact ⟨n, e⟩
set_option maxRecDepth 100000 in
theorem open_eff {m : Nat} {cs : List Value} {x : DataW H × List MemPlace} (h : DataW.trod enc Try.prog w 0 (fun _ => true) held m 50 cs = some x) (hz : Sz Try.prog 50 x.1) : ∃ z : Eff, cs = effC z ∧ wfE z := by
  obtain ⟨y0, y1, y2, y3, y4, y5, y6, n, e, hl, h0, h1, h2, h3, h4, h5, h6⟩ := trod_struct7 Try.underlying50 h
  have hC : Try.prog.cellsOf 50 = 7 := by kernel_rfl
  rw [hC] at hl
  unfold Sz at hz
  rw [e] at hz
  simp only [DataW.weights, Try.underlying50, DataW.weightsEach, List.map_cons, List.map_nil, List.mem_append] at hz
  match cs, hl with
  | [v0, v1, v2, v3, v4, v5, v6], _ =>
    have g0 : DataW.trod enc Try.prog w 0 (fun _ => true) held n 3 [v0] = some y0 := h0
    have g1 : DataW.trod enc Try.prog w 0 (fun _ => true) held n 9 [v1] = some y1 := h1
    have g2 : DataW.trod enc Try.prog w 0 (fun _ => true) held n 9 [v2] = some y2 := h2
    have g3 : DataW.trod enc Try.prog w 0 (fun _ => true) held n 9 [v3] = some y3 := h3
    have g4 : DataW.trod enc Try.prog w 0 (fun _ => true) held n 3 [v4] = some y4 := h4
    have g5 : DataW.trod enc Try.prog w 0 (fun _ => true) held n 3 [v5] = some y5 := h5
    have g6 : DataW.trod enc Try.prog w 0 (fun _ => true) held n 3 [v6] = some y6 := h6
    obtain ⟨a0, rfl, i0⟩ := op_int g0
    obtain ⟨a1, rfl, i1⟩ := op_str g1 (fun k hk => hz k (Or.inr (Or.inl hk)))
    obtain ⟨a2, rfl, i2⟩ := op_str g2 (fun k hk => hz k (Or.inr (Or.inr (Or.inl hk))))
    obtain ⟨a3, rfl, i3⟩ := op_str g3 (fun k hk => hz k (Or.inr (Or.inr (Or.inr (Or.inl hk)))))
    obtain ⟨a4, rfl, i4⟩ := op_int g4
    obtain ⟨a5, rfl, i5⟩ := op_int g5
    obtain ⟨a6, rfl, i6⟩ := op_int g6
    exact ⟨⟨a0, a1, a2, a3, a4, a5, a6⟩, rfl, ⟨i0, i4, i5, i6, i1, i2, i3⟩⟩
theorem open_effs {m : Nat} {v : Value} {y : DataW H × List MemPlace} (h : DataW.trod enc Try.prog w 0 (fun _ => true) held m 28 [v] = some y) (hz : Sz Try.prog 28 y.1) :
    ∃ E : List Eff, XE w.heap.size w v E ∧ (∀ e ∈ E, wfE e) ∧ E.length * 80 ≤ 140737488355328 := by
  obtain ⟨v', e, E, h1, h2, h3⟩ := open_sl (s := 7) (f := effC) (Q := wfE) Try.underlying28 (by kernel_rfl) (by decide) (fun _ => rfl) open_eff h hz
  simp only [List.cons.injEq, and_true] at e
  subst e
  have e6 : Try.prog.bytesOf 50 = 80 := by kernel_rfl
  rw [e6] at h3
  exact ⟨E, h1, h2, h3⟩
set_option maxRecDepth 100000 in
theorem open_cs {m : Nat} {cs : List Value} {x : DataW H × List MemPlace} (h : DataW.trod enc Try.prog w 0 (fun _ => true) held m 70 cs = some x) (hz : Sz Try.prog 70 x.1) : ∃ z : Cs, cs = csC z ∧ wfC z := by
  obtain ⟨y0, y1, n, rfl, hl, h0, h1⟩ := trod_struct2 Try.underlying70 h
  have hC : Try.prog.cellsOf 70 = 2 := by kernel_rfl
  rw [hC] at hl
  unfold Sz at hz
  simp only [DataW.weights, Try.underlying70, DataW.weightsEach, List.map_cons, List.map_nil, List.mem_append] at hz
  match cs, hl with
  | [v0, v1], _ =>
    have g0 : DataW.trod enc Try.prog w 0 (fun _ => true) held n 9 [v0] = some y0 := h0
    have g1 : DataW.trod enc Try.prog w 0 (fun _ => true) held n 3 [v1] = some y1 := h1
    obtain ⟨a0, rfl, i0⟩ := op_str g0 (fun k hk => hz k (Or.inl hk))
    obtain ⟨a1, rfl, i1⟩ := op_int g1
    exact ⟨⟨a0, a1⟩, rfl, ⟨i1, i0⟩⟩
theorem open_css {m : Nat} {v : Value} {y : DataW H × List MemPlace} (h : DataW.trod enc Try.prog w 0 (fun _ => true) held m 22 [v] = some y) (hz : Sz Try.prog 22 y.1) :
    ∃ E : List Cs, XC w.heap.size w v E ∧ (∀ e ∈ E, wfC e) ∧ E.length * 24 ≤ 140737488355328 := by
  obtain ⟨v', e, E, h1, h2, h3⟩ := open_sl (s := 2) (f := csC) (Q := wfC) Try.underlying22 (by kernel_rfl) (by decide) (fun _ => rfl) open_cs h hz
  simp only [List.cons.injEq, and_true] at e
  subst e
  have e6 : Try.prog.bytesOf 70 = 24 := by kernel_rfl
  rw [e6] at h3
  exact ⟨E, h1, h2, h3⟩
def szR (x : Rw) : Prop := x.effs.length ≤ 140737488355328
def szS (x : Sta) : Prop := x.rows.length ≤ 140737488355328 ∧ ∀ r ∈ x.rows, szR r
def szK (x : Kd) : Prop := x.cases.length ≤ 140737488355328 ∧ x.states.length ≤ 140737488355328 ∧ ∀ s ∈ x.states, szS s
def szP (P : List Kd) : Prop := P.length ≤ 140737488355328 ∧ ∀ k ∈ P, szK k
set_option maxRecDepth 100000 in
theorem open_row {m : Nat} {cs : List Value} {x : DataW H × List MemPlace} (h : DataW.trod enc Try.prog w 0 (fun _ => true) held m 40 cs = some x) (hz : Sz Try.prog 40 x.1) :
    ∃ z : Rw × Value, cs = rowCs z ∧ XE w.heap.size w z.2 z.1.effs ∧ wfR z.1 ∧ szR z.1 := by
  obtain ⟨y0, y1, y2, y3, n, rfl, hl, h0, h1, h2, h3⟩ := trod_struct4 Try.underlying40 h
  have hC : Try.prog.cellsOf 40 = 4 := by kernel_rfl
  rw [hC] at hl
  unfold Sz at hz
  simp only [DataW.weights, Try.underlying40, DataW.weightsEach, List.map_cons, List.map_nil, List.mem_append] at hz
  match cs, hl with
  | [v0, v1, v2, v3], _ =>
    have g0 : DataW.trod enc Try.prog w 0 (fun _ => true) held n 9 [v0] = some y0 := h0
    have g1 : DataW.trod enc Try.prog w 0 (fun _ => true) held n 4 [v1] = some y1 := h1
    have g2 : DataW.trod enc Try.prog w 0 (fun _ => true) held n 3 [v2] = some y2 := h2
    have g3 : DataW.trod enc Try.prog w 0 (fun _ => true) held n 28 [v3] = some y3 := h3
    obtain ⟨a0, rfl, i0⟩ := op_str g0 (fun k hk => hz k (Or.inl hk))
    obtain ⟨a1, rfl⟩ := op_bool g1
    obtain ⟨a2, rfl, i2⟩ := op_int g2
    obtain ⟨E, x3, i3, s3⟩ := open_effs g3 (fun k hk => hz k (Or.inr (Or.inr (Or.inr (Or.inl hk)))))
    exact ⟨(⟨a0, a1, a2, E⟩, v3), rfl, x3, ⟨i2, i0, i3⟩, by unfold szR; dsimp only; omega⟩
theorem open_rows {m : Nat} {v : Value} {y : DataW H × List MemPlace} (h : DataW.trod enc Try.prog w 0 (fun _ => true) held m 46 [v] = some y) (hz : Sz Try.prog 46 y.1) :
    ∃ R : List Rw, XR w.heap.size w v R ∧ (∀ e ∈ R, wfR e) ∧ (∀ e ∈ R, szR e) ∧ R.length ≤ 140737488355328 := by
  obtain ⟨v', e, Z, h1, h2, h3⟩ := open_sl (s := 4) (f := rowCs) (Q := fun z => XE w.heap.size w z.2 z.1.effs ∧ wfR z.1 ∧ szR z.1) Try.underlying46 (by kernel_rfl) (by decide) (fun _ => rfl) open_row h hz
  simp only [List.cons.injEq, and_true] at e
  subst e
  have e6 : Try.prog.bytesOf 40 = 56 := by kernel_rfl
  rw [e6] at h3
  refine ⟨Z.map Prod.fst, ⟨Z, rfl, by rw [List.length_map]; exact h1, fun x hx => (h2 x hx).1⟩, fun e he => ?_, fun e he => ?_, by rw [List.length_map]; omega⟩
  · obtain ⟨z, hz', rfl⟩ := List.mem_map.1 he; exact (h2 z hz').2.1
  · obtain ⟨z, hz', rfl⟩ := List.mem_map.1 he; exact (h2 z hz').2.2
set_option maxRecDepth 100000 in
theorem open_sta {m : Nat} {cs : List Value} {x : DataW H × List MemPlace} (h : DataW.trod enc Try.prog w 0 (fun _ => true) held m 48 cs = some x) (hz : Sz Try.prog 48 x.1) :
    ∃ z : Sta × Value, cs = staCs z ∧ XR w.heap.size w z.2 z.1.rows ∧ wfS z.1 ∧ szS z.1 := by
  obtain ⟨y0, y1, n, rfl, hl, h0, h1⟩ := trod_struct2 Try.underlying48 h
  have hC : Try.prog.cellsOf 48 = 2 := by kernel_rfl
  rw [hC] at hl
  unfold Sz at hz
  simp only [DataW.weights, Try.underlying48, DataW.weightsEach, List.map_cons, List.map_nil, List.mem_append] at hz
  match cs, hl with
  | [v0, v1], _ =>
    have g0 : DataW.trod enc Try.prog w 0 (fun _ => true) held n 9 [v0] = some y0 := h0
    have g1 : DataW.trod enc Try.prog w 0 (fun _ => true) held n 46 [v1] = some y1 := h1
    obtain ⟨a0, rfl, i0⟩ := op_str g0 (fun k hk => hz k (Or.inl hk))
    obtain ⟨R, x3, i3, s3, s4⟩ := open_rows g1 (fun k hk => hz k (Or.inr (Or.inl hk)))
    exact ⟨(⟨a0, R⟩, v1), rfl, x3, ⟨i0, i3⟩, ⟨s4, s3⟩⟩
theorem open_stas {m : Nat} {v : Value} {y : DataW H × List MemPlace} (h : DataW.trod enc Try.prog w 0 (fun _ => true) held m 23 [v] = some y) (hz : Sz Try.prog 23 y.1) :
    ∃ R : List Sta, XS w.heap.size w v R ∧ (∀ e ∈ R, wfS e) ∧ (∀ e ∈ R, szS e) ∧ R.length ≤ 140737488355328 := by
  obtain ⟨v', e, Z, h1, h2, h3⟩ := open_sl (s := 2) (f := staCs) (Q := fun z => XR w.heap.size w z.2 z.1.rows ∧ wfS z.1 ∧ szS z.1) Try.underlying23 (by kernel_rfl) (by decide) (fun _ => rfl) open_sta h hz
  simp only [List.cons.injEq, and_true] at e
  subst e
  have e6 : Try.prog.bytesOf 48 = 40 := by kernel_rfl
  rw [e6] at h3
  refine ⟨Z.map Prod.fst, ⟨Z, rfl, by rw [List.length_map]; exact h1, fun x hx => (h2 x hx).1⟩, fun e he => ?_, fun e he => ?_, by rw [List.length_map]; omega⟩
  · obtain ⟨z, hz', rfl⟩ := List.mem_map.1 he; exact (h2 z hz').2.1
  · obtain ⟨z, hz', rfl⟩ := List.mem_map.1 he; exact (h2 z hz').2.2
set_option maxRecDepth 100000 in
theorem open_kd {m : Nat} {cs : List Value} {x : DataW H × List MemPlace} (h : DataW.trod enc Try.prog w 0 (fun _ => true) held m 25 cs = some x) (hz : Sz Try.prog 25 x.1) :
    ∃ z : Kd × Value × Value, cs = kdCs z ∧ (XC w.heap.size w z.2.1 z.1.cases ∧ XS w.heap.size w z.2.2 z.1.states) ∧ wfK z.1 ∧ szK z.1 := by
  obtain ⟨y0, y1, y2, y3, y4, n, e, hl, h0, h1, h2, h3, h4⟩ := trod_struct5 Try.underlying25 h
  have hC : Try.prog.cellsOf 25 = 5 := by kernel_rfl
  rw [hC] at hl
  unfold Sz at hz
  rw [e] at hz
  simp only [DataW.weights, Try.underlying25, DataW.weightsEach, List.map_cons, List.map_nil, List.mem_append] at hz
  match cs, hl with
  | [v0, v1, v2, v3, v4], _ =>
    have g0 : DataW.trod enc Try.prog w 0 (fun _ => true) held n 9 [v0] = some y0 := h0
    have g1 : DataW.trod enc Try.prog w 0 (fun _ => true) held n 3 [v1] = some y1 := h1
    have g2 : DataW.trod enc Try.prog w 0 (fun _ => true) held n 3 [v2] = some y2 := h2
    have g3 : DataW.trod enc Try.prog w 0 (fun _ => true) held n 22 [v3] = some y3 := h3
    have g4 : DataW.trod enc Try.prog w 0 (fun _ => true) held n 23 [v4] = some y4 := h4
    obtain ⟨a0, rfl, i0⟩ := op_str g0 (fun k hk => hz k (Or.inl hk))
    obtain ⟨a1, rfl, i1⟩ := op_int g1
    obtain ⟨a2, rfl, i2⟩ := op_int g2
    obtain ⟨C, x3, i3, s3⟩ := open_css g3 (fun k hk => hz k (Or.inr (Or.inr (Or.inr (Or.inl hk)))))
    obtain ⟨S, x4, i4, s4, s5⟩ := open_stas g4 (fun k hk => hz k (Or.inr (Or.inr (Or.inr (Or.inr (Or.inl hk))))))
    exact ⟨(⟨a0, a1, a2, C, S⟩, v3, v4), rfl, ⟨x3, x4⟩, ⟨i1, i2, i0, i3, i4⟩, ⟨by dsimp only; omega, s5, s4⟩⟩
theorem open_kds {m : Nat} {v : Value} {y : DataW H × List MemPlace} (h : DataW.trod enc Try.prog w 0 (fun _ => true) held m 33 [v] = some y) (hz : Sz Try.prog 33 y.1) :
    ∃ R : List Kd, XK w.heap.size w v R ∧ wfP R ∧ szP R := by
  obtain ⟨v', e, Z, h1, h2, h3⟩ := open_sl (s := 5) (f := kdCs) (Q := fun z => (XC w.heap.size w z.2.1 z.1.cases ∧ XS w.heap.size w z.2.2 z.1.states) ∧ wfK z.1 ∧ szK z.1) Try.underlying33 (by kernel_rfl) (by decide) (fun _ => rfl) open_kd h hz
  simp only [List.cons.injEq, and_true] at e
  subst e
  have e6 : Try.prog.bytesOf 25 = 80 := by kernel_rfl
  rw [e6] at h3
  refine ⟨Z.map Prod.fst, ⟨Z, rfl, by rw [List.length_map]; exact h1, fun x hx => (h2 x hx).1⟩, fun e he => ?_, ⟨by rw [List.length_map]; omega, fun e he => ?_⟩⟩
  · obtain ⟨z, hz', rfl⟩ := List.mem_map.1 he; exact (h2 z hz').2.1
  · obtain ⟨z, hz', rfl⟩ := List.mem_map.1 he; exact (h2 z hz').2.2
set_option maxRecDepth 100000 in
theorem open_prog {m : Nat} {v : Value} {y : DataW H × List MemPlace} (hok : ∃ cs, v = .agg cs) (h : DataW.trod enc Try.prog w 0 (fun _ => true) held m 35 v.cells.toList = some y) (hz : Sz Try.prog 35 y.1) :
    ∃ sl P, v = .agg #[sl] ∧ XK w.heap.size w sl P ∧ wfP P ∧ szP P := by
  obtain ⟨⟨cs⟩, rfl⟩ := hok
  have h' : DataW.trod enc Try.prog w 0 (fun _ => true) held m 35 cs = some y := h
  obtain ⟨y0, n, rfl, hl, h0⟩ := trod_struct1 Try.underlying35 h'
  have hC : Try.prog.cellsOf 35 = 1 := by kernel_rfl
  rw [hC] at hl
  unfold Sz at hz
  simp only [DataW.weights, Try.underlying35, DataW.weightsEach, List.map_cons, List.map_nil, List.mem_append] at hz
  match cs, hl with
  | [v0], _ =>
    have g0 : DataW.trod enc Try.prog w 0 (fun _ => true) held n 33 [v0] = some y0 := h0
    obtain ⟨P, x1, x2, x3⟩ := open_kds g0 (fun k hk => hz k (Or.inl hk))
    exact ⟨v0, P, rfl, x1, x2, x3⟩
end
end Go.Proofs.Ytimnaiahokafaaa.Ps
set_option linter.unusedVariables false
namespace Go.Proofs.Ytimnaiahokafaaa.Ps
open Go.RowKit Go.Proofs.Ytimnaiahokafaaa Lx
end Go.Proofs.Ytimnaiahokafaaa.Ps
set_option linter.unusedVariables false
namespace Go.Proofs.Ytimnaiahokafaaa.Ps
open Go.RowKit Go.Proofs.Ytimnaiahokafaaa Lx
def rowV (x : Rw) (u : Value) : List Value := [.string (bs x.tag), .bool x.only, .int .i64 x.n, u]
theorem two_ab (w : World) (c d : List Value) (t : TypeId) : Bx ((w.alloc (.cells c.toArray t)).alloc (.cells d.toArray t)) w.heap.size c t ∧ Bx ((w.alloc (.cells c.toArray t)).alloc (.cells d.toArray t)) (w.heap.size + 1) d t := by
  refine ⟨(bx_new w c t).keep ((Only.refl Nil _).alloc _), ?_⟩
  have := bx_new (w.alloc (.cells c.toArray t)) d t
  have hs : (w.alloc (.cells c.toArray t)).heap.size = w.heap.size + 1 := by simp
  rw [hs] at this; exact this
theorem upto_snoc {α : Type} {L M : List α} {k : Nat} {x : α} (h : ∀ j, j < k → L[j]? = M[j]?) (h1 : L[k]? = some x) (h2 : M[k]? = some x) : ∀ j, j < k + 1 → L[j]? = M[j]? := fun j hj => by
  rcases Nat.lt_or_ge j k with h' | h'
  · exact h j h'
  · obtain rfl : j = k := by omega
    rw [h1, h2]
theorem ne_at {α : Type} {L M : List α} {k : Nat} {x y : α} (h1 : L[k]? = some x) (h2 : M[k]? = some y) (h : ¬ x = y) : ¬ L = M := fun e => by
  rw [e, h2] at h1
  exact h (Option.some.inj h1).symm
set_option maxRecDepth 100000 in
set_option maxHeartbeats 8000000 in
theorem rsame_state {D D' : Nat} {w : World} {nm nm' : Wd} {L L' : List Rw} {s s' : Value} (h : XR D w s L) (h' : XR D' w s' L') (sm : L.length ≤ 140737488355328 ∧ ∀ r ∈ L, smR r) {z : Bool} (hz : decide (nm = nm' ∧ L = L') = z) :
    Calls Try.prog 34 #[.agg #[.string (bs nm), s], .agg #[.string (bs nm'), s']] w fun e w' => e = .returned (.bool z) ∧ Only Nil w w' := by
  obtain ⟨sa, sc, rfl⟩ := h.slice
  obtain ⟨sa', sc', rfl⟩ := h'.slice
  by_cases hnm : nm = nm'
  case neg =>
    have hy := str_ne hnm
    have HX := Lib.hid (show z = false from hz.symm.trans (decide_eq_false (fun h => hnm h.1)))
    clear hnm hz h h' sm
    go_enter Try.func34, Try.ntmps34
    go_wp2
    go_ret
    exact ⟨by rw [HX.out]; rfl, ((Only.refl Nil w).alloc _).alloc _⟩
  subst hnm
  have hy := str_eq nm
  by_cases hlen : L.length = L'.length
  case neg =>
    have HX := Lib.hid (show z = false from hz.symm.trans (decide_eq_false (fun h => hlen (by rw [h.2]))))
    have hz1 : (((L.length : Nat) : Int) != (L'.length : Int)) = true := by simp; omega
    have hz2 : (L.length != L'.length) = true := by simpa using hlen
    clear hlen hz h h' sm
    go_enter Try.func34, Try.ntmps34
    go_wp2
    go_ret
    exact ⟨by rw [HX.out]; rfl, ((Only.refl Nil w).alloc _).alloc _⟩
  rw [← hlen] at h' ⊢
  have HZT := Lib.hid (show L = L' → z = true from fun e => hz.symm.trans (decide_eq_true ⟨rfl, e⟩))
  have HZN := Lib.hid (show ¬ L = L' → z = false from fun e => hz.symm.trans (decide_eq_false (fun h => e h.2)))
  have H1 := Lib.hid h
  have H2 := Lib.hid (show XR D' w (.slice sa' L.length sc') L' from h')
  have HSM := Lib.hid sm.2
  have hz1 : (((L.length : Nat) : Int) != (L.length : Int)) = false := by simp
  have hz2 : (L.length != L.length) = false := by simp
  have hb : (L.length : Int) ≤ 140737488355328 := by have := sm.1; omega
  clear h h' hz sm
  generalize hn : L.length = n at *
  have HN := Lib.hid hn
  have HM := Lib.hid hlen.symm
  clear hn hlen
  obtain ⟨bA, bB⟩ := two_ab w [.string (bs nm), .slice sa n sc] [.string (bs nm), .slice sa' n sc'] 48
  have BA := Lib.hid bA
  have BB := Lib.hid bB
  have O1 := Lib.hid (show Only Nil w ((w.alloc (.cells ([.string (bs nm), .slice sa n sc] : List Value).toArray 48)).alloc (.cells ([.string (bs nm), .slice sa' n sc'] : List Value).toArray 48)) from ((Only.refl Nil w).alloc _).alloc _)
  clear bA bB
  go_enter Try.func34, Try.ntmps34
  go_upto_region 1 with (fail)
  change Hid (Bx ((w.alloc (.cells #[.string (bs nm), .slice sa n sc] 48)).alloc (.cells #[.string (bs nm), .slice sa' n sc'] 48)) _ _ _) at BA
  change Hid (Bx ((w.alloc (.cells #[.string (bs nm), .slice sa n sc] 48)).alloc (.cells #[.string (bs nm), .slice sa' n sc'] 48)) _ _ _) at BB
  change Hid (Only Nil w ((w.alloc (.cells #[.string (bs nm), .slice sa n sc] 48)).alloc (.cells #[.string (bs nm), .slice sa' n sc'] 48))) at O1
  generalize (w.alloc (.cells #[.string (bs nm), .slice sa n sc] 48)).alloc (.cells #[.string (bs nm), .slice sa' n sc'] 48) = w1 at *
  generalize w.heap.size = B at *
  have c0 := BA.out.cell 0 (v := .string (bs nm)) rfl
  have c1 := BA.out.cell 1 (v := .slice sa n sc) rfl
  have d0 := BB.out.cell 0 (v := .string (bs nm)) rfl
  have d1 := BB.out.cell 1 (v := .slice sa' n sc') rfl
  go_wp2
  go_loopw [5, 6, 7, 8] (fun s5 _ _ _ wr => ∃ k0 : Nat, s5 = .int .i64 (k0 : Int) ∧ k0 ≤ n ∧ Hid (∀ j, j < k0 → L[j]? = L'[j]?) ∧ Hid (Only Nil w1 wr))
    (fun s5 _ _ _ _ => n - (intOf s5).toNat)
  case atStart => exact ⟨0, rfl, Nat.zero_le _, Lib.hid (fun j hj => absurd hj (Nat.not_lt_zero j)), Lib.hid (Only.refl _ _)⟩
  case round =>
    obtain ⟨k0, rfl, hk0, hE0, hO⟩ := hrel
    clear c0 c1 d0 d1
    have c1 := (BA.out.keep hO.out).cell 1 (v := .slice sa n sc) rfl
    have d1 := (BB.out.keep hO.out).cell 1 (v := .slice sa' n sc') rfl
    by_cases hkn0 : k0 < n
    · obtain ⟨u0, ⟨b, off, rfl, hlt, hc⟩, g0⟩ := (H1.out.keep (O1.out.trans hO.out) (nilS · D)).at_ HN.out k0 hkn0
      obtain ⟨u0', ⟨b', off', rfl, hlt', hc'⟩, g0'⟩ := (H2.out.keep (O1.out.trans hO.out) (nilS · D')).at_ HM.out k0 hkn0
      have EL := Lib.hid (List.getElem?_eq_getElem (show k0 < L.length by rw [HN.out]; exact hkn0))
      have EM := Lib.hid (List.getElem?_eq_getElem (show k0 < L'.length by rw [HM.out]; exact hkn0))
      have hk1 : k0 < L.length := by rw [HN.out]; exact hkn0
      have hk2 : k0 < L'.length := by rw [HM.out]; exact hkn0
      have HSX := Lib.hid (HSM.out _ (List.getElem_mem hk1))
      generalize L[k0] = x at *
      generalize L'[k0] = y at *
      obtain ⟨p0, r0, rfl⟩ := g0.slice
      obtain ⟨p0', r0', rfl⟩ := g0'.slice
      have e0 : wr.cell? ⟨b, off + k0 * 4, none⟩ = some (.string (bs x.tag)) := hc 0 (by decide)
      have f0 : wr.cell? ⟨b', off' + k0 * 4, none⟩ = some (.string (bs y.tag)) := hc' 0 (by decide)
      have e1 : wr.cell? ⟨b, off + k0 * 4 + 1, none⟩ = some (.bool x.only) := hc 1 (by decide)
      have f1 : wr.cell? ⟨b', off' + k0 * 4 + 1, none⟩ = some (.bool y.only) := hc' 1 (by decide)
      have e2 : wr.cell? ⟨b, off + k0 * 4 + 2, none⟩ = some (.int .i64 x.n) := hc 2 (by decide)
      have f2 : wr.cell? ⟨b', off' + k0 * 4 + 2, none⟩ = some (.int .i64 y.n) := hc' 2 (by decide)
      have e3 : wr.cell? ⟨b, off + k0 * 4 + 3, none⟩ = some (.slice p0 x.effs.length r0) := hc 3 (by decide)
      have f3 : wr.cell? ⟨b', off' + k0 * 4 + 3, none⟩ = some (.slice p0' y.effs.length r0') := hc' 3 (by decide)
      have G1 := Lib.hid (fun w' (o : Only Nil wr w') => g0.keep o (nilS · D))
      have G2 := Lib.hid (fun w' (o : Only Nil wr w') => g0'.keep o (nilS · D'))
      clear hc hc' hk1 hk2 g0 g0'
      have lB := cellLt c1
      have lB' := cellLt d1
      have HZF := Lib.hid (show ¬ x = y → z = false from fun hne => HZN.out (ne_at EL.out EM.out hne))
      go_upto_region 6 with (fail)
      go_cut [6, 7] (fun s6 s7 wx => ∃ X Y : Nat, s6 = .pointer (some ⟨X, 0, none⟩) ∧ s7 = .pointer (some ⟨Y, 0, none⟩) ∧ Hid (Bx wx X (rowV x (.slice p0 x.effs.length r0)) 40) ∧ Hid (Bx wx Y (rowV y (.slice p0' y.effs.length r0')) 40) ∧ Hid (Only Nil wr wx))
      case first =>
        have ab := Lib.hid (two_ab wr.drew (rowV x (.slice p0 x.effs.length r0)) (rowV y (.slice p0' y.effs.length r0')) 40)
        have ba := Lib.hid (two_ab wr.drew (rowV y (.slice p0' y.effs.length r0')) (rowV x (.slice p0 x.effs.length r0)) 40)
        have ab' := Lib.hid (two_ab wr (rowV x (.slice p0 x.effs.length r0)) (rowV y (.slice p0' y.effs.length r0')) 40)
        have ba' := Lib.hid (two_ab wr (rowV y (.slice p0' y.effs.length r0')) (rowV x (.slice p0 x.effs.length r0)) 40)
        have nb1 := World.new_ne wr _ c1
        have nb2 := World.new_ne wr _ d1
        have nb3 := World.new_ne wr _ e0
        have nb4 := World.new_ne wr _ f0
        go_region_held3 (fun w' => w'.cell? ⟨B, 1, none⟩ = some (.slice (some ⟨b, off, none⟩) n sc) ∧ w'.cell? ⟨B + 1, 1, none⟩ = some (.slice (some ⟨b', off', none⟩) n sc') ∧
            w'.cell? ⟨b, off + k0 * 4, none⟩ = some (.string (bs x.tag)) ∧ w'.cell? ⟨b, off + k0 * 4 + 1, none⟩ = some (.bool x.only) ∧ w'.cell? ⟨b, off + k0 * 4 + 2, none⟩ = some (.int .i64 x.n) ∧ w'.cell? ⟨b, off + k0 * 4 + 3, none⟩ = some (.slice p0 x.effs.length r0) ∧
            w'.cell? ⟨b', off' + k0 * 4, none⟩ = some (.string (bs y.tag)) ∧ w'.cell? ⟨b', off' + k0 * 4 + 1, none⟩ = some (.bool y.only) ∧ w'.cell? ⟨b', off' + k0 * 4 + 2, none⟩ = some (.int .i64 y.n) ∧ w'.cell? ⟨b', off' + k0 * 4 + 3, none⟩ = some (.slice p0' y.effs.length r0'))
          (first | exact ⟨c1, d1, e0, e1, e2, e3, f0, f1, f2, f3⟩ | go_keep)
          (fail)
        all_goals
          go_wp2_with (fail)
          go_meet
          first
            | exact ⟨_, _, rfl, rfl, Lib.hid ab.out.1, Lib.hid ab.out.2, Lib.hid (((Only.refl Nil wr).drew.alloc _).alloc _)⟩
            | exact ⟨_, _, rfl, rfl, Lib.hid ba.out.2, Lib.hid ba.out.1, Lib.hid (((Only.refl Nil wr).drew.alloc _).alloc _)⟩
            | exact ⟨_, _, rfl, rfl, Lib.hid (ab'.out.1.keep (Only.refl Nil _).drew), Lib.hid (ab'.out.2.keep (Only.refl Nil _).drew), Lib.hid (((Only.refl Nil wr).alloc _).alloc _).drew⟩
            | exact ⟨_, _, rfl, rfl, Lib.hid (ba'.out.2.keep (Only.refl Nil _).drew), Lib.hid (ba'.out.1.keep (Only.refl Nil _).drew), Lib.hid (((Only.refl Nil wr).alloc _).alloc _).drew⟩
      case rest =>
        obtain ⟨X, Y, rfl, rfl, BX, BY, OX⟩ := hcut
        clear lB lB' hlt hlt' e0 e1 e2 e3 f0 f1 f2 f3 c1 d1
        have HO6 := Lib.hid (hO.out.trans OX.out)
        have GG1 := Lib.hid (G1.out _ OX.out)
        have GG2 := Lib.hid (G2.out _ OX.out)
        have x0 := BX.out.cell 0 (v := .string (bs x.tag)) rfl
        have x1 := BX.out.cell 1 (v := .bool x.only) rfl
        have x2 := BX.out.cell 2 (v := .int .i64 x.n) rfl
        have q1 := BX.out.cell 3 (v := .slice p0 x.effs.length r0) rfl
        have y0 := BY.out.cell 0 (v := .string (bs y.tag)) rfl
        have y1 := BY.out.cell 1 (v := .bool y.only) rfl
        have y2 := BY.out.cell 2 (v := .int .i64 y.n) rfl
        have q2 := BY.out.cell 3 (v := .slice p0' y.effs.length r0') rfl
        clear G1 G2
        generalize wc = wo at *
        by_cases ht : x.tag = y.tag
        case neg =>
          have hq := str_ne ht
          have HX := Lib.hid (HZF.out (fun h => ht (by rw [h])))
          clear ht
          go_wp2
          go_ret
          exact ⟨by rw [HX.out]; rfl, O1.out.trans HO6.out⟩
        rw [← ht] at y0
        have hq0 := str_eq x.tag
        by_cases hon : x.only = y.only
        case neg =>
          have hq : (x.only == y.only) = false := by simpa using hon
          have hq' : (x.only != y.only) = true := by simpa using hon
          have HX := Lib.hid (HZF.out (fun h => hon (by rw [h])))
          clear hon ht
          go_wp2
          go_ret
          exact ⟨by rw [HX.out]; rfl, O1.out.trans HO6.out⟩
        rw [← hon] at y1
        by_cases hnn : x.n = y.n
        case neg =>
          have hq : (x.n == y.n) = false := by simpa using hnn
          have hq' : (x.n != y.n) = true := by simpa using hnn
          have HX := Lib.hid (HZF.out (fun h => hnn (by rw [h])))
          clear hon ht hnn
          go_wp2
          go_ret
          exact ⟨by rw [HX.out]; rfl, O1.out.trans HO6.out⟩
        rw [← hnn] at y2
        by_cases hle : x.effs.length = y.effs.length
        case neg =>
          have hq1 : (((x.effs.length : Nat) : Int) != (y.effs.length : Int)) = true := by simp; omega
          have hq2 : (x.effs.length != y.effs.length) = true := by simpa using hle
          have HX := Lib.hid (HZF.out (fun h => hle (by rw [h])))
          clear hon ht hnn hle
          go_wp2
          go_ret
          exact ⟨by rw [HX.out]; rfl, O1.out.trans HO6.out⟩
        have HT := Lib.hid (And.intro ht (And.intro hon hnn))
        rw [← hle] at q2 GG2
        have hql : (((x.effs.length : Nat) : Int) != (x.effs.length : Int)) = false := by simp
        have hql2 : (x.effs.length != x.effs.length) = false := by simp
        have hbe : (x.effs.length : Int) ≤ 140737488355328 := by have := HSX.out; unfold smR at this; omega
        clear ht hon hnn
        have G1 : Hid (XE D wo (.slice p0 x.effs.length r0) x.effs) := GG1
        have G2 : Hid (XE D' wo (.slice p0' x.effs.length r0') y.effs) := GG2
        generalize hne : x.effs.length = ne at *
        have N1 := Lib.hid hne
        have N2 := Lib.hid hle.symm
        clear hne hle GG1 GG2 BX BY
        go_wp2
        go_loopw [8] (fun s wr => ∃ k : Nat, k ≤ ne ∧ s = .int .i64 (k : Int) ∧ Hid (∀ j, j < k → x.effs[j]? = y.effs[j]?) ∧ Hid (Only Nil wo wr))
          (fun s _ => ne - (intOf s).toNat)
        case atStart => exact ⟨0, Nat.zero_le _, rfl, Lib.hid (fun j hj => absurd hj (Nat.not_lt_zero j)), Lib.hid (Only.refl _ _)⟩
        case round =>
          obtain ⟨k, hk, rfl, hE, hO'⟩ := hrel
          have f1 := only_cell0 hO'.out q1
          have f2 := only_cell0 hO'.out q2
          by_cases hkn : k < ne
          · obtain ⟨b, off, rfl, hlt, hc⟩ := (G1.out.keep hO'.out (nilS · D)).at_ N1.out k hkn
            obtain ⟨b', off', rfl, hlt', hc'⟩ := (G2.out.keep hO'.out (nilS · D')).at_ N2.out k hkn
            have EL := Lib.hid (List.getElem?_eq_getElem (show k < x.effs.length by rw [N1.out]; exact hkn))
            have EM := Lib.hid (List.getElem?_eq_getElem (show k < y.effs.length by rw [N2.out]; exact hkn))
            have hk1 : k < x.effs.length := by rw [N1.out]; exact hkn
            have hk2 : k < y.effs.length := by rw [N2.out]; exact hkn
            generalize x.effs[k] = u at *
            generalize y.effs[k] = v at *
            clear hk1 hk2
            have a0 : wr.cell? ⟨b, off + k * 7, none⟩ = some (.int .i64 u.act) := hc 0 (by decide)
            have b0 : wr.cell? ⟨b', off' + k * 7, none⟩ = some (.int .i64 v.act) := hc' 0 (by decide)
            have a1 : wr.cell? ⟨b, off + k * 7 + 1, none⟩ = some (.string (bs u.ref)) := hc 1 (by decide)
            have b1 : wr.cell? ⟨b', off' + k * 7 + 1, none⟩ = some (.string (bs v.ref)) := hc' 1 (by decide)
            have a2 : wr.cell? ⟨b, off + k * 7 + 2, none⟩ = some (.string (bs u.slot)) := hc 2 (by decide)
            have b2 : wr.cell? ⟨b', off' + k * 7 + 2, none⟩ = some (.string (bs v.slot)) := hc' 2 (by decide)
            have a3 : wr.cell? ⟨b, off + k * 7 + 3, none⟩ = some (.string (bs u.name)) := hc 3 (by decide)
            have b3 : wr.cell? ⟨b', off' + k * 7 + 3, none⟩ = some (.string (bs v.name)) := hc' 3 (by decide)
            have a4 : wr.cell? ⟨b, off + k * 7 + 4, none⟩ = some (.int .i64 u.val) := hc 4 (by decide)
            have b4 : wr.cell? ⟨b', off' + k * 7 + 4, none⟩ = some (.int .i64 v.val) := hc' 4 (by decide)
            have a5 : wr.cell? ⟨b, off + k * 7 + 5, none⟩ = some (.int .i64 u.n) := hc 5 (by decide)
            have b5 : wr.cell? ⟨b', off' + k * 7 + 5, none⟩ = some (.int .i64 v.n) := hc' 5 (by decide)
            have a6 : wr.cell? ⟨b, off + k * 7 + 6, none⟩ = some (.int .i64 u.delay) := hc 6 (by decide)
            have b6 : wr.cell? ⟨b', off' + k * 7 + 6, none⟩ = some (.int .i64 v.delay) := hc' 6 (by decide)
            clear hc hc'
            have hg := guard_eff
            by_cases huv : u = v
            · subst huv
              have hne := neq_eff u u
              simp only [decide_true, Bool.not_true] at hne
              have HX := Lib.hid (upto_snoc hE.out EL.out EM.out)
              have od := Lib.hid (hO'.out.trans (Only.refl Nil wr).drew)
              go_upto_region 12 with (fail)
              go_region_with (fail)
              all_goals
                go_wp2
                go_roundw
                case rel => exact ⟨k + 1, by omega, by go_num, HX, od⟩
                case measure => simp [intOf]; omega
            · have hne := neq_eff u v
              simp only [huv, decide_false, Bool.not_false] at hne
              have HX := Lib.hid (ne_at EL.out EM.out huv)
              have od := Lib.hid (hO'.out.trans (Only.refl Nil wr).drew)
              clear huv
              go_upto_region 12 with (fail)
              go_region_with (fail)
              all_goals
                go_wp2
                go_ret
                exact ⟨by rw [HZF.out (fun h => HX.out ((Rw_eq x y).1 h).2.2.2)]; rfl, (O1.out.trans HO6.out).trans od.out⟩
          · obtain rfl : k = ne := by omega
            have HQ := Lib.hid (eq_upto N1.out N2.out hE.out)
            have HOO := Lib.hid hO'.out
            clear hkn hE hO' f2 q1 q2
            have HXY := Lib.hid (show x = y from (Rw_eq x y).2 ⟨HT.out.1, HT.out.2.1, HT.out.2.2, HQ.out⟩)
            have HX := Lib.hid (upto_snoc (x := x) hE0.out EL.out (HXY.out ▸ EM.out))
            have od := Lib.hid (HO6.out.trans HOO.out)
            go_wp2
            go_roundw
            case rel => exact ⟨k0 + 1, by go_num, by omega, HX, od⟩
            case measure => simp [intOf]; omega
    · obtain rfl : k0 = n := by omega
      have HX := Lib.hid (HZT.out (eq_upto HN.out HM.out hE0.out))
      clear hkn0 hE0
      go_wp2
      go_ret
      exact ⟨by rw [HX.out]; rfl, O1.out.trans hO.out⟩
set_option maxRecDepth 100000 in
set_option maxHeartbeats 8000000 in
theorem rsame_any {D D' : Nat} {w : World} {L L' : List Kd} {s s' : Value} (h : XK D w s L) (h' : XK D' w s' L') (sm : smP L) :
    Calls Try.prog 18 #[.agg #[s], .agg #[s']] w fun e w' => e = .returned (.bool (decide (L = L'))) ∧ Only Nil w w' := by
  obtain ⟨sa, sc, rfl⟩ := h.slice
  obtain ⟨sa', sc', rfl⟩ := h'.slice
  obtain ⟨z, hz⟩ : ∃ z, decide (L = L') = z := ⟨_, rfl⟩
  rw [hz]
  by_cases hlen : L.length = L'.length
  case neg =>
    have HX := Lib.hid (show z = false from hz.symm.trans (decide_eq_false (fun h => hlen (by rw [h]))))
    have hz1 : (((L.length : Nat) : Int) != (L'.length : Int)) = true := by simp; omega
    have hz2 : (L.length != L'.length) = true := by simpa using hlen
    clear hlen hz h h' sm
    go_enter Try.func18, Try.ntmps18
    go_wp2
    go_ret
    exact ⟨by rw [HX.out]; rfl, ((Only.refl Nil w).alloc _).alloc _⟩
  rw [← hlen] at h' ⊢
  have HZT := Lib.hid (show L = L' → z = true from fun e => hz.symm.trans (decide_eq_true e))
  have HZN := Lib.hid (show ¬ L = L' → z = false from fun e => hz.symm.trans (decide_eq_false e))
  have H1 := Lib.hid h
  have H2 := Lib.hid (show XK D' w (.slice sa' L.length sc') L' from h')
  have HSM := Lib.hid sm.2
  have hz1 : (((L.length : Nat) : Int) != (L.length : Int)) = false := by simp
  have hz2 : (L.length != L.length) = false := by simp
  have hb : (L.length : Int) ≤ 140737488355328 := by have := sm.1; omega
  clear h h' hz sm
  generalize hn : L.length = n at *
  have HN := Lib.hid hn
  have HM := Lib.hid hlen.symm
  clear hn hlen
  obtain ⟨bA, bB⟩ := two_ab w [.slice sa n sc] [.slice sa' n sc'] 35
  have BA := Lib.hid bA
  have BB := Lib.hid bB
  have O1 := Lib.hid (show Only Nil w ((w.alloc (.cells ([.slice sa n sc] : List Value).toArray 35)).alloc (.cells ([.slice sa' n sc'] : List Value).toArray 35)) from ((Only.refl Nil w).alloc _).alloc _)
  clear bA bB
  go_enter Try.func18, Try.ntmps18
  go_upto_region 1 with (fail)
  change Hid (Bx ((w.alloc (.cells #[.slice sa n sc] 35)).alloc (.cells #[.slice sa' n sc'] 35)) _ _ _) at BA
  change Hid (Bx ((w.alloc (.cells #[.slice sa n sc] 35)).alloc (.cells #[.slice sa' n sc'] 35)) _ _ _) at BB
  change Hid (Only Nil w ((w.alloc (.cells #[.slice sa n sc] 35)).alloc (.cells #[.slice sa' n sc'] 35))) at O1
  generalize (w.alloc (.cells #[.slice sa n sc] 35)).alloc (.cells #[.slice sa' n sc'] 35) = w1 at *
  generalize w.heap.size = B at *
  have c1 := BA.out.cell 0 (v := .slice sa n sc) rfl
  have d1 := BB.out.cell 0 (v := .slice sa' n sc') rfl
  go_wp2
  go_loopw [5, 6, 7, 8, 9] (fun s5 _ _ _ _ wr => ∃ k0 : Nat, s5 = .int .i64 (k0 : Int) ∧ k0 ≤ n ∧ Hid (∀ j, j < k0 → L[j]? = L'[j]?) ∧ Hid (Only Nil w1 wr))
    (fun s5 _ _ _ _ _ => n - (intOf s5).toNat)
  case atStart => exact ⟨0, rfl, Nat.zero_le _, Lib.hid (fun j hj => absurd hj (Nat.not_lt_zero j)), Lib.hid (Only.refl _ _)⟩
  case round =>
    obtain ⟨k0, rfl, hk0, hE0, hO⟩ := hrel
    clear c1 d1
    have c1 := (BA.out.keep hO.out).cell 0 (v := .slice sa n sc) rfl
    have d1 := (BB.out.keep hO.out).cell 0 (v := .slice sa' n sc') rfl
    by_cases hkn0 : k0 < n
    · obtain ⟨u0, v0, ⟨b, off, rfl, hlt, hc⟩, g0, j0⟩ := (H1.out.keep (O1.out.trans hO.out) (nilS · D)).at_ HN.out k0 hkn0
      obtain ⟨u0', v0', ⟨b', off', rfl, hlt', hc'⟩, g0', j0'⟩ := (H2.out.keep (O1.out.trans hO.out) (nilS · D')).at_ HM.out k0 hkn0
      have EL := Lib.hid (List.getElem?_eq_getElem (show k0 < L.length by rw [HN.out]; exact hkn0))
      have EM := Lib.hid (List.getElem?_eq_getElem (show k0 < L'.length by rw [HM.out]; exact hkn0))
      have hk1 : k0 < L.length := by rw [HN.out]; exact hkn0
      have hk2 : k0 < L'.length := by rw [HM.out]; exact hkn0
      have HSX := Lib.hid (HSM.out _ (List.getElem_mem hk1))
      generalize L[k0] = x at *
      generalize L'[k0] = y at *
      obtain ⟨p0, r0, rfl⟩ := g0.slice
      obtain ⟨p0', r0', rfl⟩ := g0'.slice
      obtain ⟨p1, r1, rfl⟩ := j0.slice
      obtain ⟨p1', r1', rfl⟩ := j0'.slice
      have e0 : wr.cell? ⟨b, off + k0 * 5, none⟩ = some (.string (bs x.name)) := hc 0 (by decide)
      have e1 : wr.cell? ⟨b, off + k0 * 5 + 1, none⟩ = some (.int .i64 x.limit) := hc 1 (by decide)
      have e2 : wr.cell? ⟨b, off + k0 * 5 + 2, none⟩ = some (.int .i64 x.within) := hc 2 (by decide)
      have e3 : wr.cell? ⟨b, off + k0 * 5 + 3, none⟩ = some (.slice p0 x.cases.length r0) := hc 3 (by decide)
      have e4 : wr.cell? ⟨b, off + k0 * 5 + 4, none⟩ = some (.slice p1 x.states.length r1) := hc 4 (by decide)
      have f0 : wr.cell? ⟨b', off' + k0 * 5, none⟩ = some (.string (bs y.name)) := hc' 0 (by decide)
      have f1 : wr.cell? ⟨b', off' + k0 * 5 + 1, none⟩ = some (.int .i64 y.limit) := hc' 1 (by decide)
      have f2 : wr.cell? ⟨b', off' + k0 * 5 + 2, none⟩ = some (.int .i64 y.within) := hc' 2 (by decide)
      have f3 : wr.cell? ⟨b', off' + k0 * 5 + 3, none⟩ = some (.slice p0' y.cases.length r0') := hc' 3 (by decide)
      have f4 : wr.cell? ⟨b', off' + k0 * 5 + 4, none⟩ = some (.slice p1' y.states.length r1') := hc' 4 (by decide)
      have G1 := Lib.hid (fun w' (o : Only Nil wr w') => g0.keep o (nilS · D))
      have G2 := Lib.hid (fun w' (o : Only Nil wr w') => g0'.keep o (nilS · D'))
      have J1 := Lib.hid (fun w' (o : Only Nil wr w') => j0.keep o (nilS · D))
      have J2 := Lib.hid (fun w' (o : Only Nil wr w') => j0'.keep o (nilS · D'))
      clear hc hc' hk1 hk2 g0 g0' j0 j0'
      have lB := cellLt c1
      have lB' := cellLt d1
      have HZF := Lib.hid (show ¬ x = y → z = false from fun hne => HZN.out (ne_at EL.out EM.out hne))
      go_upto_region 6 with (fail)
      go_cut [6, 7] (fun s6 s7 wx => ∃ X Y : Nat, s6 = .pointer (some ⟨X, 0, none⟩) ∧ s7 = .pointer (some ⟨Y, 0, none⟩) ∧ Hid (Bx wx X (kdL x.name x.limit x.within (.slice p0 x.cases.length r0) (.slice p1 x.states.length r1)) 25) ∧ Hid (Bx wx Y (kdL y.name y.limit y.within (.slice p0' y.cases.length r0') (.slice p1' y.states.length r1')) 25) ∧ Hid (Only Nil wr wx))
      case first =>
        have ab := Lib.hid (two_ab wr.drew (kdL x.name x.limit x.within (.slice p0 x.cases.length r0) (.slice p1 x.states.length r1)) (kdL y.name y.limit y.within (.slice p0' y.cases.length r0') (.slice p1' y.states.length r1')) 25)
        have ba := Lib.hid (two_ab wr.drew (kdL y.name y.limit y.within (.slice p0' y.cases.length r0') (.slice p1' y.states.length r1')) (kdL x.name x.limit x.within (.slice p0 x.cases.length r0) (.slice p1 x.states.length r1)) 25)
        have ab' := Lib.hid (two_ab wr (kdL x.name x.limit x.within (.slice p0 x.cases.length r0) (.slice p1 x.states.length r1)) (kdL y.name y.limit y.within (.slice p0' y.cases.length r0') (.slice p1' y.states.length r1')) 25)
        have ba' := Lib.hid (two_ab wr (kdL y.name y.limit y.within (.slice p0' y.cases.length r0') (.slice p1' y.states.length r1')) (kdL x.name x.limit x.within (.slice p0 x.cases.length r0) (.slice p1 x.states.length r1)) 25)
        have nb1 := World.new_ne wr _ c1
        have nb2 := World.new_ne wr _ d1
        have nb3 := World.new_ne wr _ e0
        have nb4 := World.new_ne wr _ f0
        go_region_held3 (fun w' => w'.cell? ⟨B, 0, none⟩ = some (.slice (some ⟨b, off, none⟩) n sc) ∧ w'.cell? ⟨B + 1, 0, none⟩ = some (.slice (some ⟨b', off', none⟩) n sc') ∧
            w'.cell? ⟨b, off + k0 * 5, none⟩ = some (.string (bs x.name)) ∧ w'.cell? ⟨b, off + k0 * 5 + 1, none⟩ = some (.int .i64 x.limit) ∧ w'.cell? ⟨b, off + k0 * 5 + 2, none⟩ = some (.int .i64 x.within) ∧ w'.cell? ⟨b, off + k0 * 5 + 3, none⟩ = some (.slice p0 x.cases.length r0) ∧ w'.cell? ⟨b, off + k0 * 5 + 4, none⟩ = some (.slice p1 x.states.length r1) ∧ w'.cell? ⟨b', off' + k0 * 5, none⟩ = some (.string (bs y.name)) ∧ w'.cell? ⟨b', off' + k0 * 5 + 1, none⟩ = some (.int .i64 y.limit) ∧ w'.cell? ⟨b', off' + k0 * 5 + 2, none⟩ = some (.int .i64 y.within) ∧ w'.cell? ⟨b', off' + k0 * 5 + 3, none⟩ = some (.slice p0' y.cases.length r0') ∧ w'.cell? ⟨b', off' + k0 * 5 + 4, none⟩ = some (.slice p1' y.states.length r1'))
          (first | exact ⟨c1, d1, e0, e1, e2, e3, e4, f0, f1, f2, f3, f4⟩ | go_keep)
          (fail)
        all_goals
          go_wp2_with (fail)
          go_meet
          first
            | exact ⟨_, _, rfl, rfl, Lib.hid ab.out.1, Lib.hid ab.out.2, Lib.hid (((Only.refl Nil wr).drew.alloc _).alloc _)⟩
            | exact ⟨_, _, rfl, rfl, Lib.hid ba.out.2, Lib.hid ba.out.1, Lib.hid (((Only.refl Nil wr).drew.alloc _).alloc _)⟩
            | exact ⟨_, _, rfl, rfl, Lib.hid (ab'.out.1.keep (Only.refl Nil _).drew), Lib.hid (ab'.out.2.keep (Only.refl Nil _).drew), Lib.hid (((Only.refl Nil wr).alloc _).alloc _).drew⟩
            | exact ⟨_, _, rfl, rfl, Lib.hid (ba'.out.2.keep (Only.refl Nil _).drew), Lib.hid (ba'.out.1.keep (Only.refl Nil _).drew), Lib.hid (((Only.refl Nil wr).alloc _).alloc _).drew⟩
      case rest =>
        obtain ⟨X, Y, rfl, rfl, BX, BY, OX⟩ := hcut
        clear lB lB' hlt hlt' e0 e1 e2 e3 e4 f0 f1 f2 f3 f4 c1 d1
        have HO6 := Lib.hid (hO.out.trans OX.out)
        have GG1 := Lib.hid (G1.out _ OX.out)
        have GG2 := Lib.hid (G2.out _ OX.out)
        have JJ1 := Lib.hid (J1.out _ OX.out)
        have JJ2 := Lib.hid (J2.out _ OX.out)
        have x0 := BX.out.cell 0 (v := .string (bs x.name)) rfl
        have x1 := BX.out.cell 1 (v := .int .i64 x.limit) rfl
        have x2 := BX.out.cell 2 (v := .int .i64 x.within) rfl
        have q1 := BX.out.cell 3 (v := .slice p0 x.cases.length r0) rfl
        have m1 := BX.out.cell 4 (v := .slice p1 x.states.length r1) rfl
        have y0 := BY.out.cell 0 (v := .string (bs y.name)) rfl
        have y1 := BY.out.cell 1 (v := .int .i64 y.limit) rfl
        have y2 := BY.out.cell 2 (v := .int .i64 y.within) rfl
        have q2 := BY.out.cell 3 (v := .slice p0' y.cases.length r0') rfl
        have m2 := BY.out.cell 4 (v := .slice p1' y.states.length r1') rfl
        clear G1 G2 J1 J2
        generalize wc = wo at *
        by_cases ht : x.name = y.name
        case neg =>
          have hq := str_ne ht
          have HX := Lib.hid (HZF.out (fun h => ht (by rw [h])))
          clear ht
          go_wp2
          go_ret
          exact ⟨by rw [HX.out]; rfl, O1.out.trans HO6.out⟩
        rw [← ht] at y0
        have hq0 := str_eq x.name
        by_cases hon : x.limit = y.limit
        case neg =>
          have hq : (x.limit == y.limit) = false := by simpa using hon
          have hq' : (x.limit != y.limit) = true := by simpa using hon
          have HX := Lib.hid (HZF.out (fun h => hon (by rw [h])))
          clear hon ht
          go_wp2
          go_ret
          exact ⟨by rw [HX.out]; rfl, O1.out.trans HO6.out⟩
        rw [← hon] at y1
        by_cases hnn : x.within = y.within
        case neg =>
          have hq : (x.within == y.within) = false := by simpa using hnn
          have hq' : (x.within != y.within) = true := by simpa using hnn
          have HX := Lib.hid (HZF.out (fun h => hnn (by rw [h])))
          clear hon ht hnn
          go_wp2
          go_ret
          exact ⟨by rw [HX.out]; rfl, O1.out.trans HO6.out⟩
        rw [← hnn] at y2
        by_cases hle : x.cases.length = y.cases.length
        case neg =>
          have hq1 : (((x.cases.length : Nat) : Int) != (y.cases.length : Int)) = true := by simp; omega
          have hq2 : (x.cases.length != y.cases.length) = true := by simpa using hle
          have HX := Lib.hid (HZF.out (fun h => hle (by rw [h])))
          clear hon ht hnn hle
          go_wp2
          go_ret
          exact ⟨by rw [HX.out]; rfl, O1.out.trans HO6.out⟩
        rw [← hle] at q2 GG2
        have hql : (((x.cases.length : Nat) : Int) != (x.cases.length : Int)) = false := by simp
        have hql2 : (x.cases.length != x.cases.length) = false := by simp
        by_cases hls : x.states.length = y.states.length
        case neg =>
          have hq1 : (((x.states.length : Nat) : Int) != (y.states.length : Int)) = true := by simp; omega
          have hq2 : (x.states.length != y.states.length) = true := by simpa using hls
          have HX := Lib.hid (HZF.out (fun h => hls (by rw [h])))
          clear hon ht hnn hle hls
          go_wp2
          go_ret
          exact ⟨by rw [HX.out]; rfl, O1.out.trans HO6.out⟩
        have HT := Lib.hid (And.intro ht (And.intro hon hnn))
        rw [← hls] at m2 JJ2
        have hqs : (((x.states.length : Nat) : Int) != (x.states.length : Int)) = false := by simp
        have hqs2 : (x.states.length != x.states.length) = false := by simp
        have hbe : (x.cases.length : Int) ≤ 140737488355328 := by have := HSX.out.1; omega
        have hbs : (x.states.length : Int) ≤ 140737488355328 := by have := HSX.out.2.1; omega
        clear ht hon hnn
        have G1 : Hid (XC D wo (.slice p0 x.cases.length r0) x.cases) := GG1
        have G2 : Hid (XC D' wo (.slice p0' x.cases.length r0') y.cases) := GG2
        have J1 : Hid (XS D wo (.slice p1 x.states.length r1) x.states) := JJ1
        have J2 : Hid (XS D' wo (.slice p1' x.states.length r1') y.states) := JJ2
        generalize hne : x.cases.length = nC at *
        generalize hns : x.states.length = nS at *
        have N1 := Lib.hid hne
        have N2 := Lib.hid hle.symm
        have N3 := Lib.hid hns
        have N4 := Lib.hid hls.symm
        have QS := Lib.hid (fun w' (o : Only Nil wo w') => only_cell0 o m1)
        have QS' := Lib.hid (fun w' (o : Only Nil wo w') => only_cell0 o m2)
        clear hne hle GG1 GG2 BX BY hns hls JJ1 JJ2
        go_wp2
        go_loopw [8] (fun s wr => ∃ k : Nat, k ≤ nC ∧ s = .int .i64 (k : Int) ∧ Hid (∀ j, j < k → x.cases[j]? = y.cases[j]?) ∧ Hid (Only Nil wo wr))
          (fun s _ => nC - (intOf s).toNat)
        case atStart => exact ⟨0, Nat.zero_le _, rfl, Lib.hid (fun j hj => absurd hj (Nat.not_lt_zero j)), Lib.hid (Only.refl _ _)⟩
        case round =>
          obtain ⟨k, hk, rfl, hE, hO'⟩ := hrel
          have f1 := only_cell0 hO'.out q1
          have f2 := only_cell0 hO'.out q2
          by_cases hkn : k < nC
          · obtain ⟨b, off, rfl, hlt, hc⟩ := (G1.out.keep hO'.out (nilS · D)).at_ N1.out k hkn
            obtain ⟨b', off', rfl, hlt', hc'⟩ := (G2.out.keep hO'.out (nilS · D')).at_ N2.out k hkn
            have EL := Lib.hid (List.getElem?_eq_getElem (show k < x.cases.length by rw [N1.out]; exact hkn))
            have EM := Lib.hid (List.getElem?_eq_getElem (show k < y.cases.length by rw [N2.out]; exact hkn))
            have hk1 : k < x.cases.length := by rw [N1.out]; exact hkn
            have hk2 : k < y.cases.length := by rw [N2.out]; exact hkn
            generalize x.cases[k] = u at *
            generalize y.cases[k] = v at *
            clear hk1 hk2
            have a0 : wr.cell? ⟨b, off + k * 2, none⟩ = some (.string (bs u.reason)) := hc 0 (by decide)
            have b0 : wr.cell? ⟨b', off' + k * 2, none⟩ = some (.string (bs v.reason)) := hc' 0 (by decide)
            have a1 : wr.cell? ⟨b, off + k * 2 + 1, none⟩ = some (.int .i64 u.act) := hc 1 (by decide)
            have b1 : wr.cell? ⟨b', off' + k * 2 + 1, none⟩ = some (.int .i64 v.act) := hc' 1 (by decide)
            clear hc hc'
            have hg := guard_cs
            by_cases huv : u = v
            · subst huv
              have hne := neq_cs u u
              simp only [decide_true, Bool.not_true] at hne
              have HX := Lib.hid (upto_snoc hE.out EL.out EM.out)
              have od := Lib.hid (hO'.out.trans (Only.refl Nil wr).drew)
              go_upto_region 12 with (fail)
              go_region_with (fail)
              all_goals
                go_wp2
                go_roundw
                case rel => exact ⟨k + 1, by omega, by go_num, HX, od⟩
                case measure => simp [intOf]; omega
            · have hne := neq_cs u v
              simp only [huv, decide_false, Bool.not_false] at hne
              have HX := Lib.hid (ne_at EL.out EM.out huv)
              have od := Lib.hid (hO'.out.trans (Only.refl Nil wr).drew)
              clear huv
              go_upto_region 12 with (fail)
              go_region_with (fail)
              all_goals
                go_wp2
                go_ret
                exact ⟨by rw [HZF.out (fun h => HX.out ((Kd_eq x y).1 h).2.2.2.1)]; rfl, (O1.out.trans HO6.out).trans od.out⟩
          · obtain rfl : k = nC := by omega
            have HQ := Lib.hid (eq_upto N1.out N2.out hE.out)
            have HOO := Lib.hid hO'.out
            clear hkn hE hO' f2 q1 q2
            have HCQ := HQ
            have HO7 := Lib.hid (HO6.out.trans HOO.out)
            have m1 := QS.out _ HOO.out
            have m2 := QS'.out _ HOO.out
            have QS2 := Lib.hid (fun w' (o : Only Nil wr w') => only_cell0 o m1)
            have QS2' := Lib.hid (fun w' (o : Only Nil wr w') => only_cell0 o m2)
            have J3 := Lib.hid (J1.out.keep HOO.out (nilS · D))
            have J4 := Lib.hid (J2.out.keep HOO.out (nilS · D'))
            clear HOO HO6 QS QS' J1 J2 HQ
            have J1 := J3
            have J2 := J4
            have QS := QS2
            have QS' := QS2'
            have HO6 := HO7
            clear J3 J4 QS2 QS2' HO7
            generalize wr = wo at *
            go_wp2
            go_loopw [9] (fun s wr => ∃ k : Nat, k ≤ nS ∧ s = .int .i64 (k : Int) ∧ Hid (∀ j, j < k → x.states[j]? = y.states[j]?) ∧ Hid (Only Nil wo wr))
              (fun s _ => nS - (intOf s).toNat)
            case atStart => exact ⟨0, Nat.zero_le _, rfl, Lib.hid (fun j hj => absurd hj (Nat.not_lt_zero j)), Lib.hid (Only.refl _ _)⟩
            case round =>
              obtain ⟨k, hk, rfl, hE, hO'⟩ := hrel
              clear m1 m2
              have m1 := QS.out _ hO'.out
              have m2 := QS'.out _ hO'.out
              by_cases hkn : k < nS
              · obtain ⟨t0, ⟨b, off, rfl, hlt, hc⟩, gg⟩ := (J1.out.keep hO'.out (nilS · D)).at_ N3.out k hkn
                obtain ⟨t0', ⟨b', off', rfl, hlt', hc'⟩, gg'⟩ := (J2.out.keep hO'.out (nilS · D')).at_ N4.out k hkn
                have EL3 := Lib.hid (List.getElem?_eq_getElem (show k < x.states.length by rw [N3.out]; exact hkn))
                have EM3 := Lib.hid (List.getElem?_eq_getElem (show k < y.states.length by rw [N4.out]; exact hkn))
                have hk1 : k < x.states.length := by rw [N3.out]; exact hkn
                have hk2 : k < y.states.length := by rw [N4.out]; exact hkn
                have HSU := Lib.hid (HSX.out.2.2 _ (List.getElem_mem hk1))
                generalize x.states[k] = u at *
                generalize y.states[k] = v at *
                clear hk1 hk2
                obtain ⟨t1, t2, rfl⟩ := gg.slice
                obtain ⟨t1', t2', rfl⟩ := gg'.slice
                have a0 : wr.cell? ⟨b, off + k * 2, none⟩ = some (.string (bs u.name)) := hc 0 (by decide)
                have a1 : wr.cell? ⟨b, off + k * 2 + 1, none⟩ = some (.slice t1 u.rows.length t2) := hc 1 (by decide)
                have b0 : wr.cell? ⟨b', off' + k * 2, none⟩ = some (.string (bs v.name)) := hc' 0 (by decide)
                have b1 : wr.cell? ⟨b', off' + k * 2 + 1, none⟩ = some (.slice t1' v.rows.length t2') := hc' 1 (by decide)
                have GG := Lib.hid gg
                have GG' := Lib.hid gg'
                clear hc hc' gg gg'
                by_cases huv : u = v
                · have hd := Lib.hid (show decide (u.name = v.name ∧ u.rows = v.rows) = true from decide_eq_true (by rw [huv]; exact ⟨rfl, rfl⟩))
                  have HX := Lib.hid (upto_snoc hE.out EL3.out (huv ▸ EM3.out))
                  clear huv
                  go_upto_region 17 with (fail)
                  go_region_held3 (fun w' => w'.cell? ⟨X, 4, none⟩ = some (.slice (some ⟨b, off, none⟩) nS r1) ∧ w'.cell? ⟨Y, 4, none⟩ = some (.slice (some ⟨b', off', none⟩) nS r1') ∧ w'.cell? ⟨b, off + k * 2, none⟩ = some (.string (bs u.name)) ∧ w'.cell? ⟨b, off + k * 2 + 1, none⟩ = some (.slice t1 u.rows.length t2) ∧ w'.cell? ⟨b', off' + k * 2, none⟩ = some (.string (bs v.name)) ∧ w'.cell? ⟨b', off' + k * 2 + 1, none⟩ = some (.slice t1' v.rows.length t2'))
                    (first | exact ⟨m1, m2, a0, a1, b0, b1⟩ | exact ⟨z0, z1, z2, z3, z4, z5⟩ | go_keep)
                    ((go_at_call 34; refine (rsame_state (z := true) (GG.out.keep (Only.refl Nil wr).drew (nilS · D)) (GG'.out.keep (Only.refl Nil wr).drew (nilS · D')) HSU.out hd.out).mono ?_; rintro e w8 ⟨rfl, o8⟩; have z0 := only_cell0 (w := wr.drew) o8 m1; have z1 := only_cell0 (w := wr.drew) o8 m2; have z2 := only_cell0 (w := wr.drew) o8 a0; have z3 := only_cell0 (w := wr.drew) o8 a1; have z4 := only_cell0 (w := wr.drew) o8 b0; have z5 := only_cell0 (w := wr.drew) o8 b1; have O8 := Lib.hid (hO'.out.trans ((Only.refl Nil wr).drew.trans o8)); clear o8))
                  all_goals
                    go_wp2
                    go_roundw
                    case rel => exact ⟨k + 1, by omega, by go_num, HX, O8⟩
                    case measure => simp [intOf]; omega
                · have hd := Lib.hid (show decide (u.name = v.name ∧ u.rows = v.rows) = false from decide_eq_false (fun h => huv ((Sta_eq u v).2 h)))
                  have HX := Lib.hid (ne_at EL3.out EM3.out huv)
                  clear huv
                  go_upto_region 17 with (fail)
                  go_region_held3 (fun w' => w'.cell? ⟨X, 4, none⟩ = some (.slice (some ⟨b, off, none⟩) nS r1) ∧ w'.cell? ⟨Y, 4, none⟩ = some (.slice (some ⟨b', off', none⟩) nS r1') ∧ w'.cell? ⟨b, off + k * 2, none⟩ = some (.string (bs u.name)) ∧ w'.cell? ⟨b, off + k * 2 + 1, none⟩ = some (.slice t1 u.rows.length t2) ∧ w'.cell? ⟨b', off' + k * 2, none⟩ = some (.string (bs v.name)) ∧ w'.cell? ⟨b', off' + k * 2 + 1, none⟩ = some (.slice t1' v.rows.length t2'))
                    (first | exact ⟨m1, m2, a0, a1, b0, b1⟩ | exact ⟨z0, z1, z2, z3, z4, z5⟩ | go_keep)
                    ((go_at_call 34; refine (rsame_state (z := false) (GG.out.keep (Only.refl Nil wr).drew (nilS · D)) (GG'.out.keep (Only.refl Nil wr).drew (nilS · D')) HSU.out hd.out).mono ?_; rintro e w8 ⟨rfl, o8⟩; have z0 := only_cell0 (w := wr.drew) o8 m1; have z1 := only_cell0 (w := wr.drew) o8 m2; have z2 := only_cell0 (w := wr.drew) o8 a0; have z3 := only_cell0 (w := wr.drew) o8 a1; have z4 := only_cell0 (w := wr.drew) o8 b0; have z5 := only_cell0 (w := wr.drew) o8 b1; have O8 := Lib.hid (hO'.out.trans ((Only.refl Nil wr).drew.trans o8)); clear o8))
                  all_goals
                    go_wp2
                    go_ret
                    exact ⟨by rw [HZF.out (fun h => HX.out ((Kd_eq x y).1 h).2.2.2.2)]; rfl, (O1.out.trans HO6.out).trans O8.out⟩
              · obtain rfl : k = nS := by omega
                have HXY := Lib.hid (show x = y from (Kd_eq x y).2 ⟨HT.out.1, HT.out.2.1, HT.out.2.2, HCQ.out, eq_upto N3.out N4.out hE.out⟩)
                have HX := Lib.hid (upto_snoc (x := x) hE0.out EL.out (HXY.out ▸ EM.out))
                have od := Lib.hid (HO6.out.trans hO'.out)
                clear hkn hE
                go_wp2
                go_roundw
                case rel => exact ⟨k0 + 1, by go_num, by omega, HX, od⟩
                case measure => simp [intOf]; omega
    · obtain rfl : k0 = n := by omega
      have HX := Lib.hid (HZT.out (eq_upto HN.out HM.out hE0.out))
      clear hkn0 hE0
      go_wp2
      go_ret
      exact ⟨by rw [HX.out]; rfl, O1.out.trans hO.out⟩
end Go.Proofs.Ytimnaiahokafaaa.Ps
set_option linter.unusedVariables false
namespace Go.Proofs.Ytimnaiahokafaaa.Ch
open Go.RowKit Go.Proofs.Ytimnaiahokafaaa Lx Ps Go.Shelf
def putA (cur : Array Value) : Nat → List Value → Array Value
  | _, [] => cur
  | o, v :: r => putA (cur.setIfInBounds o v) (o + 1) r
theorem setCells_row (b : Nat) (vs : List Value) : ∀ (o : Nat) (w : World) (cur : Array Value) (t : TypeId) (m : Nat × Nat), w.heap[b]? = some (.cells cur t m) → (w.setCells b o vs).heap[b]? = some (.cells (putA cur o vs) t m) := by
  induction vs with
  | nil => intro o w cur t m h; exact h
  | cons v r ih => intro o w cur t m h; exact ih _ _ _ _ _ (heap_setCell_self v h)
theorem only_setCells {S : Nat → Prop} {a : World} (b : Nat) (hb : S b) (vs : List Value) : ∀ (o : Nat) (w : World), Only S a w → Only S a (w.setCells b o vs) := by
  induction vs with
  | nil => intro o w h; exact h
  | cons v r ih => intro o w h; exact ih _ _ (h.setCell (p := ⟨b, o, none⟩) hb v)
end Go.Proofs.Ytimnaiahokafaaa.Ch
set_option linter.unusedVariables false
namespace Go.Proofs.Ytimnaiahokafaaa.Ch
open Go.RowKit Go.Proofs.Ytimnaiahokafaaa Lx Ps
theorem cin_pre {α : Type} {D : Nat} {w : World} {a : Option Addr} {n s c : Nat} {f : α → List Value} {Z : List α} (hf : ∀ x, (f x).length = s) (h : CIn D w (.slice a n c) n s (Z.flatMap f)) (hZ : Z.length = n) (k : Nat) (hk : k ≤ n) :
    CIn D w (.slice a k c) k s ((Z.take k).flatMap f) := by
  obtain ⟨a', c0, ⟨h1, h1c⟩, h2, h3⟩ := h
  simp only [Value.slice.injEq] at h1
  obtain ⟨rfl, _, rfl⟩ := h1
  have hl : ∀ L : List α, (L.flatMap f).length = L.length * s := fun L => by
    induction L with
    | nil => simp
    | cons a L ih => rw [List.flatMap_cons, List.length_append, hf, ih, List.length_cons, Nat.add_mul]; omega
  have hp : (Z.take k).flatMap f ++ (Z.drop k).flatMap f = Z.flatMap f := by rw [← List.flatMap_append, List.take_append_drop]
  have hle : ((Z.take k).flatMap f).length ≤ (Z.flatMap f).length := by rw [← hp, List.length_append]; omega
  refine ⟨a, c, ⟨rfl, by omega⟩, by rw [hl, List.length_take]; congr 1; omega, fun i hi => ?_⟩
  obtain ⟨b, off, ha, hD, hlt, hc⟩ := h3 i (by omega)
  refine ⟨b, off, ha, hD, hlt, fun j hj => (hc j (by omega)).trans ?_⟩
  rw [← hp, List.getElem?_append_left hj]
theorem run_cut {P : Program} {t e : TypeId} {s : Nat} (hu : P.underlying t = some (.slice e)) (hs : ∀ w, (Go.sizeOf e).run P w = .ok s w) (W : World) (q off n c i : Nat) (hi : i ≤ n) (hc : n ≤ c) :
    (Instr.slice t (.slice (some ⟨q, off, none⟩) n c) none (some (.int .i64 (i : Int))) none).run P W = .ok (.slice (some ⟨q, off, none⟩) i c) W := by
  have h3 : i ≤ c := by omega
  simp [Instr.slice, Instr.sliceBounds, Instr.sliceBound, asIntOf, run_underlying hu, hs, Sem.run_bind, Result.andThen, h3, Addr.add]
end Go.Proofs.Ytimnaiahokafaaa.Ch
set_option linter.unusedVariables false
namespace Go.Proofs.Ytimnaiahokafaaa.Ch
open Go.RowKit Go.Proofs.Ytimnaiahokafaaa Lx Ps
theorem cin_box {w : World} {q D n s : Nat} {t : TypeId} {cs : List Value} (h : Bx w q cs t) (hn : cs.length = n * s) (hq : q < D) : CIn D w (.slice (some ⟨q, 0, none⟩) n n) n s cs :=
  ⟨_, n, ⟨rfl, Nat.le_refl _⟩, hn, fun i hi => ⟨q, 0, rfl, hq, lt_of_block h, fun j hj => by
    rw [Nat.zero_add, cell_of_row w q j _ _ _ h]; simp⟩⟩
end Go.Proofs.Ytimnaiahokafaaa.Ch
set_option linter.unusedVariables false
namespace Go.Proofs.Ytimnaiahokafaaa.Ch
open Go Go.ChangeShapes Go.WideShapes Go.ChangeAt Go.RowKit Go.Joins Go.Deep Go.Proofs.Ytimnaiahokafaaa Lx Ps
section
variable {H : Type} {enc : TypeId × Value → H} {w : World} {held : Bool}
def bzR (x : Rw) : Prop := x.effs.length * 80 ≤ 140737488355328
def bzS (x : Sta) : Prop := x.rows.length * 56 ≤ 140737488355328 ∧ ∀ r ∈ x.rows, bzR r
def bzK (x : Kd) : Prop := x.cases.length * 24 ≤ 140737488355328 ∧ x.states.length * 40 ≤ 140737488355328 ∧ ∀ s ∈ x.states, bzS s
def bzP (P : List Kd) : Prop := P.length * 80 ≤ 140737488355328 ∧ ∀ k ∈ P, bzK k
set_option maxRecDepth 100000 in
theorem bopen_row {m : Nat} {cs : List Value} {x : DataW H × List MemPlace} (h : DataW.trod enc Try.prog w 0 (fun _ => true) held m 40 cs = some x) (hz : Sz Try.prog 40 x.1) :
    ∃ z : Rw × Value, cs = rowCs z ∧ XE w.heap.size w z.2 z.1.effs ∧ wfR z.1 ∧ bzR z.1 := by
  obtain ⟨y0, y1, y2, y3, n, rfl, hl, h0, h1, h2, h3⟩ := trod_struct4 Try.underlying40 h
  have hC : Try.prog.cellsOf 40 = 4 := by kernel_rfl
  rw [hC] at hl
  unfold Sz at hz
  simp only [DataW.weights, Try.underlying40, DataW.weightsEach, List.map_cons, List.map_nil, List.mem_append] at hz
  match cs, hl with
  | [v0, v1, v2, v3], _ =>
    have g0 : DataW.trod enc Try.prog w 0 (fun _ => true) held n 9 [v0] = some y0 := h0
    have g1 : DataW.trod enc Try.prog w 0 (fun _ => true) held n 4 [v1] = some y1 := h1
    have g2 : DataW.trod enc Try.prog w 0 (fun _ => true) held n 3 [v2] = some y2 := h2
    have g3 : DataW.trod enc Try.prog w 0 (fun _ => true) held n 28 [v3] = some y3 := h3
    obtain ⟨a0, rfl, i0⟩ := op_str g0 (fun k hk => hz k (Or.inl hk))
    obtain ⟨a1, rfl⟩ := op_bool g1
    obtain ⟨a2, rfl, i2⟩ := op_int g2
    obtain ⟨E, x3, i3, s3⟩ := open_effs g3 (fun k hk => hz k (Or.inr (Or.inr (Or.inr (Or.inl hk)))))
    exact ⟨(⟨a0, a1, a2, E⟩, v3), rfl, x3, ⟨i2, i0, i3⟩, by unfold bzR; dsimp only; omega⟩
theorem bopen_rows {m : Nat} {v : Value} {y : DataW H × List MemPlace} (h : DataW.trod enc Try.prog w 0 (fun _ => true) held m 46 [v] = some y) (hz : Sz Try.prog 46 y.1) :
    ∃ R : List Rw, XR w.heap.size w v R ∧ (∀ e ∈ R, wfR e) ∧ (∀ e ∈ R, bzR e) ∧ R.length * 56 ≤ 140737488355328 := by
  obtain ⟨v', e, Z, h1, h2, h3⟩ := open_sl (s := 4) (f := rowCs) (Q := fun z => XE w.heap.size w z.2 z.1.effs ∧ wfR z.1 ∧ bzR z.1) Try.underlying46 (by kernel_rfl) (by decide) (fun _ => rfl) bopen_row h hz
  simp only [List.cons.injEq, and_true] at e
  subst e
  have e6 : Try.prog.bytesOf 40 = 56 := by kernel_rfl
  rw [e6] at h3
  refine ⟨Z.map Prod.fst, ⟨Z, rfl, by rw [List.length_map]; exact h1, fun x hx => (h2 x hx).1⟩, fun e he => ?_, fun e he => ?_, by rw [List.length_map]; omega⟩
  · obtain ⟨z, hz', rfl⟩ := List.mem_map.1 he; exact (h2 z hz').2.1
  · obtain ⟨z, hz', rfl⟩ := List.mem_map.1 he; exact (h2 z hz').2.2
set_option maxRecDepth 100000 in
theorem bopen_sta {m : Nat} {cs : List Value} {x : DataW H × List MemPlace} (h : DataW.trod enc Try.prog w 0 (fun _ => true) held m 48 cs = some x) (hz : Sz Try.prog 48 x.1) :
    ∃ z : Sta × Value, cs = staCs z ∧ XR w.heap.size w z.2 z.1.rows ∧ wfS z.1 ∧ bzS z.1 := by
  obtain ⟨y0, y1, n, rfl, hl, h0, h1⟩ := trod_struct2 Try.underlying48 h
  have hC : Try.prog.cellsOf 48 = 2 := by kernel_rfl
  rw [hC] at hl
  unfold Sz at hz
  simp only [DataW.weights, Try.underlying48, DataW.weightsEach, List.map_cons, List.map_nil, List.mem_append] at hz
  match cs, hl with
  | [v0, v1], _ =>
    have g0 : DataW.trod enc Try.prog w 0 (fun _ => true) held n 9 [v0] = some y0 := h0
    have g1 : DataW.trod enc Try.prog w 0 (fun _ => true) held n 46 [v1] = some y1 := h1
    obtain ⟨a0, rfl, i0⟩ := op_str g0 (fun k hk => hz k (Or.inl hk))
    obtain ⟨R, x3, i3, s3, s4⟩ := bopen_rows g1 (fun k hk => hz k (Or.inr (Or.inl hk)))
    exact ⟨(⟨a0, R⟩, v1), rfl, x3, ⟨i0, i3⟩, ⟨s4, s3⟩⟩
theorem bopen_stas {m : Nat} {v : Value} {y : DataW H × List MemPlace} (h : DataW.trod enc Try.prog w 0 (fun _ => true) held m 23 [v] = some y) (hz : Sz Try.prog 23 y.1) :
    ∃ R : List Sta, XS w.heap.size w v R ∧ (∀ e ∈ R, wfS e) ∧ (∀ e ∈ R, bzS e) ∧ R.length * 40 ≤ 140737488355328 := by
  obtain ⟨v', e, Z, h1, h2, h3⟩ := open_sl (s := 2) (f := staCs) (Q := fun z => XR w.heap.size w z.2 z.1.rows ∧ wfS z.1 ∧ bzS z.1) Try.underlying23 (by kernel_rfl) (by decide) (fun _ => rfl) bopen_sta h hz
  simp only [List.cons.injEq, and_true] at e
  subst e
  have e6 : Try.prog.bytesOf 48 = 40 := by kernel_rfl
  rw [e6] at h3
  refine ⟨Z.map Prod.fst, ⟨Z, rfl, by rw [List.length_map]; exact h1, fun x hx => (h2 x hx).1⟩, fun e he => ?_, fun e he => ?_, by rw [List.length_map]; omega⟩
  · obtain ⟨z, hz', rfl⟩ := List.mem_map.1 he; exact (h2 z hz').2.1
  · obtain ⟨z, hz', rfl⟩ := List.mem_map.1 he; exact (h2 z hz').2.2
set_option maxRecDepth 100000 in
theorem bopen_kd {m : Nat} {cs : List Value} {x : DataW H × List MemPlace} (h : DataW.trod enc Try.prog w 0 (fun _ => true) held m 25 cs = some x) (hz : Sz Try.prog 25 x.1) :
    ∃ z : Kd × Value × Value, cs = kdCs z ∧ (XC w.heap.size w z.2.1 z.1.cases ∧ XS w.heap.size w z.2.2 z.1.states) ∧ wfK z.1 ∧ bzK z.1 := by
  obtain ⟨y0, y1, y2, y3, y4, n, e, hl, h0, h1, h2, h3, h4⟩ := trod_struct5 Try.underlying25 h
  have hC : Try.prog.cellsOf 25 = 5 := by kernel_rfl
  rw [hC] at hl
  unfold Sz at hz
  rw [e] at hz
  simp only [DataW.weights, Try.underlying25, DataW.weightsEach, List.map_cons, List.map_nil, List.mem_append] at hz
  match cs, hl with
  | [v0, v1, v2, v3, v4], _ =>
    have g0 : DataW.trod enc Try.prog w 0 (fun _ => true) held n 9 [v0] = some y0 := h0
    have g1 : DataW.trod enc Try.prog w 0 (fun _ => true) held n 3 [v1] = some y1 := h1
    have g2 : DataW.trod enc Try.prog w 0 (fun _ => true) held n 3 [v2] = some y2 := h2
    have g3 : DataW.trod enc Try.prog w 0 (fun _ => true) held n 22 [v3] = some y3 := h3
    have g4 : DataW.trod enc Try.prog w 0 (fun _ => true) held n 23 [v4] = some y4 := h4
    obtain ⟨a0, rfl, i0⟩ := op_str g0 (fun k hk => hz k (Or.inl hk))
    obtain ⟨a1, rfl, i1⟩ := op_int g1
    obtain ⟨a2, rfl, i2⟩ := op_int g2
    obtain ⟨C, x3, i3, s3⟩ := open_css g3 (fun k hk => hz k (Or.inr (Or.inr (Or.inr (Or.inl hk)))))
    obtain ⟨S, x4, i4, s4, s5⟩ := bopen_stas g4 (fun k hk => hz k (Or.inr (Or.inr (Or.inr (Or.inr (Or.inl hk))))))
    exact ⟨(⟨a0, a1, a2, C, S⟩, v3, v4), rfl, ⟨x3, x4⟩, ⟨i1, i2, i0, i3, i4⟩, ⟨by dsimp only; omega, s5, s4⟩⟩
theorem bopen_kds {m : Nat} {v : Value} {y : DataW H × List MemPlace} (h : DataW.trod enc Try.prog w 0 (fun _ => true) held m 33 [v] = some y) (hz : Sz Try.prog 33 y.1) :
    ∃ R : List Kd, XK w.heap.size w v R ∧ wfP R ∧ bzP R := by
  obtain ⟨v', e, Z, h1, h2, h3⟩ := open_sl (s := 5) (f := kdCs) (Q := fun z => (XC w.heap.size w z.2.1 z.1.cases ∧ XS w.heap.size w z.2.2 z.1.states) ∧ wfK z.1 ∧ bzK z.1) Try.underlying33 (by kernel_rfl) (by decide) (fun _ => rfl) bopen_kd h hz
  simp only [List.cons.injEq, and_true] at e
  subst e
  have e6 : Try.prog.bytesOf 25 = 80 := by kernel_rfl
  rw [e6] at h3
  refine ⟨Z.map Prod.fst, ⟨Z, rfl, by rw [List.length_map]; exact h1, fun x hx => (h2 x hx).1⟩, fun e he => ?_, ⟨by rw [List.length_map]; omega, fun e he => ?_⟩⟩
  · obtain ⟨z, hz', rfl⟩ := List.mem_map.1 he; exact (h2 z hz').2.1
  · obtain ⟨z, hz', rfl⟩ := List.mem_map.1 he; exact (h2 z hz').2.2
set_option maxRecDepth 100000 in
theorem bopen_prog {m : Nat} {v : Value} {y : DataW H × List MemPlace} (hok : ∃ cs, v = .agg cs) (h : DataW.trod enc Try.prog w 0 (fun _ => true) held m 35 v.cells.toList = some y) (hz : Sz Try.prog 35 y.1) :
    ∃ sl P, v = .agg #[sl] ∧ XK w.heap.size w sl P ∧ wfP P ∧ bzP P := by
  obtain ⟨⟨cs⟩, rfl⟩ := hok
  have h' : DataW.trod enc Try.prog w 0 (fun _ => true) held m 35 cs = some y := h
  obtain ⟨y0, n, rfl, hl, h0⟩ := trod_struct1 Try.underlying35 h'
  have hC : Try.prog.cellsOf 35 = 1 := by kernel_rfl
  rw [hC] at hl
  unfold Sz at hz
  simp only [DataW.weights, Try.underlying35, DataW.weightsEach, List.map_cons, List.map_nil, List.mem_append] at hz
  match cs, hl with
  | [v0], _ =>
    have g0 : DataW.trod enc Try.prog w 0 (fun _ => true) held n 33 [v0] = some y0 := h0
    obtain ⟨P, x1, x2, x3⟩ := bopen_kds g0 (fun k hk => hz k (Or.inl hk))
    exact ⟨v0, P, rfl, x1, x2, x3⟩

end
theorem bzR.sz {x : Rw} (h : bzR x) : szR x := by unfold bzR at h; unfold szR; omega
theorem bzS.sz {x : Sta} (h : bzS x) : szS x := ⟨by have := h.1; omega, fun r hr => (h.2 r hr).sz⟩
theorem bzK.sz {x : Kd} (h : bzK x) : szK x := ⟨by have := h.1; omega, by have := h.2.1; omega, fun r hr => (h.2.2 r hr).sz⟩
theorem bzP.sz {P : List Kd} (h : bzP P) : szP P := ⟨by have := h.1; omega, fun r hr => (h.2 r hr).sz⟩
end Go.Proofs.Ytimnaiahokafaaa.Ch
set_option linter.unusedVariables false
namespace Go.Proofs.Ytimnaiahokafaaa.Ch
open Go Go.RowKit Go.Proofs.Ytimnaiahokafaaa Lx Ps
theorem flat_len {α : Type} {f : α → List Value} {s : Nat} (hf : ∀ x, (f x).length = s) (L : List α) : (L.flatMap f).length = L.length * s := by
  induction L with
  | nil => simp
  | cons x L ih => rw [List.flatMap_cons, List.length_append, ih, hf, List.length_cons, Nat.succ_mul, Nat.add_comm]
theorem copy_cin {P : Program} {w : World} {t ty e : TypeId} {z : Value} {size bytes : Nat} (ht : P.underlying t = some (.slice e)) (hi : (P.info? e).map (fun i => (i.zero, i.size, i.bytes)) = some (some z, size, bytes)) (hzs : z.cells.size = size)
    {D n c : Nat} {a x0 : Option Addr} {cs : List Value} (h : CIn D w (.slice a n c) n size cs) (h0 : w.ownsRow 0 e size (.slice x0 0 0) 0 []) (hn : 0 < n) (hs : 0 < size) (hy : 0 < bytes) (hb : n * bytes ≤ 140737488355328) :
    ∃ c' w', (Builtin.append_ #[t, t] ty #[.slice x0 0 0, .slice a n c]).run P w = .ok (.slice (some ⟨w.heap.size, 0, none⟩) n c') w' ∧ w'.ownsRow 0 e size (.slice (some ⟨w.heap.size, 0, none⟩) n c') n cs ∧ Only Nil w w' := by
  obtain ⟨i0, hi0, hz0, hz1, hz2⟩ := info_parts hi
  obtain ⟨a', c0, ⟨h1, _⟩, h2, h3⟩ := h
  simp only [Value.slice.injEq] at h1
  obtain ⟨rfl, _, rfl⟩ := h1
  obtain ⟨b, off, rfl, _, _, hc⟩ := h3 0 (by rw [h2]; exact Nat.mul_pos hn hs)
  have hnb : n * 1 ≤ n * bytes := Nat.mul_le_mul_left _ hy
  obtain ⟨c', w', hr, ho, hon⟩ := run_append_new (P := P) w t ty e i0 z size bytes ht hi0 hz0 hz1 hz2 hzs x0 0 [] h0 ⟨b, off, none⟩ n c hn cs h2 (fun j u hj => by
    have hl : j < cs.length := (List.getElem?_eq_some_iff.1 hj).1
    have := (hc j hl).trans hj
    rw [show (⟨b, off, none⟩ : Addr).add j = ⟨b, off + j, none⟩ from by by_cases h0 : j = 0 <;> simp [Addr.add, h0]]
    exact this) (by unfold maxLen; omega) (by rw [Nat.zero_add]; exact hb)
  rw [Nat.zero_add] at hr ho
  exact ⟨c', w', hr, by simpa using ho, hon⟩
theorem cin_set {α : Type} {D s n c g : Nat} {w w' : World} {f : α → List Value} (hf : ∀ x, (f x).length = s) (hs : 0 < s) {Z : List α} (h : CIn D w (.slice (some ⟨g, 0, none⟩) n c) n s (Z.flatMap f)) (hZ : Z.length = n) (i : Nat) (z : α)
    (hsz : w.heap.size ≤ w'.heap.size) (hin : ∀ k, k < s → w'.cell? ⟨g, i * s + k, none⟩ = (f z)[k]?) (hout : ∀ j, (j < i * s ∨ i * s + s ≤ j) → w'.cell? ⟨g, j, none⟩ = w.cell? ⟨g, j, none⟩) :
    CIn D w' (.slice (some ⟨g, 0, none⟩) n c) n s ((Z.set i z).flatMap f) := by
  obtain ⟨a', c', ⟨h1, hcap⟩, h2, h3⟩ := h
  simp only [Value.slice.injEq] at h1
  obtain ⟨rfl, _, rfl⟩ := h1
  have hl : ((Z.set i z).flatMap f).length = n * s := by rw [flat_len hf, List.length_set, hZ]
  refine ⟨_, _, ⟨rfl, hcap⟩, hl, fun i' hi' => ?_⟩
  obtain ⟨b, off, ha, hD, hb, hc⟩ := h3 i' (by omega)
  obtain ⟨rfl, rfl⟩ : g = b ∧ 0 = off := by simpa using ha
  refine ⟨_, _, rfl, hD, by omega, fun j hj => ?_⟩
  rw [Nat.zero_add]
  have hj' : j < n * s := by omega
  have hdm : j / s * s + j % s = j := Nat.div_add_mod' j s
  have hm : j % s < s := Nat.mod_lt _ hs
  have hq : j / s < n := Nat.div_lt_of_lt_mul (by rw [Nat.mul_comm]; exact hj')
  have hc' : w.cell? ⟨g, j, none⟩ = (Z.flatMap f)[j]? := by have := hc j (by omega); rw [Nat.zero_add] at this; exact this
  have hqs : j / s < (Z.set i z).length := by rw [List.length_set]; omega
  have e1 := flat_get f s hf (Z.set i z) (j / s) (j % s) hqs hm
  rw [hdm] at e1
  rw [e1]
  by_cases he : j / s = i
  · have e2 : (Z.set i z)[j / s] = z := by rw [List.getElem_set, if_pos he.symm]
    rw [e2, ← hin _ hm, ← he, hdm]
  · have e2 : (Z.set i z)[j / s] = Z[j / s]'(by omega) := by rw [List.getElem_set, if_neg (Ne.symm he)]
    have e3 := flat_get f s hf Z (j / s) (j % s) (by omega) hm
    rw [hdm] at e3
    rw [e2, ← e3, ← hc']
    refine hout j ?_
    rcases Nat.lt_or_gt_of_ne he with h | h
    · left
      have : (j / s + 1) * s ≤ i * s := Nat.mul_le_mul_right _ h
      rw [Nat.succ_mul] at this; omega
    · right
      have : (i + 1) * s ≤ j / s * s := Nat.mul_le_mul_right _ h
      rw [Nat.succ_mul] at this; omega
theorem cin_put {α : Type} {D s n c g : Nat} {w : World} {f : α → List Value} (hf : ∀ x, (f x).length = s) (hs : 0 < s) {Z : List α} (h : CIn D w (.slice (some ⟨g, 0, none⟩) n c) n s (Z.flatMap f)) (hZ : Z.length = n) (i : Nat) (hi : i < n) (z : α) :
    CIn D (w.setCells g (i * s) (f z)) (.slice (some ⟨g, 0, none⟩) n c) n s ((Z.set i z).flatMap f) := by
  refine cin_set hf hs h hZ i z (only_setCells (S := At g) (a := w) g rfl (f z) (i * s) w (Only.refl _ _)).size (fun k hk => ?_) (fun j hj => ?_)
  · have ha := CIn.at_ hf hs h hZ i hi
    obtain ⟨b, off, e, _, hc⟩ := ha
    obtain ⟨rfl, rfl⟩ : g = b ∧ 0 = off := by simpa using e
    have hk' : k < (f z).length := by rw [hf]; exact hk
    rw [World.cell?_setCells_in g (f z) (i * s) w (fun j hj => by
      have := hc j (by rw [hf] at hj; exact hj)
      rw [Nat.zero_add] at this
      rw [this, List.getElem?_eq_getElem (by rw [hf] at hj ⊢; exact hj)]; rfl) k hk']
    simp [hk']
  · exact World.cell?_setCells_out g (f z) (i * s) w ⟨g, j, none⟩ (fun _ _ => by rw [hf]; exact hj)
end Go.Proofs.Ytimnaiahokafaaa.Ch
set_option linter.unusedVariables false
namespace Go.Proofs.Ytimnaiahokafaaa.Ch
open Go Go.RowKit Go.Proofs.Ytimnaiahokafaaa Lx Ps
theorem own_empty (w : World) (e : TypeId) (s : Nat) : (w.alloc (.cells #[] e)).ownsRow 0 e s (.slice (some ⟨w.heap.size, 0, none⟩) 0 0) 0 [] :=
  World.ownsRow_made w #[] 0 (Nat.zero_le _) (Nat.zero_le _) (by simp)
theorem cells_at {α : Type} {D : Nat} {w : World} {g n s c : Nat} {f : α → List Value} {Z : List α} (hf : ∀ x, (f x).length = s) (hs : 0 < s) (h : CIn D w (.slice (some ⟨g, 0, none⟩) n c) n s (Z.flatMap f)) (hZ : Z.length = n) (j : Nat) (hj : j < n) {z : α} (hz : ∀ h : j < Z.length, z = Z[j]'h) (k : Nat) (hk : k < s) : w.cell? ⟨g, j * s + k, none⟩ = (f z)[k]? := by
  rw [hz (by omega)]
  obtain ⟨b, off, e, _, h⟩ := CIn.at_ hf hs h hZ j hj
  obtain ⟨rfl, rfl⟩ : g = b ∧ 0 = off := by simpa using e
  have := h k hk
  rw [Nat.zero_add] at this
  exact this
theorem cin_at {D w w' g n s c cs q} (h : CIn D w (.slice (some ⟨g, 0, none⟩) n c) n s cs) (o : Only (At q) w w') (hq : g ≠ q) : CIn D w' (.slice (some ⟨g, 0, none⟩) n c) n s cs := by
  obtain ⟨a, c', h1, h2, h3⟩ := h
  refine ⟨a, c', h1, h2, fun i hi => ?_⟩
  obtain ⟨b, off, ha, hD, hlt, hc⟩ := h3 i hi
  have hb : b = g := by
    have := h1.1
    rw [ha] at this
    simp at this
    exact this.1.1.symm
  refine ⟨b, off, ha, hD, Nat.lt_of_lt_of_le hlt o.size, fun j hj => ?_⟩
  have e : cs[j]? = some cs[j] := by simp [hj]
  rw [e]
  exact only_cellS o (fun h => hq (hb ▸ h)) ((hc j hj).trans e)
def Blk (w : World) (g : Nat) (t : TypeId) : Prop := ∃ cur : Array Value, w.heap[g]? = some (.cells cur t (0, 0))
theorem Blk.of {w : World} {lo e s g n c xs} (h : w.ownsRow lo e s (.slice (some ⟨g, 0, none⟩) n c) n xs) : Blk w g e := by
  rcases h.2 with ⟨h', _⟩ | ⟨g', c', cur, hv, _, hg, _⟩
  · simp at h'
  · simp only [Value.slice.injEq, Option.some.injEq, Addr.mk.injEq, and_true, true_and] at hv
    obtain ⟨rfl, _⟩ := hv
    exact ⟨cur, hg⟩
theorem Blk.keep {S : Nat → Prop} {w w' : World} {g t} (h : Blk w g t) (o : Only S w w') (hS : ¬ S g) : Blk w' g t := by
  obtain ⟨cur, hg⟩ := h
  exact ⟨cur, (o.block g (lt_of_block hg) hS).trans hg⟩
theorem Blk.free {w : World} {g t} (h : Blk w g t) (k : Nat) : w.frozen? ⟨g, k, none⟩ = false := by
  obtain ⟨cur, hg⟩ := h
  exact frozen_blk hg k
theorem Blk.set {w : World} {g t} (h : Blk w g t) (o : Nat) (vs : List Value) : Blk (w.setCells g o vs) g t := by
  obtain ⟨cur, hg⟩ := h
  exact ⟨_, setCells_row g vs o w cur t (0, 0) hg⟩
theorem bx_set {w : World} {O : Nat} {cs : List Value} {t : TypeId} (h : Bx w O cs t) (k : Nat) (v : Value) : Bx (w.setCell ⟨O, k, none⟩ v) O (cs.set k v) t := by
  unfold Bx at h ⊢
  rw [heap_setCell_self v h]
  simp
end Go.Proofs.Ytimnaiahokafaaa.Ch
