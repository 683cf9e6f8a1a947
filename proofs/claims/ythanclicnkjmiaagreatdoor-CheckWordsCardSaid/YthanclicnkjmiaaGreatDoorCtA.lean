/- check: what stage 14 needs of the elder layers (cut out). -/
import Derived.WalkKit
import Derived.WalkSpells
import Derived.WalkLawsBesides
import Derived.OneCell
import Derived.BigQuiet
import Derived.Deep.QuietTactic
import Derived.Outline
import Derived.Lib.Hide
import Derived.Deep.OwnRows
import Derived.Laws.CopyOwn
import Derived.Laws.AppendOwnNone
import Derived.Laws.Externs
import Derived.Laws.NewBlocks
import Derived.Lib.MinMax
import Derived.Lib.Walk
import Derived.LoopTactic
import Derived.RegionTactic
import Derived.BigRegion
import Derived.Deep.RegionLaw
import Derived.Deep.RegionHeld3
import Derived.OwnWalk
import Derived.Deep.DeepCutAuto
import Derived.Lib.SlTrimSet
import Derived.Lib.IndexLaws
import Derived.Lib.ParseIntB
import Derived.Shelf.Strings.SlTrimAscii
import Derived.Shelf.Strconv.Clone
import Derived.Shelf.Strings.Search2
import Derived.Shelf.Strings.Prefix
import Derived.Shelf.Pu.ParseUintPublic10
import Derived.Laws.RangeString
import Derived.Laws.RangeAny
import Derived.Shelf.Abstract
import Derived.Lib.AppendZerosOnto
import Derived.LaidEql
import Derived.Stop.Asserts
import Derived.RowKitTokens
import Derived.Recover
import Derived.Defers
import Derived.Laws.Pointers
import Derived.Lib.OthersKept
import Derived.Laws.EntriesVeiled
import Derived.Laws.StructEq
import Derived.Shelf.Strconv.Itoa3
import Derived.Lib.AppendStr
import Derived.Lib.UnsafeStr
import Derived.Lib.Builder
import Derived.Lib.ItoaLen
import Derived.Deep.Slices
import Derived.Deep.Fields
import Derived.Lib.SmallJoins
import Derived.SizedLaws
import Derived.ChangeMaps5
import Derived.Test.YthanclicnkjmiaaGreatDoorRows
namespace Go.Proofs.YthanclicnkjmiaaGreatDoor
open Go.RowKit
structure Only (S : Nat → Prop) (w w' : World) : Prop where
  os : w'.os = w.os
  tape : w'.tape = w.tape
  output : w'.output = w.output
  size : w.heap.size ≤ w'.heap.size
  block : ∀ k, k < w.heap.size → ¬ S k → w'.heap[k]? = w.heap[k]?

def Nil (_ : Nat) : Prop := False

theorem Only.refl (S : Nat → Prop) (w : World) : Only S w w := ⟨rfl, rfl, rfl, Nat.le_refl _, fun _ _ _ => rfl⟩
theorem Only.trans {S : Nat → Prop} {a b c : World} (h : Only S a b) (k : Only S b c) : Only S a c :=
  ⟨k.os.trans h.os, k.tape.trans h.tape, k.output.trans h.output, Nat.le_trans h.size k.size, fun i hi hs => (k.block i (Nat.lt_of_lt_of_le hi h.size) hs).trans (h.block i hi hs)⟩
theorem Only.mono {S T : Nat → Prop} {w w' : World} (h : Only S w w') (hS : ∀ k, S k → T k) : Only T w w' :=
  ⟨h.os, h.tape, h.output, h.size, fun k hk ht => h.block k hk (fun hs => ht (hS k hs))⟩
theorem Only.nilTo {w w' : World} (h : Only Nil w w') (S : Nat → Prop) : Only S w w' := h.mono (fun _ hk => hk.elim)
theorem Only.then {S T : Nat → Prop} {a b c : World} (h : Only S a b) (k : Only T b c) (hT : ∀ i, T i → i < a.heap.size → S i) : Only S a c :=
  ⟨k.os.trans h.os, k.tape.trans h.tape, k.output.trans h.output, Nat.le_trans h.size k.size, fun i hi hs => (k.block i (Nat.lt_of_lt_of_le hi h.size) (fun t => hs (hT i t hi))).trans (h.block i hi hs)⟩
theorem Only.setCell {S : Nat → Prop} {a w : World} (h : Only S a w) {p : Addr} (hp : S p.block) (u : Value) : Only S a (w.setCell p u) :=
  h.trans ⟨rfl, rfl, rfl, by simp [World.setCell], fun k _ hs => Below.heap_setCell _ _ _ _ (fun e => hs (e ▸ hp))⟩
theorem Only.alloc {S : Nat → Prop} {a w : World} (h : Only S a w) (o : Obj) : Only S a (w.alloc o) :=
  h.trans ⟨rfl, rfl, rfl, by simp, fun k hk _ => Below.heap_alloc _ _ _ hk⟩
theorem Only.drew {S : Nat → Prop} {a w : World} (h : Only S a w) : Only S a w.drew := ⟨h.os, h.tape, h.output, h.size, h.block⟩
theorem Only.drewN {S : Nat → Prop} {a w : World} (h : Only S a w) (n : Nat) : Only S a (w.drewN n) := ⟨h.os, h.tape, h.output, h.size, h.block⟩
theorem Only.below {S : Nat → Prop} {w w' : World} (h : Only S w w') {B : Nat} (hB : B ≤ w.heap.size) (hS : ∀ k, S k → B ≤ k) : Below B w w' :=
  ⟨h.os, h.tape, h.output, h.size, fun k hk => h.block k (by omega) (fun s => by have := hS k s; omega)⟩
theorem Only.ofBelow {w w' : World} (h : Below w.heap.size w w') (S : Nat → Prop) : Only S w w' := ⟨h.os, h.tape, h.output, h.size, fun k hk _ => h.block k hk⟩
theorem Only.fresh {S : Nat → Prop} {w w' : World} (h : Only S w w') (hS : ∀ k, S k → w.heap.size ≤ k) : Only Nil w w' :=
  ⟨h.os, h.tape, h.output, h.size, fun k hk _ => h.block k hk (fun s => by have := hS k s; omega)⟩
theorem Only.ofGrown {w w' : World} {row : Option Nat} (h : w.grownBy w' row) : Only (fun k => some k = row) w w' := ⟨h.os, h.tape, h.output, h.size, h.block⟩

theorem heap_new (w : World) (o : Obj) : (w.alloc o).heap[w.heap.size]? = some o := by
  show (w.heap.push o)[w.heap.size]? = _
  simp
theorem heap_setCell_self {w : World} {b o : Nat} {vs : Array Value} {t : TypeId} {m : Nat × Nat} (u : Value) (h : w.heap[b]? = some (.cells vs t m)) :
    (w.setCell ⟨b, o, none⟩ u).heap[b]? = some (.cells (vs.setIfInBounds o u) t m) := by
  have hlt := lt_of_block h
  have h' : w.heap[b] = .cells vs t m := by simpa [Array.getElem?_eq_getElem hlt] using h
  show (w.heap.modify b _)[b]? = _
  rw [Array.getElem?_eq_getElem (by simpa using hlt), Array.getElem_modify_self, h']
  rfl
theorem add_lit0 (g o j : Nat) : (⟨g, o, none⟩ : Addr).add j = ⟨g, o + j, none⟩ := by unfold Addr.add; split <;> simp_all
theorem quiet_same {P : Program} {f : FuncId} {args : Array Value} {w : World} {n : Nat} {v : Value}
    (h : Calls P f args (w.drewN n) fun e w' => e = .returned v ∧ w.drewN n = w') : Calls P f args (w.drewN n) fun e w'' => e = .returned v ∧ ∃ m, w'' = w.drewN m :=
  h.mono fun _ _ ⟨he, hm⟩ => ⟨he, n, hm.symm⟩

theorem blk_ne {w : World} {a b : Nat} {x y : Array Value} {t u : TypeId} {m m' : Nat × Nat} (h : w.heap[a]? = some (.cells x t m)) (h' : w.heap[b]? = some (.cells y u m')) (ht : t ≠ u) : a ≠ b := by
  rintro rfl
  rw [h] at h'
  injection h' with h'
  injection h' with _ e
  exact ht e
theorem own_keep {S : Nat → Prop} {w w' : World} {base : Nat} {e : TypeId} {s n : Nat} {v : Value} {xs : List Value} (h : w.ownsRow base e s v n xs) (o : Only S w w') (hS : ∀ k, some k = v.ownBlock → ¬ S k) : w'.ownsRow base e s v n xs := by
  refine ⟨h.1, h.2.imp id ?_⟩
  rintro ⟨g, c, cur, h1, h2, h3, h4⟩
  exact ⟨g, c, cur, h1, h2, (o.block g (lt_of_block h3) (hS g (by rw [h1]; rfl))).trans h3, h4⟩
theorem own_slice_n {w : World} {b : Nat} {e : TypeId} {s : Nat} {v : Value} {n : Nat} {xs : List Value} (h : w.ownsRow b e s v n xs) : ∃ a c, v = .slice a n c := by
  rcases h.2 with ⟨rfl, rfl⟩ | ⟨g, c, _, h, _⟩
  · exact ⟨none, 0, rfl⟩
  · exact ⟨_, c, h⟩
theorem results_agg {P : Program} {fn : Func} {p : Tmp} {ty te : TypeId} (h : fn.results = #[.cell p ty]) (tmps : Array Value) (w : World) (b : Nat) (cs : List Value)
    (hag : ∀ w, (isAgg ty).run P w = .ok true w) (hsz : ∀ w, (Go.sizeOf ty).run P w = .ok cs.length w) (hp : tmps.getD p undef = .pointer (some ⟨b, 0, none⟩)) (hc : w.heap[b]? = some (.cells cs.toArray te (0, 0))) :
    (results fn tmps).run P w = .ok (.agg cs.toArray) w := by
  have hp' : tmps[p]?.getD undef = .pointer (some ⟨b, 0, none⟩) := by simpa using hp
  have hl := run_loadCells_list (P := P) w ⟨b, 0, none⟩ cs (fun j v hj => by
    have e : (⟨b, 0, none⟩ : Addr).add j = ⟨b, j, none⟩ := by unfold Addr.add; split <;> simp_all
    rw [e, cell_of_row w b j _ _ _ hc]; simpa using hj)
  simp only [results, h]
  simp [Sem.run_bind, Result.andThen, asAddr, loadVar, hag, hsz, hp', hl]

def RowOf (a : Option Addr) (q : Nat) : Prop := ∃ x, a = some x ∧ q = x.block
def SameOrNew (w : World) (a a' : Option Addr) : Prop := ∀ x, a' = some x → (∃ y, a = some y ∧ x.block = y.block) ∨ w.heap.size ≤ x.block

theorem run_append_new {P : Program} (w : World) (t ty e : TypeId) (i : TypeInfo) (z : Value) (size bytes : Nat) (ht : P.underlying t = some (.slice e)) (hi : P.info? e = some i) (hz : i.zero = some z)
    (hsize : i.size = size) (hby : i.bytes = bytes) (hzs : z.cells.size = size) (a : Option Addr) (n : Nat) (xs : List Value) (hown : w.ownsRow 0 e size (.slice a n n) n xs)
    (ad : Addr) (m c : Nat) (hm : 0 < m) (news : List Value) (hl : news.length = m * size) (hnews : ∀ j u, news[j]? = some u → w.cell? (ad.add j) = some u)
    (h63 : n + m ≤ maxLen) (hbytes : (n + m) * bytes ≤ 140737488355328) :
    ∃ c' w', (Builtin.append_ #[t, t] ty #[.slice a n n, .slice (some ad) m c]).run P w = .ok (.slice (some ⟨w.heap.size, 0, none⟩) (n + m) c') w' ∧
      w'.ownsRow 0 e size (.slice (some ⟨w.heap.size, 0, none⟩) (n + m) c') (n + m) (xs ++ news) ∧ Only Nil w w' := by
  subst hsize
  subst hby
  have hlen : (xs ++ news).length = (n + m) * i.size := by rw [List.length_append, hown.1, hl, Nat.add_mul]
  have h63' : n + m ≤ 9223372036854775807 := by simp only [maxLen] at h63; omega
  have grown : (w.drew.alloc (.cells (xs.toArray ++ news.toArray ++ Builtin.zeroCells z.cells (grownCap w (n + m) n e - (n + m))) e)).ownsRow 0 e i.size
        (.slice (some ⟨w.heap.size, 0, none⟩) (n + m) (grownCap w (n + m) n e)) (n + m) (xs ++ news) ∧
      Only Nil w (w.drew.alloc (.cells (xs.toArray ++ news.toArray ++ Builtin.zeroCells z.cells (grownCap w (n + m) n e - (n + m))) e)) := by
    have hge := grownCap_ge w (n + m) n e
    have hcm : grownCap w (n + m) n e ≤ maxLen := grownCap_le_maxLen w (n + m) n e h63
    refine ⟨⟨hlen, .inr ⟨w.heap.size, _, _, rfl, Nat.zero_le _, heap_alloc_new w.drew _, hge, hcm, ?_, ?_⟩⟩, (Only.refl Nil w).drew.alloc _⟩
    · simp only [Array.size_append, List.size_toArray, size_zeroCells, hzs, hown.1, hl, ← Nat.add_mul]
      congr 1
      omega
    · simp only [Array.toList_append, List.append_assoc]
      rw [← List.append_assoc, ← hlen]
      exact List.take_left
  rcases hown.2 with ⟨e1, e2⟩ | ⟨g, cap, cur, e1, hbg, hg, hnc, hcm, hcs, htake⟩
  · simp only [Value.slice.injEq] at e1
    obtain ⟨rfl, rfl, _⟩ := e1
    have hx : xs = [] := List.eq_nil_of_length_eq_zero (by simpa using hown.1)
    subst hx
    have hr := run_append_nil (P := P) w t ty e i z ht hi hz ad m c news hl hnews (by omega) (by omega) (by have hb := hbytes; simp only [Nat.zero_add] at hb; omega)
    simp only [Nat.zero_add, List.nil_append, Array.empty_append] at grown ⊢
    exact ⟨_, _, hr, grown.1, grown.2⟩
  · simp only [Value.slice.injEq] at e1
    obtain ⟨rfl, _, rfl⟩ := e1
    have holds : ∀ j u, xs[j]? = some u → w.cell? ((⟨g, 0, none⟩ : Addr).add j) = some u := hown.cells (g := g) rfl
    have hr := run_append_grow (P := P) w t ty e i z ht hi hz ⟨g, 0, none⟩ n n xs hown.1 holds ad m c news hl hnews (by omega) (by omega) (growslice_fits (by omega) hbytes)
    exact ⟨_, _, hr, grown.1, grown.2⟩

theorem run_append_end {P : Program} {w : World} {t ty e : TypeId} {z : Value} {size bytes : Nat} (ht : P.underlying t = some (.slice e)) (hi : (P.info? e).map (fun i => (i.zero, i.size, i.bytes)) = some (some z, size, bytes)) (hzs : z.cells.size = size)
    {a : Option Addr} {len cap : Nat} {xs : List Value} (hown : w.ownsRow 0 e size (.slice a len cap) len xs) (ad : Addr) (news : List Value) (hl : news.length = size) (hone : ∀ u ∈ news, u.oneCell' = true)
    (hnews : ∀ j u, news[j]? = some u → w.cell? (ad.add j) = some u) (lle : len ≤ 65536) (hb : bytes ≤ 65536) :
    ∃ a' cap' w', (Builtin.append_ #[t, t] ty #[.slice a len cap, .slice (some ad) 1 1]).run P w = .ok (.slice a' (len + 1) cap') w' ∧
      w'.ownsRow 0 e size (.slice a' (len + 1) cap') (len + 1) (xs ++ news) ∧ Only (RowOf a) w w' ∧ SameOrNew w a a' := by
  obtain ⟨i0, hi0, hz0, hz1, hz2⟩ := info_parts hi
  by_cases hroom : len + 1 ≤ cap
  · rcases hown.2 with ⟨e, e2⟩ | ⟨g, c, cur, e, _, _, hc, _⟩
    · simp only [Value.slice.injEq] at e; omega
    · simp only [Value.slice.injEq] at e
      obtain ⟨rfl, _, rfl⟩ := e
      obtain ⟨w', hr, ho, hg⟩ := run_append_fits (P := P) w 0 t ty _ i0 size ht hi0 hz1 g len cap xs hown ad 1 1 news (by rw [hl]; omega) hnews hone hroom
      exact ⟨_, _, w', hr, ho, (Only.ofGrown hg).mono (fun q hq => by simp at hq; exact ⟨_, rfl, hq⟩), fun x hx => .inl ⟨x, hx, rfl⟩⟩
  · obtain rfl : cap = len := by
      rcases hown.2 with ⟨e, e2⟩ | ⟨g, c, cur, e, _, _, hc, _⟩
      · simp only [Value.slice.injEq] at e; omega
      · simp only [Value.slice.injEq] at e; omega
    have hbb : (cap + 1) * bytes ≤ 65537 * 65536 := Nat.mul_le_mul (by omega) hb
    obtain ⟨c', w', hr, ho, hg⟩ := run_append_new (P := P) w t ty _ i0 _ size bytes ht hi0 hz0 hz1 hz2 hzs a cap xs hown ad 1 1 (by decide) news (by rw [hl]; omega) hnews (by unfold maxLen; omega) (by omega)
    exact ⟨_, _, w', hr, ho, hg.nilTo _, fun x hx => .inr (by simp only [Option.some.injEq] at hx; rw [← hx]; exact Nat.le_refl _)⟩
end Go.Proofs.YthanclicnkjmiaaGreatDoor
namespace Go.Proofs.YthanclicnkjmiaaGreatDoor.Lx
open Go.RowKit Go.Proofs.YthanclicnkjmiaaGreatDoor
def bs (l : List UInt8) : ByteArray := ⟨l.toArray⟩
@[simp] theorem bs_list (l : List UInt8) : (bs l).data.toList = l := by simp [bs]
@[simp] theorem bs_size (l : List UInt8) : (bs l).size = l.length := by simp [bs, ByteArray.size]
theorem bs_of (s : ByteArray) : bs s.data.toList = s := by cases s; simp [bs]
def isBl (c : UInt8) : Bool := c == 9 || c == 10 || c == 13 || c == 32
def isLe (c : UInt8) : Bool := decide (97 ≤ c.toNat) && decide (c.toNat ≤ 122)
def isDi (c : UInt8) : Bool := decide (48 ≤ c.toNat) && decide (c.toNat ≤ 57)
def isWd (c : UInt8) : Bool := isLe c || isDi c || c == 95
def isSg (c : UInt8) : Bool := c == 123 || c == 125 || c == 59

def sk : Bool → List UInt8 → List UInt8
  | _, [] => []
  | false, c :: r => if isBl c then sk false r else if c == 35 then sk true r else c :: r
  | true, c :: r => if c == 10 then sk false r else sk true r
def vl (a : Nat) (l : List UInt8) : Nat := l.foldl (fun b c => b * 10 + (c.toNat - 48)) a
structure Tok where
  k : Nat
  w : List UInt8
  n : Nat
deriving Inhabited, DecidableEq
def tok : List UInt8 → Nat × Tok
  | [] => (20, default)
  | c :: r =>
    if isLe c then (if 16 < ((c :: r).takeWhile isWd).length then (22, default) else (0, ⟨1, (c :: r).takeWhile isWd, 0⟩))
    else if isDi c then (if ((c :: r).takeWhile isWd).all isDi && decide (vl 0 ((c :: r).takeWhile isWd) ≤ 65535) then (0, ⟨2, (c :: r).takeWhile isWd, vl 0 ((c :: r).takeWhile isWd)⟩) else (21, default))
    else if isSg c then (0, ⟨3, [c], 0⟩)
    else (20, default)

def lx : Nat → Nat → List UInt8 → List (Tok × Nat) × (Nat × Nat)
  | 0, _, _ => ([], 0, 0)
  | n + 1, N, l =>
    match sk false l with
    | [] => ([], 0, 0)
    | c :: r =>
      if (tok (c :: r)).1 = 0 then
        (((tok (c :: r)).2, N - (r.length + 1)) :: (lx n N ((c :: r).drop (tok (c :: r)).2.w.length)).1, (lx n N ((c :: r).drop (tok (c :: r)).2.w.length)).2)
      else ([], (tok (c :: r)).1, N - (r.length + 1))
def LX (N : Nat) (l : List UInt8) : List (Tok × Nat) × (Nat × Nat) := lx (l.length + 1) N l

def whole (s : List UInt8) : List (Tok × Nat) × (Nat × Nat) := if 16384 < s.length then ([], 5, 0) else LX s.length s

end Go.Proofs.YthanclicnkjmiaaGreatDoor.Lx
namespace Go.Proofs.YthanclicnkjmiaaGreatDoor.Lx
open Go.RowKit Go.Proofs.YthanclicnkjmiaaGreatDoor Go.Shelf
theorem isLetter_any (r : Int) (w : World) : Calls Tryz.prog 79 #[.int .i32 r] w fun e w' => e = .returned (.bool (decide (97 ≤ r) && decide (r ≤ 122))) ∧ w = w' := by
  by_cases h1 : 97 ≤ r <;> by_cases h2 : r ≤ 122 <;>
  · go_enter Tryz.func79, Tryz.ntmps79
    go_wp2
    go_ret
    exact ⟨by simp [h1, h2], rfl⟩
theorem isDigit_any (r : Int) (w : World) : Calls Tryz.prog 82 #[.int .i32 r] w fun e w' => e = .returned (.bool (decide (48 ≤ r) && decide (r ≤ 57))) ∧ w = w' := by
  by_cases h1 : 48 ≤ r <;> by_cases h2 : r ≤ 57 <;>
  · go_enter Tryz.func82, Tryz.ntmps82
    go_wp2
    go_ret
    exact ⟨by simp [h1, h2], rfl⟩
def ends (r : Int) : Bool := !(decide (97 ≤ r) && decide (r ≤ 122)) && !(decide (48 ≤ r) && decide (r ≤ 57)) && (r != 95)
theorem word1_any (r : Int) (w : World) : Calls Tryz.prog 124 #[.int .i32 r] w fun e w' => e = .returned (.bool (ends r)) ∧ w = w' := by
  have fin : ∀ b w', Ending.returned (.bool b) = .returned (.bool (ends r)) ∧ w = w' ↔ b = ends r ∧ w = w' := by intro b w'; simp
  generalize hL : (decide (97 ≤ r) && decide (r ≤ 122)) = bl
  generalize hD : (decide (48 ≤ r) && decide (r ≤ 57)) = bd
  have e : ends r = (!bl && !bd && (r != 95)) := by unfold ends; rw [hL, hD]
  have HL : Hid ((decide (97 ≤ r) && decide (r ≤ 122)) = bl) := Lib.hid hL
  have HD : Hid ((decide (48 ≤ r) && decide (r ≤ 57)) = bd) := Lib.hid hD
  have he := Lib.hid e
  clear hL hD e fin
  cases h5 : (r == 95) with
  | true =>
    obtain rfl : r = 95 := by simpa using h5
    clear h5
    cases bl <;> cases bd <;>
    · go_enter Tryz.func124, Tryz.ntmps124
      go_wp2_with (first
        | (go_at_call 79; refine (isLetter_any 95 _).mono ?_; rintro e w' ⟨rfl, rfl⟩; rw [HL.out])
        | (go_at_call 82; refine (isDigit_any 95 _).mono ?_; rintro e w' ⟨rfl, rfl⟩; rw [HD.out]))
      go_ret
      exact ⟨by rw [he.out]; simp, rfl⟩
  | false =>
    have h6 : (r != 95) = true := by simp [bne, h5]
    cases bl <;> cases bd <;>
    · go_enter Tryz.func124, Tryz.ntmps124
      go_wp2_with (first
        | (go_at_call 79; refine (isLetter_any r _).mono ?_; rintro e w' ⟨rfl, rfl⟩; rw [HL.out])
        | (go_at_call 82; refine (isDigit_any r _).mono ?_; rintro e w' ⟨rfl, rfl⟩; rw [HD.out]))
      go_ret
      exact ⟨by rw [he.out, h6]; rfl, rfl⟩
end Go.Proofs.YthanclicnkjmiaaGreatDoor.Lx
namespace Go.Proofs.YthanclicnkjmiaaGreatDoor.Lx
open Go.RowKit Go.Proofs.YthanclicnkjmiaaGreatDoor Go.Shelf
theorem bs_extract (l : List UInt8) (a b : Nat) : (bs l).extract a b = bs ((l.take b).drop a) := by
  have : ((bs l).extract a b).data.toList = (l.take b).drop a := by simp [bs, List.drop_take]
  rw [← this, bs_of]
def ahead (l : List UInt8) : ByteArray := if Lib.indexByte l 10 = -1 then bs l else bs (l.take (Lib.indexByte l 10).toNat)
def found (l : List UInt8) : Bool := !(Lib.indexByte l 10 == -1)
end Go.Proofs.YthanclicnkjmiaaGreatDoor.Lx
namespace Go.Proofs.YthanclicnkjmiaaGreatDoor.Lx
open Go.RowKit Go.Proofs.YthanclicnkjmiaaGreatDoor Go.Shelf
def wn (l : List UInt8) : Nat := (l.takeWhile isWd).length
theorem wn_le (l : List UInt8) : wn l ≤ l.length := (List.takeWhile_prefix isWd).length_le
theorem wn_in (l : List UInt8) (k : Nat) (h : k < wn l) : ∃ hk : k < l.length, isWd l[k] = true := by
  have hk : k < l.length := Nat.lt_of_lt_of_le h (wn_le l)
  refine ⟨hk, ?_⟩
  have hp : l.takeWhile isWd <+: l := List.takeWhile_prefix isWd
  have e : (l.takeWhile isWd)[k]'h = l[k] := hp.getElem h
  have hm : (l.takeWhile isWd)[k]'h ∈ l.takeWhile isWd := List.getElem_mem _
  rw [← e]
  exact List.all_eq_true.1 (List.all_takeWhile (l := l) (p := isWd)) _ hm
theorem wn_end (l : List UInt8) (h : wn l < l.length) : isWd l[wn l] = false := by
  induction l with
  | nil => simp at h
  | cons c r ih =>
    by_cases hc : isWd c = true
    · have e : wn (c :: r) = wn r + 1 := by simp [wn, hc]
      have h' : wn r < r.length := by simp [e] at h; exact h
      have := ih h'
      simp only [e, List.getElem_cons_succ]
      exact this
    · have e : wn (c :: r) = 0 := by simp [wn, hc]
      simp only [e, List.getElem_cons_zero]
      simpa using hc
theorem ends_low (c : UInt8) : ends (c.toNat : Int) = !isWd c := by
  have e : (((c.toNat : Nat) : Int) != 95) = !(c == 95) := by
    rw [Bool.eq_iff_iff]
    have : c = 95 ↔ c.toNat = 95 := ⟨fun h => by rw [h]; rfl, fun h => UInt8.toNat_inj.1 h⟩
    simp [this]
    omega
  unfold ends isWd isLe isDi
  rw [e]
  have h1 : decide ((97 : Int) ≤ (c.toNat : Int)) = decide (97 ≤ c.toNat) := by simp only [decide_eq_decide]; omega
  have h2 : decide ((c.toNat : Int) ≤ 122) = decide (c.toNat ≤ 122) := by simp only [decide_eq_decide]; omega
  have h3 : decide ((48 : Int) ≤ (c.toNat : Int)) = decide (48 ≤ c.toNat) := by simp only [decide_eq_decide]; omega
  have h4 : decide ((c.toNat : Int) ≤ 57) = decide (c.toNat ≤ 57) := by simp only [decide_eq_decide]; omega
  rw [h1, h2, h3, h4]
  simp
theorem ends_high (r : Int) (h : 128 ≤ r) : ends r = true := by
  have h1 : decide (r ≤ 122) = false := by simp; omega
  have h2 : decide (r ≤ 57) = false := by simp; omega
  have h3 : (r != 95) = true := by simp; omega
  simp [ends, h1, h2, h3]
theorem bs_get (l : List UInt8) (k : Nat) (h : k < (bs l).size) : (bs l)[k]'h = l[k]'(by simpa using h) := by
  exact List.getElem_toArray (by simpa using h)
theorem isWd_low {c : UInt8} (h : isWd c = true) : c.toNat < 128 := by
  simp [isWd, isLe, isDi] at h
  rcases h with (h | h) | h
  · omega
  · omega
  · subst h; decide
theorem ends_at (l : List UInt8) (k : Nat) (h : k < l.length) (hk : k ≤ wn l) : ends (Utf8.decode (bs l) k).1 = decide (wn l ≤ k) ∧ (k < wn l → (Utf8.decode (bs l) k).2 = 1) := by
  have hs : k < (bs l).size := by simpa using h
  by_cases hlt : k < wn l
  · obtain ⟨_, hw⟩ := wn_in l k hlt
    have e := decode_ascii (bs l) k hs (by rw [bs_get]; exact isWd_low hw)
    rw [e, bs_get]
    refine ⟨?_, fun _ => rfl⟩
    rw [ends_low, hw]
    simp; omega
  · have hk' : k = wn l := by omega
    refine ⟨?_, fun h => absurd h hlt⟩
    have hw : isWd l[k] = false := by subst hk'; exact wn_end l h
    by_cases ha : ((bs l)[k]'hs).toNat < 128
    · rw [decode_ascii _ _ hs ha, bs_get, ends_low]
      have e2 : (!isWd (l[k]'h)) = decide (wn l ≤ k) := by
        have : isWd (l[k]'h) = false := hw
        rw [this]
        simp; omega
      exact e2
    · rw [ends_high _ (by have := (decode_high (bs l) k hs (by omega)).1; omega)]
      simp; omega
def wi (l : List UInt8) : Int := if wn l < l.length then (wn l : Int) else -1

theorem only_iter {w w' : World} (h : Only Nil w w') (s : ByteArray) (k : Nat) : Only Nil w (w'.iter s k) := h.alloc _

set_option maxHeartbeats 1000000 in
theorem indexFunc_any (l : List UInt8) (w : World) : Calls Tryz.prog 163 #[.string (bs l), .func (.func 124) #[] #[], .bool true] w fun e w' => e = .returned (.int .i64 (wi l)) ∧ Only Nil w w' := by
  have eg := enters_of Tryz.func124 (by kernel_rfl) rfl
  have hz : (bs l).size = l.length := bs_size l
  go_enter Tryz.func163, Tryz.ntmps163
  go_wp2
  go_loopw [] (fun wr => ∃ k : Nat, k ≤ wn l ∧ wr = w.iter (bs l) k) (fun wr => l.length - wr.iterPos w.heap.size)
  case atStart => exact ⟨0, Nat.zero_le _, rfl⟩
  case round =>
    obtain ⟨k, hk, rfl⟩ := hrel
    by_cases hp : k < l.length
    · have hp' : k < (bs l).size := by rw [hz]; exact hp
      obtain ⟨he, h1⟩ := ends_at l k hp hk
      have hnx : ∀ ty, (Instr.next (.pointer (some ⟨w.heap.size, 0, none⟩)) true ty).run Tryz.prog (w.iter (bs l) k) = _ := fun ty => run_next_any w (bs l) k ty hp'
      generalize (Utf8.decode (bs l) k).1 = r at he hnx
      generalize (Utf8.decode (bs l) k).2 = d at h1 hnx
      have HE := Lib.hid he
      have H1 := Lib.hid h1
      clear he h1 hz
      by_cases hlt : k < wn l
      · have hd : decide (wn l ≤ k) = false := by simp; omega
        have HD := Lib.hid hd
        clear hd
        go_wp2_with (go_at_call 124; refine (word1_any r _).mono ?_; rintro e w' ⟨rfl, rfl⟩; rw [HE.out, HD.out])
        go_roundw
        case rel =>
          obtain rfl := H1.out hlt
          exact ⟨k + 1, hlt, rfl⟩
        case measure =>
          obtain rfl := H1.out hlt
          simp; omega
      · have hd : decide (wn l ≤ k) = true := by simp; omega
        have HD := Lib.hid hd
        clear hd
        go_wp2_with (go_at_call 124; refine (word1_any r _).mono ?_; rintro e w' ⟨rfl, rfl⟩; rw [HE.out, HD.out])
        go_ret
        refine ⟨?_, only_iter (Only.refl _ _) _ _⟩
        have : wn l = k := by omega
        unfold wi
        rw [this, if_pos hp]
        rfl
    · have hp' : ¬ k < (bs l).size := by rw [hz]; exact hp
      have hnx : ∀ ty, (Instr.next (.pointer (some ⟨w.heap.size, 0, none⟩)) true ty).run Tryz.prog (w.iter (bs l) k) = _ := fun ty => run_next_end w (bs l) k ty hp'
      clear hz
      go_wp2
      go_ret
      refine ⟨?_, only_iter (Only.refl _ _) _ _⟩
      have := wn_le l
      unfold wi
      rw [if_neg (by omega)]
      rfl
end Go.Proofs.YthanclicnkjmiaaGreatDoor.Lx
namespace Go.Proofs.YthanclicnkjmiaaGreatDoor.Lx
open Go.RowKit Go.Proofs.YthanclicnkjmiaaGreatDoor Go.Shelf
theorem indexF_any (l : List UInt8) (w : World) : Calls Tryz.prog 123 #[.string (bs l), .func (.func 124) #[] #[]] w fun e w' => e = .returned (.int .i64 (wi l)) ∧ Only Nil w w' := by
  go_enter Tryz.func123, Tryz.ntmps123
  go_wp2_with (go_at_call 163; refine (indexFunc_any l _).mono ?_; rintro e w' ⟨rfl, o⟩)
  go_ret
  exact ⟨rfl, o⟩
theorem take_wn (l : List UInt8) : l.take (wn l) = l.takeWhile isWd := by
  have h := List.takeWhile_prefix (l := l) isWd
  exact (List.prefix_iff_eq_take.1 h).symm
theorem word_any (l : List UInt8) (w : World) : Calls Tryz.prog 81 #[.string (bs l)] w fun e w' => e = .returned (.string (bs (l.takeWhile isWd))) ∧ Only Nil w w' := by
  have hle := wn_le l
  rw [← take_wn]
  have hs : (bs l).size = l.length := bs_size l
  by_cases h : wn l < l.length
  · have H : Hid (wi l = (wn l : Int)) := Lib.hid (if_pos h)
    have hd : decide ((wn l : Int) < 0) = false := by simp
    generalize hn : wn l = n at *
    clear hn
    go_enter Tryz.func81, Tryz.ntmps81
    go_wp2_with (go_at_call 123; refine (indexF_any l _).mono ?_; rintro e w' ⟨rfl, o⟩; rw [H.out])
    go_ret
    refine ⟨?_, o⟩
    simp only [bs_extract]
    rfl
  · have H : Hid (wi l = -1) := Lib.hid (if_neg h)
    have e : l.take (wn l) = l := List.take_of_length_le (by omega)
    rw [e]
    clear e h hle hs
    go_enter Tryz.func81, Tryz.ntmps81
    go_wp2_with (go_at_call 123; refine (indexF_any l _).mono ?_; rintro e w' ⟨rfl, o⟩; rw [H.out])
    go_ret
    exact ⟨rfl, o⟩

structure Env (w : World) : Prop where
  et : w.cell? ⟨0, 0, none⟩ = some (.iface 139 (.agg #[.pointer (some ⟨9, 27, none⟩)]))
  sy : ∃ te pe, w.cell? ⟨5, 0, none⟩ = some (.iface te pe)
  ra : ∃ te pe, w.cell? ⟨6, 0, none⟩ = some (.iface te pe)
theorem cell_lt {w : World} {b o : Nat} {v : Value} (h : w.cell? ⟨b, o, none⟩ = some v) : b < w.heap.size := by
  rcases Nat.lt_or_ge b w.heap.size with hlt | hge
  · exact hlt
  · simp [World.cell?, Array.getElem?_eq_none hge] at h
theorem only_cell {w w' : World} (o : Only Nil w w') {b k : Nat} {v : Value} (h : w.cell? ⟨b, k, none⟩ = some v) : w'.cell? ⟨b, k, none⟩ = some v := by
  have := o.block b (cell_lt h) (fun q => q.elim)
  simp only [World.cell?] at h ⊢
  rw [this]; exact h
theorem Env.keep {w w' : World} (h : Env w) (o : Only Nil w w') : Env w' :=
  ⟨only_cell o h.et, h.sy.elim fun te k => k.elim fun pe e => ⟨te, pe, only_cell o e⟩, h.ra.elim fun te k => k.elim fun pe e => ⟨te, pe, only_cell o e⟩⟩

end Go.Proofs.YthanclicnkjmiaaGreatDoor.Lx
namespace Go.Proofs.YthanclicnkjmiaaGreatDoor.Lx
open Go.RowKit Go.Proofs.YthanclicnkjmiaaGreatDoor Go.Shelf
def tv (t : Tok) (q : Nat) : Value := .agg #[.int .i64 t.k, .string (bs t.w), .int .i64 t.n, .int .i64 q]

theorem isLetter_c (c : UInt8) (w : World) : Calls Tryz.prog 79 #[.int .i32 (c.toNat : Int)] w fun e w' => e = .returned (.bool (isLe c)) ∧ w = w' := by
  have h1 : decide ((97 : Int) ≤ (c.toNat : Int)) = decide (97 ≤ c.toNat) := by simp only [decide_eq_decide]; omega
  have h2 : decide ((c.toNat : Int) ≤ 122) = decide (c.toNat ≤ 122) := by simp only [decide_eq_decide]; omega
  have := isLetter_any (c.toNat : Int) w
  rw [h1, h2] at this
  exact this
theorem bs_zero (c : UInt8) (r : List UInt8) (h : 0 < (bs (c :: r)).size) : (bs (c :: r))[0]'h = c := by rw [bs_get]; rfl

theorem first_byte (c : UInt8) (r : List UInt8) (h : 0 < (bs (c :: r)).size) : wrap32 (((bs (c :: r))[0]'h).toNat : Int) = (c.toNat : Int) := by
  rw [bs_zero]
  have := c.toNat_lt
  unfold wrap32
  omega
end Go.Proofs.YthanclicnkjmiaaGreatDoor.Lx
namespace Go.Proofs.YthanclicnkjmiaaGreatDoor.Lx
open Go.RowKit Go.Proofs.YthanclicnkjmiaaGreatDoor Go.Extern.Stop Go.Stop Go.Extern
theorem r_methodKind (h : Value) (w : World) : (Go.method 410 139 (.agg #[h]) "Kind").run Tryz.prog w = .ok (254, h) w := by kernel_rfl
theorem r_methodElem (h : Value) (w : World) : (Go.method 410 139 (.agg #[h]) "Elem").run Tryz.prog w = .ok (263, .agg #[h]) w := by kernel_rfl
theorem r_methodImplements (h : Value) (w : World) : (Go.method 410 139 (.agg #[h]) "Implements").run Tryz.prog w = .ok (264, .agg #[h]) w := by kernel_rfl
theorem r_methodAssignableTo (h : Value) (w : World) : (Go.method 410 139 (.agg #[h]) "AssignableTo").run Tryz.prog w = .ok (261, .agg #[h]) w := by kernel_rfl
end Go.Proofs.YthanclicnkjmiaaGreatDoor.Lx
namespace Go.Proofs.YthanclicnkjmiaaGreatDoor.Lx
open Go.RowKit Go.Proofs.YthanclicnkjmiaaGreatDoor
def Stop (R : List UInt8) : Prop := ∀ d R', R = d :: R' → isWd d = false
end Go.Proofs.YthanclicnkjmiaaGreatDoor.Lx
namespace Go.Proofs.YthanclicnkjmiaaGreatDoor.Lx
open Go.RowKit Go.Proofs.YthanclicnkjmiaaGreatDoor
def kN (z : Nat) : Nat :=
  if z = 9 ∨ z = 10 ∨ z = 13 ∨ z = 32 then 1 else if 97 ≤ z ∧ z ≤ 122 then 2 else if 48 ≤ z ∧ z ≤ 57 then 3 else if z = 95 then 4
  else if z = 123 ∨ z = 125 ∨ z = 59 then 5 else if z = 35 then 6 else 0
theorem u8_eq {c d : UInt8} : (c == d) = true ↔ c.toNat = d.toNat :=
  ⟨fun h => by rw [eq_of_beq h], fun h => by rw [UInt8.toNat_inj.1 h]; exact beq_self_eq_true d⟩
theorem le_iff (c : UInt8) : isLe c = true ↔ 97 ≤ c.toNat ∧ c.toNat ≤ 122 := by simp [isLe]
theorem di_iff (c : UInt8) : isDi c = true ↔ 48 ≤ c.toNat ∧ c.toNat ≤ 57 := by simp [isDi]
theorem un_iff (c : UInt8) : (c == 95) = true ↔ c.toNat = 95 := u8_eq
theorem wd_iff (c : UInt8) : isWd c = true ↔ kN c.toNat = 2 ∨ kN c.toNat = 3 ∨ kN c.toNat = 4 := by
  simp only [isWd, Bool.or_eq_true, le_iff, di_iff, un_iff]
  unfold kN
  (repeat' split) <;> omega
theorem kN_2 {c : UInt8} (h : kN c.toNat = 2) : isLe c = true := by
  rw [le_iff]; unfold kN at h; (repeat' split at h) <;> omega
theorem not_of {b : Bool} (h : ¬ b = true) : b = false := by simpa using h
theorem tw_self {p : UInt8 → Bool} {l : List UInt8} (h : ∀ x ∈ l, p x = true) : l.takeWhile p = l := by
  induction l with
  | nil => rfl
  | cons d D ih => rw [List.takeWhile_cons, if_pos (h d (List.mem_cons_self ..)), ih (fun x hx => h x (List.mem_cons_of_mem _ hx))]
theorem tw_mem {p : UInt8 → Bool} {l : List UInt8} : ∀ x ∈ l.takeWhile p, p x = true := fun x hx => List.all_eq_true.1 (List.all_takeWhile (l := l) (p := p)) x hx
end Go.Proofs.YthanclicnkjmiaaGreatDoor.Lx
namespace Go.Proofs.YthanclicnkjmiaaGreatDoor.Lx
open Go.RowKit Go.Proofs.YthanclicnkjmiaaGreatDoor
def isNm : List UInt8 → Bool
  | [] => false
  | c :: r => isLe c && decide (r.length + 1 ≤ 16) && (c :: r).all isWd
theorem nm_c (c : UInt8) (r : List UInt8) : isNm (c :: r) = (isLe c && decide (r.length + 1 ≤ 16) && (c :: r).all isWd) := rfl
theorem nm_iff (c : UInt8) (r : List UInt8) : isNm (c :: r) = true ↔ isLe c = true ∧ r.length + 1 ≤ 16 ∧ (c :: r).all isWd = true := by
  rw [nm_c, Bool.and_eq_true, Bool.and_eq_true, decide_eq_true_eq, and_assoc]
theorem all_take {l : List UInt8} (h : l.all isWd = true) : l.takeWhile isWd = l := tw_self fun x hx => List.all_eq_true.1 h x hx
theorem len_take {l : List UInt8} (h : ¬ l.all isWd = true) : (l.takeWhile isWd).length ≠ l.length := fun e => h (by
  have : l.takeWhile isWd = l := (List.takeWhile_prefix isWd).eq_of_length e
  rw [← this]
  exact List.all_eq_true.2 tw_mem)
end Go.Proofs.YthanclicnkjmiaaGreatDoor.Lx
namespace Go.Proofs.YthanclicnkjmiaaGreatDoor.Lx
open Go.RowKit Go.Proofs.YthanclicnkjmiaaGreatDoor
theorem ix_any (l : List UInt8) (i : Nat) (h : i < l.length) (w : World) : (Instr.index 9 (.string (bs l)) (.int .i64 (i : Int))).run Tryz.prog w = .ok (.int .u8 ((l[i]'h).toNat : Int)) w := by
  have hs : i < (bs l).size := by rw [bs_size]; exact h
  have e : (bs l)[i]'hs = l[i]'h := bs_get l i hs
  rw [← e]
  simp [go_sem, Tryz.underlying9]
  rw [dif_pos h]

set_option maxRecDepth 100000 in
theorem isz_any (z : Int) (k : Int) (w : World) (h0 : 0 ≤ z) (h1 : z < 256)
    (h : (z = 9 ∨ z = 10 ∨ z = 13 ∨ z = 32) ∧ k = 1 ∨ (97 ≤ z ∧ z ≤ 122) ∧ k = 2 ∨ (48 ≤ z ∧ z ≤ 57) ∧ k = 3 ∨ z = 95 ∧ k = 4 ∨ (z = 123 ∨ z = 125 ∨ z = 59) ∧ k = 5 ∨ z = 35 ∧ k = 6 ∨
      ((z < 48 ∧ ¬ z = 9 ∧ ¬ z = 10 ∧ ¬ z = 13 ∧ ¬ z = 32 ∧ ¬ z = 35) ∨ (57 < z ∧ z < 97 ∧ ¬ z = 59 ∧ ¬ z = 95) ∨ (122 < z ∧ ¬ z = 123 ∧ ¬ z = 125)) ∧ k = 0) :
    Calls Tryz.prog 51 #[.int .u8 z] w fun e w' => e = .returned (.int .i64 k) ∧ w = w' := by
  rcases h with ⟨rfl | rfl | rfl | rfl, rfl⟩ | ⟨⟨a, b⟩, rfl⟩ | ⟨⟨a, b⟩, rfl⟩ | ⟨rfl, rfl⟩ | ⟨rfl | rfl | rfl, rfl⟩ | ⟨rfl, rfl⟩ | ⟨⟨a, n1, n2, n3, n4, n5⟩ | ⟨a, b, n1, n2⟩ | ⟨a, n1, n2⟩, rfl⟩
  · go_enter Tryz.func51, Tryz.ntmps51
    go_wp2
    go_ret
    exact ⟨rfl, rfl⟩
  · go_enter Tryz.func51, Tryz.ntmps51
    go_wp2
    go_ret
    exact ⟨rfl, rfl⟩
  · go_enter Tryz.func51, Tryz.ntmps51
    go_wp2
    go_ret
    exact ⟨rfl, rfl⟩
  · go_enter Tryz.func51, Tryz.ntmps51
    go_wp2
    go_ret
    exact ⟨rfl, rfl⟩
  · have e9 : (z == 9) = false := by rw [beq_eq_false_iff_ne]; omega
    have e10 : (z == 10) = false := by rw [beq_eq_false_iff_ne]; omega
    have e13 : (z == 13) = false := by rw [beq_eq_false_iff_ne]; omega
    have e32 : (z == 32) = false := by rw [beq_eq_false_iff_ne]; omega
    have e95 : (z == 95) = false := by rw [beq_eq_false_iff_ne]; omega
    have e123 : (z == 123) = false := by rw [beq_eq_false_iff_ne]; omega
    have e125 : (z == 125) = false := by rw [beq_eq_false_iff_ne]; omega
    have e59 : (z == 59) = false := by rw [beq_eq_false_iff_ne]; omega
    have e35 : (z == 35) = false := by rw [beq_eq_false_iff_ne]; omega
    have g1 : decide (97 ≤ z) = true := by simp; omega
    have g2 : decide (z ≤ 122) = true := by simp; omega
    clear a b h0 h1
    go_enter Tryz.func51, Tryz.ntmps51
    go_wp2
    go_ret
    exact ⟨rfl, rfl⟩
  · have e9 : (z == 9) = false := by rw [beq_eq_false_iff_ne]; omega
    have e10 : (z == 10) = false := by rw [beq_eq_false_iff_ne]; omega
    have e13 : (z == 13) = false := by rw [beq_eq_false_iff_ne]; omega
    have e32 : (z == 32) = false := by rw [beq_eq_false_iff_ne]; omega
    have e95 : (z == 95) = false := by rw [beq_eq_false_iff_ne]; omega
    have e123 : (z == 123) = false := by rw [beq_eq_false_iff_ne]; omega
    have e125 : (z == 125) = false := by rw [beq_eq_false_iff_ne]; omega
    have e59 : (z == 59) = false := by rw [beq_eq_false_iff_ne]; omega
    have e35 : (z == 35) = false := by rw [beq_eq_false_iff_ne]; omega
    have g1 : decide (97 ≤ z) = false := by simp; omega
    have g3 : decide (48 ≤ z) = true := by simp; omega
    have g4 : decide (z ≤ 57) = true := by simp; omega
    clear a b h0 h1
    go_enter Tryz.func51, Tryz.ntmps51
    go_wp2
    go_ret
    exact ⟨rfl, rfl⟩
  · go_enter Tryz.func51, Tryz.ntmps51
    go_wp2
    go_ret
    exact ⟨rfl, rfl⟩
  · go_enter Tryz.func51, Tryz.ntmps51
    go_wp2
    go_ret
    exact ⟨rfl, rfl⟩
  · go_enter Tryz.func51, Tryz.ntmps51
    go_wp2
    go_ret
    exact ⟨rfl, rfl⟩
  · go_enter Tryz.func51, Tryz.ntmps51
    go_wp2
    go_ret
    exact ⟨rfl, rfl⟩
  · go_enter Tryz.func51, Tryz.ntmps51
    go_wp2
    go_ret
    exact ⟨rfl, rfl⟩
  · have e9 : (z == 9) = false := by rw [beq_eq_false_iff_ne]; omega
    have e10 : (z == 10) = false := by rw [beq_eq_false_iff_ne]; omega
    have e13 : (z == 13) = false := by rw [beq_eq_false_iff_ne]; omega
    have e32 : (z == 32) = false := by rw [beq_eq_false_iff_ne]; omega
    have e95 : (z == 95) = false := by rw [beq_eq_false_iff_ne]; omega
    have e123 : (z == 123) = false := by rw [beq_eq_false_iff_ne]; omega
    have e125 : (z == 125) = false := by rw [beq_eq_false_iff_ne]; omega
    have e59 : (z == 59) = false := by rw [beq_eq_false_iff_ne]; omega
    have e35 : (z == 35) = false := by rw [beq_eq_false_iff_ne]; omega
    have g1 : decide (97 ≤ z) = false := by simp; omega
    have g3 : decide (48 ≤ z) = false := by simp; omega
    clear a n1 n2 n3 n4 n5 h0 h1
    go_enter Tryz.func51, Tryz.ntmps51
    go_wp2
    go_ret
    exact ⟨rfl, rfl⟩
  · have e9 : (z == 9) = false := by rw [beq_eq_false_iff_ne]; omega
    have e10 : (z == 10) = false := by rw [beq_eq_false_iff_ne]; omega
    have e13 : (z == 13) = false := by rw [beq_eq_false_iff_ne]; omega
    have e32 : (z == 32) = false := by rw [beq_eq_false_iff_ne]; omega
    have e95 : (z == 95) = false := by rw [beq_eq_false_iff_ne]; omega
    have e123 : (z == 123) = false := by rw [beq_eq_false_iff_ne]; omega
    have e125 : (z == 125) = false := by rw [beq_eq_false_iff_ne]; omega
    have e59 : (z == 59) = false := by rw [beq_eq_false_iff_ne]; omega
    have e35 : (z == 35) = false := by rw [beq_eq_false_iff_ne]; omega
    have g1 : decide (97 ≤ z) = false := by simp; omega
    have g3 : decide (48 ≤ z) = true := by simp; omega
    have g4 : decide (z ≤ 57) = false := by simp; omega
    clear a b n1 n2 h0 h1
    go_enter Tryz.func51, Tryz.ntmps51
    go_wp2
    go_ret
    exact ⟨rfl, rfl⟩
  · have e9 : (z == 9) = false := by rw [beq_eq_false_iff_ne]; omega
    have e10 : (z == 10) = false := by rw [beq_eq_false_iff_ne]; omega
    have e13 : (z == 13) = false := by rw [beq_eq_false_iff_ne]; omega
    have e32 : (z == 32) = false := by rw [beq_eq_false_iff_ne]; omega
    have e95 : (z == 95) = false := by rw [beq_eq_false_iff_ne]; omega
    have e123 : (z == 123) = false := by rw [beq_eq_false_iff_ne]; omega
    have e125 : (z == 125) = false := by rw [beq_eq_false_iff_ne]; omega
    have e59 : (z == 59) = false := by rw [beq_eq_false_iff_ne]; omega
    have e35 : (z == 35) = false := by rw [beq_eq_false_iff_ne]; omega
    have g1 : decide (97 ≤ z) = true := by simp; omega
    have g2 : decide (z ≤ 122) = false := by simp; omega
    have g3 : decide (48 ≤ z) = true := by simp; omega
    have g4 : decide (z ≤ 57) = false := by simp; omega
    clear a n1 n2 h0 h1
    go_enter Tryz.func51, Tryz.ntmps51
    go_wp2
    go_ret
    exact ⟨rfl, rfl⟩
theorem is_any (c : UInt8) (w : World) : Calls Tryz.prog 51 #[.int .u8 (c.toNat : Int)] w fun e w' => e = .returned (.int .i64 (kN c.toNat : Nat)) ∧ w = w' := by
  have h := c.toNat_lt
  refine isz_any _ _ w (by omega) (by omega) ?_
  unfold kN
  (repeat' split) <;> omega
theorem is_k (c : UInt8) (k : Nat) (h : kN c.toNat = k) (w : World) : Calls Tryz.prog 51 #[.int .u8 (c.toNat : Int)] w fun e w' => e = .returned (.int .i64 (k : Int)) ∧ w = w' := by
  subst h; exact is_any c w
end Go.Proofs.YthanclicnkjmiaaGreatDoor.Lx
namespace Go.Proofs.YthanclicnkjmiaaGreatDoor.Lx
open Go.RowKit Go.Proofs.YthanclicnkjmiaaGreatDoor
theorem bs_toList' (l : List UInt8) : (bs l).toList = l := by rw [ByteArray.toList_eq, bs_list]
set_option maxHeartbeats 1000000 in
theorem name_far (l : List UInt8) (w : World) (h : 16 < l.length) (hne : (!(bs l).toList.isEmpty) = true) : Calls Tryz.prog 139 #[.string (bs l)] w fun e w' => e = .returned (.bool false) ∧ Only Nil w w' := by
  have hz : (bs l).size = l.length := bs_size l
  go_enter Tryz.func139, Tryz.ntmps139
  go_wp2
  go_ret
  exact ⟨rfl, Only.refl _ _⟩
set_option maxRecDepth 100000 in
set_option maxHeartbeats 2000000 in
theorem name_any (l : List UInt8) (w : World) (hl : l.length ≤ 140737488355328) : Calls Tryz.prog 139 #[.string (bs l)] w fun e w' => e = .returned (.bool (isNm l)) ∧ Only Nil w w' := by
  have hz : (bs l).size = l.length := bs_size l
  cases l with
  | nil =>
    have hne : (!(bs []).toList.isEmpty) = false := by rw [bs_toList']; rfl
    go_enter Tryz.func139, Tryz.ntmps139
    go_wp2
    go_ret
    exact ⟨rfl, Only.refl _ _⟩
  | cons c r =>
    have hne : (!(bs (c :: r)).toList.isEmpty) = true := by rw [bs_toList']; rfl
    have hl' : (r.length : Int) + 1 ≤ 140737488355328 := by simp at hl; omega
    rw [nm_c]
    by_cases h16 : r.length + 1 ≤ 16
    · have h16' : (r.length : Int) + 1 ≤ 16 := by omega
      have hpos : 0 < (bs (c :: r)).size := by rw [bs_size]; simp
      cases h1 : isLe c with
      | true =>
        have H1 := Lib.hid h1
        by_cases ha : (c :: r).all isWd = true
        · have htw := Lib.hid (all_take ha)
          rw [ha, show decide (r.length + 1 ≤ 16) = true by simpa using h16]
          clear h1 ha h16 hl
          go_enter Tryz.func139, Tryz.ntmps139
          go_wp2_with fail
          simp only [first_byte]
          go_wp2_with (first
            | (go_at_call 79; refine (isLetter_c c _).mono ?_; rintro e w1 ⟨rfl, rfl⟩; rw [H1.out])
            | (go_at_call 81; refine (word_any (c :: r) _).mono ?_; rintro e w2 ⟨rfl, o2⟩; rw [htw.out]))
          go_ret
          exact ⟨rfl, o2⟩
        · have hlt := len_take ha
          have hle := (List.takeWhile_prefix (l := c :: r) isWd).length_le
          have hz2 : (bs ((c :: r).takeWhile isWd)).size = ((c :: r).takeWhile isWd).length := bs_size _
          rw [show (c :: r).all isWd = false from not_of ha, Bool.and_false]
          have WA : Hid (∀ w, Calls Tryz.prog 81 #[.string (bs (c :: r))] w fun e w' => e = .returned (.string (bs ((c :: r).takeWhile isWd))) ∧ Only Nil w w') := Lib.hid fun w => word_any (c :: r) w
          generalize (c :: r).takeWhile isWd = ws at *
          generalize hws : ws.length = m at *
          have hq : ((m : Int) == (r.length : Int) + 1) = false := by
            rw [beq_eq_false_iff_ne]; simp at hlt; omega
          have WS := Lib.hid hws
          clear h1 ha h16 hl hlt hle hws
          go_enter Tryz.func139, Tryz.ntmps139
          go_wp2_with fail
          simp only [first_byte]
          go_wp2_with (first
            | (go_at_call 79; refine (isLetter_c c _).mono ?_; rintro e w1 ⟨rfl, rfl⟩; rw [H1.out])
            | (go_at_call 81; refine (WA.out _).mono ?_; rintro e w2 ⟨rfl, o2⟩))
          go_ret
          exact ⟨rfl, o2⟩
      | false =>
        have H1 := Lib.hid h1
        clear h1 h16 hl
        go_enter Tryz.func139, Tryz.ntmps139
        go_wp2_with fail
        simp only [first_byte]
        go_wp2_with (go_at_call 79; refine (isLetter_c c _).mono ?_; rintro e w1 ⟨rfl, rfl⟩; rw [H1.out])
        go_ret
        exact ⟨rfl, Only.refl _ _⟩
    · rw [show decide (r.length + 1 ≤ 16) = false by simpa using h16, Bool.and_false, Bool.false_and]
      exact name_far (c :: r) w (by simp; omega) hne
end Go.Proofs.YthanclicnkjmiaaGreatDoor.Lx
set_option linter.unusedVariables false
namespace Go.Proofs.YthanclicnkjmiaaGreatDoor.Ps
open Go.RowKit Go.Proofs.YthanclicnkjmiaaGreatDoor Lx
abbrev Wd := List UInt8
structure Eff where
  act : Int
  ref : Wd
  slot : Wd
  name : Wd
  val : Int
  n : Int
  delay : Int
deriving Inhabited, DecidableEq
structure Rw where
  tag : Wd
  only : Bool
  n : Int
  effs : List Eff
deriving Inhabited, DecidableEq
structure Sta where
  name : Wd
  rows : List Rw
deriving Inhabited, DecidableEq
structure Cs where
  reason : Wd
  act : Int
deriving Inhabited, DecidableEq
structure Kd where
  name : Wd
  limit : Int
  within : Int
  cases : List Cs
  states : List Sta
deriving Inhabited, DecidableEq

def w_kind : Wd := [107, 105, 110, 100]
def w_open : Wd := [123]
def w_close : Wd := [125]
def w_semi : Wd := [59]
def w_limit : Wd := [108, 105, 109, 105, 116]
def w_in : Wd := [105, 110]
def w_case : Wd := [99, 97, 115, 101]
def w_else : Wd := [101, 108, 115, 101]
def w_state : Wd := [115, 116, 97, 116, 101]
def w_on : Wd := [111, 110]
def w_any : Wd := [97, 110, 121]
def w_resume : Wd := [114, 101, 115, 117, 109, 101]
def w_restart : Wd := [114, 101, 115, 116, 97, 114, 116]
def w_stop : Wd := [115, 116, 111, 112]
def w_escalate : Wd := [101, 115, 99, 97, 108, 97, 116, 101]
def w_send : Wd := [115, 101, 110, 100]
def w_spawn : Wd := [115, 112, 97, 119, 110]
def w_become : Wd := [98, 101, 99, 111, 109, 101]
def w_stash : Wd := [115, 116, 97, 115, 104]
def w_unstash : Wd := [117, 110, 115, 116, 97, 115, 104]
def w_watch : Wd := [119, 97, 116, 99, 104]
def w_unwatch : Wd := [117, 110, 119, 97, 116, 99, 104]
def w_timer : Wd := [116, 105, 109, 101, 114]
def w_cancel : Wd := [99, 97, 110, 99, 101, 108]
def w_hold : Wd := [104, 111, 108, 100]
def w_fail : Wd := [102, 97, 105, 108]
def w_keep : Wd := [107, 101, 101, 112]
def w_less : Wd := [108, 101, 115, 115]
def dirs : List Wd := [w_resume, w_restart, w_stop, w_escalate]
def effw : List Wd := [w_send, w_spawn, w_become, w_stash, w_unstash, w_watch, w_unwatch, w_timer, w_cancel, w_hold, w_stop, w_fail]
def vals : List Wd := [w_keep, w_less]
def parts (z : Int) : List UInt8 :=
  if z = 1 then [114, 110, 118] else if z = 2 then [115, 110] else if z = 3 then [110] else if z = 9 then [110] else if z = 12 then [110] else if z = 6 then [114] else if z = 7 then [114]
  else if z = 8 then [100, 110, 118] else if z = 10 then [115] else []

abbrev Tks := List (Tok × Nat)
inductive PR (α : Type) where
  | ok (a : α) (r : Tks)
  | bad (r : Tks)
def PR.bind {α β : Type} (p : PR α) (f : α → Tks → PR β) : PR β := match p with | .ok a r => f a r | .bad r => .bad r
def hw : Tks → Wd | [] => [] | x :: _ => x.1.w
def hk : Tks → Nat | [] => 0 | x :: _ => x.1.k
def tk (k : Nat) : Tks → PR Tok | [] => .bad [] | x :: r => if x.1.k = k then .ok x.1 r else .bad (x :: r)
def ch (ws : List Wd) (T : Tks) : PR Nat := if hw T ∈ ws then .ok (ws.idxOf (hw T)) T.tail else .bad T
def pass (s : Wd) (T : Tks) : PR Unit := if hw T = s then .ok () T.tail else .bad T
def many {α : Type} (p : Tks → PR α) (stop : Tks → Bool) : Nat → Tks → PR (List α)
  | 0, T => .bad T
  | n + 1, T => if stop T then .ok [] T else (p T).bind fun a r => (many p stop n r).bind fun l r' => .ok (a :: l) r'
def Many {α : Type} (p : Tks → PR α) (stop : Tks → Bool) (T : Tks) : PR (List α) := many p stop (T.length + 1) T
def isW (s : Wd) (T : Tks) : Bool := hw T == s
def block {α : Type} (p : Tks → PR α) (T : Tks) : PR (List α) :=
  (pass w_open T).bind fun _ r => (Many p (isW w_close) r).bind fun l r' => (pass w_close r').bind fun _ r'' => .ok l r''
def pVal (T : Tks) : PR (Int × Int) := if hk T = 2 then (tk 2 T).bind fun t r => .ok (2, (t.n : Int)) r else (ch vals T).bind fun i r => .ok ((i : Int), 0) r
def pPart (c : UInt8) (e : Eff) (T : Tks) : PR Eff :=
  if c = 114 then (tk 1 T).bind fun t r => .ok { e with ref := t.w } r
  else if c = 115 then (tk 1 T).bind fun t r => .ok { e with slot := t.w } r
  else if c = 110 then (tk 1 T).bind fun t r => .ok { e with name := t.w } r
  else if c = 100 then (tk 2 T).bind fun t r => .ok { e with delay := (t.n : Int) } r
  else (pVal T).bind fun v r => .ok { e with val := v.1, n := v.2 } r
def pParts : List UInt8 → Eff → Tks → PR Eff
  | [], e, T => .ok e T
  | c :: cs, e, T => (pPart c e T).bind fun e' r => pParts cs e' r
def eff0 (z : Int) : Eff := ⟨z, [], [], [], 0, 0, 0⟩
def pEff (T : Tks) : PR Eff := (ch effw T).bind fun i r => (pParts (parts ((i : Int) + 1)) (eff0 ((i : Int) + 1)) r).bind fun e r' => (pass w_semi r').bind fun _ r'' => .ok e r''
def pRow (T : Tks) : PR Rw := (ch [w_on, w_any] T).bind fun i r =>
  if i = 0 then (tk 1 r).bind fun t r1 =>
    if hk r1 = 2 then (tk 2 r1).bind fun u r2 => (block pEff r2).bind fun E r3 => .ok ⟨t.w, true, (u.n : Int), E⟩ r3
    else (block pEff r1).bind fun E r3 => .ok ⟨t.w, false, 0, E⟩ r3
  else (block pEff r).bind fun E r3 => .ok ⟨[], false, 0, E⟩ r3
def pState (T : Tks) : PR Sta := (pass w_state T).bind fun _ r => (tk 1 r).bind fun t r1 => (block pRow r1).bind fun R r2 => .ok ⟨t.w, R⟩ r2
def pCase (T : Tks) : PR Cs := (ch [w_case, w_else] T).bind fun i r =>
  if i = 0 then (tk 1 r).bind fun t r1 => (ch dirs r1).bind fun d r2 => (pass w_semi r2).bind fun _ r3 => .ok ⟨t.w, (d : Int) + 1⟩ r3
  else (ch dirs r).bind fun d r2 => (pass w_semi r2).bind fun _ r3 => .ok ⟨[], (d : Int) + 1⟩ r3
def pLimit (T : Tks) : PR (Int × Int) :=
  if hw T = w_limit then (pass w_limit T).bind fun _ r => (tk 2 r).bind fun a r1 => (pass w_in r1).bind fun _ r2 => (tk 2 r2).bind fun b r3 => (pass w_semi r3).bind fun _ r4 => .ok ((a.n : Int), (b.n : Int)) r4
  else .ok (0, 1) T
def noCase (T : Tks) : Bool := !(hw T == w_case || hw T == w_else)
def pKind (T : Tks) : PR Kd := (pass w_kind T).bind fun _ r => (tk 1 r).bind fun t r1 => (pass w_open r1).bind fun _ r2 => (pLimit r2).bind fun lw r3 =>
  (Many pCase noCase r3).bind fun C r4 => (Many pState (isW w_close) r4).bind fun S r5 => (pass w_close r5).bind fun _ r6 => .ok ⟨t.w, lw.1, lw.2, C, S⟩ r6
def pProg (T : Tks) : PR (List Kd) := Many pKind (fun T => T.isEmpty) T
def flt (N : Nat) : Tks → Nat × Nat | [] => (31, N) | x :: _ => (30, x.2)

end Go.Proofs.YthanclicnkjmiaaGreatDoor.Ps
set_option linter.unusedVariables false
namespace Go.Proofs.YthanclicnkjmiaaGreatDoor.Ps
open Go.RowKit Go.Proofs.YthanclicnkjmiaaGreatDoor Lx
def TIn (w : World) (R : Nat) (a : Option Addr) (T : Tks) : Prop :=
  ∀ i, i < T.length → ∃ b off, a = some ⟨b, off, none⟩ ∧ b < w.heap.size ∧ b < R ∧ ∀ j, j < T.length →
    w.cell? ⟨b, off + j * 4, none⟩ = some (.int .i64 (T.getD j default).1.k) ∧ w.cell? ⟨b, off + (j * 4 + 1), none⟩ = some (.string (bs (T.getD j default).1.w)) ∧
    w.cell? ⟨b, off + (j * 4 + 2), none⟩ = some (.int .i64 (T.getD j default).1.n) ∧ w.cell? ⟨b, off + (j * 4 + 3), none⟩ = some (.int .i64 (T.getD j default).2)
theorem cellLt {w : World} {b k : Nat} {v : Value} (h : w.cell? ⟨b, k, none⟩ = some v) : b < w.heap.size := by
  rcases Nat.lt_or_ge b w.heap.size with h' | h'
  · exact h'
  · simp [World.cell?, Array.getElem?_eq_none h'] at h
theorem only_cellS {S : Nat → Prop} {w w' : World} (o : Only S w w') {b k : Nat} {v : Value} (hb : ¬ S b) (h : w.cell? ⟨b, k, none⟩ = some v) : w'.cell? ⟨b, k, none⟩ = some v := by
  have := o.block b (cellLt h) hb
  simp only [World.cell?] at h ⊢
  rw [this]; exact h
theorem TIn.keep {S : Nat → Prop} {w w' : World} {R : Nat} {a : Option Addr} {T : Tks} (h : TIn w R a T) (o : Only S w w') (hS : ∀ b, b < R → b < w.heap.size → ¬ S b) : TIn w' R a T := by
  intro i hi
  obtain ⟨b, off, ha, hlt, hne, hc⟩ := h i hi
  refine ⟨b, off, ha, Nat.lt_of_lt_of_le hlt o.size, hne, fun j hj => ?_⟩
  obtain ⟨c1, c2, c3, c4⟩ := hc j hj
  exact ⟨only_cellS o (hS b hne hlt) c1, only_cellS o (hS b hne hlt) c2, only_cellS o (hS b hne hlt) c3, only_cellS o (hS b hne hlt) c4⟩
theorem TIn.tail {w : World} {R : Nat} {b off : Nat} {x : Tok × Nat} {T : Tks} (h : TIn w R (some ⟨b, off, none⟩) (x :: T)) : TIn w R (some ⟨b, off + 4, none⟩) T := by
  intro i hi
  obtain ⟨b', off', ha, hlt, hne, hc⟩ := h 0 (by simp)
  cases ha
  refine ⟨b, off + 4, rfl, hlt, hne, fun j hj => ?_⟩
  obtain ⟨c1, c2, c3, c4⟩ := hc (j + 1) (by simp; omega)
  have e : (x :: T).getD (j + 1) default = T.getD j default := rfl
  rw [e] at c1 c2 c3 c4
  refine ⟨?_, ?_, ?_, ?_⟩
  · rw [show off + 4 + j * 4 = off + (j + 1) * 4 by omega]; exact c1
  · rw [show off + 4 + (j * 4 + 1) = off + ((j + 1) * 4 + 1) by omega]; exact c2
  · rw [show off + 4 + (j * 4 + 2) = off + ((j + 1) * 4 + 2) by omega]; exact c3
  · rw [show off + 4 + (j * 4 + 3) = off + ((j + 1) * 4 + 3) by omega]; exact c4
theorem TIn.nil (w : World) (R : Nat) (a : Option Addr) : TIn w R a [] := fun i hi => by simp at hi

def Rd (w : World) (R N : Nat) (T : Tks) : Prop :=
  ∃ a n c, w.heap[R]? = some (.cells #[.slice a n c, .int .i64 N] 74 (0, 0)) ∧ T.length = n ∧ (n ≤ c ∧ n ≤ 20000) ∧ TIn w R a T
def At (R : Nat) (q : Nat) : Prop := q = R
theorem Rd.keep {w w' : World} {R N : Nat} {T : Tks} (h : Rd w R N T) (o : Only Nil w w') : Rd w' R N T := by
  obtain ⟨a, n, c, h1, h2, h3, h4⟩ := h
  exact ⟨a, n, c, (o.block R (lt_of_block h1) (fun q => q.elim)).trans h1, h2, h3, h4.keep o (fun b _ _ q => q.elim)⟩
theorem Rd.lt {w : World} {R N : Nat} {T : Tks} (h : Rd w R N T) : R < w.heap.size := by
  obtain ⟨a, n, c, h1, _⟩ := h; exact lt_of_block h1
theorem Rd.keepO {w w' : World} {R N O : Nat} {T : Tks} (h : Rd w R N T) (o : Only (At O) w w') (hO : R < O) : Rd w' R N T := by
  obtain ⟨a, n, c, h1, h2, h3, h4⟩ := h
  exact ⟨a, n, c, (o.block R (lt_of_block h1) (fun q => by unfold At at q; omega)).trans h1, h2, h3, h4.keep o (fun b hb _ q => by unfold At at q; omega)⟩
def left (R : Nat) (w : World) : Nat := match w.cell? ⟨R, 0, none⟩ with | some (.slice _ n _) => n | _ => 0
theorem cell2_0 {w : World} {R : Nat} {u v : Value} {t : TypeId} {m : Nat × Nat} (h : w.heap[R]? = some (.cells #[u, v] t m)) : w.cell? ⟨R, 0, none⟩ = some u := by simp [World.cell?, h]
theorem cell2_1 {w : World} {R : Nat} {u v : Value} {t : TypeId} {m : Nat × Nat} (h : w.heap[R]? = some (.cells #[u, v] t m)) : w.cell? ⟨R, 1, none⟩ = some v := by simp [World.cell?, h]
theorem frozen_blk {w : World} {R : Nat} {cs : Array Value} {t : TypeId} (h : w.heap[R]? = some (.cells cs t (0, 0))) (k : Nat) : w.frozen? ⟨R, k, none⟩ = false := by simp [World.frozen?, h]
theorem only_cell0 {w w' : World} (o : Only Nil w w') {b k : Nat} {v : Value} (h : w.cell? ⟨b, k, none⟩ = some v) : w'.cell? ⟨b, k, none⟩ = some v := only_cellS o (fun q => q.elim) h
def hn : Tks → Nat | [] => 0 | x :: _ => x.1.n
def ha (N : Nat) : Tks → Nat | [] => N | x :: _ => x.2
def tv (N : Nat) (T : Tks) : Value := .agg #[.int .i64 (hk T), .string (bs (hw T)), .int .i64 (hn T), .int .i64 (ha N T)]
def sets (b : Nat) : Nat → List Value → World → World
  | _, [], w => w
  | k, v :: vs, w => sets b (k + 1) vs (w.setCell ⟨b, k, none⟩ v)
theorem sets_only (b k : Nat) (vs : List Value) (w : World) : Only (At b) w (sets b k vs w) := by
  induction vs generalizing k w with
  | nil => exact Only.refl _ _
  | cons v vs ih => exact ((Only.refl (At b) w).setCell (p := ⟨b, k, none⟩) rfl v).trans (ih (k + 1) _)
theorem sets_from (b : Nat) (vs pre post : List Value) (w : World) (t : TypeId) (hl : post.length = vs.length) (h : w.heap[b]? = some (.cells (pre ++ post).toArray t (0, 0))) :
    (sets b pre.length vs w).heap[b]? = some (.cells (pre ++ vs).toArray t (0, 0)) := by
  induction vs generalizing pre post w with
  | nil =>
    have : post = [] := List.eq_nil_of_length_eq_zero hl
    subst this; exact h
  | cons v vs ih =>
    cases post with
    | nil => simp at hl
    | cons p post =>
      have h1 := heap_setCell_self (o := pre.length) v h
      have e : (pre ++ p :: post).toArray.setIfInBounds pre.length v = (pre ++ [v] ++ post).toArray := by
        rw [List.setIfInBounds_toArray]
        congr 1
        rw [List.set_append_right _ _ (Nat.le_refl _)]
        simp
      rw [e] at h1
      have h2 := ih (pre ++ [v]) post (w.setCell ⟨b, pre.length, none⟩ v) (by simpa using hl) h1
      have e2 : (pre ++ [v]).length = pre.length + 1 := by simp
      rw [e2] at h2
      have e3 : pre ++ [v] ++ vs = pre ++ v :: vs := by simp
      rw [e3] at h2
      exact h2
theorem sets_all {b : Nat} {cs vs : List Value} {w : World} {t : TypeId} (h : w.heap[b]? = some (.cells cs.toArray t (0, 0))) (hl : cs.length = vs.length) : (sets b 0 vs w).heap[b]? = some (.cells vs.toArray t (0, 0)) :=
  sets_from b vs [] cs w t hl h
structure Own (w0 : World) (R O : Nat) (cs : List Value) (t : TypeId) (w : World) : Prop where
  only : Only (At R) w0 w
  new : w0.heap.size ≤ O
  low : R < w0.heap.size
  heap : w.heap[O]? = some (.cells cs.toArray t (0, 0))
theorem Own.made {w0 w : World} {R : Nat} (o : Only (At R) w0 w) (hR : R < w0.heap.size) (cs : List Value) (t : TypeId) : Own w0 R w.heap.size cs t (w.alloc (.cells cs.toArray t)) :=
  ⟨o.alloc _, o.size, hR, heap_new w _⟩
theorem Own.keep {w0 w w' : World} {R O : Nat} {cs : List Value} {t : TypeId} (h : Own w0 R O cs t w) (o : Only (At R) w w') : Own w0 R O cs t w' :=
  ⟨h.only.trans o, h.new, h.low, (o.block O (lt_of_block h.heap) (fun q => by have := h.new; have := h.low; unfold At at q; omega)).trans h.heap⟩
theorem Own.set {w0 w : World} {R O : Nat} {cs : List Value} {t : TypeId} (h : Own w0 R O cs t w) (vs : List Value) (hl : cs.length = vs.length) : Own w0 R O vs t (sets O 0 vs w) :=
  ⟨h.only.then (sets_only O 0 vs w) (fun q hq hlt => by have := h.new; unfold At at hq; omega), h.new, h.low, sets_all h.heap hl⟩
theorem Own.cell {w0 w : World} {R O : Nat} {cs : List Value} {t : TypeId} (h : Own w0 R O cs t w) (k : Nat) {v : Value} (hk : cs[k]? = some v) : w.cell? ⟨O, k, none⟩ = some v := by
  rw [cell_of_row w O k _ _ _ h.heap]; simpa using hk
theorem Own.free {w0 w : World} {R O : Nat} {cs : List Value} {t : TypeId} (h : Own w0 R O cs t w) (k : Nat) : w.frozen? ⟨O, k, none⟩ = false := frozen_blk h.heap k

theorem Own.rd {w0 w : World} {R O N : Nat} {cs : List Value} {t : TypeId} {T : Tks} (h : Own w0 R O cs t w) (k : Nat) (vs : List Value) (hr : Rd w R N T) : Rd (sets O k vs w) R N T :=
  hr.keepO (sets_only O k vs w) (Nat.lt_of_lt_of_le h.low h.new)
def tok0 : List Value := [.int .i64 0, .string ⟨#[]⟩, .int .i64 0, .int .i64 0]
set_option maxHeartbeats 400000 in
theorem next_any {w : World} {R N : Nat} {T : Tks} (h : Rd w R N T) : Calls Tryz.prog 131 #[.pointer (some ⟨R, 0, none⟩)] w fun e w' => e = .returned (tv N T) ∧ Only Nil w w' := by
  obtain ⟨a, n, c, hb, hn', hc, ht⟩ := h
  have lt := lt_of_block hb
  have HB := Own.made (R := R) (Only.refl _ w) lt tok0 84
  obtain ⟨wB, hwB⟩ : ∃ wB, wB = w.alloc (.cells #[.int .i64 0, .string ⟨#[]⟩, .int .i64 0, .int .i64 0] 84) := ⟨_, rfl⟩
  have oB : Only Nil w wB := by rw [hwB]; exact (Only.refl Nil w).alloc _
  have eB : w.alloc (.cells tok0.toArray 84) = wB := hwB.symm
  rw [eB] at HB
  clear eB
  have c0 := only_cell0 oB (cell2_0 hb)
  have c1 := only_cell0 oB (cell2_1 hb)
  have fin : ∀ vs : List Value, vs.length = 4 → Only Nil w (sets w.heap.size 0 vs wB) := fun vs hv => oB.then (sets_only w.heap.size 0 vs wB) (fun q hq hlt => by unfold At at hq; omega)
  have f0 := HB.free 0
  have f1 := HB.free 1
  have f2 := HB.free 2
  have f3 := HB.free 3
  have d0 := HB.cell 0 (v := .int .i64 0) rfl
  have d1 := HB.cell 1 (v := .string ⟨#[]⟩) rfl
  have d2 := HB.cell 2 (v := .int .i64 0) rfl
  have d3 := HB.cell 3 (v := .int .i64 0) rfl
  have HH := Lib.hid HB
  have HF := Lib.hid fin
  clear HB fin
  generalize hO : w.heap.size = O at *
  have HO := Lib.hid hO
  clear hO
  cases T with
  | nil =>
    subst hn'
    clear hb ht
    go_enter Tryz.func131, Tryz.ntmps131
    go_upto_region 1 with (fail)
    rw [HO.out, ← hwB]; clear hwB
    go_wp2
    refine bodyPost_ret (results_agg rfl _ _ O [.int .i64 0, .string ⟨#[]⟩, .int .i64 0, .int .i64 N] Tryz.isAgg84 Tryz.sizeOf84 rfl (HH.out.set [.int .i64 0, .string ⟨#[]⟩, .int .i64 0, .int .i64 N] rfl).heap) rfl ?_
    exact ⟨rfl, HF.out [.int .i64 0, .string ⟨#[]⟩, .int .i64 0, .int .i64 N] rfl⟩
  | cons x T =>
    obtain ⟨b, off, rfl, hlt, hne, hcs⟩ := ht 0 (by simp)
    obtain ⟨t0, t1, t2, t3⟩ := hcs 0 (by simp)
    have e0 : (x :: T).getD 0 default = x := rfl
    simp only [e0, Nat.zero_mul, Nat.add_zero, Nat.zero_add] at t0 t1 t2 t3
    have t0 := only_cell0 oB t0
    have t1 := only_cell0 oB t1
    have t2 := only_cell0 oB t2
    have t3 := only_cell0 oB t3
    have hn2 : n = T.length + 1 := hn'.symm
    subst hn2
    clear hb hcs
    go_enter Tryz.func131, Tryz.ntmps131
    go_upto_region 1 with (fail)
    rw [HO.out, ← hwB]; clear hwB
    go_wp2
    refine bodyPost_ret (results_agg rfl _ _ O [.int .i64 x.1.k, .string (bs x.1.w), .int .i64 x.1.n, .int .i64 x.2] Tryz.isAgg84 Tryz.sizeOf84 rfl (HH.out.set [.int .i64 x.1.k, .string (bs x.1.w), .int .i64 x.1.n, .int .i64 x.2] rfl).heap) rfl ?_
    exact ⟨rfl, HF.out [.int .i64 x.1.k, .string (bs x.1.w), .int .i64 x.1.n, .int .i64 x.2] rfl⟩
end Go.Proofs.YthanclicnkjmiaaGreatDoor.Ps
set_option linter.unusedVariables false
namespace Go.Proofs.YthanclicnkjmiaaGreatDoor.Ps
open Go.RowKit Go.Proofs.YthanclicnkjmiaaGreatDoor Lx
theorem toList_bs (l : Wd) : (bs l).toList = l := by rw [ByteArray.toList_eq, bs_list]

def Thrown (e : Ending) (w : World) (N : Nat) (T : Tks) : Prop :=
  ∃ b, e = .panicked [{ v := .iface 71 (.pointer (some ⟨b, 0, none⟩)), recovered := false }] ∧ w.cell? ⟨b, 0, none⟩ = some (.int .i64 (flt N T).1) ∧ w.cell? ⟨b, 1, none⟩ = some (.int .i64 (flt N T).2)

theorem tok_w (a c d : Int) (s : ByteArray) (w : World) : (Instr.field 84 (.agg #[.int .i64 a, .string s, .int .i64 c, .int .i64 d]) 1).run Tryz.prog w = .ok (.string s) w := by kernel_rfl
theorem tok_at (a c d : Int) (s : ByteArray) (w : World) : (Instr.field 84 (.agg #[.int .i64 a, .string s, .int .i64 c, .int .i64 d]) 3).run Tryz.prog w = .ok (.int .i64 d) w := by kernel_rfl
set_option maxRecDepth 100000 in
set_option maxHeartbeats 1000000 in
theorem refuse_any {w : World} {R N : Nat} {T : Tks} (h : Rd w R N T) : Calls Tryz.prog 168 #[.pointer (some ⟨R, 0, none⟩)] w fun e w' => Thrown e w' N T ∧ Only Nil w w' := by
  have HR := Lib.hid h
  have HN := Lib.hid (fun (w : World) (h : Rd w R N T) => next_any h)
  clear h
  cases T with
  | nil =>
    go_enter Tryz.func168, Tryz.ntmps168
    go_wp2_with fail
    refine (HN.out w HR.out).mono ?_
    rintro e w1 ⟨rfl, o1⟩
    have H1 := HR.out.keep o1
    obtain ⟨a, n, c, hb, hn', hc, ht⟩ := H1
    have hn2 : n = 0 := hn'.symm
    subst hn2
    have c0 := cell2_0 hb
    have ltR := lt_of_block hb
    clear hb ht hc hn'
    have hf := tok_at
    unfold tv
    go_wp2
    exact ⟨rfl, ⟨w1.heap.size, rfl, cell2_0 (heap_new w1 _), cell2_1 (heap_new w1 _)⟩, o1.alloc _⟩
  | cons x T =>
    go_enter Tryz.func168, Tryz.ntmps168
    go_wp2_with fail
    refine (HN.out w HR.out).mono ?_
    rintro e w1 ⟨rfl, o1⟩
    have H1 := HR.out.keep o1
    obtain ⟨a, n, c, hb, hn', hc, ht⟩ := H1
    have hn2 : n = T.length + 1 := hn'.symm
    subst hn2
    have c0 := cell2_0 hb
    have ltR := lt_of_block hb
    clear hb ht hc hn'
    have hf := tok_at
    unfold tv
    go_wp2
    exact ⟨rfl, ⟨w1.heap.size, rfl, cell2_0 (heap_new w1 _), cell2_1 (heap_new w1 _)⟩, o1.alloc _⟩

def RP {α : Type} (D : α → Value → World → Prop) (w : World) (R N : Nat) : PR α → Ending → World → Prop
  | .ok a r, e, w' => (∃ v, e = .returned v ∧ D a v w') ∧ Rd w' R N r ∧ Only (At R) w w'
  | .bad r, e, w' => Thrown e w' N r ∧ Only (At R) w w'

theorem run_tailT (w : World) (g off k d : Nat) (A : Addr) (hA : (if d = 1 then (⟨g, off, none⟩ : Addr) else ⟨g, off + 4, none⟩) = A) :
    (Instr.slice 68 (.slice (some ⟨g, off, none⟩) (k + 1) d) (some (.int .i64 1)) none none).run Tryz.prog w = .ok (.slice (some A) k (d - 1)) w := by
  have hu := Tryz.underlying68
  have hs := Tryz.sizeOf84
  subst hA
  have h1 : (1 : Int) ≤ (k : Int) + 1 := by omega
  have e : (⟨g, off, none⟩ : Addr).add 4 = ⟨g, off + 4, none⟩ := by rw [add_lit0]
  by_cases hd : d = 1
  · simp [Instr.slice, Instr.sliceBounds, Instr.sliceBound, asIntOf, run_underlying hu, hs, Sem.run_bind, Result.andThen, hd, h1]
  · simp [Instr.slice, Instr.sliceBounds, Instr.sliceBound, asIntOf, run_underlying hu, hs, Sem.run_bind, Result.andThen, hd, e, h1]
theorem Rd.next {w : World} {R N : Nat} {x : Tok × Nat} {T : Tks} {g off d : Nat} {A : Addr} (hb : w.heap[R]? = some (.cells #[.slice (some ⟨g, off, none⟩) (T.length + 1) d, .int .i64 N] 74 (0, 0))) (hd : T.length + 1 ≤ d ∧ T.length + 1 ≤ 20000) (ht : TIn w R (some ⟨g, off, none⟩) (x :: T))
    (hA : (if d = 1 then (⟨g, off, none⟩ : Addr) else ⟨g, off + 4, none⟩) = A) :
    Rd (w.setCell ⟨R, 0, none⟩ (.slice (some A) T.length (d - 1))) R N T ∧ Only (At R) w (w.setCell ⟨R, 0, none⟩ (.slice (some A) T.length (d - 1))) := by
  have o : Only (At R) w (w.setCell ⟨R, 0, none⟩ (.slice (some A) T.length (d - 1))) := (Only.refl (At R) w).setCell (p := ⟨R, 0, none⟩) rfl _
  refine ⟨⟨some A, T.length, d - 1, heap_setCell_self (o := 0) _ hb, rfl, by omega, ?_⟩, o⟩
  by_cases h1 : d = 1
  · have : T = [] := List.eq_nil_of_length_eq_zero (by omega)
    subst this
    exact TIn.nil _ _ _
  · rw [if_neg h1] at hA
    subst hA
    exact ht.tail.keep o (fun b hne _ q => by unfold At at q; omega)

end Go.Proofs.YthanclicnkjmiaaGreatDoor.Ps
set_option linter.unusedVariables false
namespace Go.Proofs.YthanclicnkjmiaaGreatDoor.Ps
open Go.RowKit Go.Proofs.YthanclicnkjmiaaGreatDoor Lx
def tokV (t : Tok) (q : Nat) : List Value := [.int .i64 t.k, .string (bs t.w), .int .i64 t.n, .int .i64 q]
def DT (t : Tok) (v : Value) (_ : World) : Prop := ∃ q : Nat, v = .agg (tokV t q).toArray

theorem tk_bad {k : Nat} {T : Tks} (h : hk T ≠ k) : tk k T = .bad T := by
  cases T with
  | nil => rfl
  | cons x T => exact if_neg h
theorem box2 {w0 w1 : World} {R : Nat} (o : Only (At R) w0 w1) (hR : R < w0.heap.size) (cs : List Value) (t : TypeId) :
    ∃ W2, W2 = w1.alloc (.cells cs.toArray t) ∧ Own w0 R w1.heap.size cs t W2 ∧ Only Nil w1 W2 := ⟨_, rfl, Own.made o hR cs t, (Only.refl Nil w1).alloc _⟩
set_option maxHeartbeats 1000000 in
theorem take_any {w : World} {R N : Nat} {T : Tks} (k : Nat) (hk1 : 1 ≤ k) (h : Rd w R N T) :
    Calls Tryz.prog 128 #[.pointer (some ⟨R, 0, none⟩), .int .i64 k] w (RP DT w R N (tk k T)) := by
  obtain ⟨wB, hwB, HB, oB⟩ := box2 (Only.refl (At R) w) h.lt tok0 84
  have hwB' : wB = w.alloc (.cells #[.int .i64 0, .string ⟨#[]⟩, .int .i64 0, .int .i64 0] 84) := hwB
  clear hwB
  have HR := Lib.hid (h.keep oB)
  have HH := Lib.hid HB
  have LR := h.lt
  clear HB h
  generalize hO : w.heap.size = O at *
  have HO := Lib.hid hO
  clear hO
  by_cases hm : hk T = k
  · cases T with
    | nil => have : 0 = k := hm; omega
    | cons x T =>
      have e1 : tk k (x :: T) = .ok x.1 T := if_pos hm
      rw [e1]
      have hm' : x.1.k = k := hm
      subst hm'
      clear e1 hm
      go_enter Tryz.func128, Tryz.ntmps128
      go_upto_region 1 with (fail)
      rw [HO.out, ← hwB']; clear hwB'
      go_wp2_with fail
      refine (next_any HR.out).mono ?_
      rintro e w1 ⟨rfl, o1⟩
      have H1 := HH.out.keep (o1.nilTo _)
      obtain ⟨W2, hW2, H2, o2⟩ := box2 H1.only H1.low (tokV x.1 x.2) 84
      have hW2' : W2 = w1.alloc (.cells #[.int .i64 x.1.k, .string (bs x.1.w), .int .i64 x.1.n, .int .i64 x.2] 84) := hW2
      have R2 := HR.out.keep (o1.trans o2)
      have H3 := H1.keep (o2.nilTo _)
      obtain ⟨a', n', d, hb, hn', hc, ht⟩ := R2
      obtain ⟨g, off, rfl, _⟩ := ht 0 (by simp)
      have hn2 : n' = T.length + 1 := hn'.symm
      subst hn2
      obtain ⟨A, hA⟩ : ∃ A : Addr, (if d = 1 then (⟨g, off, none⟩ : Addr) else ⟨g, off + 4, none⟩) = A := ⟨_, rfl⟩
      have hsl := fun (W : World) => run_tailT W g off T.length d A hA
      have c0 := cell2_0 hb
      have f0 := frozen_blk hb 0
      have HQ := Rd.next hb hc ht hA
      have l0 := H2.cell 0 (v := .int .i64 x.1.k) rfl
      have l1 := H2.cell 1 (v := .string (bs x.1.w)) rfl
      have l2 := H2.cell 2 (v := .int .i64 x.1.n) rfl
      have l3 := H2.cell 3 (v := .int .i64 x.2) rfl
      have d0 := H3.free 0
      have d1 := H3.free 1
      have d2 := H3.free 2
      have d3 := H3.free 3
      have e0 := H3.cell 0 (v := .int .i64 0) rfl
      have e1 := H3.cell 1 (v := .string ⟨#[]⟩) rfl
      have e2 := H3.cell 2 (v := .int .i64 0) rfl
      have e3 := H3.cell 3 (v := .int .i64 0) rfl
      have nRO : R ≠ O := by have := H3.new; omega
      have nRL : R ≠ w1.heap.size := by have := lt_of_block H1.heap; have := H3.new; omega
      have nLO : w1.heap.size ≠ O := by have := lt_of_block H1.heap; omega
      have H4 := Lib.hid (H3.keep HQ.2)
      have HQ' := Lib.hid HQ
      clear hb hc ht hA hn' HQ H1 H2 H3 hW2
      unfold tv
      go_upto_region 2 with (fail)
      change Code.wp _ _ _ _ (w1.alloc (.cells #[.int .i64 x.1.k, .string (bs x.1.w), .int .i64 x.1.n, .int .i64 x.2] 84))
      rw [← hW2']; clear hW2' o2
      generalize w1.heap.size = L at *
      have hself : (((x.1.k : Nat) : Int) != (x.1.k : Int)) = false := by simp
      go_wp2
      have H5 := H4.out.set (tokV x.1 x.2) rfl
      refine bodyPost_ret (results_agg rfl _ _ O (tokV x.1 x.2) Tryz.isAgg84 Tryz.sizeOf84 rfl H5.heap) rfl ?_
      exact ⟨⟨_, rfl, _, rfl⟩, H4.out.rd 0 (tokV x.1 x.2) HQ'.out.1, H5.only⟩
  · rw [tk_bad hm]
    have hz : (((hk T : Nat) : Int) != (k : Int)) = true := by simp; omega
    go_enter Tryz.func128, Tryz.ntmps128
    go_upto_region 1 with (fail)
    rw [HO.out, ← hwB']; clear hwB'
    go_wp2_with fail
    refine (next_any HR.out).mono ?_
    rintro e w1 ⟨rfl, o1⟩
    obtain ⟨W2, hW2, H2, o2⟩ := box2 (Only.refl (At R) w1) (HR.out.keep o1).lt [.int .i64 (hk T), .string (bs (hw T)), .int .i64 (hn T), .int .i64 (ha N T)] 84
    have hW2' : W2 = w1.alloc (.cells #[.int .i64 (hk T), .string (bs (hw T)), .int .i64 (hn T), .int .i64 (ha N T)] 84) := hW2
    have l0 := H2.cell 0 (v := .int .i64 (hk T)) rfl
    have H1 := Lib.hid (HR.out.keep (o1.trans o2))
    have O2 := Lib.hid (HH.out.only.trans ((o1.trans o2).nilTo _))
    clear hW2 H2 hm
    unfold tv
    go_upto_region 2 with (fail)
    rw [← hW2']; clear hW2'
    generalize ((hk T : Nat) : Int) = z at *
    generalize ((k : Nat) : Int) = y at *
    go_wp2_with (go_at_call 168; refine (refuse_any H1.out).mono ?_; rintro e w2 ⟨⟨b, rfl, hc, hp⟩, o3⟩)
    exact ⟨rfl, ⟨b, rfl, hc, hp⟩, O2.out.trans (o3.nilTo _)⟩

set_option maxHeartbeats 1000000 in
theorem name_any {w : World} {R N : Nat} {T : Tks} (h : Rd w R N T) :
    Calls Tryz.prog 86 #[.pointer (some ⟨R, 0, none⟩)] w (RP (fun (t : Tok) v _ => v = .string (bs t.w)) w R N (tk 1 T)) := by
  have HR := Lib.hid h
  have hf := tok_w
  clear h
  cases hp : tk 1 T with
  | ok t r =>
    go_enter Tryz.func86, Tryz.ntmps86
    go_wp2_with fail
    refine (take_any 1 (by decide) HR.out).mono ?_
    rw [hp]
    rintro e w1 ⟨⟨v, rfl, q, rfl⟩, h1, o1⟩
    unfold tokV
    go_wp2
    go_ret
    exact ⟨⟨_, rfl, rfl⟩, h1, o1⟩
  | bad r =>
    go_enter Tryz.func86, Tryz.ntmps86
    go_wp2_with fail
    refine (take_any 1 (by decide) HR.out).mono ?_
    rw [hp]
    rintro e w1 ⟨⟨b, rfl, hc, hq⟩, o1⟩
    go_wp2
    exact ⟨rfl, ⟨b, rfl, hc, hq⟩, o1⟩
end Go.Proofs.YthanclicnkjmiaaGreatDoor.Ps
set_option linter.unusedVariables false
namespace Go.Proofs.YthanclicnkjmiaaGreatDoor.Ps
open Go.RowKit Go.Proofs.YthanclicnkjmiaaGreatDoor Lx
theorem RP.bad {α : Type} {D : α → Value → World → Prop} {w w' : World} {R N b : Nat} {r : Tks} (hc : w'.cell? ⟨b, 0, none⟩ = some (.int .i64 (flt N r).1)) (hq : w'.cell? ⟨b, 1, none⟩ = some (.int .i64 (flt N r).2)) (o : Only (At R) w w') :
    RP D w R N (.bad r) (.panicked [{ v := .iface 71 (.pointer (some ⟨b, 0, none⟩)), recovered := false }]) w' := ⟨⟨b, rfl, hc, hq⟩, o⟩

end Go.Proofs.YthanclicnkjmiaaGreatDoor.Ps
set_option linter.unusedVariables false
namespace Go.Proofs.YthanclicnkjmiaaGreatDoor.Ps
open Go.RowKit Go.Proofs.YthanclicnkjmiaaGreatDoor Lx
def effC (e : Eff) : List Value := [.int .i64 e.act, .string (bs e.ref), .string (bs e.slot), .string (bs e.name), .int .i64 e.val, .int .i64 e.n, .int .i64 e.delay]
theorem Own.put {w0 w : World} {R O : Nat} {cs : List Value} {t : TypeId} (h : Own w0 R O cs t w) (k : Nat) (v : Value) : Own w0 R O (cs.set k v) t (w.setCell ⟨O, k, none⟩ v) := by
  refine ⟨h.only.then ((Only.refl (At O) w).setCell (p := ⟨O, k, none⟩) rfl v) (fun q hq hlt => by have := h.new; unfold At at hq; omega), h.new, h.low, ?_⟩
  have := heap_setCell_self (o := k) v h.heap
  rw [List.setIfInBounds_toArray] at this
  exact this
theorem Own.ne {w0 w : World} {R O q : Nat} {cs cs' : List Value} {t t' : TypeId} (h : Own w0 R O cs t w) (k : Own w0 R q cs' t' w) (ht : t ≠ t') : O ≠ q := blk_ne h.heap k.heap ht
theorem Own.lt {w0 w : World} {R O : Nat} {cs : List Value} {t : TypeId} (h : Own w0 R O cs t w) : O < w.heap.size := lt_of_block h.heap
end Go.Proofs.YthanclicnkjmiaaGreatDoor.Ps
set_option linter.unusedVariables false
namespace Go.Proofs.YthanclicnkjmiaaGreatDoor.Ps
open Go.RowKit Go.Proofs.YthanclicnkjmiaaGreatDoor Lx
def rowCs (x : Rw × Value) : List Value := [.string (bs x.1.tag), .bool x.1.only, .int .i64 x.1.n, x.2]
def staCs (x : Sta × Value) : List Value := [.string (bs x.1.name), x.2]
def csC (c : Cs) : List Value := [.string (bs c.reason), .int .i64 c.act]
def kdCs (x : Kd × Value × Value) : List Value := [.string (bs x.1.name), .int .i64 x.1.limit, .int .i64 x.1.within, x.2.1, x.2.2]
theorem step_append_run {P : Program} {ops : Array Oper} {o : Oper} {a : Act} {w : World} {K : Act → World → Prop} {Q : Exit → Act → World → Prop} {E : Prop}
    (hgd : o.guard = none) (s x : Operand) (t : TypeId) (hop : o.op = Op.call { callee := Callee.builtin Builtin.append, args := #[s, x], argTypes := #[t, t] })
    (v1 v2 : Value) (hs : a.eval s = v1) (hx : a.eval x = v2) (v : Value) (w' : World) (hrun : (Builtin.append_ #[t, t] o.type #[v1, v2]).run P w = .ok v w') (h : K (a.put o.dst v) w') :
    if Region.wanted o (yielded ops a.tmps) = true then Oper.wp P o a w K Q else E := by
  have hw : Region.wanted o (yielded ops a.tmps) = true := by simp [Region.wanted, hgd]
  rw [if_pos hw]
  unfold Oper.wp
  simp [execOp, hop, resolve, invoke, builtin, hs, hx, hrun, Result.andThen]
  exact h
theorem Tryz.infoRow : (Tryz.prog.info? 62).map (fun i => (i.zero, i.size, i.bytes)) = some (some (.agg #[.string ⟨#[]⟩, .bool false, .int .i64 0, .slice none 0 0]), 4, 56) := by kernel_rfl
theorem Tryz.infoSta : (Tryz.prog.info? 59).map (fun i => (i.zero, i.size, i.bytes)) = some (some (.agg #[.string ⟨#[]⟩, .slice none 0 0]), 2, 40) := by kernel_rfl
theorem Tryz.infoKd : (Tryz.prog.info? 56).map (fun i => (i.zero, i.size, i.bytes)) = some (some (.agg #[.string ⟨#[]⟩, .int .i64 0, .int .i64 0, .slice none 0 0, .slice none 0 0]), 5, 80) := by kernel_rfl
end Go.Proofs.YthanclicnkjmiaaGreatDoor.Ps
set_option linter.unusedVariables false
namespace Go.Proofs.YthanclicnkjmiaaGreatDoor.Ps
open Go.RowKit Go.Proofs.YthanclicnkjmiaaGreatDoor Lx
inductive Out where
  | ok (P : List Kd)
  | bad (z q : Nat)
def prog (l : List UInt8) : Out :=
  if (whole l).2.1 = 0 then (match pProg (whole l).1 with | .ok P _ => .ok P | .bad r => .bad (flt l.length r).1 (flt l.length r).2) else .bad (whole l).2.1 (whole l).2.2
structure Two (w : World) (B1 B2 : Nat) (x y : Value) (w' : World) : Prop where
  only : Only Nil w w'
  new1 : w.heap.size ≤ B1
  new2 : w.heap.size ≤ B2
  ne : B1 ≠ B2
  h1 : w'.heap[B1]? = some (.cells #[x] 25 (0, 0))
  h2 : w'.heap[B2]? = some (.cells #[y] 27 (0, 0))
theorem Two.keep {w w1 w2 : World} {B1 B2 : Nat} {x y : Value} (h : Two w B1 B2 x y w1) (o : Only Nil w1 w2) : Two w B1 B2 x y w2 :=
  ⟨h.only.trans o, h.new1, h.new2, h.ne, (o.block B1 (lt_of_block h.h1) (fun q => q.elim)).trans h.h1, (o.block B2 (lt_of_block h.h2) (fun q => q.elim)).trans h.h2⟩
theorem Two.at_ {w w1 w2 : World} {B1 B2 R : Nat} {x y : Value} (h : Two w B1 B2 x y w1) (o : Only (At R) w1 w2) (hR : w.heap.size ≤ R) (n1 : B1 ≠ R) (n2 : B2 ≠ R) : Two w B1 B2 x y w2 :=
  ⟨h.only.then o (fun q hq hlt => by unfold At at hq; omega), h.new1, h.new2, h.ne, (o.block B1 (lt_of_block h.h1) (fun q => n1 q)).trans h.h1, (o.block B2 (lt_of_block h.h2) (fun q => n2 q)).trans h.h2⟩
end Go.Proofs.YthanclicnkjmiaaGreatDoor.Ps
set_option linter.unusedVariables false
namespace Go.Proofs.YthanclicnkjmiaaGreatDoor.Ps
open Go.RowKit Go.Proofs.YthanclicnkjmiaaGreatDoor Lx
def CIn (D : Nat) (w : World) (v : Value) (n s : Nat) (cs : List Value) : Prop :=
  ∃ a c, (v = .slice a n c ∧ n ≤ c) ∧ cs.length = n * s ∧ ∀ i, i < cs.length → ∃ b off, a = some ⟨b, off, none⟩ ∧ b < D ∧ b < w.heap.size ∧ ∀ j, j < cs.length → w.cell? ⟨b, off + j, none⟩ = cs[j]?
theorem CIn.keep {D : Nat} {S : Nat → Prop} {w w' : World} {v : Value} {n s : Nat} {cs : List Value} (h : CIn D w v n s cs) (o : Only S w w') (hS : ∀ b, b < D → ¬ S b) : CIn D w' v n s cs := by
  obtain ⟨a, c, h1, h2, h3⟩ := h
  refine ⟨a, c, h1, h2, fun i hi => ?_⟩
  obtain ⟨b, off, ha, hD, hlt, hc⟩ := h3 i hi
  refine ⟨b, off, ha, hD, Nat.lt_of_lt_of_le hlt o.size, fun j hj => ?_⟩
  have e : cs[j]? = some cs[j] := by simp [hj]
  rw [e]
  exact only_cellS o (hS b hD) ((hc j hj).trans e)
theorem CIn.mono {D D' : Nat} {w : World} {v : Value} {n s : Nat} {cs : List Value} (h : CIn D w v n s cs) (hD : D ≤ D') : CIn D' w v n s cs := by
  obtain ⟨a, c, h1, h2, h3⟩ := h
  refine ⟨a, c, h1, h2, fun i hi => ?_⟩
  obtain ⟨b, off, ha, hb, hlt, hc⟩ := h3 i hi
  exact ⟨b, off, ha, by omega, hlt, hc⟩
theorem CIn.slice {D : Nat} {w : World} {v : Value} {n s : Nat} {cs : List Value} (h : CIn D w v n s cs) : ∃ a c, v = .slice a n c := by
  obtain ⟨a, c, h1, _⟩ := h; exact ⟨a, c, h1.1⟩
theorem CIn.cap {D : Nat} {w : World} {a : Option Addr} {c n m s : Nat} {cs : List Value} (h : CIn D w (.slice a m c) n s cs) : m ≤ c := by
  obtain ⟨a', c', ⟨h1, h2⟩, _⟩ := h
  simp only [Value.slice.injEq] at h1
  omega
def XE (D : Nat) (w : World) (v : Value) (E : List Eff) : Prop := CIn D w v E.length 7 (E.flatMap effC)
def XR (D : Nat) (w : World) (v : Value) (L : List Rw) : Prop := ∃ Z : List (Rw × Value), Z.map Prod.fst = L ∧ CIn D w v L.length 4 (Z.flatMap rowCs) ∧ ∀ x ∈ Z, XE D w x.2 x.1.effs
def XS (D : Nat) (w : World) (v : Value) (L : List Sta) : Prop := ∃ Z : List (Sta × Value), Z.map Prod.fst = L ∧ CIn D w v L.length 2 (Z.flatMap staCs) ∧ ∀ x ∈ Z, XR D w x.2 x.1.rows
def XC (D : Nat) (w : World) (v : Value) (L : List Cs) : Prop := CIn D w v L.length 2 (L.flatMap csC)
def XK (D : Nat) (w : World) (v : Value) (L : List Kd) : Prop := ∃ Z : List (Kd × Value × Value), Z.map Prod.fst = L ∧ CIn D w v L.length 5 (Z.flatMap kdCs) ∧ ∀ x ∈ Z, XC D w x.2.1 x.1.cases ∧ XS D w x.2.2 x.1.states
section
variable {D D' : Nat} {S : Nat → Prop} {w w' : World} {v : Value}
theorem XE.keep {L : List Eff} (h : XE D w v L) (o : Only S w w') (hS : ∀ b, b < D → ¬ S b) : XE D w' v L := CIn.keep h o hS
theorem XR.keep {L : List Rw} (h : XR D w v L) (o : Only S w w') (hS : ∀ b, b < D → ¬ S b) : XR D w' v L := by
  obtain ⟨Z, hz, hc, hi⟩ := h; exact ⟨Z, hz, hc.keep o hS, fun x hx => (hi x hx).keep o hS⟩
theorem XS.keep {L : List Sta} (h : XS D w v L) (o : Only S w w') (hS : ∀ b, b < D → ¬ S b) : XS D w' v L := by
  obtain ⟨Z, hz, hc, hi⟩ := h; exact ⟨Z, hz, hc.keep o hS, fun x hx => (hi x hx).keep o hS⟩
theorem XC.keep {L : List Cs} (h : XC D w v L) (o : Only S w w') (hS : ∀ b, b < D → ¬ S b) : XC D w' v L := CIn.keep h o hS
theorem XK.keep {L : List Kd} (h : XK D w v L) (o : Only S w w') (hS : ∀ b, b < D → ¬ S b) : XK D w' v L := by
  obtain ⟨Z, hz, hc, hi⟩ := h; exact ⟨Z, hz, hc.keep o hS, fun x hx => ⟨(hi x hx).1.keep o hS, (hi x hx).2.keep o hS⟩⟩
theorem XE.mono {L : List Eff} (h : XE D w v L) (hD : D ≤ D') : XE D' w v L := CIn.mono h hD
theorem XR.mono {L : List Rw} (h : XR D w v L) (hD : D ≤ D') : XR D' w v L := by
  obtain ⟨Z, hz, hc, hi⟩ := h; exact ⟨Z, hz, hc.mono hD, fun x hx => (hi x hx).mono hD⟩
theorem XS.mono {L : List Sta} (h : XS D w v L) (hD : D ≤ D') : XS D' w v L := by
  obtain ⟨Z, hz, hc, hi⟩ := h; exact ⟨Z, hz, hc.mono hD, fun x hx => (hi x hx).mono hD⟩
theorem XC.mono {L : List Cs} (h : XC D w v L) (hD : D ≤ D') : XC D' w v L := CIn.mono h hD
theorem XK.mono {L : List Kd} (h : XK D w v L) (hD : D ≤ D') : XK D' w v L := by
  obtain ⟨Z, hz, hc, hi⟩ := h; exact ⟨Z, hz, hc.mono hD, fun x hx => ⟨(hi x hx).1.mono hD, (hi x hx).2.mono hD⟩⟩
end
theorem nilS (b D : Nat) : b < D → ¬ Nil b := fun _ q => q.elim
theorem own_cin {w : World} {lo s n : Nat} {e : TypeId} {v : Value} {xs : List Value} (h : w.ownsRow lo e s v n xs) : CIn w.heap.size w v n s xs := by
  obtain ⟨a, c, rfl⟩ := own_slice_n h
  refine ⟨a, c, ⟨rfl, ?_⟩, h.1, fun i hi => ?_⟩
  · rcases h.2 with ⟨h1, h2⟩ | ⟨g, c', cur, h1, _, _, h4, _⟩
    · omega
    · simp only [Value.slice.injEq] at h1; omega
  rcases h.2 with ⟨_, h0⟩ | ⟨g, c', cur, hv, _, hg, _, _, _, ht⟩
  · have := h.1; rw [h0, Nat.zero_mul] at this; omega
  · simp only [Value.slice.injEq] at hv
    obtain ⟨rfl, _, _⟩ := hv
    refine ⟨g, 0, rfl, lt_of_block hg, lt_of_block hg, fun j hj => ?_⟩
    rw [Nat.zero_add, cell_of_row w g j _ _ _ hg]
    have h1 := h.1
    have : xs[j]? = (cur.toList.take (n * s))[j]? := by rw [ht]
    rw [this, List.getElem?_take, if_pos (by omega)]
    simp
theorem flat_get {α : Type} (f : α → List Value) (s : Nat) (hf : ∀ x, (f x).length = s) (L : List α) (j k : Nat) (hj : j < L.length) (hk : k < s) : (L.flatMap f)[j * s + k]? = (f L[j])[k]? := by
  induction L generalizing j with
  | nil => simp at hj
  | cons x L ih =>
    rw [List.flatMap_cons]
    cases j with
    | zero => rw [Nat.zero_mul, Nat.zero_add, List.getElem?_append_left (by rw [hf]; exact hk)]; rfl
    | succ j =>
      rw [List.getElem?_append_right (by rw [hf, Nat.add_mul]; omega), hf]
      have e : (j + 1) * s + k - s = j * s + k := by rw [Nat.add_mul]; omega
      rw [e, ih j (by simpa using hj)]
      rfl
def Ats (w : World) (a : Option Addr) (s j : Nat) (cs : List Value) : Prop := ∃ b off, a = some ⟨b, off, none⟩ ∧ b < w.heap.size ∧ ∀ k, k < s → w.cell? ⟨b, off + j * s + k, none⟩ = cs[k]?
theorem CIn.at_ {α : Type} {D : Nat} {w : World} {a : Option Addr} {n s c : Nat} {f : α → List Value} {Z : List α} (hf : ∀ x, (f x).length = s) (hs : 0 < s) (h : CIn D w (.slice a n c) n s (Z.flatMap f)) (hZ : Z.length = n) (j : Nat) (hj : j < n) : Ats w a s j (f (Z[j]'(by omega))) := by
  obtain ⟨a', c', ⟨h1, _⟩, h2, h3⟩ := h
  simp only [Value.slice.injEq] at h1
  obtain ⟨rfl, _, rfl⟩ := h1
  have hlt : j * s + s ≤ n * s := by rw [← Nat.succ_mul]; exact Nat.mul_le_mul_right _ hj
  obtain ⟨b, off, ha, _, hb, hc⟩ := h3 (j * s) (by omega)
  refine ⟨b, off, ha, hb, fun k hk => ?_⟩
  rw [Nat.add_assoc, hc (j * s + k) (by omega), flat_get f s hf Z j k (by omega) hk]
theorem XE.at_ {D : Nat} {w : World} {a : Option Addr} {n c : Nat} {L : List Eff} (h : XE D w (.slice a n c) L) (hn : L.length = n) (j : Nat) (hj : j < n) : Ats w a 7 j (effC (L[j]'(by omega))) := by
  subst hn; exact CIn.at_ (f := effC) (s := 7) (fun _ => rfl) (by decide) h rfl j hj
theorem XC.at_ {D : Nat} {w : World} {a : Option Addr} {n c : Nat} {L : List Cs} (h : XC D w (.slice a n c) L) (hn : L.length = n) (j : Nat) (hj : j < n) : Ats w a 2 j (csC (L[j]'(by omega))) := by
  subst hn; exact CIn.at_ (f := csC) (s := 2) (fun _ => rfl) (by decide) h rfl j hj
theorem XR.at_ {D : Nat} {w : World} {a : Option Addr} {n c : Nat} {L : List Rw} (h : XR D w (.slice a n c) L) (hn : L.length = n) (j : Nat) (hj : j < n) : ∃ sl, Ats w a 4 j (rowCs (L[j]'(by omega), sl)) ∧ XE D w sl (L[j]'(by omega)).effs := by
  obtain ⟨Z, hz, hc, hi⟩ := h
  subst hz
  rw [List.length_map] at hn hc
  rw [hn] at hc
  have := CIn.at_ (f := rowCs) (s := 4) (fun _ => rfl) (by decide) hc hn j hj
  refine ⟨(Z[j]'(by omega)).2, ?_, ?_⟩
  · simpa using this
  · simpa using hi _ (List.getElem_mem (by omega : j < Z.length))
theorem XS.at_ {D : Nat} {w : World} {a : Option Addr} {n c : Nat} {L : List Sta} (h : XS D w (.slice a n c) L) (hn : L.length = n) (j : Nat) (hj : j < n) : ∃ sl, Ats w a 2 j (staCs (L[j]'(by omega), sl)) ∧ XR D w sl (L[j]'(by omega)).rows := by
  obtain ⟨Z, hz, hc, hi⟩ := h
  subst hz
  rw [List.length_map] at hn hc
  rw [hn] at hc
  have := CIn.at_ (f := staCs) (s := 2) (fun _ => rfl) (by decide) hc hn j hj
  refine ⟨(Z[j]'(by omega)).2, ?_, ?_⟩
  · simpa using this
  · simpa using hi _ (List.getElem_mem (by omega : j < Z.length))
theorem XK.at_ {D : Nat} {w : World} {a : Option Addr} {n c : Nat} {L : List Kd} (h : XK D w (.slice a n c) L) (hn : L.length = n) (j : Nat) (hj : j < n) : ∃ s1 s2, Ats w a 5 j (kdCs (L[j]'(by omega), s1, s2)) ∧ XC D w s1 (L[j]'(by omega)).cases ∧ XS D w s2 (L[j]'(by omega)).states := by
  obtain ⟨Z, hz, hc, hi⟩ := h
  subst hz
  rw [List.length_map] at hn hc
  rw [hn] at hc
  have := CIn.at_ (f := kdCs) (s := 5) (fun _ => rfl) (by decide) hc hn j hj
  refine ⟨(Z[j]'(by omega)).2.1, (Z[j]'(by omega)).2.2, ?_, ?_⟩
  · simpa using this
  · simpa using hi _ (List.getElem_mem (by omega : j < Z.length))
theorem XE.slice {D : Nat} {w : World} {v : Value} {L : List Eff} (h : XE D w v L) : ∃ a c, v = .slice a L.length c := CIn.slice h
theorem XC.slice {D : Nat} {w : World} {v : Value} {L : List Cs} (h : XC D w v L) : ∃ a c, v = .slice a L.length c := CIn.slice h
theorem XR.slice {D : Nat} {w : World} {v : Value} {L : List Rw} (h : XR D w v L) : ∃ a c, v = .slice a L.length c := by obtain ⟨_, _, h, _⟩ := h; exact CIn.slice h
theorem XS.slice {D : Nat} {w : World} {v : Value} {L : List Sta} (h : XS D w v L) : ∃ a c, v = .slice a L.length c := by obtain ⟨_, _, h, _⟩ := h; exact CIn.slice h
theorem XK.slice {D : Nat} {w : World} {v : Value} {L : List Kd} (h : XK D w v L) : ∃ a c, v = .slice a L.length c := by obtain ⟨_, _, h, _⟩ := h; exact CIn.slice h
end Go.Proofs.YthanclicnkjmiaaGreatDoor.Ps
set_option linter.unusedVariables false
namespace Go.Proofs.YthanclicnkjmiaaGreatDoor.Ps
open Go.RowKit Go.Proofs.YthanclicnkjmiaaGreatDoor Lx
theorem bs_beq (a b : Wd) : ((bs a).toList == (bs b).toList) = decide (a = b) := by
  rw [toList_bs, toList_bs]; exact Bool.eq_iff_iff.2 (by simp)
def smR (x : Rw) : Prop := x.effs.length ≤ 65000
def smS (x : Sta) : Prop := x.rows.length ≤ 65000 ∧ ∀ r ∈ x.rows, smR r
def smK (x : Kd) : Prop := x.cases.length ≤ 65000 ∧ x.states.length ≤ 65000 ∧ ∀ s ∈ x.states, smS s
def smP (P : List Kd) : Prop := P.length ≤ 65000 ∧ ∀ k ∈ P, smK k
theorem eq_upto {α : Type} {L M : List α} {n : Nat} (hl : L.length = n) (hm : M.length = n) (h : ∀ j, j < n → L[j]? = M[j]?) : L = M := by
  refine List.ext_getElem? fun j => ?_
  rcases Nat.lt_or_ge j n with hj | hj
  · exact h j hj
  · rw [List.getElem?_eq_none (by omega), List.getElem?_eq_none (by omega)]


end Go.Proofs.YthanclicnkjmiaaGreatDoor.Ps
set_option linter.unusedVariables false
namespace Go.Proofs.YthanclicnkjmiaaGreatDoor.Ps
open Go.RowKit Go.Proofs.YthanclicnkjmiaaGreatDoor Lx
def inW (n : Int) : Prop := -9223372036854775808 ≤ n ∧ n ≤ 9223372036854775807
end Go.Proofs.YthanclicnkjmiaaGreatDoor.Ps
set_option linter.unusedVariables false
namespace Go.Proofs.YthanclicnkjmiaaGreatDoor.Ps
open Go.RowKit Go.Proofs.YthanclicnkjmiaaGreatDoor Lx
def okN (n : Int) : Bool := decide (0 ≤ n) && decide (n ≤ 65535)
theorem okN_iff (n : Int) : okN n = true ↔ 0 ≤ n ∧ n ≤ 65535 := by unfold okN; simp
def pickW (ws : List Wd) (i : Int) : Wd := if 0 ≤ i ∧ i < (ws.length : Int) then ws.getD i.toNat [] else []
def okP (ws : List Wd) (i : Int) : Bool := decide (0 ≤ i) && decide (i < (ws.length : Int))
end Go.Proofs.YthanclicnkjmiaaGreatDoor.Ps
set_option linter.unusedVariables false
namespace Go.Proofs.YthanclicnkjmiaaGreatDoor.Ps
open Go.RowKit Go.Proofs.YthanclicnkjmiaaGreatDoor Lx
def okV (v n : Int) : Bool := if v = 2 then okN n else decide (n = 0) && okP vals v
def Bx (w : World) (O : Nat) (cs : List Value) (t : TypeId) : Prop := w.heap[O]? = some (.cells cs.toArray t (0, 0))
theorem Bx.keep {w w' : World} {O : Nat} {cs : List Value} {t : TypeId} (h : Bx w O cs t) (o : Only Nil w w') : Bx w' O cs t := (o.block O (lt_of_block h) (fun q => q.elim)).trans h
theorem Bx.cell {w : World} {O : Nat} {cs : List Value} {t : TypeId} (h : Bx w O cs t) (k : Nat) {v : Value} (hk : cs[k]? = some v) : w.cell? ⟨O, k, none⟩ = some v := by
  rw [cell_of_row w O k _ _ _ h]; simpa using hk
theorem Bx.free {w : World} {O : Nat} {cs : List Value} {t : TypeId} (h : Bx w O cs t) (k : Nat) : w.frozen? ⟨O, k, none⟩ = false := frozen_blk h k
theorem bx_new (w : World) (cs : List Value) (t : TypeId) : Bx (w.alloc (.cells cs.toArray t)) w.heap.size cs t := heap_new w _
def okH (x : Rw) : Bool := if x.only then isNm x.tag && okN x.n else decide (x.n = 0) && (decide (x.tag = []) || isNm x.tag)
end Go.Proofs.YthanclicnkjmiaaGreatDoor.Ps
set_option linter.unusedVariables false
namespace Go.Proofs.YthanclicnkjmiaaGreatDoor.Ps
open Go.RowKit Go.Proofs.YthanclicnkjmiaaGreatDoor Lx
def okPart (x : Eff) (c : UInt8) : Bool := if c = 114 then isNm x.ref else if c = 115 then isNm x.slot else if c = 110 then isNm x.name else if c = 100 then okN x.delay else okV x.val x.n
def zeroP (o : Eff) (c : UInt8) : Eff := if c = 114 then { o with ref := [] } else if c = 115 then { o with slot := [] } else if c = 110 then { o with name := [] } else if c = 100 then { o with delay := 0 } else { o with val := 0, n := 0 }
def okE (x : Eff) : Bool := okP effw (x.act - 1) && ((parts x.act).all (okPart x) && decide ((parts x.act).foldl zeroP { x with act := 0 } = eff0 0))
structure wfE (x : Eff) : Prop where
  act : inW x.act
  val : inW x.val
  n : inW x.n
  delay : inW x.delay
  ref : x.ref.length ≤ 140737488355328
  slot : x.slot.length ≤ 140737488355328
  name : x.name.length ≤ 140737488355328
theorem Bx.at_ {w w' : World} {O q : Nat} {cs : List Value} {t : TypeId} (h : Bx w O cs t) (o : Only (At q) w w') (hq : O ≠ q) : Bx w' O cs t := (o.block O (lt_of_block h) (fun e => hq e)).trans h
theorem Bx.put {w : World} {O : Nat} {cs : List Value} {t : TypeId} (h : Bx w O cs t) (k : Nat) (v : Value) : Bx (w.setCell ⟨O, k, none⟩ v) O (cs.set k v) t := by
  have := heap_setCell_self (o := k) v h
  rw [List.setIfInBounds_toArray] at this
  exact this
end Go.Proofs.YthanclicnkjmiaaGreatDoor.Ps
set_option linter.unusedVariables false
namespace Go.Proofs.YthanclicnkjmiaaGreatDoor.Ps
open Go.RowKit Go.Proofs.YthanclicnkjmiaaGreatDoor Lx
def okR (x : Rw) : Bool := okH x && x.effs.all okE
def okC (c : Cs) : Bool := (decide (c.reason = []) || isNm c.reason) && okP dirs (c.act - 1)
def okS (s : Sta) : Bool := isNm s.name && s.rows.all okR
def okK (k : Kd) : Bool := (isNm k.name && (okN k.limit && okN k.within)) && (k.cases.all okC && k.states.all okS)
structure wfR (x : Rw) : Prop where
  n : inW x.n
  tag : x.tag.length ≤ 140737488355328
  effs : ∀ e ∈ x.effs, wfE e
structure wfC (c : Cs) : Prop where
  act : inW c.act
  reason : c.reason.length ≤ 140737488355328
structure wfS (s : Sta) : Prop where
  name : s.name.length ≤ 140737488355328
  rows : ∀ r ∈ s.rows, wfR r
structure wfK (k : Kd) : Prop where
  limit : inW k.limit
  within : inW k.within
  name : k.name.length ≤ 140737488355328
  cases : ∀ c ∈ k.cases, wfC c
  states : ∀ s ∈ k.states, wfS s
def wfP (P : List Kd) : Prop := ∀ k ∈ P, wfK k
end Go.Proofs.YthanclicnkjmiaaGreatDoor.Ps
set_option linter.unusedVariables false
namespace Go.Proofs.YthanclicnkjmiaaGreatDoor.Ps
open Go.RowKit Go.Proofs.YthanclicnkjmiaaGreatDoor Lx
theorem act_cases {z : Int} (h1 : 1 ≤ z) (h2 : z ≤ 12) : z = 1 ∨ z = 2 ∨ z = 3 ∨ z = 4 ∨ z = 5 ∨ z = 6 ∨ z = 7 ∨ z = 8 ∨ z = 9 ∨ z = 10 ∨ z = 11 ∨ z = 12 := by omega
end Go.Proofs.YthanclicnkjmiaaGreatDoor.Ps
set_option linter.unusedVariables false
namespace Go.Proofs.YthanclicnkjmiaaGreatDoor.Ps
open Go.RowKit Go.Proofs.YthanclicnkjmiaaGreatDoor Lx
theorem Ats.cell {w : World} {a : Option Addr} {s j : Nat} {cs : List Value} (h : Ats w a s j cs) : ∃ b off, a = some ⟨b, off, none⟩ ∧ ∀ k v, k < s → cs[k]? = some v → w.cell? ⟨b, off + j * s + k, none⟩ = some v := by
  obtain ⟨b, off, ha, _, h⟩ := h
  exact ⟨b, off, ha, fun k v hk hv => (h k hk).trans hv⟩
end Go.Proofs.YthanclicnkjmiaaGreatDoor.Ps
set_option linter.unusedVariables false
namespace Go.Proofs.YthanclicnkjmiaaGreatDoor.Ps
open Go.RowKit Go.Proofs.YthanclicnkjmiaaGreatDoor Lx
theorem below_nil {w w' : World} (o : Only Nil w w') : Below w.heap.size w w' := o.below (Nat.le_refl _) (fun k h => h.elim)
end Go.Proofs.YthanclicnkjmiaaGreatDoor.Ps
set_option linter.unusedVariables false
namespace Go.Proofs.YthanclicnkjmiaaGreatDoor.Ps
open Go.RowKit Go.ChangeShapes Go.WideShapes Go.ChangeAt Go.Joins Go.Deep Go.Proofs.YthanclicnkjmiaaGreatDoor Lx
theorem add_addP (b off j k : Nat) : ((⟨b, off, none⟩ : Addr).add j).add k = ⟨b, off + j + k, none⟩ := by
  have e : ∀ o n, (⟨b, o, none⟩ : Addr).add n = ⟨b, o + n, none⟩ := fun o n => by
    by_cases h : n = 0
    · subst h; simp [Addr.add]
    · simp [Addr.add, h]
  rw [e, e]
section
variable {H : Type} {enc : TypeId × Value → H} {w : World} {held : Bool}
def Sz (P : Program) (t : TypeId) (d : DataW H) : Prop := ∀ k ∈ d.weights P t, k ≤ 140737488355328
theorem sz_all {P : Program} {e : TypeId} {l : List (DataW H)} (h : ∀ k ∈ DataW.weightsAll P e l, k ≤ 140737488355328) {d : DataW H} (hd : d ∈ l) : Sz P e d := by
  induction l with
  | nil => cases hd
  | cons x l ih =>
    simp only [DataW.weightsAll, List.mem_append] at h
    rcases List.mem_cons.1 hd with rfl | hd
    · exact fun k hk => h k (Or.inl hk)
    · exact ih (fun k hk => h k (Or.inr hk)) hd
set_option maxRecDepth 100000 in
theorem open_sl {α : Type} [Inhabited α] {P : Program} {t e : TypeId} {s : Nat} {f : α → List Value} {Q : α → Prop} (ht : P.underlying t = some (.slice e)) (hC : P.cellsOf e = s) (hs : 0 < s) (hf : ∀ x, (f x).length = s)
    (elem : ∀ {m : Nat} {cs : List Value} {x : DataW H × List MemPlace}, DataW.trod enc P w 0 (fun _ => true) held m e cs = some x → Sz P e x.1 → ∃ z : α, cs = f z ∧ Q z)
    {fuel : Nat} {cs : List Value} {x : DataW H × List MemPlace} (h : DataW.trod enc P w 0 (fun _ => true) held fuel t cs = some x) (hw : Sz P t x.1) :
    ∃ v, cs = [v] ∧ ∃ Z : List α, CIn w.heap.size w v Z.length s (Z.flatMap f) ∧ (∀ z ∈ Z, Q z) ∧ Z.length * P.bytesOf e ≤ 140737488355328 := by
  rcases open_slice ht h with ⟨rfl, rfl⟩ | ⟨y, len, c, m, n, D, Pl, rfl, _, hl, hm, hmm, rfl, hi⟩
  · exact ⟨_, rfl, [], ⟨none, 0, ⟨rfl, Nat.le_refl _⟩, by simp, (fun i hi => by simp at hi)⟩, (fun z hz => by cases hz), by simp⟩
  · simp only [if_true] at hmm
    subst hmm
    rw [hC] at hi
    have hw' : (∀ k, k = (len + (m - len)) * P.bytesOf e → k ≤ 140737488355328) ∧ ∀ k ∈ DataW.weightsAll P e ((List.range len).map D), k ≤ 140737488355328 := by
      have h0 : ∀ k ∈ (((List.range len).map D).length + ((List.range (m - len)).map fun j => D (len + j)).length) * P.bytesOf e :: (DataW.weightsAll P e ((List.range len).map D) ++ DataW.weightsAll P e ((List.range (m - len)).map fun j => D (len + j))), k ≤ 140737488355328 := by
        have := hw
        unfold Sz at this
        simp only [DataW.weights, ht] at this
        exact this
      refine ⟨fun k hk => h0 k ?_, fun k hk => h0 k (List.mem_cons_of_mem _ (List.mem_append_left _ hk))⟩
      rw [hk]; simp
    obtain ⟨g, hg⟩ := choose_lt (α := α) (n := len) (p := fun i z => (∀ k, k < s → w.cell? ((y.add (i * s)).add k) = (f z)[k]?) ∧ Q z) (fun i hil => by
      obtain ⟨cs', hc, htr⟩ := hi i (by omega)
      obtain ⟨_, hlc, hat⟩ := World.cells?_some hc
      obtain ⟨z, rfl, hz⟩ := elem htr (sz_all hw'.2 (List.mem_map.2 ⟨i, by simpa using hil, rfl⟩))
      exact ⟨z, hat, hz⟩)
    have hlen : ((List.range len).map g).length = len := by simp
    refine ⟨_, rfl, (List.range len).map g, ⟨some y, m, ⟨by rw [hlen], by rw [hlen]; omega⟩, ?_, ?_⟩, ?_, ?_⟩
    · have : ∀ L : List α, (L.flatMap f).length = L.length * s := fun L => by
        induction L with
        | nil => simp
        | cons a L ih => rw [List.flatMap_cons, List.length_append, hf, ih, List.length_cons, Nat.add_mul]; omega
      exact this _
    · have hL : ∀ L : List α, (L.flatMap f).length = L.length * s := fun L => by
        induction L with
        | nil => simp
        | cons a L ih => rw [List.flatMap_cons, List.length_append, hf, ih, List.length_cons, Nat.add_mul]; omega
      intro i hi'
      rw [hL, hlen] at hi'
      have hl0 : 0 < len := by rcases Nat.eq_zero_or_pos len with h0 | h0; (subst h0; simp at hi'); exact h0
      obtain ⟨b, off, spot⟩ := y
      have hx : ∃ v, (f (g 0))[0]? = some v := ⟨(f (g 0))[0]'(by rw [hf]; exact hs), by simp⟩
      obtain ⟨v0, hv0⟩ := hx
      have h0 := ((hg 0 hl0).1 0 hs).trans hv0
      have hspot : spot = none := by simpa [Addr.add] using World.cell?_spot h0
      subst hspot
      have hb : b < w.heap.size := by
        rw [add_addP] at h0
        exact cellLt h0
      refine ⟨b, off, rfl, hb, hb, fun j hj => ?_⟩
      rw [hL, hlen] at hj
      have hj1 : j / s < len := (Nat.div_lt_iff_lt_mul hs).2 hj
      have hj2 : j % s < s := Nat.mod_lt _ hs
      have hj3 : j = j / s * s + j % s := by rw [Nat.mul_comm]; exact (Nat.div_add_mod j s).symm
      have h1 := (hg (j / s) hj1).1 (j % s) hj2
      rw [add_addP] at h1
      have h2 := flat_get f s hf ((List.range len).map g) (j / s) (j % s) (by rw [hlen]; exact hj1) hj2
      simp only [List.getElem_map, List.getElem_range] at h2
      rw [hj3, h2, ← Nat.add_assoc]
      exact h1
    · intro z hz
      obtain ⟨i, hi', rfl⟩ := List.mem_map.1 hz
      exact (hg i (by simpa using hi')).2
    · rw [hlen]
      have := hw'.1 _ rfl
      refine Nat.le_trans (Nat.mul_le_mul_right _ ?_) this
      omega
theorem trod_struct5 {P : Program} {base : Nat} {spare : Nat → Bool} {t : TypeId} {f0 f1 f2 f3 f4 : Field} {fuel : Nat} {cs : List Value} {x : DataW H × List MemPlace} (ht : P.underlying t = some (.struct #[f0, f1, f2, f3, f4])) (h : DataW.trod enc P w base spare held fuel t cs = some x) :
    ∃ y0 y1 y2 y3 y4 n, x.1 = .agg [y0.1, y1.1, y2.1, y3.1, y4.1] ∧ cs.length = P.cellsOf t ∧ DataW.trod enc P w base spare held n f0.type ((cs.drop f0.offset).take (P.cellsOf f0.type)) = some y0 ∧
      DataW.trod enc P w base spare held n f1.type ((cs.drop f1.offset).take (P.cellsOf f1.type)) = some y1 ∧ DataW.trod enc P w base spare held n f2.type ((cs.drop f2.offset).take (P.cellsOf f2.type)) = some y2 ∧
      DataW.trod enc P w base spare held n f3.type ((cs.drop f3.offset).take (P.cellsOf f3.type)) = some y3 ∧ DataW.trod enc P w base spare held n f4.type ((cs.drop f4.offset).take (P.cellsOf f4.type)) = some y4 := by
  obtain ⟨xs, n, _, rfl, hl, hlen, hf⟩ := DataW.trod_struct ht h
  match xs, hlen with
  | [y0, y1, y2, y3, y4], _ => exact ⟨y0, y1, y2, y3, y4, n, by simp, hl, by simpa using hf 0 f0 rfl, by simpa using hf 1 f1 rfl, by simpa using hf 2 f2 rfl, by simpa using hf 3 f3 rfl, by simpa using hf 4 f4 rfl⟩
theorem trod_struct7 {P : Program} {base : Nat} {spare : Nat → Bool} {t : TypeId} {f0 f1 f2 f3 f4 f5 f6 : Field} {fuel : Nat} {cs : List Value} {x : DataW H × List MemPlace} (ht : P.underlying t = some (.struct #[f0, f1, f2, f3, f4, f5, f6])) (h : DataW.trod enc P w base spare held fuel t cs = some x) :
    ∃ y0 y1 y2 y3 y4 y5 y6 n, x.1 = .agg [y0.1, y1.1, y2.1, y3.1, y4.1, y5.1, y6.1] ∧ cs.length = P.cellsOf t ∧ DataW.trod enc P w base spare held n f0.type ((cs.drop f0.offset).take (P.cellsOf f0.type)) = some y0 ∧
      DataW.trod enc P w base spare held n f1.type ((cs.drop f1.offset).take (P.cellsOf f1.type)) = some y1 ∧ DataW.trod enc P w base spare held n f2.type ((cs.drop f2.offset).take (P.cellsOf f2.type)) = some y2 ∧
      DataW.trod enc P w base spare held n f3.type ((cs.drop f3.offset).take (P.cellsOf f3.type)) = some y3 ∧ DataW.trod enc P w base spare held n f4.type ((cs.drop f4.offset).take (P.cellsOf f4.type)) = some y4 ∧
      DataW.trod enc P w base spare held n f5.type ((cs.drop f5.offset).take (P.cellsOf f5.type)) = some y5 ∧ DataW.trod enc P w base spare held n f6.type ((cs.drop f6.offset).take (P.cellsOf f6.type)) = some y6 := by
  obtain ⟨xs, n, _, rfl, hl, hlen, hf⟩ := DataW.trod_struct ht h
  match xs, hlen with
  | [y0, y1, y2, y3, y4, y5, y6], _ => exact ⟨y0, y1, y2, y3, y4, y5, y6, n, by simp, hl, by simpa using hf 0 f0 rfl, by simpa using hf 1 f1 rfl, by simpa using hf 2 f2 rfl, by simpa using hf 3 f3 rfl, by simpa using hf 4 f4 rfl, by simpa using hf 5 f5 rfl, by simpa using hf 6 f6 rfl⟩
theorem inw_of {n : Int} (h : (Lit.int .i64 n).wf = true) : inW n := by
  simp [Lit.wf, IntKind.min, IntKind.max, IntKind.signed, IntKind.bits] at h
  unfold inW
  omega
theorem op_str {m : Nat} {v : Value} {y : DataW H × List MemPlace} (h : DataW.trod enc Tryz.prog w 0 (fun _ => true) held m 9 [v] = some y) (hz : Sz Tryz.prog 9 y.1) : ∃ l : Wd, v = .string (bs l) ∧ l.length ≤ 140737488355328 := by
  obtain ⟨s, e, rfl, _⟩ := DataW.trod_string Tryz.underlying9 h
  simp only [List.cons.injEq, and_true] at e
  subst e
  exact ⟨s.data.toList, by rw [bs_of], hz _ (by simp [DataW.weights])⟩
theorem op_int {m : Nat} {v : Value} {y : DataW H × List MemPlace} (h : DataW.trod enc Tryz.prog w 0 (fun _ => true) held m 3 [v] = some y) : ∃ n : Int, v = .int .i64 n ∧ inW n := by
  obtain ⟨n, e, _, wf⟩ := DataW.trod_int Tryz.underlying3 h
  simp only [List.cons.injEq, and_true] at e
  subst e
  exact ⟨n, rfl, inw_of wf⟩
theorem op_bool {m : Nat} {v : Value} {y : DataW H × List MemPlace} (h : DataW.trod enc Tryz.prog w 0 (fun _ => true) held m 4 [v] = some y) : ∃ b : Bool, v = .bool b := by
  obtain ⟨n, e, _⟩ := DataW.trod_bool Tryz.underlying4 h
  simp only [List.cons.injEq, and_true] at e
  exact ⟨n, e⟩
set_option maxRecDepth 100000 in
theorem open_eff {m : Nat} {cs : List Value} {x : DataW H × List MemPlace} (h : DataW.trod enc Tryz.prog w 0 (fun _ => true) held m 67 cs = some x) (hz : Sz Tryz.prog 67 x.1) : ∃ z : Eff, cs = effC z ∧ wfE z := by
  obtain ⟨y0, y1, y2, y3, y4, y5, y6, n, e, hl, h0, h1, h2, h3, h4, h5, h6⟩ := trod_struct7 Tryz.underlying67 h
  have hC : Tryz.prog.cellsOf 67 = 7 := by kernel_rfl
  rw [hC] at hl
  unfold Sz at hz
  rw [e] at hz
  simp only [DataW.weights, Tryz.underlying67, DataW.weightsEach, List.map_cons, List.map_nil, List.mem_append] at hz
  match cs, hl with
  | [v0, v1, v2, v3, v4, v5, v6], _ =>
    have g0 : DataW.trod enc Tryz.prog w 0 (fun _ => true) held n 3 [v0] = some y0 := h0
    have g1 : DataW.trod enc Tryz.prog w 0 (fun _ => true) held n 9 [v1] = some y1 := h1
    have g2 : DataW.trod enc Tryz.prog w 0 (fun _ => true) held n 9 [v2] = some y2 := h2
    have g3 : DataW.trod enc Tryz.prog w 0 (fun _ => true) held n 9 [v3] = some y3 := h3
    have g4 : DataW.trod enc Tryz.prog w 0 (fun _ => true) held n 3 [v4] = some y4 := h4
    have g5 : DataW.trod enc Tryz.prog w 0 (fun _ => true) held n 3 [v5] = some y5 := h5
    have g6 : DataW.trod enc Tryz.prog w 0 (fun _ => true) held n 3 [v6] = some y6 := h6
    obtain ⟨a0, rfl, i0⟩ := op_int g0
    obtain ⟨a1, rfl, i1⟩ := op_str g1 (fun k hk => hz k (Or.inr (Or.inl hk)))
    obtain ⟨a2, rfl, i2⟩ := op_str g2 (fun k hk => hz k (Or.inr (Or.inr (Or.inl hk))))
    obtain ⟨a3, rfl, i3⟩ := op_str g3 (fun k hk => hz k (Or.inr (Or.inr (Or.inr (Or.inl hk)))))
    obtain ⟨a4, rfl, i4⟩ := op_int g4
    obtain ⟨a5, rfl, i5⟩ := op_int g5
    obtain ⟨a6, rfl, i6⟩ := op_int g6
    exact ⟨⟨a0, a1, a2, a3, a4, a5, a6⟩, rfl, ⟨i0, i4, i5, i6, i1, i2, i3⟩⟩
theorem open_effs {m : Nat} {v : Value} {y : DataW H × List MemPlace} (h : DataW.trod enc Tryz.prog w 0 (fun _ => true) held m 60 [v] = some y) (hz : Sz Tryz.prog 60 y.1) :
    ∃ E : List Eff, XE w.heap.size w v E ∧ (∀ e ∈ E, wfE e) ∧ E.length * 80 ≤ 140737488355328 := by
  obtain ⟨v', e, E, h1, h2, h3⟩ := open_sl (s := 7) (f := effC) (Q := wfE) Tryz.underlying60 (by kernel_rfl) (by decide) (fun _ => rfl) open_eff h hz
  simp only [List.cons.injEq, and_true] at e
  subst e
  have e6 : Tryz.prog.bytesOf 67 = 80 := by kernel_rfl
  rw [e6] at h3
  exact ⟨E, h1, h2, h3⟩
set_option maxRecDepth 100000 in
theorem open_cs {m : Nat} {cs : List Value} {x : DataW H × List MemPlace} (h : DataW.trod enc Tryz.prog w 0 (fun _ => true) held m 89 cs = some x) (hz : Sz Tryz.prog 89 x.1) : ∃ z : Cs, cs = csC z ∧ wfC z := by
  obtain ⟨y0, y1, n, rfl, hl, h0, h1⟩ := trod_struct2 Tryz.underlying89 h
  have hC : Tryz.prog.cellsOf 89 = 2 := by kernel_rfl
  rw [hC] at hl
  unfold Sz at hz
  simp only [DataW.weights, Tryz.underlying89, DataW.weightsEach, List.map_cons, List.map_nil, List.mem_append] at hz
  match cs, hl with
  | [v0, v1], _ =>
    have g0 : DataW.trod enc Tryz.prog w 0 (fun _ => true) held n 9 [v0] = some y0 := h0
    have g1 : DataW.trod enc Tryz.prog w 0 (fun _ => true) held n 3 [v1] = some y1 := h1
    obtain ⟨a0, rfl, i0⟩ := op_str g0 (fun k hk => hz k (Or.inl hk))
    obtain ⟨a1, rfl, i1⟩ := op_int g1
    exact ⟨⟨a0, a1⟩, rfl, ⟨i1, i0⟩⟩
theorem open_css {m : Nat} {v : Value} {y : DataW H × List MemPlace} (h : DataW.trod enc Tryz.prog w 0 (fun _ => true) held m 53 [v] = some y) (hz : Sz Tryz.prog 53 y.1) :
    ∃ E : List Cs, XC w.heap.size w v E ∧ (∀ e ∈ E, wfC e) ∧ E.length * 24 ≤ 140737488355328 := by
  obtain ⟨v', e, E, h1, h2, h3⟩ := open_sl (s := 2) (f := csC) (Q := wfC) Tryz.underlying53 (by kernel_rfl) (by decide) (fun _ => rfl) open_cs h hz
  simp only [List.cons.injEq, and_true] at e
  subst e
  have e6 : Tryz.prog.bytesOf 89 = 24 := by kernel_rfl
  rw [e6] at h3
  exact ⟨E, h1, h2, h3⟩
def szR (x : Rw) : Prop := x.effs.length ≤ 140737488355328
def szS (x : Sta) : Prop := x.rows.length ≤ 140737488355328 ∧ ∀ r ∈ x.rows, szR r
def szK (x : Kd) : Prop := x.cases.length ≤ 140737488355328 ∧ x.states.length ≤ 140737488355328 ∧ ∀ s ∈ x.states, szS s
def szP (P : List Kd) : Prop := P.length ≤ 140737488355328 ∧ ∀ k ∈ P, szK k
end
end Go.Proofs.YthanclicnkjmiaaGreatDoor.Ps
namespace Go.Proofs.YthanclicnkjmiaaGreatDoor.Lx
open Go.RowKit Go.Proofs.YthanclicnkjmiaaGreatDoor
theorem ix_zeroq (c : UInt8) (r : List UInt8) (w : World) : (Instr.index 9 (.string (bs (c :: r))) (.int .i64 0)).run Tryz.prog w = .ok (.int .u8 (c.toNat : Int)) w := ix_any (c :: r) 0 (by simp) w
set_option maxRecDepth 100000 in
set_option maxHeartbeats 2000000 in
theorem rnameq_any (l : List UInt8) (w : World) (hl : l.length ≤ 140737488355328) : Calls Tryz.prog 64 #[.string (bs l)] w fun e w' => e = .returned (.bool (isNm l)) ∧ w = w' := by
  have hz : (bs l).size = l.length := bs_size l
  by_cases h16 : 16 < l.length
  · have e : isNm l = false := by
      cases l with
      | nil => rfl
      | cons c r => rw [nm_c, show decide (r.length + 1 ≤ 16) = false from by rw [decide_eq_false_iff_not]; simp at h16; omega, Bool.and_false, Bool.false_and]
    rw [e]
    clear e
    go_enter Tryz.func64, Tryz.ntmps64
    go_wp2
    go_ret
    exact ⟨rfl, rfl⟩
  · obtain rfl | ⟨c, r, hcr⟩ : l = [] ∨ ∃ c r, l = c :: r := by cases l <;> simp
    · go_enter Tryz.func64, Tryz.ntmps64
      go_wp2
      go_ret
      exact ⟨rfl, rfl⟩
    · have hix0 : ∀ w, (Instr.index 9 (.string (bs l)) (.int .i64 0)).run Tryz.prog w = .ok (.int .u8 (c.toNat : Int)) w := fun w => by rw [hcr]; exact ix_zeroq c r w
      have HC := Lib.hid hcr
      have h1 : 1 ≤ l.length := by rw [hcr]; simp
      clear hcr hl
      by_cases hk : kN c.toNat = 2
      · have IS := Lib.hid (fun w => is_k c 2 hk w)
        have HK := Lib.hid hk
        clear hk
        generalize hb : isNm l = b
        have HB := Lib.hid hb
        clear hb
        go_enter Tryz.func64, Tryz.ntmps64
        go_wp2_with (go_at_call 51; refine (IS.out _).mono ?_; rintro e w1 ⟨rfl, rfl⟩)
        clear hix0
        go_loop [3] (fun s3 => ∃ i : Nat, i ≤ l.length ∧ s3 = .int .i64 (i : Int) ∧ Hid ((l.take i).all isWd = true)) (fun s3 => l.length - (intOf s3).toNat)
        case atStart => exact ⟨0, Nat.zero_le _, rfl, Lib.hid (by simp)⟩
        case round =>
          obtain ⟨i, hi, rfl, hall⟩ := hrel
          by_cases hlt : i < l.length
          · have hix := fun w => ix_any l i hlt w
            have HS := Lib.hid (List.take_succ_eq_append_getElem hlt)
            have HM : Hid (l[i]'hlt ∈ l) := Lib.hid (List.getElem_mem hlt)
            generalize l[i]'hlt = d at *
            by_cases hw : isWd d = true
            · have hk2 := (wd_iff d).1 hw
              have HW := Lib.hid hw
              generalize hkd : kN d.toNat = kd at *
              have ISJ := Lib.hid (fun w => is_k d kd hkd w)
              clear hkd hw
              rcases hk2 with rfl | rfl | rfl
              all_goals
                go_wp2_with (go_at_call 51; refine (ISJ.out _).mono ?_; rintro e w1 ⟨rfl, rfl⟩)
                go_round
                case rel => exact ⟨i + 1, hlt, by go_num, Lib.hid (by rw [HS.out, List.all_append, hall.out, List.all_cons, HW.out]; rfl)⟩
                case measure => simp [intOf]; omega
            · have e : isNm l = false := by
                refine not_of fun hn => hw ?_
                rw [HC.out] at hn
                have := ((nm_iff c r).1 hn).2.2
                rw [← HC.out] at this
                exact List.all_eq_true.1 this d HM.out
              have EE := Lib.hid e
              have hk2 : ¬ (kN d.toNat = 2 ∨ kN d.toNat = 3 ∨ kN d.toNat = 4) := fun h => hw ((wd_iff d).2 h)
              generalize hkd : kN d.toNat = kd at *
              have ISJ := Lib.hid (fun w => is_k d kd hkd w)
              have k2 : ((kd : Int) != 2) = true := by rw [bne_iff_ne]; omega
              have k3 : ((kd : Int) != 3) = true := by rw [bne_iff_ne]; omega
              have k4 : ((kd : Int) != 4) = true := by rw [bne_iff_ne]; omega
              clear hkd hw hk2 e
              go_wp2_with (go_at_call 51; refine (ISJ.out _).mono ?_; rintro e w1 ⟨rfl, rfl⟩)
              go_ret
              exact ⟨by rw [← HB.out, EE.out]; rfl, rfl⟩
          · have hfull : l.take i = l := List.take_of_length_le (by omega)
            have hA := hall.out
            rw [hfull] at hA
            have e : isNm l = true := by
              rw [HC.out] at hA ⊢
              refine (nm_iff c r).2 ⟨kN_2 HK.out, ?_, hA⟩
              have := congrArg List.length HC.out
              simp at this; omega
            have EE := Lib.hid e
            clear e hA hfull
            go_wp2
            go_ret
            exact ⟨by rw [← HB.out, EE.out]; rfl, rfl⟩
      · have e : isNm l = false := by
          refine not_of fun hn => hk ?_
          rw [HC.out] at hn
          have h2 := (le_iff c).1 ((nm_iff c r).1 hn).1
          unfold kN; (repeat' split) <;> omega
        rw [e]
        generalize hkd : kN c.toNat = kd at *
        have IS := Lib.hid (fun w => is_k c kd hkd w)
        have k2 : ((kd : Int) != 2) = true := by rw [bne_iff_ne]; omega
        clear hkd hk e
        go_enter Tryz.func64, Tryz.ntmps64
        go_wp2_with (go_at_call 51; refine (IS.out _).mono ?_; rintro e w1 ⟨rfl, rfl⟩)
        go_ret
        exact ⟨rfl, rfl⟩

end Go.Proofs.YthanclicnkjmiaaGreatDoor.Lx
set_option linter.unusedVariables false
namespace Go.Proofs.YthanclicnkjmiaaGreatDoor.Ps
open Go.RowKit Go.Proofs.YthanclicnkjmiaaGreatDoor Lx
theorem rsmall_any (n : Int) (w : World) : Calls Tryz.prog 108 #[.int .i64 n] w fun e w' => e = .returned (.bool (okN n)) ∧ w = w' := by
  by_cases h0 : 0 ≤ n
  · by_cases h1 : n ≤ 65535
    · have e : okN n = true := (okN_iff n).2 ⟨h0, h1⟩
      have h2 : ¬ n < 0 := by omega
      go_enter Tryz.func108, Tryz.ntmps108
      go_wp2
      go_ret
      exact ⟨rfl, rfl⟩
    · have e : okN n = false := by unfold okN; simp [h1]
      go_enter Tryz.func108, Tryz.ntmps108
      go_wp2
      go_ret
      exact ⟨rfl, rfl⟩
  · have e : okN n = false := by unfold okN; simp [h0]
    go_enter Tryz.func108, Tryz.ntmps108
    go_wp2
    go_ret
    exact ⟨rfl, rfl⟩
theorem pick_out {ws : List Wd} {i : Int} (h : ¬ (0 ≤ i ∧ i < (ws.length : Int))) : pickW ws i = [] := if_neg h
theorem rword_any (z : Int) (w : World) : Calls Tryz.prog 54 #[.int .i64 z] w fun e w' => e = .returned (.string (bs (pickW dirs (z - 1)))) ∧ w = w' := by
  by_cases h1 : z = 1
  · subst h1
    go_enter Tryz.func54, Tryz.ntmps54
    go_wp2
    go_ret
    exact ⟨rfl, rfl⟩
  by_cases h2 : z = 2
  · subst h2
    go_enter Tryz.func54, Tryz.ntmps54
    go_wp2
    go_ret
    exact ⟨rfl, rfl⟩
  by_cases h3 : z = 3
  · subst h3
    go_enter Tryz.func54, Tryz.ntmps54
    go_wp2
    go_ret
    exact ⟨rfl, rfl⟩
  by_cases h4 : z = 4
  · subst h4
    go_enter Tryz.func54, Tryz.ntmps54
    go_wp2
    go_ret
    exact ⟨rfl, rfl⟩
  have e : pickW dirs (z - 1) = [] := pick_out (by have : (dirs.length : Int) = 4 := rfl; omega)
  have e1 : (z == 1) = false := by simpa using h1
  have e2 : (z == 2) = false := by simpa using h2
  have e3 : (z == 3) = false := by simpa using h3
  have e4 : (z == 4) = false := by simpa using h4
  have HE := Lib.hid e
  clear e h1 h2 h3 h4
  go_enter Tryz.func54, Tryz.ntmps54
  go_wp2
  go_ret
  exact ⟨by rw [HE.out]; rfl, rfl⟩
theorem rverb_any (z : Int) (w : World) : Calls Tryz.prog 69 #[.int .i64 z] w fun e w' => e = .returned (.tuple #[.string (bs (pickW effw (z - 1))), .string (bs (parts z))]) ∧ w = w' := by
  by_cases h1 : z = 1
  · subst h1
    go_enter Tryz.func69, Tryz.ntmps69
    go_wp2
    go_ret2
    exact ⟨rfl, rfl⟩
  by_cases h2 : z = 2
  · subst h2
    go_enter Tryz.func69, Tryz.ntmps69
    go_wp2
    go_ret2
    exact ⟨rfl, rfl⟩
  by_cases h3 : z = 3
  · subst h3
    go_enter Tryz.func69, Tryz.ntmps69
    go_wp2
    go_ret2
    exact ⟨rfl, rfl⟩
  by_cases h4 : z = 4
  · subst h4
    go_enter Tryz.func69, Tryz.ntmps69
    go_wp2
    go_ret2
    exact ⟨rfl, rfl⟩
  by_cases h5 : z = 5
  · subst h5
    go_enter Tryz.func69, Tryz.ntmps69
    go_wp2
    go_ret2
    exact ⟨rfl, rfl⟩
  by_cases h6 : z = 6
  · subst h6
    go_enter Tryz.func69, Tryz.ntmps69
    go_wp2
    go_ret2
    exact ⟨rfl, rfl⟩
  by_cases h7 : z = 7
  · subst h7
    go_enter Tryz.func69, Tryz.ntmps69
    go_wp2
    go_ret2
    exact ⟨rfl, rfl⟩
  by_cases h8 : z = 8
  · subst h8
    go_enter Tryz.func69, Tryz.ntmps69
    go_wp2
    go_ret2
    exact ⟨rfl, rfl⟩
  by_cases h9 : z = 9
  · subst h9
    go_enter Tryz.func69, Tryz.ntmps69
    go_wp2
    go_ret2
    exact ⟨rfl, rfl⟩
  by_cases h10 : z = 10
  · subst h10
    go_enter Tryz.func69, Tryz.ntmps69
    go_wp2
    go_ret2
    exact ⟨rfl, rfl⟩
  by_cases h11 : z = 11
  · subst h11
    go_enter Tryz.func69, Tryz.ntmps69
    go_wp2
    go_ret2
    exact ⟨rfl, rfl⟩
  by_cases h12 : z = 12
  · subst h12
    go_enter Tryz.func69, Tryz.ntmps69
    go_wp2
    go_ret2
    exact ⟨rfl, rfl⟩
  have e : pickW effw (z - 1) = [] ∧ parts z = [] := ⟨pick_out (by have : (effw.length : Int) = 12 := rfl; omega), by unfold parts; simp only [h1, h2, h3, h9, h12, h6, h7, h8, h10, if_false]⟩
  have e1 : (z == 1) = false := by simpa using h1
  have e2 : (z == 2) = false := by simpa using h2
  have e3 : (z == 3) = false := by simpa using h3
  have e4 : (z == 4) = false := by simpa using h4
  have e5 : (z == 5) = false := by simpa using h5
  have e6 : (z == 6) = false := by simpa using h6
  have e7 : (z == 7) = false := by simpa using h7
  have e8 : (z == 8) = false := by simpa using h8
  have e9 : (z == 9) = false := by simpa using h9
  have e10 : (z == 10) = false := by simpa using h10
  have e11 : (z == 11) = false := by simpa using h11
  have e12 : (z == 12) = false := by simpa using h12
  have HE := Lib.hid e
  clear e h1 h2 h3 h4 h5 h6 h7 h8 h9 h10 h11 h12
  go_enter Tryz.func69, Tryz.ntmps69
  go_wp2
  go_ret2
  exact ⟨by rw [HE.out.1, HE.out.2]; rfl, rfl⟩

def hasP (l : Wd) (c : UInt8) : Bool := l.contains c
set_option maxRecDepth 100000 in
set_option maxHeartbeats 1000000 in
theorem rhas_any (l : Wd) (c : UInt8) (hl : l.length ≤ 1000) (w : World) : Calls Tryz.prog 70 #[.string (bs l), .int .u8 (c.toNat : Int)] w fun e w' => e = .returned (.bool (hasP l c)) ∧ w = w' := by
  have hz : (bs l).size = l.length := bs_size l
  have hl' : (l.length : Int) ≤ 1000 := by omega
  have HI : Hid (∀ (i : Nat) (c' : UInt8), l[i]? = some c' → ∀ w, (Instr.index 9 (.string (bs l)) (.int .i64 (i : Int))).run Tryz.prog w = .ok (.int .u8 (c'.toNat : Int)) w) := Lib.hid (fun i c' h w => by
    obtain ⟨h1, h2⟩ := List.getElem?_eq_some_iff.1 h
    have e : (bs l)[i]'(by simpa using h1) = c' := by rw [← h2]; simp [bs, ByteArray.getElem_eq_getElem_data]
    simp [go_sem, Tryz.underlying9, h1, e])
  generalize hn : l.length = n at *
  have HN := Lib.hid hn
  clear hn hl
  go_enter Tryz.func70, Tryz.ntmps70
  go_wp2
  go_loopw [5] (fun s5 wr => ∃ i : Nat, i ≤ n ∧ s5 = .int .i64 (i : Int) ∧ Hid (∀ j (h : j < l.length), j < i → ¬ l[j] = c) ∧ w = wr)
    (fun s5 _ => n - (intOf s5).toNat)
  case atStart => exact ⟨0, Nat.zero_le _, rfl, Lib.hid (fun j h hj => absurd hj (Nat.not_lt_zero j)), rfl⟩
  case round =>
    obtain ⟨i, hi, rfl, hJ, rfl⟩ := hrel
    by_cases hin : i < n
    · have hil : i < l.length := by rw [HN.out]; exact hin
      have hx := HI.out i _ (List.getElem?_eq_getElem hil)
      by_cases hc : l[i] = c
      · have hq : (((l[i]).toNat : Int) == (c.toNat : Int)) = true := by rw [hc]; simp
        have HX := Lib.hid (show hasP l c = true from by unfold hasP; rw [List.contains_iff_mem]; exact hc ▸ List.getElem_mem hil)
        clear hc
        go_wp2
        go_ret
        exact ⟨by rw [HX.out]; rfl, rfl⟩
      · have hq : (((l[i]).toNat : Int) == (c.toNat : Int)) = false := by
          simp only [beq_eq_false_iff_ne, ne_eq]
          exact fun h => hc (UInt8.toNat_inj.1 (by omega))
        have HX := Lib.hid (show ∀ j (h : j < l.length), j < i + 1 → ¬ l[j] = c from fun j h hj => by
          rcases Nat.lt_or_ge j i with h' | h'
          · exact hJ.out j h h'
          · obtain rfl : j = i := by omega
            exact hc)
        clear hc
        go_wp2
        go_roundw
        case rel => exact ⟨i + 1, by omega, by go_num, HX, trivial⟩
        case measure => simp [intOf]; omega
    · obtain rfl : i = n := by omega
      have HX := Lib.hid (show hasP l c = false from by
        unfold hasP
        rw [Bool.eq_false_iff]
        intro h
        rw [List.contains_iff_mem] at h
        obtain ⟨j, hj, e⟩ := List.getElem_of_mem h
        exact hJ.out j hj (by rw [HN.out] at hj; exact hj) e)
      clear hin
      go_wp2
      go_ret
      exact ⟨by rw [HX.out]; rfl, rfl⟩
end Go.Proofs.YthanclicnkjmiaaGreatDoor.Ps
set_option linter.unusedVariables false
namespace Go.Proofs.YthanclicnkjmiaaGreatDoor.Ps
open Go.RowKit Go.Proofs.YthanclicnkjmiaaGreatDoor Lx
def nameR (s : Wd) (b : Bool) : Bool := if b then isNm s else decide (s = [])
def rE (x : Eff) : Bool :=
  !(decide (pickW effw (x.act - 1) = [])) && (nameR x.ref (hasP (parts x.act) 114) && (nameR x.slot (hasP (parts x.act) 115) && (nameR x.name (hasP (parts x.act) 110) &&
    ((if hasP (parts x.act) 100 then okN x.delay else decide (x.delay = 0)) &&
      (if hasP (parts x.act) 118 && decide (x.val = 2) then okN x.n else decide (x.n = 0) && (decide (x.val = 0) || decide (x.val = 1) && hasP (parts x.act) 118))))))
theorem okV_eq (v n : Int) : okV v n = (if v = 2 then okN n else decide (n = 0) && (decide (v = 0) || decide (v = 1))) := by
  unfold okV okP
  have : (vals.length : Int) = 2 := rfl
  rw [this]
  by_cases h2 : v = 2
  · rw [if_pos h2, if_pos h2]
  · rw [if_neg h2, if_neg h2]
    congr 1
    rw [Bool.eq_iff_iff]; simp; omega
theorem rE_eq (x : Eff) : rE x = okE x := by
  by_cases h : 1 ≤ x.act ∧ x.act ≤ 12
  · obtain ⟨z, ref, slot, name, val, n, delay⟩ := x
    obtain ⟨h1, h2⟩ := h
    dsimp only at h1 h2
    rcases act_cases h1 h2 with rfl | rfl | rfl | rfl | rfl | rfl | rfl | rfl | rfl | rfl | rfl | rfl
    all_goals
      rw [Bool.eq_iff_iff]
      simp [rE, okE, okP, parts, hasP, nameR, okPart, zeroP, eff0, okV_eq, pickW, effw, w_send, w_spawn, w_become, w_stash, w_unstash, w_watch, w_unwatch, w_timer, w_cancel, w_hold, w_stop, w_fail]
      (try intro _ _ _)
      constructor <;> (intro h; simp_all)
  · have hL : (effw.length : Int) = 12 := rfl
    have e : pickW effw (x.act - 1) = [] := pick_out (by omega)
    have e2 : okP effw (x.act - 1) = false := by
      unfold okP; rw [hL, Bool.and_eq_false_iff]; simp; omega
    unfold rE okE
    rw [e, e2]; simp
theorem emp_bs (s : Wd) : (bs s).toList.isEmpty = decide (s = []) := by
  rw [toList_bs]; cases s <;> rfl
theorem rnm_any (s : Wd) (b : Bool) (w : World) (hs : s.length ≤ 140737488355328) : Calls Tryz.prog 107 #[.string (bs s), .bool b] w fun e w' => e = .returned (.bool (nameR s b)) ∧ w = w' := by
  cases b with
  | false =>
    have HX := Lib.hid (emp_bs s)
    go_enter Tryz.func107, Tryz.ntmps107
    go_wp2
    go_ret
    exact ⟨by show Ending.returned (.bool (bs s).toList.isEmpty) = _; rw [HX.out]; rfl, rfl⟩
  | true =>
    have HC := Lib.hid (rnameq_any s w hs)
    go_enter Tryz.func107, Tryz.ntmps107
    go_wp2_with (go_at_call 64; refine HC.out.mono ?_; rintro e w' ⟨rfl, rfl⟩)
    go_ret
    exact ⟨rfl, rfl⟩
theorem parts_len (z : Int) : (parts z).length ≤ 1000 := by
  unfold parts; (repeat' split) <;> decide
set_option maxRecDepth 100000 in
set_option maxHeartbeats 8000000 in
theorem reff_any (x : Eff) (wf : wfE x) (w : World) : Calls Tryz.prog 66 #[.agg #[.int .i64 x.act, .string (bs x.ref), .string (bs x.slot), .string (bs x.name), .int .i64 x.val, .int .i64 x.n, .int .i64 x.delay]] w fun e w' => e = .returned (.bool (okE x)) ∧ Only Nil w w' := by
  have hres := (rE_eq x).symm
  unfold rE at hres
  have h114 : ∀ w, Calls Tryz.prog 70 #[.string (bs (parts x.act)), .int .u8 114] w fun e w' => e = .returned (.bool (hasP (parts x.act) 114)) ∧ w = w' := fun w => rhas_any _ 114 (parts_len _) w
  have h115 : ∀ w, Calls Tryz.prog 70 #[.string (bs (parts x.act)), .int .u8 115] w fun e w' => e = .returned (.bool (hasP (parts x.act) 115)) ∧ w = w' := fun w => rhas_any _ 115 (parts_len _) w
  have h110 : ∀ w, Calls Tryz.prog 70 #[.string (bs (parts x.act)), .int .u8 110] w fun e w' => e = .returned (.bool (hasP (parts x.act) 110)) ∧ w = w' := fun w => rhas_any _ 110 (parts_len _) w
  have h100 : ∀ w, Calls Tryz.prog 70 #[.string (bs (parts x.act)), .int .u8 100] w fun e w' => e = .returned (.bool (hasP (parts x.act) 100)) ∧ w = w' := fun w => rhas_any _ 100 (parts_len _) w
  have h118 : ∀ w, Calls Tryz.prog 70 #[.string (bs (parts x.act)), .int .u8 118] w fun e w' => e = .returned (.bool (hasP (parts x.act) 118)) ∧ w = w' := fun w => rhas_any _ 118 (parts_len _) w
  have n1 := fun w => rnm_any x.ref (hasP (parts x.act) 114) w wf.ref
  have n2 := fun w => rnm_any x.slot (hasP (parts x.act) 115) w wf.slot
  have n3 := fun w => rnm_any x.name (hasP (parts x.act) 110) w wf.name
  have vb := fun w => rverb_any x.act w
  have hemp := emp_bs (pickW effw (x.act - 1))
  generalize nameR x.ref (hasP (parts x.act) 114) = b1 at *
  generalize nameR x.slot (hasP (parts x.act) 115) = b2 at *
  generalize nameR x.name (hasP (parts x.act) 110) = b3 at *
  generalize hasP (parts x.act) 114 = hr at *
  generalize hasP (parts x.act) 115 = hs at *
  generalize hasP (parts x.act) 110 = hn at *
  generalize hasP (parts x.act) 100 = hd at *
  generalize hasP (parts x.act) 118 = hv at *
  generalize parts x.act = l at *
  generalize pickW effw (x.act - 1) = vw at *
  have H114 := Lib.hid h114
  have H115 := Lib.hid h115
  have H110 := Lib.hid h110
  have H100 := Lib.hid h100
  have H118 := Lib.hid h118
  have N1 := Lib.hid n1
  have N2 := Lib.hid n2
  have N3 := Lib.hid n3
  have VB := Lib.hid vb
  have HRES := Lib.hid hres
  obtain ⟨w1, hw1⟩ : ∃ w1, w1 = w.alloc (.cells (effC x).toArray 67) := ⟨_, rfl⟩
  have O1 := Lib.hid (show Only Nil w w1 from hw1 ▸ (Only.refl Nil w).alloc _)
  have BX := Lib.hid (show Bx w1 w.heap.size (effC x) 67 from hw1 ▸ bx_new w _ _)
  have eW : w.alloc (.cells #[.int .i64 x.act, .string (bs x.ref), .string (bs x.slot), .string (bs x.name), .int .i64 x.val, .int .i64 x.n, .int .i64 x.delay] 67) = w1 := hw1.symm
  have CC := Lib.hid (show ∀ w', Only Nil w1 w' → w'.cell? ⟨w.heap.size, 1, none⟩ = some (.string (bs x.ref)) ∧ w'.cell? ⟨w.heap.size, 2, none⟩ = some (.string (bs x.slot)) ∧ w'.cell? ⟨w.heap.size, 3, none⟩ = some (.string (bs x.name)) ∧ w'.cell? ⟨w.heap.size, 4, none⟩ = some (.int .i64 x.val) ∧ w'.cell? ⟨w.heap.size, 5, none⟩ = some (.int .i64 x.n) ∧ w'.cell? ⟨w.heap.size, 6, none⟩ = some (.int .i64 x.delay) from fun w' o => ⟨only_cell0 o (BX.out.cell 1 rfl), only_cell0 o (BX.out.cell 2 rfl), only_cell0 o (BX.out.cell 3 rfl), only_cell0 o (BX.out.cell 4 rfl), only_cell0 o (BX.out.cell 5 rfl), only_cell0 o (BX.out.cell 6 rfl)⟩)
  have c0 := BX.out.cell 0 (v := .int .i64 x.act) rfl
  obtain ⟨c1, c2, c3, c4, c5, c6⟩ := CC.out w1 (Only.refl _ _)
  clear hres h114 h115 h110 h100 h118 n1 n2 n3 vb hw1 wf
  by_cases hvw : vw = []
  · have HF := Lib.hid (show okE x = false from by rw [HRES.out, decide_eq_true hvw]; rfl)
    have hq : (bs vw).toList.isEmpty = true := hemp.trans (decide_eq_true hvw)
    clear hvw hemp
    go_enter Tryz.func66, Tryz.ntmps66
    go_upto_region 1 with (fail)
    (try rw [eW]); clear eW
    generalize w.heap.size = B at *
    go_upto_region 2 with (go_at_call 69; refine (VB.out _).mono ?_; rintro e wn ⟨rfl, rfl⟩)
    clear c0 VB BX
    go_quiet (first
      | (go_at_call 70; (with_reducible exact quiet_same (H114.out _)))
      | (go_at_call 70; (with_reducible exact quiet_same (H115.out _)))
      | (go_at_call 70; (with_reducible exact quiet_same (H110.out _)))
      | (go_at_call 107; (with_reducible exact quiet_same (N1.out _)))
      | (go_at_call 107; (with_reducible exact quiet_same (N2.out _)))
      | (go_at_call 107; (with_reducible exact quiet_same (N3.out _))))
    obtain ⟨w2, hw2⟩ : ∃ w2, w2 = w1.drewN nq := ⟨_, rfl⟩
    have OO := Lib.hid (show Only Nil w1 w2 from hw2 ▸ (Only.refl Nil w1).drewN nq)
    rw [← hw2]; clear hw2
    go_wp2
    go_ret
    exact ⟨by rw [HF.out]; rfl, O1.out.trans OO.out⟩
  have hq : (bs vw).toList.isEmpty = false := hemp.trans (decide_eq_false hvw)
  have HR0 := Lib.hid (HRES.out.trans (by rw [decide_eq_false hvw, Bool.not_false, Bool.true_and]))
  clear hvw hemp HRES
  cases b1 with
  | false =>
    have HF := Lib.hid (show okE x = false from by rw [HR0.out]; simp)
    go_enter Tryz.func66, Tryz.ntmps66
    go_upto_region 1 with (fail)
    (try rw [eW]); clear eW
    generalize w.heap.size = B at *
    go_upto_region 2 with (go_at_call 69; refine (VB.out _).mono ?_; rintro e wn ⟨rfl, rfl⟩)
    clear c0 VB BX
    go_quiet (first
      | (go_at_call 70; (with_reducible exact quiet_same (H114.out _)))
      | (go_at_call 70; (with_reducible exact quiet_same (H115.out _)))
      | (go_at_call 70; (with_reducible exact quiet_same (H110.out _)))
      | (go_at_call 107; (with_reducible exact quiet_same (N1.out _)))
      | (go_at_call 107; (with_reducible exact quiet_same (N2.out _)))
      | (go_at_call 107; (with_reducible exact quiet_same (N3.out _))))
    obtain ⟨w2, hw2⟩ : ∃ w2, w2 = w1.drewN nq := ⟨_, rfl⟩
    have OO := Lib.hid (show Only Nil w1 w2 from hw2 ▸ (Only.refl Nil w1).drewN nq)
    rw [← hw2]; clear hw2
    go_wp2
    go_ret
    exact ⟨by rw [HF.out]; rfl, O1.out.trans OO.out⟩
  | true =>
    cases b2 with
    | false =>
      have HF := Lib.hid (show okE x = false from by rw [HR0.out]; simp)
      go_enter Tryz.func66, Tryz.ntmps66
      go_upto_region 1 with (fail)
      (try rw [eW]); clear eW
      generalize w.heap.size = B at *
      go_upto_region 2 with (go_at_call 69; refine (VB.out _).mono ?_; rintro e wn ⟨rfl, rfl⟩)
      clear c0 VB BX
      go_quiet (first
        | (go_at_call 70; (with_reducible exact quiet_same (H114.out _)))
        | (go_at_call 70; (with_reducible exact quiet_same (H115.out _)))
        | (go_at_call 70; (with_reducible exact quiet_same (H110.out _)))
        | (go_at_call 107; (with_reducible exact quiet_same (N1.out _)))
        | (go_at_call 107; (with_reducible exact quiet_same (N2.out _)))
        | (go_at_call 107; (with_reducible exact quiet_same (N3.out _))))
      obtain ⟨w2, hw2⟩ : ∃ w2, w2 = w1.drewN nq := ⟨_, rfl⟩
      have OO := Lib.hid (show Only Nil w1 w2 from hw2 ▸ (Only.refl Nil w1).drewN nq)
      rw [← hw2]; clear hw2
      go_wp2
      go_ret
      exact ⟨by rw [HF.out]; rfl, O1.out.trans OO.out⟩
    | true =>
      cases b3 with
      | false =>
        have HF := Lib.hid (show okE x = false from by rw [HR0.out]; simp)
        go_enter Tryz.func66, Tryz.ntmps66
        go_upto_region 1 with (fail)
        (try rw [eW]); clear eW
        generalize w.heap.size = B at *
        go_upto_region 2 with (go_at_call 69; refine (VB.out _).mono ?_; rintro e wn ⟨rfl, rfl⟩)
        clear c0 VB BX
        go_quiet (first
          | (go_at_call 70; (with_reducible exact quiet_same (H114.out _)))
          | (go_at_call 70; (with_reducible exact quiet_same (H115.out _)))
          | (go_at_call 70; (with_reducible exact quiet_same (H110.out _)))
          | (go_at_call 107; (with_reducible exact quiet_same (N1.out _)))
          | (go_at_call 107; (with_reducible exact quiet_same (N2.out _)))
          | (go_at_call 107; (with_reducible exact quiet_same (N3.out _))))
        obtain ⟨w2, hw2⟩ : ∃ w2, w2 = w1.drewN nq := ⟨_, rfl⟩
        have OO := Lib.hid (show Only Nil w1 w2 from hw2 ▸ (Only.refl Nil w1).drewN nq)
        rw [← hw2]; clear hw2
        go_wp2
        go_ret
        exact ⟨by rw [HF.out]; rfl, O1.out.trans OO.out⟩
      | true =>
        have HR1 := Lib.hid (show okE x = ((if hd then okN x.delay else decide (x.delay = 0)) && (if hv && decide (x.val = 2) then okN x.n else decide (x.n = 0) && (decide (x.val = 0) || decide (x.val = 1) && hv))) from by rw [HR0.out]; simp)
        clear HR0
        go_enter Tryz.func66, Tryz.ntmps66
        go_upto_region 1 with (fail)
        (try rw [eW]); clear eW
        generalize w.heap.size = B at *
        go_upto_region 2 with (go_at_call 69; refine (VB.out _).mono ?_; rintro e wn ⟨rfl, rfl⟩)
        clear c0 VB BX
        go_quiet (first
          | (go_at_call 70; (with_reducible exact quiet_same (H114.out _)))
          | (go_at_call 70; (with_reducible exact quiet_same (H115.out _)))
          | (go_at_call 70; (with_reducible exact quiet_same (H110.out _)))
          | (go_at_call 107; (with_reducible exact quiet_same (N1.out _)))
          | (go_at_call 107; (with_reducible exact quiet_same (N2.out _)))
          | (go_at_call 107; (with_reducible exact quiet_same (N3.out _))))
        obtain ⟨w2, hw2⟩ : ∃ w2, w2 = w1.drewN nq := ⟨_, rfl⟩
        have OO := Lib.hid (show Only Nil w1 w2 from hw2 ▸ (Only.refl Nil w1).drewN nq)
        rw [← hw2]; clear hw2
        obtain ⟨c1, c2, c3, c4, c5, c6⟩ := CC.out _ OO.out
        clear CC H114 H115 H110 N1 N2 N3 c1 c2 c3
        cases hd with
        | true =>
          obtain ⟨sm, hsm⟩ : ∃ sm, sm = okN x.delay := ⟨_, rfl⟩
          have HSM := Lib.hid hsm
          have hsml : ∀ w, Calls Tryz.prog 108 #[.int .i64 x.delay] w fun e w' => e = .returned (.bool sm) ∧ w = w' := fun w => by rw [hsm]; exact rsmall_any _ _
          have SML := Lib.hid hsml
          clear hsm hsml
          cases sm with
          | false =>
            have HF := Lib.hid (show okE x = false from by rw [HR1.out, ← HSM.out]; simp)
            go_wp2_with (first
                | (go_at_call 70; (with_reducible refine (H100.out _).mono ?_); rintro e wn ⟨rfl, rfl⟩)
                | (go_at_call 70; (with_reducible refine (H118.out _).mono ?_); rintro e wn ⟨rfl, rfl⟩)
                | (go_at_call 108; (with_reducible refine (SML.out _).mono ?_); rintro e wn ⟨rfl, rfl⟩)
                | (go_at_call 108; refine (rsmall_any _ _).mono ?_; rintro e wn ⟨rfl, rfl⟩))
            go_ret
            exact ⟨by rw [HF.out]; rfl, O1.out.trans OO.out⟩
          | true =>
            have HR2 := Lib.hid (show okE x = (if hv && decide (x.val = 2) then okN x.n else decide (x.n = 0) && (decide (x.val = 0) || decide (x.val = 1) && hv)) from by rw [HR1.out]; rw [← HSM.out]; rfl)
            clear HR1
            cases hv with
            | true =>
              by_cases hv2 : x.val = 2
              · have HF := Lib.hid (show okE x = okN x.n from by rw [HR2.out]; simp [hv2])
                have hq2 : (x.val == 2) = true := by simpa using hv2
                have hq3 : (x.val != 2) = false := by simpa using hv2
                clear hv2
                go_wp2_with (first
                    | (go_at_call 70; (with_reducible refine (H100.out _).mono ?_); rintro e wn ⟨rfl, rfl⟩)
                    | (go_at_call 70; (with_reducible refine (H118.out _).mono ?_); rintro e wn ⟨rfl, rfl⟩)
                    | (go_at_call 108; (with_reducible refine (SML.out _).mono ?_); rintro e wn ⟨rfl, rfl⟩)
                    | (go_at_call 108; refine (rsmall_any _ _).mono ?_; rintro e wn ⟨rfl, rfl⟩))
                go_ret
                exact ⟨by rw [HF.out]; rfl, O1.out.trans OO.out⟩
              · have hq2 : (x.val == 2) = false := by simpa using hv2
                have hq3 : (x.val != 2) = true := by simpa using hv2
                by_cases hn0 : x.n = 0
                · have hn1 : (x.n == 0) = true := by simpa using hn0
                  by_cases hv0 : x.val = 0
                  · have HF := Lib.hid (show okE x = true from by rw [HR2.out]; simp [hn0, hv0])
                    have hw0 : (x.val == 0) = true := by simpa using hv0
                    clear hn0 hv0 hv2
                    go_wp2_with (first
                        | (go_at_call 70; (with_reducible refine (H100.out _).mono ?_); rintro e wn ⟨rfl, rfl⟩)
                        | (go_at_call 70; (with_reducible refine (H118.out _).mono ?_); rintro e wn ⟨rfl, rfl⟩)
                        | (go_at_call 108; (with_reducible refine (SML.out _).mono ?_); rintro e wn ⟨rfl, rfl⟩)
                        | (go_at_call 108; refine (rsmall_any _ _).mono ?_; rintro e wn ⟨rfl, rfl⟩))
                    go_ret
                    exact ⟨by rw [HF.out]; rfl, O1.out.trans OO.out⟩
                  · have hw0 : (x.val == 0) = false := by simpa using hv0
                    by_cases hv1 : x.val = 1
                    · have HF := Lib.hid (show okE x = true from by rw [HR2.out]; simp [hn0, hv1])
                      have hw1 : (x.val == 1) = true := by simpa using hv1
                      clear hn0 hv0 hv1 hv2
                      go_wp2_with (first
                          | (go_at_call 70; (with_reducible refine (H100.out _).mono ?_); rintro e wn ⟨rfl, rfl⟩)
                          | (go_at_call 70; (with_reducible refine (H118.out _).mono ?_); rintro e wn ⟨rfl, rfl⟩)
                          | (go_at_call 108; (with_reducible refine (SML.out _).mono ?_); rintro e wn ⟨rfl, rfl⟩)
                          | (go_at_call 108; refine (rsmall_any _ _).mono ?_; rintro e wn ⟨rfl, rfl⟩))
                      go_ret
                      exact ⟨by rw [HF.out]; rfl, O1.out.trans OO.out⟩
                    · have HF := Lib.hid (show okE x = false from by rw [HR2.out]; simp [hn0, hv0, hv1, hv2])
                      have hw1 : (x.val == 1) = false := by simpa using hv1
                      clear hn0 hv0 hv1 hv2
                      go_wp2_with (first
                          | (go_at_call 70; (with_reducible refine (H100.out _).mono ?_); rintro e wn ⟨rfl, rfl⟩)
                          | (go_at_call 70; (with_reducible refine (H118.out _).mono ?_); rintro e wn ⟨rfl, rfl⟩)
                          | (go_at_call 108; (with_reducible refine (SML.out _).mono ?_); rintro e wn ⟨rfl, rfl⟩)
                          | (go_at_call 108; refine (rsmall_any _ _).mono ?_; rintro e wn ⟨rfl, rfl⟩))
                      go_ret
                      exact ⟨by rw [HF.out]; rfl, O1.out.trans OO.out⟩
                · have HF := Lib.hid (show okE x = false from by rw [HR2.out]; simp [hn0, hv2])
                  have hn1 : (x.n == 0) = false := by simpa using hn0
                  clear hn0 hv2
                  go_wp2_with (first
                      | (go_at_call 70; (with_reducible refine (H100.out _).mono ?_); rintro e wn ⟨rfl, rfl⟩)
                      | (go_at_call 70; (with_reducible refine (H118.out _).mono ?_); rintro e wn ⟨rfl, rfl⟩)
                      | (go_at_call 108; (with_reducible refine (SML.out _).mono ?_); rintro e wn ⟨rfl, rfl⟩)
                      | (go_at_call 108; refine (rsmall_any _ _).mono ?_; rintro e wn ⟨rfl, rfl⟩))
                  go_ret
                  exact ⟨by rw [HF.out]; rfl, O1.out.trans OO.out⟩
            | false =>
              by_cases hn0 : x.n = 0
              · have hn1 : (x.n == 0) = true := by simpa using hn0
                by_cases hv0 : x.val = 0
                · have HF := Lib.hid (show okE x = true from by rw [HR2.out]; simp [hn0, hv0])
                  have hw0 : (x.val == 0) = true := by simpa using hv0
                  clear hn0 hv0
                  go_wp2_with (first
                      | (go_at_call 70; (with_reducible refine (H100.out _).mono ?_); rintro e wn ⟨rfl, rfl⟩)
                      | (go_at_call 70; (with_reducible refine (H118.out _).mono ?_); rintro e wn ⟨rfl, rfl⟩)
                      | (go_at_call 108; (with_reducible refine (SML.out _).mono ?_); rintro e wn ⟨rfl, rfl⟩)
                      | (go_at_call 108; refine (rsmall_any _ _).mono ?_; rintro e wn ⟨rfl, rfl⟩))
                  go_ret
                  exact ⟨by rw [HF.out]; rfl, O1.out.trans OO.out⟩
                · have hw0 : (x.val == 0) = false := by simpa using hv0
                  by_cases hv1 : x.val = 1
                  · have HF := Lib.hid (show okE x = false from by rw [HR2.out]; simp [hn0, hv1])
                    have hw1 : (x.val == 1) = true := by simpa using hv1
                    clear hn0 hv0 hv1
                    go_wp2_with (first
                        | (go_at_call 70; (with_reducible refine (H100.out _).mono ?_); rintro e wn ⟨rfl, rfl⟩)
                        | (go_at_call 70; (with_reducible refine (H118.out _).mono ?_); rintro e wn ⟨rfl, rfl⟩)
                        | (go_at_call 108; (with_reducible refine (SML.out _).mono ?_); rintro e wn ⟨rfl, rfl⟩)
                        | (go_at_call 108; refine (rsmall_any _ _).mono ?_; rintro e wn ⟨rfl, rfl⟩))
                    go_ret
                    exact ⟨by rw [HF.out]; rfl, O1.out.trans OO.out⟩
                  · have HF := Lib.hid (show okE x = false from by rw [HR2.out]; simp [hn0, hv0, hv1])
                    have hw1 : (x.val == 1) = false := by simpa using hv1
                    clear hn0 hv0 hv1
                    go_wp2_with (first
                        | (go_at_call 70; (with_reducible refine (H100.out _).mono ?_); rintro e wn ⟨rfl, rfl⟩)
                        | (go_at_call 70; (with_reducible refine (H118.out _).mono ?_); rintro e wn ⟨rfl, rfl⟩)
                        | (go_at_call 108; (with_reducible refine (SML.out _).mono ?_); rintro e wn ⟨rfl, rfl⟩)
                        | (go_at_call 108; refine (rsmall_any _ _).mono ?_; rintro e wn ⟨rfl, rfl⟩))
                    go_ret
                    exact ⟨by rw [HF.out]; rfl, O1.out.trans OO.out⟩
              · have HF := Lib.hid (show okE x = false from by rw [HR2.out]; simp [hn0])
                have hn1 : (x.n == 0) = false := by simpa using hn0
                clear hn0
                go_wp2_with (first
                    | (go_at_call 70; (with_reducible refine (H100.out _).mono ?_); rintro e wn ⟨rfl, rfl⟩)
                    | (go_at_call 70; (with_reducible refine (H118.out _).mono ?_); rintro e wn ⟨rfl, rfl⟩)
                    | (go_at_call 108; (with_reducible refine (SML.out _).mono ?_); rintro e wn ⟨rfl, rfl⟩)
                    | (go_at_call 108; refine (rsmall_any _ _).mono ?_; rintro e wn ⟨rfl, rfl⟩))
                go_ret
                exact ⟨by rw [HF.out]; rfl, O1.out.trans OO.out⟩
        | false =>
          by_cases hd0 : x.delay = 0
          · have hd1 : (x.delay == 0) = true := by simpa using hd0
            have hd2 : (x.delay != 0) = false := by simpa using hd0
            have HR2 := Lib.hid (show okE x = (if hv && decide (x.val = 2) then okN x.n else decide (x.n = 0) && (decide (x.val = 0) || decide (x.val = 1) && hv)) from by rw [HR1.out]; simp [hd0])
            clear HR1 hd0
            cases hv with
            | true =>
              by_cases hv2 : x.val = 2
              · have HF := Lib.hid (show okE x = okN x.n from by rw [HR2.out]; simp [hv2])
                have hq2 : (x.val == 2) = true := by simpa using hv2
                have hq3 : (x.val != 2) = false := by simpa using hv2
                clear hv2
                go_wp2_with (first
                    | (go_at_call 70; (with_reducible refine (H100.out _).mono ?_); rintro e wn ⟨rfl, rfl⟩)
                    | (go_at_call 70; (with_reducible refine (H118.out _).mono ?_); rintro e wn ⟨rfl, rfl⟩)
                    | (go_at_call 108; (with_reducible refine (SML.out _).mono ?_); rintro e wn ⟨rfl, rfl⟩)
                    | (go_at_call 108; refine (rsmall_any _ _).mono ?_; rintro e wn ⟨rfl, rfl⟩))
                go_ret
                exact ⟨by rw [HF.out]; rfl, O1.out.trans OO.out⟩
              · have hq2 : (x.val == 2) = false := by simpa using hv2
                have hq3 : (x.val != 2) = true := by simpa using hv2
                by_cases hn0 : x.n = 0
                · have hn1 : (x.n == 0) = true := by simpa using hn0
                  by_cases hv0 : x.val = 0
                  · have HF := Lib.hid (show okE x = true from by rw [HR2.out]; simp [hn0, hv0])
                    have hw0 : (x.val == 0) = true := by simpa using hv0
                    clear hn0 hv0 hv2
                    go_wp2_with (first
                        | (go_at_call 70; (with_reducible refine (H100.out _).mono ?_); rintro e wn ⟨rfl, rfl⟩)
                        | (go_at_call 70; (with_reducible refine (H118.out _).mono ?_); rintro e wn ⟨rfl, rfl⟩)
                        | (go_at_call 108; (with_reducible refine (SML.out _).mono ?_); rintro e wn ⟨rfl, rfl⟩)
                        | (go_at_call 108; refine (rsmall_any _ _).mono ?_; rintro e wn ⟨rfl, rfl⟩))
                    go_ret
                    exact ⟨by rw [HF.out]; rfl, O1.out.trans OO.out⟩
                  · have hw0 : (x.val == 0) = false := by simpa using hv0
                    by_cases hv1 : x.val = 1
                    · have HF := Lib.hid (show okE x = true from by rw [HR2.out]; simp [hn0, hv1])
                      have hw1 : (x.val == 1) = true := by simpa using hv1
                      clear hn0 hv0 hv1 hv2
                      go_wp2_with (first
                          | (go_at_call 70; (with_reducible refine (H100.out _).mono ?_); rintro e wn ⟨rfl, rfl⟩)
                          | (go_at_call 70; (with_reducible refine (H118.out _).mono ?_); rintro e wn ⟨rfl, rfl⟩)
                          | (go_at_call 108; (with_reducible refine (SML.out _).mono ?_); rintro e wn ⟨rfl, rfl⟩)
                          | (go_at_call 108; refine (rsmall_any _ _).mono ?_; rintro e wn ⟨rfl, rfl⟩))
                      go_ret
                      exact ⟨by rw [HF.out]; rfl, O1.out.trans OO.out⟩
                    · have HF := Lib.hid (show okE x = false from by rw [HR2.out]; simp [hn0, hv0, hv1, hv2])
                      have hw1 : (x.val == 1) = false := by simpa using hv1
                      clear hn0 hv0 hv1 hv2
                      go_wp2_with (first
                          | (go_at_call 70; (with_reducible refine (H100.out _).mono ?_); rintro e wn ⟨rfl, rfl⟩)
                          | (go_at_call 70; (with_reducible refine (H118.out _).mono ?_); rintro e wn ⟨rfl, rfl⟩)
                          | (go_at_call 108; (with_reducible refine (SML.out _).mono ?_); rintro e wn ⟨rfl, rfl⟩)
                          | (go_at_call 108; refine (rsmall_any _ _).mono ?_; rintro e wn ⟨rfl, rfl⟩))
                      go_ret
                      exact ⟨by rw [HF.out]; rfl, O1.out.trans OO.out⟩
                · have HF := Lib.hid (show okE x = false from by rw [HR2.out]; simp [hn0, hv2])
                  have hn1 : (x.n == 0) = false := by simpa using hn0
                  clear hn0 hv2
                  go_wp2_with (first
                      | (go_at_call 70; (with_reducible refine (H100.out _).mono ?_); rintro e wn ⟨rfl, rfl⟩)
                      | (go_at_call 70; (with_reducible refine (H118.out _).mono ?_); rintro e wn ⟨rfl, rfl⟩)
                      | (go_at_call 108; (with_reducible refine (SML.out _).mono ?_); rintro e wn ⟨rfl, rfl⟩)
                      | (go_at_call 108; refine (rsmall_any _ _).mono ?_; rintro e wn ⟨rfl, rfl⟩))
                  go_ret
                  exact ⟨by rw [HF.out]; rfl, O1.out.trans OO.out⟩
            | false =>
              by_cases hn0 : x.n = 0
              · have hn1 : (x.n == 0) = true := by simpa using hn0
                by_cases hv0 : x.val = 0
                · have HF := Lib.hid (show okE x = true from by rw [HR2.out]; simp [hn0, hv0])
                  have hw0 : (x.val == 0) = true := by simpa using hv0
                  clear hn0 hv0
                  go_wp2_with (first
                      | (go_at_call 70; (with_reducible refine (H100.out _).mono ?_); rintro e wn ⟨rfl, rfl⟩)
                      | (go_at_call 70; (with_reducible refine (H118.out _).mono ?_); rintro e wn ⟨rfl, rfl⟩)
                      | (go_at_call 108; (with_reducible refine (SML.out _).mono ?_); rintro e wn ⟨rfl, rfl⟩)
                      | (go_at_call 108; refine (rsmall_any _ _).mono ?_; rintro e wn ⟨rfl, rfl⟩))
                  go_ret
                  exact ⟨by rw [HF.out]; rfl, O1.out.trans OO.out⟩
                · have hw0 : (x.val == 0) = false := by simpa using hv0
                  by_cases hv1 : x.val = 1
                  · have HF := Lib.hid (show okE x = false from by rw [HR2.out]; simp [hn0, hv1])
                    have hw1 : (x.val == 1) = true := by simpa using hv1
                    clear hn0 hv0 hv1
                    go_wp2_with (first
                        | (go_at_call 70; (with_reducible refine (H100.out _).mono ?_); rintro e wn ⟨rfl, rfl⟩)
                        | (go_at_call 70; (with_reducible refine (H118.out _).mono ?_); rintro e wn ⟨rfl, rfl⟩)
                        | (go_at_call 108; (with_reducible refine (SML.out _).mono ?_); rintro e wn ⟨rfl, rfl⟩)
                        | (go_at_call 108; refine (rsmall_any _ _).mono ?_; rintro e wn ⟨rfl, rfl⟩))
                    go_ret
                    exact ⟨by rw [HF.out]; rfl, O1.out.trans OO.out⟩
                  · have HF := Lib.hid (show okE x = false from by rw [HR2.out]; simp [hn0, hv0, hv1])
                    have hw1 : (x.val == 1) = false := by simpa using hv1
                    clear hn0 hv0 hv1
                    go_wp2_with (first
                        | (go_at_call 70; (with_reducible refine (H100.out _).mono ?_); rintro e wn ⟨rfl, rfl⟩)
                        | (go_at_call 70; (with_reducible refine (H118.out _).mono ?_); rintro e wn ⟨rfl, rfl⟩)
                        | (go_at_call 108; (with_reducible refine (SML.out _).mono ?_); rintro e wn ⟨rfl, rfl⟩)
                        | (go_at_call 108; refine (rsmall_any _ _).mono ?_; rintro e wn ⟨rfl, rfl⟩))
                    go_ret
                    exact ⟨by rw [HF.out]; rfl, O1.out.trans OO.out⟩
              · have HF := Lib.hid (show okE x = false from by rw [HR2.out]; simp [hn0])
                have hn1 : (x.n == 0) = false := by simpa using hn0
                clear hn0
                go_wp2_with (first
                    | (go_at_call 70; (with_reducible refine (H100.out _).mono ?_); rintro e wn ⟨rfl, rfl⟩)
                    | (go_at_call 70; (with_reducible refine (H118.out _).mono ?_); rintro e wn ⟨rfl, rfl⟩)
                    | (go_at_call 108; (with_reducible refine (SML.out _).mono ?_); rintro e wn ⟨rfl, rfl⟩)
                    | (go_at_call 108; refine (rsmall_any _ _).mono ?_; rintro e wn ⟨rfl, rfl⟩))
                go_ret
                exact ⟨by rw [HF.out]; rfl, O1.out.trans OO.out⟩
          · have hd1 : (x.delay == 0) = false := by simpa using hd0
            have hd2 : (x.delay != 0) = true := by simpa using hd0
            have HF := Lib.hid (show okE x = false from by rw [HR1.out]; simp [hd0])
            clear hd0
            go_wp2_with (first
                | (go_at_call 70; (with_reducible refine (H100.out _).mono ?_); rintro e wn ⟨rfl, rfl⟩)
                | (go_at_call 70; (with_reducible refine (H118.out _).mono ?_); rintro e wn ⟨rfl, rfl⟩)
                | (go_at_call 108; (with_reducible refine (SML.out _).mono ?_); rintro e wn ⟨rfl, rfl⟩)
                | (go_at_call 108; refine (rsmall_any _ _).mono ?_; rintro e wn ⟨rfl, rfl⟩))
            go_ret
            exact ⟨by rw [HF.out]; rfl, O1.out.trans OO.out⟩
end Go.Proofs.YthanclicnkjmiaaGreatDoor.Ps
