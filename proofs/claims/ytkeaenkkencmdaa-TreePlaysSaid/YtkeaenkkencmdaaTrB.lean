/- tree: worlds that hold a tree; New, Has, Len, Parent. -/
import Derived.Test.YtkeaenkkencmdaaTrP
import Derived.Maps.OwnOps
import Derived.Maps.OwnSet
import Derived.LaidEqlPtr
set_option linter.unusedSimpArgs false
set_option linter.unusedVariables false
namespace Go.Proofs.Ytkeaenkkencmdaa.Tr
open Go.RowKit Go.Proofs.Ytkeaenkkencmdaa Go.Maps

/-- A map's element, as it is. -/
def raw (v : Value) : Option (DataW Value × List MemPlace) := some (.held v, [])
theorem Try.law : Keyed Try.prog 3 := int_keyed Try.underlying3
theorem Try.zeroM (w : World) : (zeroValue 51).run Try.prog w = .ok (.pointer none) w := by kernel_rfl
theorem Try.sizeMember : (Try.prog.info? 53).map (fun i => i.size) = some 6 := by kernel_rfl
theorem tight {H : Type} {P : Program} {k : TypeId} {R : Value → Option (DataW H × List MemPlace)} {w : World} {b n : Nat} {D : DataW H} (h : w.ownsMap P k R b n D) {n' : Nat} (hn : Maps.size D ≤ n') : w.ownsMap P k R b n' D := by
  obtain ⟨es, clock, hb, F, hs, rfl⟩ := h
  refine ⟨es, clock, hb, F, ?_, rfl⟩
  simpa [Maps.size, length_sorted] using hn
theorem ownsMap_keep {T : Nat → Prop} {w w' : World} {b N : Nat} {D : DataW Value} (h : w.ownsMap Try.prog 3 raw b N D) (o : Only T w w') (hT : ¬ T b) : w'.ownsMap Try.prog 3 raw b N D := by
  have hlt := h.lt
  obtain ⟨es, clock, hb, r⟩ := h
  exact ⟨es, clock, (o.block b hlt hT).trans hb, r⟩

/-- The root's number of nobody, or a member. -/
def In (T : List Mb) (x : Int) : Prop := x = 0 ∨ has T x = true
def opt (b : Int → Nat) : Option Int → Value
  | none => .pointer none
  | some x => .pointer (some ⟨b x, 0, none⟩)
/-- x's siblings, with it. -/
def sib (T : List Mb) (x : Int) : List Int := if x = 0 then [] else kids T (par T x)
def above (T : List Mb) (x : Int) : Option Int := if x = 0 then none else some (par T x)
/-- The cells of x. -/
def node (T : List Mb) (b : Int → Nat) (x : Int) : Array Value :=
  #[.int .i64 x, opt b (above T x), opt b (kids T x).head?, opt b (kids T x).getLast?, opt b (prevOf (sib T x) x), opt b (nextOf (sib T x) x)]
theorem node_mk {T : List Mb} {b : Int → Nat} {x : Int} {v1 v2 v3 v4 v5 : Value} (h1 : v1 = opt b (above T x)) (h2 : v2 = opt b (kids T x).head?) (h3 : v3 = opt b (kids T x).getLast?) (h4 : v4 = opt b (prevOf (sib T x) x)) (h5 : v5 = opt b (nextOf (sib T x) x)) :
    #[.int .i64 x, v1, v2, v3, v4, v5] = node T b x := by subst h1 h2 h3 h4 h5; rfl

/-- World w holds a tree of T at block tb: its map lies at mb, the node of x at b x; all its blocks are of S. -/
structure A0 (w : World) (S : Nat → Prop) (tb mb : Nat) (D : DataW Value) (b : Int → Nat) (T : List Mb) : Prop where
  good : Good T
  head : w.heap[tb]? = some (.cells #[.map (some mb), .pointer (some ⟨b 0, 0, none⟩)] 55 (0, 0))
  map : w.ownsMap Try.prog 3 raw mb T.length D
  size : Maps.size D = T.length
  hasD : ∀ x : Int, Maps.has D (.int .i64 x) = has T x
  elem : ∀ x : Int, D.atKey (.int .i64 x) (.held (.pointer none)) = .held (if has T x = true then .pointer (some ⟨b x, 0, none⟩) else .pointer none)
  node : ∀ x, In T x → w.heap[b x]? = some (.cells (node T b x) 53 (0, 0))
  inj : ∀ x y, In T x → In T y → b x = b y → x = y
  own : ∀ x, In T x → S (b x)
  hS : S tb
  mS : S mb
  lt : ∀ q, S q → q < w.heap.size
def At (w : World) (S : Nat → Prop) (tb : Nat) (T : List Mb) : Prop := ∃ (mb : Nat) (D : DataW Value) (b : Int → Nat), A0 w S tb mb D b T

/-- S, and what is new between w and w'. -/
def Plus (S : Nat → Prop) (w w' : World) (k : Nat) : Prop := S k ∨ (w.heap.size ≤ k ∧ k < w'.heap.size)
section
variable {w w' : World} {S U : Nat → Prop} {tb mb : Nat} {D : DataW Value} {b : Int → Nat} {T : List Mb}
theorem A0.keep (h : A0 w S tb mb D b T) (o : Only U w w') (hU : ∀ q, S q → ¬ U q) : A0 w' S tb mb D b T :=
  ⟨h.good, (o.block tb (h.lt _ h.hS) (hU _ h.hS)).trans h.head, ownsMap_keep h.map o (hU _ h.mS), h.size, h.hasD, h.elem, fun x hx => (o.block _ (h.lt _ (h.own x hx)) (hU _ (h.own x hx))).trans (h.node x hx), h.inj, h.own, h.hS, h.mS, fun q hq => Nat.lt_of_lt_of_le (h.lt q hq) o.size⟩
theorem A0.nil (h : A0 w S tb mb D b T) (o : Only Nil w w') : A0 w' S tb mb D b T := h.keep o (fun _ _ h => h.elim)
theorem A0.t0 (h : A0 w S tb mb D b T) : w.cell? ⟨tb, 0, none⟩ = some (.map (some mb)) := by simp [World.cell?, h.head]
theorem A0.t1 (h : A0 w S tb mb D b T) : w.cell? ⟨tb, 1, none⟩ = some (.pointer (some ⟨b 0, 0, none⟩)) := by simp [World.cell?, h.head]
theorem A0.c0 (h : A0 w S tb mb D b T) {x : Int} (hx : In T x) : w.cell? ⟨b x, 0, none⟩ = some (.int .i64 x) := by simp [World.cell?, h.node x hx, Tr.node]
theorem A0.c1 (h : A0 w S tb mb D b T) {x : Int} (hx : In T x) : w.cell? ⟨b x, 1, none⟩ = some (opt b (above T x)) := by simp [World.cell?, h.node x hx, Tr.node]
theorem A0.c2 (h : A0 w S tb mb D b T) {x : Int} (hx : In T x) : w.cell? ⟨b x, 2, none⟩ = some (opt b (kids T x).head?) := by simp [World.cell?, h.node x hx, Tr.node]
theorem A0.c3 (h : A0 w S tb mb D b T) {x : Int} (hx : In T x) : w.cell? ⟨b x, 3, none⟩ = some (opt b (kids T x).getLast?) := by simp [World.cell?, h.node x hx, Tr.node]
theorem A0.c4 (h : A0 w S tb mb D b T) {x : Int} (hx : In T x) : w.cell? ⟨b x, 4, none⟩ = some (opt b (prevOf (sib T x) x)) := by simp [World.cell?, h.node x hx, Tr.node]
theorem A0.c5 (h : A0 w S tb mb D b T) {x : Int} (hx : In T x) : w.cell? ⟨b x, 5, none⟩ = some (opt b (nextOf (sib T x) x)) := by simp [World.cell?, h.node x hx, Tr.node]
theorem A0.look (h : A0 w S tb mb D b T) {x : Int} (hx : (Lit.int .i64 x).wf = true) :
    (Instr.lookup 50 (.map (some mb)) (.int .i64 x) false).run Try.prog w = .ok (if has T x = true then .pointer (some ⟨b x, 0, none⟩) else .pointer none) w := by
  obtain ⟨v, ps, hrun, hv⟩ := h.map.lookup (zd := .held (.pointer none)) (zp := []) Try.law Try.underlying50 (Try.zeroM w) rfl (keyOf_int_mk Try.underlying3 hx)
  rw [h.elem x] at hv
  simp only [raw, Option.some.injEq, Prod.mk.injEq, DataW.held.injEq] at hv
  rw [← hv.1]
  exact hrun
theorem A0.tm (h : A0 w S tb mb D b T) : tb ≠ mb := by
  rintro rfl
  obtain ⟨es, clock, hm, _⟩ := h.map
  rw [h.head] at hm
  cases hm
theorem A0.nm (h : A0 w S tb mb D b T) {x : Int} (hx : In T x) : b x ≠ mb := by
  intro e
  obtain ⟨es, clock, hm, _⟩ := h.map
  rw [← e, h.node x hx] at hm
  cases hm
theorem A0.nt (h : A0 w S tb mb D b T) {x : Int} (hx : In T x) : b x ≠ tb := blk_ne (h.node x hx) h.head (by decide)
/-- Two nodes' pointers compared. -/
theorem A0.eqP (h : A0 w S tb mb D b T) {x y : Int} (hx : In T x) (hy : In T y) : (binOp .eql 51 (.pointer (some ⟨b x, 0, none⟩)) (.pointer (some ⟨b y, 0, none⟩))).run Try.prog w = .ok (.bool (decide (x = y))) w := by
  obtain ⟨j, hj, hjs⟩ := Option.map_eq_some_iff.1 Try.sizeMember
  by_cases e : x = y
  · subst e
    rw [decide_eq_true rfl]
    exact run_eql_ptr_same w ⟨b x, 0, none⟩ Try.underlying51 hj
  · rw [decide_eq_false e]
    exact run_eql_ptr_other w Try.underlying51 hj (by rw [hjs]; decide) (fun e2 => e (h.inj x y hx hy (by injection e2))) (h.node x hx) (h.node y hy)
theorem A0.neP (h : A0 w S tb mb D b T) {x y : Int} (hx : In T x) (hy : In T y) : (binOp .neq 51 (.pointer (some ⟨b x, 0, none⟩)) (.pointer (some ⟨b y, 0, none⟩))).run Try.prog w = .ok (.bool (!decide (x = y))) w := by
  have := h.eqP hx hy
  simp only [binOp] at this ⊢
  cases he : (Op.equal 51 (.pointer (some ⟨b x, 0, none⟩)) (.pointer (some ⟨b y, 0, none⟩))).run Try.prog w with
  | ok v w1 =>
    simp [he, Result.andThen] at this ⊢
    exact this
  | _ => simp [he, Result.andThen] at this
theorem At.keep (h : At w S tb T) (o : Only U w w') (hU : ∀ q, S q → ¬ U q) : At w' S tb T := by
  obtain ⟨mb, D, b, a⟩ := h
  exact ⟨mb, D, b, a.keep o hU⟩
theorem At.nil (h : At w S tb T) (o : Only Nil w w') : At w' S tb T := h.keep o (fun _ _ h => h.elim)
theorem At.lt (h : At w S tb T) : ∀ q, S q → q < w.heap.size := by obtain ⟨_, _, _, a⟩ := h; exact a.lt
theorem At.good (h : At w S tb T) : Good T := by obtain ⟨_, _, _, a⟩ := h; exact a.good
end

set_option maxRecDepth 100000 in
theorem new_any (w : World) : Calls Try.prog 8 #[] w fun e w' =>
    e = .returned (.pointer (some ⟨w.heap.size + 2, 0, none⟩)) ∧ At w' (fun q => w.heap.size ≤ q ∧ q < w'.heap.size) (w.heap.size + 2) [] ∧ Only Nil w w' := by
  have hmm := @run_makeMap Try.prog
  have fin := Lib.hid (show At (((w.alloc (.map #[] 0)).alloc (.cells #[.int .i64 0, .pointer none, .pointer none, .pointer none, .pointer none, .pointer none] 53)).alloc (.cells #[.map (some w.heap.size), .pointer (some ⟨w.heap.size + 1, 0, none⟩)] 55))
      (fun q => w.heap.size ≤ q ∧ q < (((w.alloc (.map #[] 0)).alloc (.cells #[.int .i64 0, .pointer none, .pointer none, .pointer none, .pointer none, .pointer none] 53)).alloc (.cells #[.map (some w.heap.size), .pointer (some ⟨w.heap.size + 1, 0, none⟩)] 55)).heap.size) (w.heap.size + 2) [] from by
    have e1 := heap_new (w.alloc (.map #[] 0)) (.cells #[.int .i64 0, .pointer none, .pointer none, .pointer none, .pointer none, .pointer none] 53)
    have e2 := heap_new ((w.alloc (.map #[] 0)).alloc (.cells #[.int .i64 0, .pointer none, .pointer none, .pointer none, .pointer none, .pointer none] 53)) (.cells #[.map (some w.heap.size), .pointer (some ⟨w.heap.size + 1, 0, none⟩)] 55)
    refine ⟨w.heap.size, .map [], fun _ => w.heap.size + 1, Good.nil, by simpa using e2, ((World.ownsMap_made w Try.prog 3 raw).alloc _).alloc _, rfl, fun x => rfl, fun x => rfl, fun x hx => ?_, fun x y hx hy _ => ?_, fun x hx => by simp, by simp, by simp; omega, fun q hq => hq.2⟩
    · have : x = 0 := by rcases hx with hx | hx
                         · exact hx
                         · simp [has] at hx
      subst this
      rw [Below.heap_alloc _ _ _ (by simp)]
      rw [show (w.alloc (.map #[] 0)).heap.size = w.heap.size + 1 by simp] at e1
      exact e1
    · have hx : x = 0 := by rcases hx with hx | hx
                            · exact hx
                            · simp [has] at hx
      have hy : y = 0 := by rcases hy with hy | hy
                            · exact hy
                            · simp [has] at hy
      rw [hx, hy])
  go_enter Try.func8, Try.ntmps8
  go_wp2
  go_ret
  exact ⟨by simp, fin.out, (((Only.refl Nil w).alloc _).alloc _).alloc _⟩

section
variable {w : World} {S : Nat → Prop} {tb : Nat} {T : List Mb} (h : At w S tb T)
include h
theorem has_any (x : Int) (hx : (Lit.int .i64 x).wf = true) :
    Calls Try.prog 17 #[.pointer (some ⟨tb, 0, none⟩), .int .i64 x] w fun e w' => e = .returned (.bool (has T x)) ∧ w = w' := by
  obtain ⟨mb, D, b, a⟩ := h
  have t0 := a.t0
  have hl := a.look hx
  clear a
  cases hh : has T x with
  | true =>
    rw [hh] at hl
    simp only [if_true] at hl
    go_enter Try.func17, Try.ntmps17
    go_wp2
    go_ret
    exact ⟨rfl, rfl⟩
  | false =>
    rw [hh] at hl
    simp only [Bool.false_eq_true, if_false] at hl
    go_enter Try.func17, Try.ntmps17
    go_wp2
    go_ret
    exact ⟨rfl, rfl⟩
theorem len_any : Calls Try.prog 13 #[.pointer (some ⟨tb, 0, none⟩)] w fun e w' => e = .returned (.int .i64 (T.length : Nat)) ∧ w = w' := by
  obtain ⟨mb, D, b, a⟩ := h
  have t0 := a.t0
  have hm := Lib.hid a.map
  have hs := Lib.hid a.size
  clear a
  go_enter Try.func13, Try.ntmps13
  go_wp2_with (at_len; refine wpList_len_own _ rfl _ 50 rfl 3 51 Try.underlying50 _ mb T.length D rfl hm.out ?_; rw [hs.out])
  go_ret
  exact ⟨rfl, rfl⟩
theorem parent_any (x : Int) (hx : (Lit.int .i64 x).wf = true) :
    Calls Try.prog 19 #[.pointer (some ⟨tb, 0, none⟩), .int .i64 x] w fun e w' => e = .returned (.tuple #[.int .i64 (par T x), .bool (has T x)]) ∧ w = w' := by
  obtain ⟨mb, D, b, a⟩ := h
  have t0 := a.t0
  have hl := a.look hx
  cases hh : has T x with
  | true =>
    rw [hh] at hl
    simp only [if_true] at hl
    have c1 := a.c1 (.inr hh)
    have hp : In T (par T x) := (a.good.par hh).imp id (fun h => h.1)
    have c0 := a.c0 hp
    have h0 : x ≠ 0 := by have := a.good.pos1 hh; omega
    simp only [above, if_neg h0, opt] at c1
    clear a
    go_enter Try.func19, Try.ntmps19
    go_wp2
    go_ret2
    exact ⟨rfl, rfl⟩
  | false =>
    rw [hh] at hl
    simp only [Bool.false_eq_true, if_false] at hl
    rw [par_none hh]
    clear a
    go_enter Try.func19, Try.ntmps19
    go_wp2
    go_ret2
    exact ⟨rfl, rfl⟩
end
end Go.Proofs.Ytkeaenkkencmdaa.Tr
