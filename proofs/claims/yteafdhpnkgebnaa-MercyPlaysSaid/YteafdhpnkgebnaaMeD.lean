/- mercy: worlds that hold a budget; New, Forget, Left. -/
import Derived.Test.YteafdhpnkgebnaaMeC
set_option linter.unusedSimpArgs false
set_option linter.unusedVariables false
namespace Go.Proofs.Yteafdhpnkgebnaa.Me
open Go.RowKit Go.Proofs.Yteafdhpnkgebnaa Go.Maps

/-- A map's element, as it is. -/
def raw (v : Value) : Option (DataW Value × List MemPlace) := some (.held v, [])
theorem Try.law : Keyed Try.prog 3 := int_keyed Try.underlying3
theorem Try.zeroR (w : World) : (zeroValue 54).run Try.prog w = .ok (.slice none 0 0) w := by kernel_rfl

/-- World w holds a budget at block hb: n restarts within win ticks; its map lies at mb; V c is the slice at child c, F c its ticks; all its blocks are of S. -/
structure A0 (w : World) (S : Nat → Prop) (hb mb n N : Nat) (win : Int) (D : DataW Value) (V : Int → Value) (F : Int → List Int) : Prop where
  head : w.heap[hb]? = some (.cells #[.int .i64 (n : Int), .int .i64 win, .map (some mb)] 53 (0, 0))
  map : w.ownsMap Try.prog 3 raw mb N D
  elem : ∀ c : Int, D.atKey (.int .i64 c) (.held (.slice none 0 0)) = .held (V c)
  row : ∀ c, w.ownsRow 0 2 1 (V c) (F c).length (iv (F c))
  own : ∀ c g, some g = (V c).ownBlock → S g
  apart : ∀ c d g, c ≠ d → some g = (V c).ownBlock → some g ≠ (V d).ownBlock
  hS : S hb
  mS : S mb
  lt : ∀ q, S q → q < w.heap.size

/-- .. of which A c is all that child c was given since it was forgotten. -/
def At (w : World) (S : Nat → Prop) (hb n N : Nat) (win : Int) (A : Int → List Int) : Prop :=
  ∃ (mb : Nat) (D : DataW Value) (V : Int → Value) (F : Int → List Int), A0 w S hb mb n N win D V F ∧ (∀ c, Rel n (A c) (F c)) ∧ n ≤ 100 ∧ 1 ≤ win ∧ win ≤ 4095

/-- S, and what is new between w and w'. -/
def Plus (S : Nat → Prop) (w w' : World) (k : Nat) : Prop := S k ∨ (w.heap.size ≤ k ∧ k < w'.heap.size)

section
variable {w w' : World} {S T : Nat → Prop} {hb mb n N : Nat} {win : Int} {D : DataW Value} {V : Int → Value} {F A : Int → List Int}
theorem ownsMap_keep {b : Nat} (h : w.ownsMap Try.prog 3 raw b N D) (o : Only T w w') (hT : ¬ T b) : w'.ownsMap Try.prog 3 raw b N D := by
  have hlt := h.lt
  obtain ⟨es, clock, hb, r⟩ := h
  exact ⟨es, clock, (o.block b hlt hT).trans hb, r⟩
theorem A0.keep (h : A0 w S hb mb n N win D V F) (o : Only T w w') (hT : ∀ q, S q → ¬ T q) : A0 w' S hb mb n N win D V F :=
  ⟨(o.block hb (h.lt _ h.hS) (hT _ h.hS)).trans h.head, ownsMap_keep h.map o (hT _ h.mS), h.elem, fun c => own_keep (h.row c) o (fun q hq => hT q (h.own c q hq)), h.own, h.apart, h.hS, h.mS, fun q hq => Nat.lt_of_lt_of_le (h.lt q hq) o.size⟩
theorem A0.nil (h : A0 w S hb mb n N win D V F) (o : Only Nil w w') : A0 w' S hb mb n N win D V F := h.keep o (fun _ _ h => h.elim)
theorem A0.c0 (h : A0 w S hb mb n N win D V F) : w.cell? ⟨hb, 0, none⟩ = some (.int .i64 (n : Int)) := by simp [World.cell?, h.head]
theorem A0.c1 (h : A0 w S hb mb n N win D V F) : w.cell? ⟨hb, 1, none⟩ = some (.int .i64 win) := by simp [World.cell?, h.head]
theorem A0.c2 (h : A0 w S hb mb n N win D V F) : w.cell? ⟨hb, 2, none⟩ = some (.map (some mb)) := by simp [World.cell?, h.head]
theorem A0.lt_hb (h : A0 w S hb mb n N win D V F) : hb < w.heap.size := h.lt _ h.hS
theorem A0.look (h : A0 w S hb mb n N win D V F) {c : Int} (hc : (Lit.int .i64 c).wf = true) :
    (Instr.lookup 51 (.map (some mb)) (.int .i64 c) false).run Try.prog w = .ok (V c) w := by
  obtain ⟨v, ps, hrun, hv⟩ := h.map.lookup (zd := .held (.slice none 0 0)) (zp := []) Try.law Try.underlying51 (Try.zeroR w) rfl (keyOf_int_mk Try.underlying3 hc)
  rw [h.elem c] at hv
  simp only [raw, Option.some.injEq, Prod.mk.injEq, DataW.held.injEq] at hv
  rw [← hv.1]
  exact hrun
theorem A0.ne (h : A0 w S hb mb n N win D V F) : hb ≠ mb := by
  rintro rfl
  obtain ⟨es, clock, hm, _⟩ := h.map
  rw [h.head] at hm
  cases hm
/-- A row's block is neither the head nor the map. -/
theorem A0.rne (h : A0 w S hb mb n N win D V F) (c : Int) (g : Nat) (hg : some g = (V c).ownBlock) : g ≠ mb ∧ g ≠ hb := by
  rcases (h.row c).2 with ⟨e, _⟩ | ⟨g', cc, cur, e, _, hh, _⟩
  · rw [e] at hg; simp [Value.ownBlock] at hg
  · have : g = g' := by rw [e] at hg; simpa [Value.ownBlock] using hg
    subst this
    constructor
    · rintro rfl
      obtain ⟨es, clock, hm, _⟩ := h.map
      rw [hh] at hm
      cases hm
    · rintro rfl
      exact blk_ne h.head hh (by decide) rfl
theorem A0.shape (h : A0 w S hb mb n N win D V F) (c : Int) : ∃ a k, V c = .slice a (F c).length k := own_slice_n (h.row c)
theorem A0.more {N' : Nat} (h : A0 w S hb mb n N win D V F) (hN : N ≤ N') : A0 w S hb mb n N' win D V F := ⟨h.head, h.map.mono hN, h.elem, h.row, h.own, h.apart, h.hS, h.mS, h.lt⟩
theorem At.keep (h : At w S hb n N win A) (o : Only T w w') (hT : ∀ q, S q → ¬ T q) : At w' S hb n N win A := by
  obtain ⟨mb, D, V, F, a, r⟩ := h
  exact ⟨mb, D, V, F, a.keep o hT, r⟩
theorem At.nil (h : At w S hb n N win A) (o : Only Nil w w') : At w' S hb n N win A := h.keep o (fun _ _ h => h.elim)
theorem At.lt (h : At w S hb n N win A) : ∀ q, S q → q < w.heap.size := by obtain ⟨_, _, _, _, a, _⟩ := h; exact a.lt
theorem At.more {N' : Nat} (h : At w S hb n N win A) (hN : N ≤ N') : At w S hb n N' win A := by
  obtain ⟨mb, D, V, F, a, r⟩ := h
  exact ⟨mb, D, V, F, a.more hN, r⟩
theorem At.few (h : At w S hb n N win A) : n ≤ 100 := by obtain ⟨_, _, _, _, _, _, h, _⟩ := h; exact h
end

theorem new_any (r u : Int) (w : World) : Calls Try.prog 9 #[.int .i64 r, .int .i64 u] w fun e w' =>
    e = .returned (.pointer (some ⟨w.heap.size + 1, 0, none⟩)) ∧ At w' (fun q => q = w.heap.size ∨ q = w.heap.size + 1) (w.heap.size + 1) (kn r) 0 (kw u) (fun _ => []) ∧ Only Nil w w' := by
  have hmm := @run_makeMap Try.prog
  have hk := kn_eq r
  have fin := Lib.hid (fun (x y : Int) (hx : x = (kn r : Int)) (hy : y = kw u) => show At ((w.alloc (.map #[] 0)).alloc (.cells #[.int .i64 x, .int .i64 y, .map (some w.heap.size)] 53)) (fun q => q = w.heap.size ∨ q = w.heap.size + 1) (w.heap.size + 1) (kn r) 0 (kw u) (fun _ => []) from by
    subst hx hy
    refine ⟨w.heap.size, .map [], fun _ => .slice none 0 0, fun _ => [], ⟨?_, (World.ownsMap_made w Try.prog 3 raw).alloc _, fun c => rfl, fun c => World.ownsRow_nil _ _ _ _, fun c g hg => by simp [Value.ownBlock] at hg, fun c d g _ hg => by simp [Value.ownBlock] at hg, .inr rfl, .inl rfl, fun q hq => by simp; omega⟩, fun c => Rel.start _, kn_le r, (kw_in u).1, (kw_in u).2⟩
    have := heap_new (w.alloc (.map #[] 0)) (.cells #[.int .i64 (kn r : Int), .int .i64 (kw u), .map (some w.heap.size)] 53)
    simpa using this)
  go_enter Try.func9, Try.ntmps9
  go_wp2
  go_ret
  refine ⟨by simp, ?_, ((Only.refl Nil w).alloc _).alloc _⟩
  exact fin.out _ _ (by rw [hk]) rfl

/-- One child's row is another, at a value v'. -/
def setV {α : Type} (f : Int → α) (c : Int) (x : α) : Int → α := fun d => if d = c then x else f d
theorem setV_same {α : Type} (f : Int → α) (c : Int) (x : α) : setV f c x c = x := by simp [setV]
theorem setV_other {α : Type} (f : Int → α) {c d : Int} (x : α) (h : d ≠ c) : setV f c x d = f d := by simp [setV, h]

/-- What is new behind a row's turn: the row itself is the old one's or new. -/
theorem A0.set {w0 w w' : World} {S : Nat → Prop} {hb mb n N N' : Nat} {win : Int} {D D' : DataW Value} {V : Int → Value} {F : Int → List Int} (h : A0 w0 S hb mb n N win D V F) (c : Int) (v' : Value) (L' : List Int)
    (o : Only (fun q => some q = (V c).ownBlock) w0 w) (hown : w.ownsRow 0 2 1 v' L'.length (iv L')) (hnew : ∀ g, some g = v'.ownBlock → some g = (V c).ownBlock ∨ w0.heap.size ≤ g)
    (o2 : Only (fun q => q = mb) w w') (hmap : w'.ownsMap Try.prog 3 raw mb N' D') (hD : ∀ d, D'.atKey (.int .i64 d) (.held (.slice none 0 0)) = .held (setV V c v' d)) :
    A0 w' (Plus S w0 w') hb mb n N' win D' (setV V c v') (setV F c L') ∧ Only S w0 w' := by
  have hlt0 := h.lt
  have sz1 := o.size
  have sz2 := o2.size
  have hv'lt : ∀ g, some g = v'.ownBlock → g < w.heap.size := fun g hg => (hown.lt g hg.symm).2
  have hv'mb : ∀ g, some g = v'.ownBlock → g ≠ mb := fun g hg => by
    rcases hnew g hg with h1 | h1
    · exact (h.rne c g h1).1
    · have := hlt0 _ h.mS; omega
  refine ⟨⟨?_, hmap, hD, fun d => ?_, fun d g hg => ?_, fun d1 d2 g hne h1 h2 => ?_, .inl h.hS, .inl h.mS, fun q hq => ?_⟩, ?_⟩
  · refine (o2.block hb ?_ h.ne).trans ((o.block hb h.lt_hb (fun e => (h.rne c hb e).2 rfl)).trans h.head)
    have := h.lt_hb; omega
  · by_cases e : d = c
    · subst e
      rw [setV_same, setV_same]
      exact own_keep hown o2 (fun g hg => hv'mb g hg)
    · rw [setV_other _ _ e, setV_other _ _ e]
      exact own_keep (own_keep (h.row d) o (fun g hg e1 => h.apart d c g e hg e1)) o2 (fun g hg => (h.rne d g hg).1)
  · by_cases e : d = c
    · subst e
      rw [setV_same] at hg
      rcases hnew g hg with h1 | h1
      · exact .inl (h.own d g h1)
      · have := hv'lt g hg
        exact .inr ⟨h1, by omega⟩
    · rw [setV_other _ _ e] at hg
      exact .inl (h.own d g hg)
  · by_cases e1 : d1 = c
    · subst e1
      have e2 : d2 ≠ d1 := fun e => hne e.symm
      rw [setV_same] at h1
      rw [setV_other _ _ e2] at h2
      rcases hnew g h1 with h3 | h3
      · exact h.apart d1 d2 g hne h3 h2
      · have := hlt0 _ (h.own d2 g h2); omega
    · rw [setV_other _ _ e1] at h1
      by_cases e2 : d2 = c
      · subst e2
        rw [setV_same] at h2
        rcases hnew g h2 with h3 | h3
        · exact h.apart d1 d2 g hne h1 h3
        · have := hlt0 _ (h.own d1 g h1); omega
      · rw [setV_other _ _ e2] at h2
        exact h.apart d1 d2 g hne h1 h2
  · rcases hq with hq | hq
    · have := hlt0 q hq; omega
    · exact hq.2
  · refine (o.mono (fun q hq => h.own c q hq)).trans (o2.mono (fun q hq => hq ▸ h.mS))

theorem wf64 {x : Int} (h1 : -9223372036854775808 ≤ x) (h2 : x ≤ 9223372036854775807) : (Lit.int .i64 x).wf = true := by
  simp [Lit.wf, IntKind.min, IntKind.max, IntKind.signed, IntKind.bits]
  omega

set_option maxRecDepth 100000 in
theorem forget_any {w : World} {S : Nat → Prop} {hb n N : Nat} {win : Int} {A : Int → List Int} (h : At w S hb n N win A) (c : Int) (hc : (Lit.int .i64 c).wf = true) :
    Calls Try.prog 12 #[.pointer (some ⟨hb, 0, none⟩), .int .i64 c] w fun e w' => e = .returned (.tuple #[]) ∧ At w' (Plus S w w') hb n N win (setV A c []) ∧ Only S w w' := by
  obtain ⟨mb, D, V, F, a, r, hn⟩ := h
  have c2 := a.c2
  have hm := Lib.hid a.map
  have hkey : keyOf Try.prog 3 (.int .i64 c) = some (.int .i64 c) := keyOf_int_mk Try.underlying3 hc
  have fin := Lib.hid (fun (w' : World) (hown : w'.ownsMap Try.prog 3 raw mb N (D.del (.int .i64 c))) (g : w.grownBy w' (some mb)) => show At w' (Plus S w w') hb n N win (setV A c []) ∧ Only S w w' from by
    have o2 : Only (fun q => q = mb) w w' := (Only.ofGrown g).mono (fun q hq => by injection hq)
    obtain ⟨h1, h2⟩ := a.set c (.slice none 0 0) [] (Only.refl _ w) (World.ownsRow_nil _ _ _ _) (fun g hg => by simp [Value.ownBlock] at hg) o2 hown (fun d => by
      by_cases e : d = c
      · subst e; rw [setV_same, Maps.atKey_del_same]
      · rw [setV_other _ _ e, Maps.atKey_del_other (by intro h; injection h with _ h; exact e h), a.elem])
    refine ⟨⟨mb, _, _, _, h1, fun d => ?_, hn⟩, h2⟩
    by_cases e : d = c
    · subst e; rw [setV_same, setV_same]; exact Rel.start n
    · rw [setV_other _ _ e, setV_other _ _ e]; exact r d)
  clear a r hn
  go_enter Try.func12, Try.ntmps12
  go_wp2_with (at_delete; refine wpList_delete_own _ rfl _ _ 51 3 rfl 54 Try.law Try.underlying51 _ mb N D rfl hm.out _ _ rfl hkey ?_; intro w1 hown1 hturn1; have g1 := hturn1.grown)
  go_end0
  exact ⟨rfl, fin.out _ hown1 g1⟩
end Go.Proofs.Yteafdhpnkgebnaa.Me
