/- dead: Put. -/
import Derived.Test.YtpkphmemeapdfaaDdD
namespace Go.Proofs.Ytpkphmemeapdfaa.Dd
open Go.RowKit Go.Proofs.Ytpkphmemeapdfaa Go.Maps

/-- S, and what is new between w and w'. -/
def Plus (S : Nat → Prop) (w w' : World) (k : Nat) : Prop := S k ∨ (w.heap.size ≤ k ∧ k < w'.heap.size)

/-- A sink in the midst of a Put: its map has at most n entries, its row the letters M. -/
structure A0 (w : World) (S : Nat → Prop) (hb mb k n : Nat) (D : DataW Unit) (v : Value) (M : List Lr) : Prop where
  head : w.heap[hb]? = some (.cells #[.int .i64 (k : Int), .map (some mb), v] 44 (0, 0))
  map : w.ownsMap Try.prog 3 (plainElem Try.prog 3) mb n D
  row : w.ownsRow 0 29 3 v M.length (lrs M)
  own : ∀ g, some g = v.ownBlock → S g
  hS : S hb
  mS : S mb
  lt : ∀ q, S q → q < w.heap.size

section
variable {w w' X : World} {S T : Nat → Prop} {hb mb k n : Nat} {D : DataW Unit} {v : Value} {L M : List Lr}
theorem At.zero (h : At w S hb mb k D v L) : A0 w S hb mb k L.length D v (kept k L) := ⟨h.head, h.map, h.row, h.own, h.hS, h.mS, h.lt⟩
theorem A0.at (h : A0 w S hb mb k L.length D v (kept k L)) (hd : Dat D L) (hk : k ≤ 64) : At w S hb mb k D v L := ⟨h.head, h.map, h.row, h.own, h.hS, h.mS, h.lt, hd, hk⟩
theorem A0.keep (h : A0 w S hb mb k n D v M) (o : Only T w w') (hT : ∀ q, S q → ¬ T q) : A0 w' S hb mb k n D v M :=
  ⟨(o.block hb (h.lt _ h.hS) (hT _ h.hS)).trans h.head, ownsMap_keep h.map o (hT _ h.mS), own_keep h.row o (fun q hq => hT q (h.own q hq)), h.own, h.hS, h.mS, fun q hq => Nat.lt_of_lt_of_le (h.lt q hq) o.size⟩
theorem A0.nil (h : A0 w S hb mb k n D v M) (o : Only Nil w w') : A0 w' S hb mb k n D v M := h.keep o (fun _ _ h => h.elim)
theorem A0.c0 (h : A0 w S hb mb k n D v M) : w.cell? ⟨hb, 0, none⟩ = some (.int .i64 (k : Int)) := by simp [World.cell?, h.head]
theorem A0.c1 (h : A0 w S hb mb k n D v M) : w.cell? ⟨hb, 1, none⟩ = some (.map (some mb)) := by simp [World.cell?, h.head]
theorem A0.c2 (h : A0 w S hb mb k n D v M) : w.cell? ⟨hb, 2, none⟩ = some v := by simp [World.cell?, h.head]
theorem A0.fz (h : A0 w S hb mb k n D v M) (i : Nat) : w.frozen? ⟨hb, i, none⟩ = false := by simp [World.frozen?, h.head]
theorem A0.lt_hb (h : A0 w S hb mb k n D v M) : hb < w.heap.size := h.lt _ h.hS
theorem A0.ne (h : A0 w S hb mb k n D v M) : hb ≠ mb := by
  rintro rfl
  obtain ⟨es, clock, hm, _⟩ := h.map
  rw [h.head] at hm
  cases hm
theorem A0.mne (h : A0 w S hb mb k n D v M) (g : Nat) (hg : some g = v.ownBlock) : g ≠ mb ∧ g ≠ hb := by
  rcases h.row.2 with ⟨rfl, _⟩ | ⟨g', c, cur, rfl, _, hh, _⟩
  · simp [Value.ownBlock] at hg
  · have : g = g' := by simpa [Value.ownBlock] using hg
    subst this
    constructor
    · rintro rfl
      obtain ⟨es, clock, hm, _⟩ := h.map
      rw [hh] at hm
      cases hm
    · rintro rfl
      exact blk_ne h.head hh (by decide) rfl
theorem A0.mono (h : A0 w S hb mb k n D v M) (hS : ∀ q, S q → T q) (hT : ∀ q, T q → q < w.heap.size) : A0 w T hb mb k n D v M :=
  ⟨h.head, h.map, h.row, fun g hg => hS _ (h.own g hg), hS _ h.hS, hS _ h.mS, hT⟩
theorem A0.plus {w0 w1 : World} (h : A0 w (Plus S w0 w) hb mb k n D v M) (hS : ∀ q, S q → q < w0.heap.size) (o : w1.heap.size ≤ w0.heap.size) (o2 : w0.heap.size ≤ w.heap.size) : A0 w (Plus S w1 w) hb mb k n D v M := by
  have hm : ∀ q, Plus S w0 w q → Plus S w1 w q := fun q hq => hq.imp id (fun h => ⟨by omega, h.2⟩)
  exact ⟨h.head, h.map, h.row, fun g hg => hm _ (h.own g hg), hm _ h.hS, hm _ h.mS, fun q hq => by
    rcases hq with hq | hq
    · have := hS q hq; omega
    · exact hq.2⟩

/-- The map has turned. -/
theorem A0.mapped {n' : Nat} {D' : DataW Unit} (h : A0 w S hb mb k n D v M) (hm : w'.ownsMap Try.prog 3 (plainElem Try.prog 3) mb n' D') (hg : w.grownBy w' (some mb)) : A0 w' S hb mb k n' D' v M ∧ Only S w w' := by
  have o : Only (fun q => q = mb) w w' := (grown_only hg).mono (fun q hq => by simpa using hq)
  exact ⟨⟨(o.block hb h.lt_hb h.ne).trans h.head, hm, own_keep h.row o (fun q hq => (h.mne q hq).1), h.own, h.hS, h.mS, fun q hq => Nat.lt_of_lt_of_le (h.lt q hq) o.size⟩, o.mono (fun q hq => by rw [hq]; exact h.mS)⟩

/-- The row has changed, and its new value is stored. -/
theorem A0.slot {w6 : World} {a a' : Option Addr} {len c len' c' : Nat} {M' : List Lr} (h : A0 w S hb mb k n D v M) (oX : Only Nil w X) (hv : v = .slice a len c)
    (ho : w6.ownsRow 0 29 3 (.slice a' len' c') len' (lrs M')) (hon : Only (RowOf a) X w6) (hsn : SameOrNew X a a') :
    (w6.cell? ⟨hb, 2, none⟩ = some v ∧ w6.frozen? ⟨hb, 2, none⟩ = false ∧ hb < w6.heap.size) ∧
    A0 (w6.setCell ⟨hb, 2, none⟩ (.slice a' len' c')) (Plus S w (w6.setCell ⟨hb, 2, none⟩ (.slice a' len' c'))) hb mb k n D (.slice a' len' c') M' ∧ Only S w (w6.setCell ⟨hb, 2, none⟩ (.slice a' len' c')) := by
  have hL : M'.length = len' := by have := ho.1; rw [lrs_length] at this; omega
  have hX := h.nil oX
  have hva : ∀ q, RowOf a q → some q = v.ownBlock := by
    rintro q ⟨x, hx, rfl⟩; rw [hv, hx]; rfl
  have o6 : Only S w w6 := (oX.nilTo S).trans (hon.mono (fun q hq => h.own q (hva q hq)))
  have sz : (w6.setCell ⟨hb, 2, none⟩ (.slice a' len' c')).heap.size = w6.heap.size := by simp [World.setCell]
  have hhead : w6.heap[hb]? = some (.cells #[.int .i64 (k : Int), .map (some mb), v] 44 (0, 0)) := (hon.block hb hX.lt_hb (fun hr => (hX.mne hb (hva hb hr)).2 rfl)).trans hX.head
  have osc : Only (fun q => q = hb) w6 (w6.setCell ⟨hb, 2, none⟩ (.slice a' len' c')) := (Only.refl (fun q => q = hb) w6).setCell (p := ⟨hb, 2, none⟩) rfl _
  have hmap : w6.ownsMap Try.prog 3 (plainElem Try.prog 3) mb n D := ownsMap_keep hX.map hon (fun hr => (hX.mne mb (hva mb hr)).1 rfl)
  have hnew : ∀ q, some q = (Value.slice a' len' c').ownBlock → (S q ∨ X.heap.size ≤ q) ∧ q < w6.heap.size := by
    intro q hq
    refine ⟨?_, (ho.lt q hq.symm).2⟩
    cases a' with
    | none => simp [Value.ownBlock] at hq
    | some x =>
      have hq' : q = x.block := by simpa [Value.ownBlock] using hq
      rcases hsn x rfl with ⟨y, hy, e⟩ | e
      · exact .inl (h.own q (hva q ⟨y, hy, by omega⟩))
      · exact .inr (by omega)
  refine ⟨⟨by simp [World.cell?, hhead], by simp [World.frozen?, hhead], lt_of_block hhead⟩, ⟨by rw [heap_setCell_self _ hhead]; rfl, ?_, ?_, ?_, .inl h.hS, .inl h.mS, ?_⟩, o6.setCell (p := ⟨hb, 2, none⟩) h.hS _⟩
  · exact ownsMap_keep hmap osc (fun e => h.ne e.symm)
  · rw [hL]
    refine own_keep ho osc (fun q hq e => ?_)
    subst e
    rcases ho.2 with ⟨e, _⟩ | ⟨g', c, cur, e, _, hh, _⟩
    · rw [e] at hq; simp [Value.ownBlock] at hq
    · have : q = g' := by rw [e] at hq; simpa [Value.ownBlock] using hq
      subst this
      exact blk_ne hhead hh (by decide) rfl
  · intro q hq
    rcases hnew q hq with ⟨h3 | h3, h4⟩
    · exact .inl h3
    · exact .inr ⟨by have := oX.size; omega, by rw [sz]; exact h4⟩
  · intro q hq
    rcases hq with hq | hq
    · exact Nat.lt_of_lt_of_le (h.lt q hq) (by rw [sz]; exact o6.size)
    · exact hq.2
end

/-- What Put's append comes to. -/
theorem put_push {w1 : World} {S : Nat → Prop} {hb mb k n len : Nat} {D : DataW Unit} {a : Option Addr} {c : Nat} {M : List Lr} (h : A0 w1 S hb mb k n D (.slice a len c) M) (hl : M.length = len) (few : len ≤ 65536) (t : Lr) (bx : Array Value) (hbx : bx = #[.int .u64 t.id, .int .i64 t.dst, .int .i64 t.why]) :
    ∃ a' c' w6, Hid ((Builtin.append_ #[22, 22] 22 #[.slice a len c, .slice (some ⟨w1.heap.size, 0, none⟩) 1 1]).run Try.prog (w1.alloc (.cells bx 29)) = .ok (.slice a' (len + 1) c') w6) ∧
      (w6.cell? ⟨hb, 2, none⟩ = some (.slice a len c) ∧ w6.frozen? ⟨hb, 2, none⟩ = false ∧ hb < w6.heap.size) ∧
      Hid (A0 (w6.setCell ⟨hb, 2, none⟩ (.slice a' (len + 1) c')) (Plus S w1 (w6.setCell ⟨hb, 2, none⟩ (.slice a' (len + 1) c'))) hb mb k n D (.slice a' (len + 1) c') (M ++ [t]) ∧ Only S w1 (w6.setCell ⟨hb, 2, none⟩ (.slice a' (len + 1) c'))) := by
  subst hbx
  have oX : Only Nil w1 (w1.alloc (.cells #[.int .u64 t.id, .int .i64 t.dst, .int .i64 t.why] 29)) := (Only.refl Nil w1).alloc _
  have hX := h.nil oX
  have hrow := hX.row
  rw [hl] at hrow
  obtain ⟨a', c', w6, hr, ho, hon, hsn⟩ := run_append_end (P := Try.prog) (t := 22) (ty := 22) (e := 29) (size := 3) (bytes := 24) Try.underlying22 Try.infoLr rfl (a := a) (len := len) (cap := c) (xs := lrs M) hrow ⟨w1.heap.size, 0, none⟩ (lr t) rfl (lr_oneCell t)
    (fun j u hj => by
        rw [add_lit0, cell_of_row _ w1.heap.size _ _ _ _ (heap_new w1 _), Nat.zero_add]
        simp [lr] at hj ⊢; exact hj) few (by decide)
  have hs := h.slot oX rfl (show w6.ownsRow 0 29 3 (.slice a' (len + 1) c') (len + 1) (lrs (M ++ [t])) by rw [lrs_append, lrs_one]; exact ho) hon hsn
  exact ⟨a', c', w6, Lib.hid hr, hs.1, Lib.hid hs.2⟩
end Go.Proofs.Ytpkphmemeapdfaa.Dd
