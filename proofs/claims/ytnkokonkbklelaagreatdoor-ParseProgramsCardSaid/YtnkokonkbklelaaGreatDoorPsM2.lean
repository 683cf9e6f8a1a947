/- parse: a reader in memory; what it does with one token. -/
import Derived.Test.YtnkokonkbklelaaGreatDoorPsM1
set_option linter.unusedVariables false
namespace Go.Proofs.YtnkokonkbklelaaGreatDoor.Ps
open Go.RowKit Go.Proofs.YtnkokonkbklelaaGreatDoor Lx

/-- The slice at a, of the tokens T; none of it in block R. -/
def TIn (w : World) (R : Nat) (a : Option Addr) (T : Tks) : Prop :=
  ∀ i, i < T.length → ∃ b off, a = some ⟨b, off, none⟩ ∧ b < w.heap.size ∧ b < R ∧ ∀ j, j < T.length →
    w.cell? ⟨b, off + j * 4, none⟩ = some (.int .i64 (T.getD j default).1.k) ∧ w.cell? ⟨b, off + (j * 4 + 1), none⟩ = some (.string (bs (T.getD j default).1.w)) ∧
    w.cell? ⟨b, off + (j * 4 + 2), none⟩ = some (.int .i64 (T.getD j default).1.n) ∧ w.cell? ⟨b, off + (j * 4 + 3), none⟩ = some (.int .i64 (T.getD j default).2)
theorem cellLt {w : World} {b k : Nat} {v : Value} (h : w.cell? ⟨b, k, none⟩ = some v) : b < w.heap.size := by
  rcases Nat.lt_or_ge b w.heap.size with h' | h'
  · exact h'
  · simp [World.cell?, Array.getElem?_eq_none h'] at h
theorem only_cellS {S : Nat → Prop} {w w' : World} (o : Only S w w') {b k : Nat} {v : Value} (hb : ¬ S b) (h : w.cell? ⟨b, k, none⟩ = some v) : w'.cell? ⟨b, k, none⟩ = some v := by
  have := o.block b (cellLt h) hb
  simp only [World.cell?] at h ⊢
  rw [this]; exact h
theorem TIn.keep {S : Nat → Prop} {w w' : World} {R : Nat} {a : Option Addr} {T : Tks} (h : TIn w R a T) (o : Only S w w') (hS : ∀ b, b < R → b < w.heap.size → ¬ S b) : TIn w' R a T := by
  intro i hi
  obtain ⟨b, off, ha, hlt, hne, hc⟩ := h i hi
  refine ⟨b, off, ha, Nat.lt_of_lt_of_le hlt o.size, hne, fun j hj => ?_⟩
  obtain ⟨c1, c2, c3, c4⟩ := hc j hj
  exact ⟨only_cellS o (hS b hne hlt) c1, only_cellS o (hS b hne hlt) c2, only_cellS o (hS b hne hlt) c3, only_cellS o (hS b hne hlt) c4⟩
theorem TIn.tail {w : World} {R : Nat} {b off : Nat} {x : Tok × Nat} {T : Tks} (h : TIn w R (some ⟨b, off, none⟩) (x :: T)) : TIn w R (some ⟨b, off + 4, none⟩) T := by
  intro i hi
  obtain ⟨b', off', ha, hlt, hne, hc⟩ := h 0 (by simp)
  cases ha
  refine ⟨b, off + 4, rfl, hlt, hne, fun j hj => ?_⟩
  obtain ⟨c1, c2, c3, c4⟩ := hc (j + 1) (by simp; omega)
  have e : (x :: T).getD (j + 1) default = T.getD j default := rfl
  rw [e] at c1 c2 c3 c4
  refine ⟨?_, ?_, ?_, ?_⟩
  · rw [show off + 4 + j * 4 = off + (j + 1) * 4 by omega]; exact c1
  · rw [show off + 4 + (j * 4 + 1) = off + ((j + 1) * 4 + 1) by omega]; exact c2
  · rw [show off + 4 + (j * 4 + 2) = off + ((j + 1) * 4 + 2) by omega]; exact c3
  · rw [show off + 4 + (j * 4 + 3) = off + ((j + 1) * 4 + 3) by omega]; exact c4
theorem TIn.nil (w : World) (R : Nat) (a : Option Addr) : TIn w R a [] := fun i hi => by simp at hi

/-- A reader at R: T is still to come, of a text of N bytes. -/
def Rd (w : World) (R N : Nat) (T : Tks) : Prop :=
  ∃ a n c, w.heap[R]? = some (.cells #[.slice a n c, .int .i64 N] 57 (0, 0)) ∧ T.length = n ∧ (n ≤ c ∧ n ≤ 20000) ∧ TIn w R a T
def At (R : Nat) (q : Nat) : Prop := q = R
theorem Rd.keep {w w' : World} {R N : Nat} {T : Tks} (h : Rd w R N T) (o : Only Nil w w') : Rd w' R N T := by
  obtain ⟨a, n, c, h1, h2, h3, h4⟩ := h
  exact ⟨a, n, c, (o.block R (lt_of_block h1) (fun q => q.elim)).trans h1, h2, h3, h4.keep o (fun b _ _ q => q.elim)⟩
theorem Rd.few {w : World} {R N : Nat} {T : Tks} (h : Rd w R N T) : T.length ≤ 20000 := by
  obtain ⟨a, n, c, h1, h2, h3, _⟩ := h; omega
theorem Rd.lt {w : World} {R N : Nat} {T : Tks} (h : Rd w R N T) : R < w.heap.size := by
  obtain ⟨a, n, c, h1, _⟩ := h; exact lt_of_block h1
theorem Rd.keepO {w w' : World} {R N O : Nat} {T : Tks} (h : Rd w R N T) (o : Only (At O) w w') (hO : R < O) : Rd w' R N T := by
  obtain ⟨a, n, c, h1, h2, h3, h4⟩ := h
  exact ⟨a, n, c, (o.block R (lt_of_block h1) (fun q => by unfold At at q; omega)).trans h1, h2, h3, h4.keep o (fun b hb _ q => by unfold At at q; omega)⟩
/-- How many tokens a reader has. -/
def left (R : Nat) (w : World) : Nat := match w.cell? ⟨R, 0, none⟩ with | some (.slice _ n _) => n | _ => 0
theorem cell2_0 {w : World} {R : Nat} {u v : Value} {t : TypeId} {m : Nat × Nat} (h : w.heap[R]? = some (.cells #[u, v] t m)) : w.cell? ⟨R, 0, none⟩ = some u := by simp [World.cell?, h]
theorem cell2_1 {w : World} {R : Nat} {u v : Value} {t : TypeId} {m : Nat × Nat} (h : w.heap[R]? = some (.cells #[u, v] t m)) : w.cell? ⟨R, 1, none⟩ = some v := by simp [World.cell?, h]
theorem frozen_blk {w : World} {R : Nat} {cs : Array Value} {t : TypeId} (h : w.heap[R]? = some (.cells cs t (0, 0))) (k : Nat) : w.frozen? ⟨R, k, none⟩ = false := by simp [World.frozen?, h]
theorem Rd.blk {w : World} {R N : Nat} {T : Tks} (h : Rd w R N T) : ∃ cs m, w.heap[R]? = some (.cells cs 57 m) := by
  obtain ⟨a, n, c, h1, _⟩ := h; exact ⟨_, _, h1⟩
theorem Rd.left {w : World} {R N : Nat} {T : Tks} (h : Rd w R N T) : left R w = T.length := by
  obtain ⟨a, n, c, h1, h2, _⟩ := h
  unfold Ps.left
  rw [cell2_0 h1]; exact h2.symm

theorem only_cell0 {w w' : World} (o : Only Nil w w') {b k : Nat} {v : Value} (h : w.cell? ⟨b, k, none⟩ = some v) : w'.cell? ⟨b, k, none⟩ = some v := only_cellS o (fun q => q.elim) h
/-- What next answers. -/
def hn : Tks → Nat | [] => 0 | x :: _ => x.1.n
def ha (N : Nat) : Tks → Nat | [] => N | x :: _ => x.2
def tv (N : Nat) (T : Tks) : Value := .agg #[.int .i64 (hk T), .string (bs (hw T)), .int .i64 (hn T), .int .i64 (ha N T)]
/-- Cells of one block, stored in their order. -/
def sets (b : Nat) : Nat → List Value → World → World
  | _, [], w => w
  | k, v :: vs, w => sets b (k + 1) vs (w.setCell ⟨b, k, none⟩ v)
theorem sets_only (b k : Nat) (vs : List Value) (w : World) : Only (At b) w (sets b k vs w) := by
  induction vs generalizing k w with
  | nil => exact Only.refl _ _
  | cons v vs ih => exact ((Only.refl (At b) w).setCell (p := ⟨b, k, none⟩) rfl v).trans (ih (k + 1) _)
theorem sets_from (b : Nat) (vs pre post : List Value) (w : World) (t : TypeId) (hl : post.length = vs.length) (h : w.heap[b]? = some (.cells (pre ++ post).toArray t (0, 0))) :
    (sets b pre.length vs w).heap[b]? = some (.cells (pre ++ vs).toArray t (0, 0)) := by
  induction vs generalizing pre post w with
  | nil =>
    have : post = [] := List.eq_nil_of_length_eq_zero hl
    subst this; exact h
  | cons v vs ih =>
    cases post with
    | nil => simp at hl
    | cons p post =>
      have h1 := heap_setCell_self (o := pre.length) v h
      have e : (pre ++ p :: post).toArray.setIfInBounds pre.length v = (pre ++ [v] ++ post).toArray := by
        rw [List.setIfInBounds_toArray]
        congr 1
        rw [List.set_append_right _ _ (Nat.le_refl _)]
        simp
      rw [e] at h1
      have h2 := ih (pre ++ [v]) post (w.setCell ⟨b, pre.length, none⟩ v) (by simpa using hl) h1
      have e2 : (pre ++ [v]).length = pre.length + 1 := by simp
      rw [e2] at h2
      have e3 : pre ++ [v] ++ vs = pre ++ v :: vs := by simp
      rw [e3] at h2
      exact h2
/-- A block stored whole. -/
theorem sets_all {b : Nat} {cs vs : List Value} {w : World} {t : TypeId} (h : w.heap[b]? = some (.cells cs.toArray t (0, 0))) (hl : cs.length = vs.length) : (sets b 0 vs w).heap[b]? = some (.cells vs.toArray t (0, 0)) :=
  sets_from b vs [] cs w t hl h
/-- One result that lies in a block of its own, new since w0; nothing else has turned but block R. -/
structure Own (w0 : World) (R O : Nat) (cs : List Value) (t : TypeId) (w : World) : Prop where
  only : Only (At R) w0 w
  new : w0.heap.size ≤ O
  low : R < w0.heap.size
  heap : w.heap[O]? = some (.cells cs.toArray t (0, 0))
theorem Own.made {w0 w : World} {R : Nat} (o : Only (At R) w0 w) (hR : R < w0.heap.size) (cs : List Value) (t : TypeId) : Own w0 R w.heap.size cs t (w.alloc (.cells cs.toArray t)) :=
  ⟨o.alloc _, o.size, hR, heap_new w _⟩
theorem Own.keep {w0 w w' : World} {R O : Nat} {cs : List Value} {t : TypeId} (h : Own w0 R O cs t w) (o : Only (At R) w w') : Own w0 R O cs t w' :=
  ⟨h.only.trans o, h.new, h.low, (o.block O (lt_of_block h.heap) (fun q => by have := h.new; have := h.low; unfold At at q; omega)).trans h.heap⟩
theorem Own.set {w0 w : World} {R O : Nat} {cs : List Value} {t : TypeId} (h : Own w0 R O cs t w) (vs : List Value) (hl : cs.length = vs.length) : Own w0 R O vs t (sets O 0 vs w) :=
  ⟨h.only.then (sets_only O 0 vs w) (fun q hq hlt => by have := h.new; unfold At at hq; omega), h.new, h.low, sets_all h.heap hl⟩
theorem Own.cell {w0 w : World} {R O : Nat} {cs : List Value} {t : TypeId} (h : Own w0 R O cs t w) (k : Nat) {v : Value} (hk : cs[k]? = some v) : w.cell? ⟨O, k, none⟩ = some v := by
  rw [cell_of_row w O k _ _ _ h.heap]; simpa using hk
theorem Own.free {w0 w : World} {R O : Nat} {cs : List Value} {t : TypeId} (h : Own w0 R O cs t w) (k : Nat) : w.frozen? ⟨O, k, none⟩ = false := frozen_blk h.heap k

theorem Own.rd {w0 w : World} {R O N : Nat} {cs : List Value} {t : TypeId} {T : Tks} (h : Own w0 R O cs t w) (k : Nat) (vs : List Value) (hr : Rd w R N T) : Rd (sets O k vs w) R N T :=
  hr.keepO (sets_only O k vs w) (Nat.lt_of_lt_of_le h.low h.new)
def tok0 : List Value := [.int .i64 0, .string ⟨#[]⟩, .int .i64 0, .int .i64 0]
set_option maxHeartbeats 400000 in
theorem next_any {w : World} {R N : Nat} {T : Tks} (h : Rd w R N T) : Calls Tryz.prog 74 #[.pointer (some ⟨R, 0, none⟩)] w fun e w' => e = .returned (tv N T) ∧ Only Nil w w' := by
  obtain ⟨a, n, c, hb, hn', hc, ht⟩ := h
  have lt := lt_of_block hb
  have HB := Own.made (R := R) (Only.refl _ w) lt tok0 67
  obtain ⟨wB, hwB⟩ : ∃ wB, wB = w.alloc (.cells #[.int .i64 0, .string ⟨#[]⟩, .int .i64 0, .int .i64 0] 67) := ⟨_, rfl⟩
  have oB : Only Nil w wB := by rw [hwB]; exact (Only.refl Nil w).alloc _
  have eB : w.alloc (.cells tok0.toArray 67) = wB := hwB.symm
  rw [eB] at HB
  clear eB
  have c0 := only_cell0 oB (cell2_0 hb)
  have c1 := only_cell0 oB (cell2_1 hb)
  have fin : ∀ vs : List Value, vs.length = 4 → Only Nil w (sets w.heap.size 0 vs wB) := fun vs hv => oB.then (sets_only w.heap.size 0 vs wB) (fun q hq hlt => by unfold At at hq; omega)
  have f0 := HB.free 0
  have f1 := HB.free 1
  have f2 := HB.free 2
  have f3 := HB.free 3
  have d0 := HB.cell 0 (v := .int .i64 0) rfl
  have d1 := HB.cell 1 (v := .string ⟨#[]⟩) rfl
  have d2 := HB.cell 2 (v := .int .i64 0) rfl
  have d3 := HB.cell 3 (v := .int .i64 0) rfl
  have HH := Lib.hid HB
  have HF := Lib.hid fin
  clear HB fin
  generalize hO : w.heap.size = O at *
  have HO := Lib.hid hO
  clear hO
  cases T with
  | nil =>
    subst hn'
    clear hb ht
    go_enter Tryz.func74, Tryz.ntmps74
    go_upto_region 1 with (fail)
    rw [HO.out, ← hwB]; clear hwB
    go_wp2
    refine bodyPost_ret (results_agg rfl _ _ O [.int .i64 0, .string ⟨#[]⟩, .int .i64 0, .int .i64 N] Tryz.isAgg67 Tryz.sizeOf67 rfl (HH.out.set [.int .i64 0, .string ⟨#[]⟩, .int .i64 0, .int .i64 N] rfl).heap) rfl ?_
    exact ⟨rfl, HF.out [.int .i64 0, .string ⟨#[]⟩, .int .i64 0, .int .i64 N] rfl⟩
  | cons x T =>
    obtain ⟨b, off, rfl, hlt, hne, hcs⟩ := ht 0 (by simp)
    obtain ⟨t0, t1, t2, t3⟩ := hcs 0 (by simp)
    have e0 : (x :: T).getD 0 default = x := rfl
    simp only [e0, Nat.zero_mul, Nat.add_zero, Nat.zero_add] at t0 t1 t2 t3
    have t0 := only_cell0 oB t0
    have t1 := only_cell0 oB t1
    have t2 := only_cell0 oB t2
    have t3 := only_cell0 oB t3
    have hn2 : n = T.length + 1 := hn'.symm
    subst hn2
    clear hb hcs
    go_enter Tryz.func74, Tryz.ntmps74
    go_upto_region 1 with (fail)
    rw [HO.out, ← hwB]; clear hwB
    go_wp2
    refine bodyPost_ret (results_agg rfl _ _ O [.int .i64 x.1.k, .string (bs x.1.w), .int .i64 x.1.n, .int .i64 x.2] Tryz.isAgg67 Tryz.sizeOf67 rfl (HH.out.set [.int .i64 x.1.k, .string (bs x.1.w), .int .i64 x.1.n, .int .i64 x.2] rfl).heap) rfl ?_
    exact ⟨rfl, HF.out [.int .i64 x.1.k, .string (bs x.1.w), .int .i64 x.1.n, .int .i64 x.2] rfl⟩
end Go.Proofs.YtnkokonkbklelaaGreatDoor.Ps

/- parse: a reader in memory; words looked for; what can't stand is thrown; one token is taken. -/
set_option linter.unusedVariables false
namespace Go.Proofs.YtnkokonkbklelaaGreatDoor.Ps
open Go.RowKit Go.Proofs.YtnkokonkbklelaaGreatDoor Lx

/-- The slice at a, of the words ws. -/
def SIn (w : World) (a : Option Addr) (ws : List Wd) : Prop :=
  ∀ i, i < ws.length → ∃ b, a = some ⟨b, 0, none⟩ ∧ ∀ j, j < ws.length → w.cell? ⟨b, j, none⟩ = some (.string (bs (ws.getD j [])))
theorem SIn.keep {w w' : World} {a : Option Addr} {ws : List Wd} (h : SIn w a ws) (o : Only Nil w w') : SIn w' a ws := by
  intro i hi
  obtain ⟨b, ha, hc⟩ := h i hi
  exact ⟨b, ha, fun j hj => only_cell0 o (hc j hj)⟩
theorem sin_of {w : World} {b : Nat} {ws : List Wd} {t : TypeId} {m : Nat × Nat} (h : w.heap[b]? = some (.cells (ws.map fun s => Value.string (bs s)).toArray t m)) : SIn w (some ⟨b, 0, none⟩) ws := by
  intro i hi
  refine ⟨b, rfl, fun j hj => ?_⟩
  simp only [World.cell?, h]
  simp [List.getD, hj]
theorem sin_new (w : World) (ws : List Wd) (t : TypeId) : SIn (w.alloc (.cells (ws.map fun s => Value.string (bs s)).toArray t)) (some ⟨w.heap.size, 0, none⟩) ws := sin_of (heap_new w _)
theorem idx_le (ws : List Wd) (s : Wd) (k : Nat) (hk : k < ws.length) (h : ws.getD k [] = s) : ws.idxOf s ≤ k := by
  induction ws generalizing k with
  | nil => simp at hk
  | cons a l ih =>
    rw [List.idxOf_cons]
    by_cases e : (a == s) = true
    · rw [e]; exact Nat.zero_le _
    · have e' : (a == s) = false := by simpa using e
      rw [e']
      cases k with
      | zero => have : a = s := h; exact absurd (by simpa using this) e
      | succ k =>
        have := ih k (by simpa using hk) h
        simp only [cond_false]; omega
theorem idx_ne (ws : List Wd) (s : Wd) (k : Nat) (hk : k < ws.length) (hi : k ≤ ws.idxOf s) (h : ws.getD k [] ≠ s) : k + 1 ≤ ws.idxOf s := by
  rcases Nat.lt_or_ge k (ws.idxOf s) with h1 | h1
  · exact h1
  · exfalso
    have e : ws.idxOf s = k := by omega
    have hlt : ws.idxOf s < ws.length := by omega
    have hg := List.getElem_idxOf hlt
    have : ws.getD k [] = ws[ws.idxOf s] := by simp [List.getD, hk, e]
    exact h (this.trans hg)
/-- What slices.Index answers. -/
def ix (ws : List Wd) (s : Wd) : Int := if s ∈ ws then (ws.idxOf s : Int) else -1
theorem ix_no {ws : List Wd} {s : Wd} (h : ws.length ≤ ws.idxOf s) : ix ws s = -1 := by
  unfold ix
  rw [if_neg]
  intro hm
  have := List.idxOf_lt_length_iff.2 hm
  omega
theorem ix_yes {ws : List Wd} {s : Wd} {k : Nat} (hk : k < ws.length) (hi : k ≤ ws.idxOf s) (h : ws.getD k [] = s) : ix ws s = (k : Int) := by
  have := idx_le ws s k hk h
  have e : ws.idxOf s = k := by omega
  unfold ix
  rw [if_pos (List.idxOf_lt_length_iff.1 (by omega)), e]
theorem toList_bs (l : Wd) : (bs l).toList = l := by rw [ByteArray.toList_eq, bs_list]

set_option maxHeartbeats 1000000 in
theorem index_any {w : World} {a : Option Addr} {cap n : Nat} {ws : List Wd} (h : SIn w a ws) (hn : ws.length = n) (lle : n ≤ 1000) (s : Wd) :
    Calls Tryz.prog 96 #[.slice a n cap, .string (bs s)] w fun e w' => e = .returned (.int .i64 (ix ws s)) ∧ w = w' := by
  have h' := Lib.hid h
  have hn' := Lib.hid hn
  have lle' : (n : Int) ≤ 1000 := by omega
  clear h hn lle
  go_enter Tryz.func96, Tryz.ntmps96
  go_wp2
  go_loopw [8] (fun s8 wr => ∃ (k : Nat), k ≤ n ∧ s8 = .int .i64 (k : Int) ∧ Hid (k ≤ ws.idxOf s) ∧ wr = w)
    (fun s8 _ => n - (intOf s8).toNat)
  case atStart => exact ⟨0, Nat.zero_le _, rfl, Lib.hid (Nat.zero_le _), rfl⟩
  case round =>
    obtain ⟨k, hk, rfl, hi, rfl⟩ := hrel
    by_cases hkl : k < n
    · obtain ⟨g, rfl, hc⟩ := h'.out k (by rw [hn'.out]; exact hkl)
      have c0 := hc k (by rw [hn'.out]; exact hkl)
      clear hc
      by_cases e : ws.getD k [] = s
      · have hx := Lib.hid (ix_yes (by rw [hn'.out]; exact hkl) hi.out e)
        rw [e] at c0
        have hs : ((bs s).toList == (bs s).toList) = true := by simp
        clear e
        go_wp2
        go_ret
        exact ⟨by rw [hx.out]; rfl, rfl⟩
      · have hx := Lib.hid (idx_ne ws s k (by rw [hn'.out]; exact hkl) hi.out e)
        have hs : ((bs s).toList == (bs (ws.getD k [])).toList) = false := by
          rw [toList_bs, toList_bs]
          have : ¬ s = ws.getD k [] := fun h => e h.symm
          simpa using this
        clear e hi
        generalize ws.getD k [] = y at *
        go_wp2
        go_roundw
        case rel => exact ⟨k + 1, by omega, by go_num, hx, trivial⟩
        case measure => simp [intOf]; omega
    · have e : k = n := by omega
      have hx := Lib.hid (ix_no (ws := ws) (s := s) (by rw [hn'.out, ← e]; exact hi.out))
      subst e
      clear hkl hi
      go_wp2
      go_ret
      exact ⟨by rw [hx.out]; rfl, rfl⟩
theorem contains_any {w : World} {a : Option Addr} {cap n : Nat} {ws : List Wd} (h : SIn w a ws) (hn : ws.length = n) (lle : n ≤ 1000) (s : Wd) :
    Calls Tryz.prog 73 #[.slice a n cap, .string (bs s)] w fun e w' => e = .returned (.bool (decide (s ∈ ws))) ∧ w = w' := by
  have H := Lib.hid (index_any (cap := cap) h hn lle s)
  have hg : decide (ix ws s ≥ 0) = decide (s ∈ ws) := by
    unfold ix
    by_cases hm : s ∈ ws
    · rw [if_pos hm]; simp [hm]
    · rw [if_neg hm]; simp [hm]
  have HG := Lib.hid hg
  clear hg h hn lle
  generalize ix ws s = i at *
  go_enter Tryz.func73, Tryz.ntmps73
  go_wp2_with (go_at_call 96; refine H.out.mono ?_; rintro e w' ⟨rfl, rfl⟩)
  go_ret
  exact ⟨by rw [← HG.out]; rfl, rfl⟩
/-- What can't stand where it stands is thrown. -/
def Thrown (e : Ending) (w : World) (N : Nat) (T : Tks) : Prop :=
  ∃ b, e = .panicked [{ v := .iface 54 (.pointer (some ⟨b, 0, none⟩)), recovered := false }] ∧ w.cell? ⟨b, 0, none⟩ = some (.int .i64 (flt N T).1) ∧ w.cell? ⟨b, 1, none⟩ = some (.int .i64 (flt N T).2)

theorem tok_k (a c d : Int) (s : ByteArray) (w : World) : (Instr.field 67 (.agg #[.int .i64 a, .string s, .int .i64 c, .int .i64 d]) 0).run Tryz.prog w = .ok (.int .i64 a) w := by kernel_rfl
theorem tok_w (a c d : Int) (s : ByteArray) (w : World) : (Instr.field 67 (.agg #[.int .i64 a, .string s, .int .i64 c, .int .i64 d]) 1).run Tryz.prog w = .ok (.string s) w := by kernel_rfl
theorem tok_n (a c d : Int) (s : ByteArray) (w : World) : (Instr.field 67 (.agg #[.int .i64 a, .string s, .int .i64 c, .int .i64 d]) 2).run Tryz.prog w = .ok (.int .i64 c) w := by kernel_rfl
theorem tok_at (a c d : Int) (s : ByteArray) (w : World) : (Instr.field 67 (.agg #[.int .i64 a, .string s, .int .i64 c, .int .i64 d]) 3).run Tryz.prog w = .ok (.int .i64 d) w := by kernel_rfl
set_option maxRecDepth 100000 in
set_option maxHeartbeats 1000000 in
theorem refuse_any {w : World} {R N : Nat} {T : Tks} (h : Rd w R N T) : Calls Tryz.prog 97 #[.pointer (some ⟨R, 0, none⟩)] w fun e w' => Thrown e w' N T ∧ Only Nil w w' := by
  have HR := Lib.hid h
  have HN := Lib.hid (fun (w : World) (h : Rd w R N T) => next_any h)
  clear h
  cases T with
  | nil =>
    go_enter Tryz.func97, Tryz.ntmps97
    go_wp2_with fail
    refine (HN.out w HR.out).mono ?_
    rintro e w1 ⟨rfl, o1⟩
    have H1 := HR.out.keep o1
    obtain ⟨a, n, c, hb, hn', hc, ht⟩ := H1
    have hn2 : n = 0 := hn'.symm
    subst hn2
    have c0 := cell2_0 hb
    have ltR := lt_of_block hb
    clear hb ht hc hn'
    have hf := tok_at
    unfold tv
    go_wp2
    exact ⟨rfl, ⟨w1.heap.size, rfl, cell2_0 (heap_new w1 _), cell2_1 (heap_new w1 _)⟩, o1.alloc _⟩
  | cons x T =>
    go_enter Tryz.func97, Tryz.ntmps97
    go_wp2_with fail
    refine (HN.out w HR.out).mono ?_
    rintro e w1 ⟨rfl, o1⟩
    have H1 := HR.out.keep o1
    obtain ⟨a, n, c, hb, hn', hc, ht⟩ := H1
    have hn2 : n = T.length + 1 := hn'.symm
    subst hn2
    have c0 := cell2_0 hb
    have ltR := lt_of_block hb
    clear hb ht hc hn'
    have hf := tok_at
    unfold tv
    go_wp2
    exact ⟨rfl, ⟨w1.heap.size, rfl, cell2_0 (heap_new w1 _), cell2_1 (heap_new w1 _)⟩, o1.alloc _⟩

/-- What a reading call comes to. -/
def RP {α : Type} (D : α → Value → World → Prop) (w : World) (R N : Nat) : PR α → Ending → World → Prop
  | .ok a r, e, w' => (∃ v, e = .returned v ∧ D a v w') ∧ Rd w' R N r ∧ Only (At R) w w'
  | .bad r, e, w' => Thrown e w' N r ∧ Only (At R) w w'

theorem comes_any {w : World} {R N n cap : Nat} {T : Tks} {a : Option Addr} {ws : List Wd} (h : Rd w R N T) (hs : SIn w a ws) (hn : ws.length = n) (lle : n ≤ 1000) :
    Calls Tryz.prog 47 #[.pointer (some ⟨R, 0, none⟩), .slice a n cap] w fun e w' => e = .returned (.bool (decide (hw T ∈ ws))) ∧ Only Nil w w' := by
  have HR := Lib.hid h
  have HS := Lib.hid hs
  have HN := Lib.hid hn
  have HL := Lib.hid lle
  have hf := tok_w
  clear h hs hn lle
  go_enter Tryz.func47, Tryz.ntmps47
  go_wp2_with fail
  refine (next_any HR.out).mono ?_
  rintro e w1 ⟨rfl, o1⟩
  unfold tv
  go_wp2_with (go_at_call 73; refine (contains_any (HS.out.keep o1) HN.out HL.out (hw T)).mono ?_; rintro e w' ⟨rfl, rfl⟩)
  go_ret
  exact ⟨rfl, o1⟩
theorem run_tailT (w : World) (g off k d : Nat) (A : Addr) (hA : (if d = 1 then (⟨g, off, none⟩ : Addr) else ⟨g, off + 4, none⟩) = A) :
    (Instr.slice 51 (.slice (some ⟨g, off, none⟩) (k + 1) d) (some (.int .i64 1)) none none).run Tryz.prog w = .ok (.slice (some A) k (d - 1)) w := by
  have hu := Tryz.underlying51
  have hs := Tryz.sizeOf67
  subst hA
  have h1 : (1 : Int) ≤ (k : Int) + 1 := by omega
  have e : (⟨g, off, none⟩ : Addr).add 4 = ⟨g, off + 4, none⟩ := by rw [add_lit0]
  by_cases hd : d = 1
  · simp [Instr.slice, Instr.sliceBounds, Instr.sliceBound, asIntOf, run_underlying hu, hs, Sem.run_bind, Result.andThen, hd, h1]
  · simp [Instr.slice, Instr.sliceBounds, Instr.sliceBound, asIntOf, run_underlying hu, hs, Sem.run_bind, Result.andThen, hd, e, h1]
/-- A reader of which one token was taken. -/
theorem Rd.next {w : World} {R N : Nat} {x : Tok × Nat} {T : Tks} {g off d : Nat} {A : Addr} (hb : w.heap[R]? = some (.cells #[.slice (some ⟨g, off, none⟩) (T.length + 1) d, .int .i64 N] 57 (0, 0))) (hd : T.length + 1 ≤ d ∧ T.length + 1 ≤ 20000) (ht : TIn w R (some ⟨g, off, none⟩) (x :: T))
    (hA : (if d = 1 then (⟨g, off, none⟩ : Addr) else ⟨g, off + 4, none⟩) = A) :
    Rd (w.setCell ⟨R, 0, none⟩ (.slice (some A) T.length (d - 1))) R N T ∧ Only (At R) w (w.setCell ⟨R, 0, none⟩ (.slice (some A) T.length (d - 1))) := by
  have o : Only (At R) w (w.setCell ⟨R, 0, none⟩ (.slice (some A) T.length (d - 1))) := (Only.refl (At R) w).setCell (p := ⟨R, 0, none⟩) rfl _
  refine ⟨⟨some A, T.length, d - 1, heap_setCell_self (o := 0) _ hb, rfl, by omega, ?_⟩, o⟩
  by_cases h1 : d = 1
  · have : T = [] := List.eq_nil_of_length_eq_zero (by omega)
    subst this
    exact TIn.nil _ _ _
  · rw [if_neg h1] at hA
    subst hA
    exact ht.tail.keep o (fun b hne _ q => by unfold At at q; omega)

set_option maxHeartbeats 1000000 in
theorem choose_any {w : World} {R N n cap : Nat} {T : Tks} {a : Option Addr} {ws : List Wd} (h : Rd w R N T) (hs : SIn w a ws) (hn : ws.length = n) (lle : n ≤ 1000) (hne : [] ∉ ws) :
    Calls Tryz.prog 70 #[.pointer (some ⟨R, 0, none⟩), .slice a n cap] w (RP (fun (i : Nat) v _ => v = .int .i64 i) w R N (ch ws T)) := by
  have HR := Lib.hid h
  have HS := Lib.hid hs
  have HN := Lib.hid hn
  have HL := Lib.hid lle
  have hf := tok_w
  clear h hs hn lle
  by_cases hm : hw T ∈ ws
  · have e1 : ch ws T = .ok (ws.idxOf (hw T)) T.tail := if_pos hm
    have hix : ix ws (hw T) = (ws.idxOf (hw T) : Int) := if_pos hm
    rw [e1]
    have HX := Lib.hid hix
    clear e1 hix
    cases T with
    | nil => exact absurd hm hne
    | cons x T =>
      clear hne hm
      generalize ws.idxOf (hw (x :: T)) = i at *
      go_enter Tryz.func70, Tryz.ntmps70
      go_wp2_with fail
      refine (next_any HR.out).mono ?_
      rintro e w1 ⟨rfl, o1⟩
      obtain ⟨a', n', d, hb, hn', hc, ht⟩ := HR.out.keep o1
      obtain ⟨g, off, rfl, _⟩ := ht 0 (by simp)
      have hn2 : n' = T.length + 1 := hn'.symm
      subst hn2
      obtain ⟨A, hA⟩ : ∃ A : Addr, (if d = 1 then (⟨g, off, none⟩ : Addr) else ⟨g, off + 4, none⟩) = A := ⟨_, rfl⟩
      have hsl := fun (W : World) => run_tailT W g off T.length d A hA
      have c0 := cell2_0 hb
      have f0 := frozen_blk hb 0
      have HQ := Lib.hid (Rd.next hb hc ht hA)
      clear hb hc ht hA hn'
      unfold tv
      go_wp2_with (go_at_call 96; refine (index_any (HS.out.keep o1) HN.out HL.out (hw (x :: T))).mono ?_; rintro e w' ⟨rfl, rfl⟩; rw [HX.out])
      go_ret
      exact ⟨⟨_, rfl, rfl⟩, HQ.out.1, (o1.nilTo _).trans HQ.out.2⟩
  · have e1 : ch ws T = .bad T := if_neg hm
    have hix : ix ws (hw T) = -1 := if_neg hm
    rw [e1]
    have HX := Lib.hid hix
    clear e1 hix hm hne
    go_enter Tryz.func70, Tryz.ntmps70
    go_wp2_with fail
    refine (next_any HR.out).mono ?_
    rintro e w1 ⟨rfl, o1⟩
    unfold tv
    go_wp2_with (first
      | (go_at_call 96; refine (index_any (HS.out.keep o1) HN.out HL.out (hw T)).mono ?_; rintro e w' ⟨rfl, rfl⟩; rw [HX.out])
      | (go_at_call 97; refine (refuse_any (HR.out.keep o1)).mono ?_; rintro e w2 ⟨⟨b, rfl, hc, hp⟩, o2⟩))
    exact ⟨rfl, ⟨b, rfl, hc, hp⟩, (o1.trans o2).nilTo _⟩
end Go.Proofs.YtnkokonkbklelaaGreatDoor.Ps

/- parse: a reader takes a token, a name, a number, a word; a message's value; how many restarts. -/
set_option linter.unusedVariables false
namespace Go.Proofs.YtnkokonkbklelaaGreatDoor.Ps
open Go.RowKit Go.Proofs.YtnkokonkbklelaaGreatDoor Lx

def tokV (t : Tok) (q : Nat) : List Value := [.int .i64 t.k, .string (bs t.w), .int .i64 t.n, .int .i64 q]
/-- A token, wherever it stood. -/
def DT (t : Tok) (v : Value) (_ : World) : Prop := ∃ q : Nat, v = .agg (tokV t q).toArray

theorem tk_bad {k : Nat} {T : Tks} (h : hk T ≠ k) : tk k T = .bad T := by
  cases T with
  | nil => rfl
  | cons x T => exact if_neg h
/-- A token in a block of its own. -/
theorem box2 {w0 w1 : World} {R : Nat} (o : Only (At R) w0 w1) (hR : R < w0.heap.size) (cs : List Value) (t : TypeId) :
    ∃ W2, W2 = w1.alloc (.cells cs.toArray t) ∧ Own w0 R w1.heap.size cs t W2 ∧ Only Nil w1 W2 := ⟨_, rfl, Own.made o hR cs t, (Only.refl Nil w1).alloc _⟩
set_option maxHeartbeats 1000000 in
theorem take_any {w : World} {R N : Nat} {T : Tks} (k : Nat) (hk1 : 1 ≤ k) (h : Rd w R N T) :
    Calls Tryz.prog 71 #[.pointer (some ⟨R, 0, none⟩), .int .i64 k] w (RP DT w R N (tk k T)) := by
  obtain ⟨wB, hwB, HB, oB⟩ := box2 (Only.refl (At R) w) h.lt tok0 67
  have hwB' : wB = w.alloc (.cells #[.int .i64 0, .string ⟨#[]⟩, .int .i64 0, .int .i64 0] 67) := hwB
  clear hwB
  have HR := Lib.hid (h.keep oB)
  have HH := Lib.hid HB
  have LR := h.lt
  clear HB h
  generalize hO : w.heap.size = O at *
  have HO := Lib.hid hO
  clear hO
  by_cases hm : hk T = k
  · cases T with
    | nil => have : 0 = k := hm; omega
    | cons x T =>
      have e1 : tk k (x :: T) = .ok x.1 T := if_pos hm
      rw [e1]
      have hm' : x.1.k = k := hm
      subst hm'
      clear e1 hm
      go_enter Tryz.func71, Tryz.ntmps71
      go_upto_region 1 with (fail)
      rw [HO.out, ← hwB']; clear hwB'
      go_wp2_with fail
      refine (next_any HR.out).mono ?_
      rintro e w1 ⟨rfl, o1⟩
      have H1 := HH.out.keep (o1.nilTo _)
      obtain ⟨W2, hW2, H2, o2⟩ := box2 H1.only H1.low (tokV x.1 x.2) 67
      have hW2' : W2 = w1.alloc (.cells #[.int .i64 x.1.k, .string (bs x.1.w), .int .i64 x.1.n, .int .i64 x.2] 67) := hW2
      have R2 := HR.out.keep (o1.trans o2)
      have H3 := H1.keep (o2.nilTo _)
      obtain ⟨a', n', d, hb, hn', hc, ht⟩ := R2
      obtain ⟨g, off, rfl, _⟩ := ht 0 (by simp)
      have hn2 : n' = T.length + 1 := hn'.symm
      subst hn2
      obtain ⟨A, hA⟩ : ∃ A : Addr, (if d = 1 then (⟨g, off, none⟩ : Addr) else ⟨g, off + 4, none⟩) = A := ⟨_, rfl⟩
      have hsl := fun (W : World) => run_tailT W g off T.length d A hA
      have c0 := cell2_0 hb
      have f0 := frozen_blk hb 0
      have HQ := Rd.next hb hc ht hA
      have l0 := H2.cell 0 (v := .int .i64 x.1.k) rfl
      have l1 := H2.cell 1 (v := .string (bs x.1.w)) rfl
      have l2 := H2.cell 2 (v := .int .i64 x.1.n) rfl
      have l3 := H2.cell 3 (v := .int .i64 x.2) rfl
      have d0 := H3.free 0
      have d1 := H3.free 1
      have d2 := H3.free 2
      have d3 := H3.free 3
      have e0 := H3.cell 0 (v := .int .i64 0) rfl
      have e1 := H3.cell 1 (v := .string ⟨#[]⟩) rfl
      have e2 := H3.cell 2 (v := .int .i64 0) rfl
      have e3 := H3.cell 3 (v := .int .i64 0) rfl
      have nRO : R ≠ O := by have := H3.new; omega
      have nRL : R ≠ w1.heap.size := by have := lt_of_block H1.heap; have := H3.new; omega
      have nLO : w1.heap.size ≠ O := by have := lt_of_block H1.heap; omega
      have H4 := Lib.hid (H3.keep HQ.2)
      have HQ' := Lib.hid HQ
      clear hb hc ht hA hn' HQ H1 H2 H3 hW2
      unfold tv
      go_upto_region 2 with (fail)
      change Code.wp _ _ _ _ (w1.alloc (.cells #[.int .i64 x.1.k, .string (bs x.1.w), .int .i64 x.1.n, .int .i64 x.2] 67))
      rw [← hW2']; clear hW2' o2
      generalize w1.heap.size = L at *
      have hself : (((x.1.k : Nat) : Int) != (x.1.k : Int)) = false := by simp
      go_wp2
      have H5 := H4.out.set (tokV x.1 x.2) rfl
      refine bodyPost_ret (results_agg rfl _ _ O (tokV x.1 x.2) Tryz.isAgg67 Tryz.sizeOf67 rfl H5.heap) rfl ?_
      exact ⟨⟨_, rfl, _, rfl⟩, H4.out.rd 0 (tokV x.1 x.2) HQ'.out.1, H5.only⟩
  · rw [tk_bad hm]
    have hz : (((hk T : Nat) : Int) != (k : Int)) = true := by simp; omega
    go_enter Tryz.func71, Tryz.ntmps71
    go_upto_region 1 with (fail)
    rw [HO.out, ← hwB']; clear hwB'
    go_wp2_with fail
    refine (next_any HR.out).mono ?_
    rintro e w1 ⟨rfl, o1⟩
    obtain ⟨W2, hW2, H2, o2⟩ := box2 (Only.refl (At R) w1) (HR.out.keep o1).lt [.int .i64 (hk T), .string (bs (hw T)), .int .i64 (hn T), .int .i64 (ha N T)] 67
    have hW2' : W2 = w1.alloc (.cells #[.int .i64 (hk T), .string (bs (hw T)), .int .i64 (hn T), .int .i64 (ha N T)] 67) := hW2
    have l0 := H2.cell 0 (v := .int .i64 (hk T)) rfl
    have H1 := Lib.hid (HR.out.keep (o1.trans o2))
    have O2 := Lib.hid (HH.out.only.trans ((o1.trans o2).nilTo _))
    clear hW2 H2 hm
    unfold tv
    go_upto_region 2 with (fail)
    rw [← hW2']; clear hW2'
    generalize ((hk T : Nat) : Int) = z at *
    generalize ((k : Nat) : Int) = y at *
    go_wp2_with (go_at_call 97; refine (refuse_any H1.out).mono ?_; rintro e w2 ⟨⟨b, rfl, hc, hp⟩, o3⟩)
    exact ⟨rfl, ⟨b, rfl, hc, hp⟩, O2.out.trans (o3.nilTo _)⟩

set_option maxHeartbeats 1000000 in
theorem name_any {w : World} {R N : Nat} {T : Tks} (h : Rd w R N T) :
    Calls Tryz.prog 45 #[.pointer (some ⟨R, 0, none⟩)] w (RP (fun (t : Tok) v _ => v = .string (bs t.w)) w R N (tk 1 T)) := by
  have HR := Lib.hid h
  have hf := tok_w
  clear h
  cases hp : tk 1 T with
  | ok t r =>
    go_enter Tryz.func45, Tryz.ntmps45
    go_wp2_with fail
    refine (take_any 1 (by decide) HR.out).mono ?_
    rw [hp]
    rintro e w1 ⟨⟨v, rfl, q, rfl⟩, h1, o1⟩
    unfold tokV
    go_wp2
    go_ret
    exact ⟨⟨_, rfl, rfl⟩, h1, o1⟩
  | bad r =>
    go_enter Tryz.func45, Tryz.ntmps45
    go_wp2_with fail
    refine (take_any 1 (by decide) HR.out).mono ?_
    rw [hp]
    rintro e w1 ⟨⟨b, rfl, hc, hq⟩, o1⟩
    go_wp2
    exact ⟨rfl, ⟨b, rfl, hc, hq⟩, o1⟩
set_option maxHeartbeats 1000000 in
theorem number_any {w : World} {R N : Nat} {T : Tks} (h : Rd w R N T) :
    Calls Tryz.prog 72 #[.pointer (some ⟨R, 0, none⟩)] w (RP (fun (t : Tok) v _ => v = .int .i64 t.n) w R N (tk 2 T)) := by
  have HR := Lib.hid h
  have hf := tok_n
  clear h
  cases hp : tk 2 T with
  | ok t r =>
    go_enter Tryz.func72, Tryz.ntmps72
    go_wp2_with fail
    refine (take_any 2 (by decide) HR.out).mono ?_
    rw [hp]
    rintro e w1 ⟨⟨v, rfl, q, rfl⟩, h1, o1⟩
    unfold tokV
    go_wp2
    go_ret
    exact ⟨⟨_, rfl, rfl⟩, h1, o1⟩
  | bad r =>
    go_enter Tryz.func72, Tryz.ntmps72
    go_wp2_with fail
    refine (take_any 2 (by decide) HR.out).mono ?_
    rw [hp]
    rintro e w1 ⟨⟨b, rfl, hc, hq⟩, o1⟩
    go_wp2
    exact ⟨rfl, ⟨b, rfl, hc, hq⟩, o1⟩
theorem ch_one (s : Wd) (T : Tks) : ch [s] T = if hw T = s then .ok 0 T.tail else .bad T := by
  unfold ch
  by_cases h : hw T = s
  · rw [if_pos h, if_pos (by rw [h]; exact List.mem_singleton.2 rfl), h]
    simp
  · rw [if_neg h, if_neg (by simpa using h)]
set_option maxHeartbeats 1000000 in
theorem pass_any {w : World} {R N : Nat} {T : Tks} (h : Rd w R N T) (s : Wd) (hs : s ≠ []) :
    Calls Tryz.prog 44 #[.pointer (some ⟨R, 0, none⟩), .string (bs s)] w (RP (fun (_ : Unit) v _ => v = .tuple #[]) w R N (pass s T)) := by
  have HR := Lib.hid h
  have hne : [] ∉ [s] := by simp; exact fun e => hs e
  have HS := Lib.hid hne
  clear h hs hne
  by_cases hm : hw T = s
  · have e1 : pass s T = .ok () T.tail := if_pos hm
    have e2 : ch [s] T = .ok 0 T.tail := by rw [ch_one, if_pos hm]
    rw [e1]
    have HE := Lib.hid e2
    clear e1 e2 hm
    go_enter Tryz.func44, Tryz.ntmps44
    go_wp2_with fail
    refine (choose_any (HR.out.keep ((Only.refl Nil w).alloc _)) (sin_new w [s] _) rfl (by simp) HS.out).mono ?_
    rw [HE.out]
    rintro e w1 ⟨⟨v, rfl, rfl⟩, h1, o1⟩
    go_wp2
    go_end0
    exact ⟨⟨_, rfl, rfl⟩, h1, ((Only.refl (At R) w).alloc _).trans o1⟩
  · have e1 : pass s T = .bad T := if_neg hm
    have e2 : ch [s] T = .bad T := by rw [ch_one, if_neg hm]
    rw [e1]
    have HE := Lib.hid e2
    clear e1 e2 hm
    go_enter Tryz.func44, Tryz.ntmps44
    go_wp2_with fail
    refine (choose_any (HR.out.keep ((Only.refl Nil w).alloc _)) (sin_new w [s] _) rfl (by simp) HS.out).mono ?_
    rw [HE.out]
    rintro e w1 ⟨⟨b, rfl, hc, hq⟩, o1⟩
    go_wp2
    exact ⟨rfl, ⟨b, rfl, hc, hq⟩, ((Only.refl (At R) w).alloc _).trans o1⟩
theorem values_any (w : World) : Calls Tryz.prog 127 #[] w fun e w' => ∃ a c, e = .returned (.slice a 2 c) ∧ SIn w' a vals ∧ Only Nil w w' := by
  go_enter Tryz.func127, Tryz.ntmps127
  go_wp2
  go_ret
  exact ⟨_, _, rfl, sin_new w vals _, (Only.refl Nil w).alloc _⟩
theorem directives_any (w : World) : Calls Tryz.prog 75 #[] w fun e w' => ∃ a c, e = .returned (.slice a 4 c) ∧ SIn w' a dirs ∧ Only Nil w w' := by
  go_enter Tryz.func75, Tryz.ntmps75
  go_wp2
  go_ret
  exact ⟨_, _, rfl, sin_new w dirs _, (Only.refl Nil w).alloc _⟩
theorem effects_any (w : World) : Calls Tryz.prog 116 #[] w fun e w' => ∃ a c, e = .returned (.slice a 12 c) ∧ SIn w' a effw ∧ Only Nil w w' := by
  go_enter Tryz.func116, Tryz.ntmps116
  go_wp2
  go_ret
  exact ⟨_, _, rfl, sin_new w effw _, (Only.refl Nil w).alloc _⟩
end Go.Proofs.YtnkokonkbklelaaGreatDoor.Ps

/- parse: what a message is given; how many restarts; a case. -/
set_option linter.unusedVariables false
namespace Go.Proofs.YtnkokonkbklelaaGreatDoor.Ps
open Go.RowKit Go.Proofs.YtnkokonkbklelaaGreatDoor Lx

theorem ch_lt {ws : List Wd} {T r : Tks} {i : Nat} (h : ch ws T = .ok i r) : i < ws.length := by
  unfold ch at h
  split at h
  · rename_i hm
    cases h
    exact List.idxOf_lt_length_iff.2 hm
  · cases h
theorem RP.bad {α : Type} {D : α → Value → World → Prop} {w w' : World} {R N b : Nat} {r : Tks} (hc : w'.cell? ⟨b, 0, none⟩ = some (.int .i64 (flt N r).1)) (hq : w'.cell? ⟨b, 1, none⟩ = some (.int .i64 (flt N r).2)) (o : Only (At R) w w') :
    RP D w R N (.bad r) (.panicked [{ v := .iface 54 (.pointer (some ⟨b, 0, none⟩)), recovered := false }]) w' := ⟨⟨b, rfl, hc, hq⟩, o⟩

set_option maxHeartbeats 1000000 in
theorem value_any {w : World} {R N : Nat} {T : Tks} (h : Rd w R N T) :
    Calls Tryz.prog 118 #[.pointer (some ⟨R, 0, none⟩)] w (RP (fun (v : Int × Int) x _ => x = .tuple #[.int .i64 v.1, .int .i64 v.2]) w R N (pVal T)) := by
  obtain ⟨Q, hQ⟩ : ∃ Q : Ending → World → Prop, Q = RP (fun (v : Int × Int) x _ => x = .tuple #[.int .i64 v.1, .int .i64 v.2]) w R N (pVal T) := ⟨_, rfl⟩
  rw [← hQ]
  have HQ := Lib.hid hQ
  have HR := Lib.hid h
  have hf := tok_k
  clear h hQ
  go_enter Tryz.func118, Tryz.ntmps118
  go_wp2_with fail
  refine (next_any HR.out).mono ?_
  rintro e w1 ⟨rfl, o1⟩
  unfold tv
  have R1 := Lib.hid (HR.out.keep o1)
  by_cases h2 : hk T = 2
  · have hz : (((hk T : Nat) : Int) == 2) = true := by rw [h2]; rfl
    have H2 := Lib.hid h2
    clear h2
    generalize ((hk T : Nat) : Int) = z at *
    go_wp2_with fail
    refine (number_any R1.out).mono ?_
    rintro e w2 k2
    cases hp : tk 2 T with
    | ok t r =>
      rw [hp] at k2
      obtain ⟨⟨v, rfl, rfl⟩, R2, o2⟩ := k2
      go_wp2
      rw [HQ.out, pVal, if_pos H2.out, hp]
      exact ⟨⟨_, rfl, rfl⟩, R2, (o1.nilTo _).trans o2⟩
    | bad r =>
      rw [hp] at k2
      obtain ⟨⟨b, rfl, hc, hq⟩, o2⟩ := k2
      go_wp2
      refine ⟨rfl, ?_⟩
      rw [HQ.out, pVal, if_pos H2.out, hp]
      exact RP.bad hc hq ((o1.nilTo _).trans o2)
  · have hz : (((hk T : Nat) : Int) == 2) = false := by simp; omega
    have H2 := Lib.hid h2
    clear h2
    generalize ((hk T : Nat) : Int) = z at *
    go_wp2_with (go_at_call 127; refine (values_any _).mono ?_; rintro e w2 ⟨a, c, rfl, s2, o2⟩)
    refine (choose_any (R1.out.keep o2) s2 rfl (by decide) (by decide)).mono ?_
    rintro e w3 k3
    cases hp : ch vals T with
    | ok i r =>
      rw [hp] at k3
      obtain ⟨⟨v, rfl, rfl⟩, R3, o3⟩ := k3
      have hi : i < 2 := ch_lt hp
      have hi' : (i : Int) < 2 := by omega
      go_wp2
      rw [HQ.out, pVal, if_neg H2.out, hp]
      exact ⟨⟨_, rfl, rfl⟩, R3, ((o1.trans o2).nilTo _).trans o3⟩
    | bad r =>
      rw [hp] at k3
      obtain ⟨⟨b, rfl, hc, hq⟩, o3⟩ := k3
      go_wp2
      refine ⟨rfl, ?_⟩
      rw [HQ.out, pVal, if_neg H2.out, hp]
      exact RP.bad hc hq (((o1.trans o2).nilTo _).trans o3)

/-! ### How many restarts -/
set_option maxHeartbeats 1000000 in
theorem limit_any {w : World} {R N : Nat} {T : Tks} (h : Rd w R N T) :
    Calls Tryz.prog 46 #[.pointer (some ⟨R, 0, none⟩)] w (RP (fun (v : Int × Int) x _ => x = .tuple #[.int .i64 v.1, .int .i64 v.2]) w R N (pLimit T)) := by
  obtain ⟨Q, hQ⟩ : ∃ Q : Ending → World → Prop, Q = RP (fun (v : Int × Int) x _ => x = .tuple #[.int .i64 v.1, .int .i64 v.2]) w R N (pLimit T) := ⟨_, rfl⟩
  rw [← hQ]
  have HQ := Lib.hid hQ
  have HR := Lib.hid h
  clear h hQ
  go_enter Tryz.func46, Tryz.ntmps46
  go_wp2_with fail
  refine (comes_any (HR.out.keep ((Only.refl Nil w).alloc _)) (sin_new w [w_limit] _) rfl (by decide)).mono ?_
  rintro e w1 ⟨rfl, o1⟩
  have oA : Only (At R) w w1 := (((Only.refl Nil w).alloc _).trans o1).nilTo _
  have R1 := Lib.hid ((HR.out.keep ((Only.refl Nil w).alloc _)).keep o1)
  have OA := Lib.hid oA
  clear o1 oA
  by_cases hm : hw T = w_limit
  · have hd : decide (hw T ∈ [w_limit]) = true := by simp [hm]
    have HM := Lib.hid hm
    clear hm
    rw [hd]
    go_wp2_with fail
    refine (pass_any R1.out w_limit (by decide)).mono ?_
    rintro e w2 k2
    cases h1 : pass w_limit T with
    | bad r =>
      rw [h1] at k2
      obtain ⟨⟨b, rfl, hc, hq⟩, o2⟩ := k2
      go_wp2
      refine ⟨rfl, ?_⟩
      rw [HQ.out, pLimit, if_pos HM.out, h1]
      exact RP.bad hc hq (OA.out.trans o2)
    | ok u r =>
    rw [h1] at k2
    obtain ⟨⟨v, rfl, rfl⟩, R2, o2⟩ := k2
    have HR2 := Lib.hid R2
    have O2 := Lib.hid (OA.out.trans o2)
    clear R2 o2
    go_wp2_with fail
    refine (number_any HR2.out).mono ?_
    rintro e w3 k3
    cases h2 : tk 2 r with
    | bad r' =>
      rw [h2] at k3
      obtain ⟨⟨b, rfl, hc, hq⟩, o3⟩ := k3
      go_wp2
      refine ⟨rfl, ?_⟩
      rw [HQ.out, pLimit, if_pos HM.out, h1, PR.bind_ok, h2]
      exact RP.bad hc hq (O2.out.trans o3)
    | ok t1 r' =>
    rw [h2] at k3
    obtain ⟨⟨v, rfl, rfl⟩, R3, o3⟩ := k3
    have HR3 := Lib.hid R3
    have O3 := Lib.hid (O2.out.trans o3)
    clear R3 o3
    go_wp2_with fail
    refine (pass_any HR3.out w_in (by decide)).mono ?_
    rintro e w4 k4
    cases h3 : pass w_in r' with
    | bad r'' =>
      rw [h3] at k4
      obtain ⟨⟨b, rfl, hc, hq⟩, o4⟩ := k4
      go_wp2
      refine ⟨rfl, ?_⟩
      rw [HQ.out, pLimit, if_pos HM.out, h1, PR.bind_ok, h2, PR.bind_ok, h3]
      exact RP.bad hc hq (O3.out.trans o4)
    | ok u r'' =>
    rw [h3] at k4
    obtain ⟨⟨v, rfl, rfl⟩, R4, o4⟩ := k4
    have HR4 := Lib.hid R4
    have O4 := Lib.hid (O3.out.trans o4)
    clear R4 o4
    go_wp2_with fail
    refine (number_any HR4.out).mono ?_
    rintro e w5 k5
    cases h4 : tk 2 r'' with
    | bad s =>
      rw [h4] at k5
      obtain ⟨⟨b, rfl, hc, hq⟩, o5⟩ := k5
      go_wp2
      refine ⟨rfl, ?_⟩
      rw [HQ.out, pLimit, if_pos HM.out, h1, PR.bind_ok, h2, PR.bind_ok, h3, PR.bind_ok, h4]
      exact RP.bad hc hq (O4.out.trans o5)
    | ok t2 s =>
    rw [h4] at k5
    obtain ⟨⟨v, rfl, rfl⟩, R5, o5⟩ := k5
    have HR5 := Lib.hid R5
    have O5 := Lib.hid (O4.out.trans o5)
    clear R5 o5
    go_wp2_with fail
    refine (pass_any HR5.out w_semi (by decide)).mono ?_
    rintro e w6 k6
    cases h5 : pass w_semi s with
    | bad s' =>
      rw [h5] at k6
      obtain ⟨⟨b, rfl, hc, hq⟩, o6⟩ := k6
      go_wp2
      refine ⟨rfl, ?_⟩
      rw [HQ.out, pLimit, if_pos HM.out, h1, PR.bind_ok, h2, PR.bind_ok, h3, PR.bind_ok, h4, PR.bind_ok, h5]
      exact RP.bad hc hq (O5.out.trans o6)
    | ok u s' =>
    rw [h5] at k6
    obtain ⟨⟨v, rfl, rfl⟩, R6, o6⟩ := k6
    go_wp2
    rw [HQ.out, pLimit, if_pos HM.out, h1, PR.bind_ok, h2, PR.bind_ok, h3, PR.bind_ok, h4, PR.bind_ok, h5]
    exact ⟨⟨_, rfl, rfl⟩, R6, O5.out.trans o6⟩
  · have hd : decide (hw T ∈ [w_limit]) = false := by simp [hm]
    have HM := Lib.hid hm
    clear hm
    rw [hd]
    go_wp2
    rw [HQ.out, pLimit, if_neg HM.out]
    exact ⟨⟨_, rfl, rfl⟩, R1.out, OA.out⟩
end Go.Proofs.YtnkokonkbklelaaGreatDoor.Ps
