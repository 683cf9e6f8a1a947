/- parse: rows of what was read, in memory; one more at the end. -/
import Derived.Test.YtnkokonkbklelaaGreatDoorPsM3
import Derived.Lib.AppendZerosOnto
import Derived.Shelf.Abstract
import Derived.Laws.EntriesVeiled
set_option linter.unusedVariables false
namespace Go.Proofs.YtnkokonkbklelaaGreatDoor.Ps
open Go.RowKit Go.Proofs.YtnkokonkbklelaaGreatDoor Lx

/-- The blocks of S hold cells of type t. -/
def OfT (t : TypeId) (S : Nat → Prop) (w : World) : Prop := ∀ g, S g → ∃ cs m, w.heap[g]? = some (.cells cs t m)
theorem ofT_nil (t : TypeId) (w : World) : OfT t Nil w := fun g h => h.elim
theorem ofT_at {w : World} {q : Nat} {cs : Array Value} {t : TypeId} {m : Nat × Nat} (h : w.heap[q]? = some (.cells cs t m)) : OfT t (At q) w := fun g hg => by
  unfold At at hg; subst hg; exact ⟨_, _, h⟩
theorem Rd.ofT {w : World} {R N : Nat} {T : Tks} (h : Rd w R N T) : OfT 57 (At R) w := by
  obtain ⟨cs, m, h1⟩ := h.blk; exact ofT_at h1
theorem ofT_row {w : World} {lo s n n' c : Nat} {e : TypeId} {a : Option Addr} {xs : List Value} (h : w.ownsRow lo e s (.slice a n c) n' xs) : OfT e (RowOf a) w := by
  rintro g ⟨x, rfl, rfl⟩
  rcases h.2 with ⟨h1, _⟩ | ⟨b, c', cur, h1, _, hb, _⟩
  · cases h1
  · cases h1; exact ⟨_, _, hb⟩
theorem own_keepT {S : Nat → Prop} {w w' : World} {base : Nat} {e t : TypeId} {s n : Nat} {v : Value} {xs : List Value} (h : w.ownsRow base e s v n xs) (o : Only S w w') (hS : OfT t S w) (ht : t ≠ e) : w'.ownsRow base e s v n xs := by
  refine own_keep h o (fun k hk hs => ?_)
  obtain ⟨cs, m, h1⟩ := hS k hs
  rcases h.2 with ⟨rfl, _⟩ | ⟨b, c', cur, rfl, _, hb, _⟩
  · simp [Value.ownBlock] at hk
  · have : k = b := by simpa [Value.ownBlock] using hk
    subst this
    rw [h1] at hb
    injection hb with hb
    injection hb with _ e2
    exact ht e2
/-! ### Rows of what was read -/
def MEff (w : World) (v : Value) (E : List Eff) : Prop := w.ownsRow 0 50 7 v E.length (E.flatMap effC)
def rowCs (x : Rw × Value) : List Value := [.string (bs x.1.tag), .bool x.1.only, .int .i64 x.1.n, x.2]
def MRows (w : World) (v : Value) (L : List Rw) : Prop :=
  ∃ Z : List (Rw × Value), Z.map Prod.fst = L ∧ w.ownsRow 0 46 4 v L.length (Z.flatMap rowCs) ∧ ∀ x ∈ Z, MEff w x.2 x.1.effs
def staCs (x : Sta × Value) : List Value := [.string (bs x.1.name), x.2]
def MStas (w : World) (v : Value) (L : List Sta) : Prop :=
  ∃ Z : List (Sta × Value), Z.map Prod.fst = L ∧ w.ownsRow 0 43 2 v L.length (Z.flatMap staCs) ∧ ∀ x ∈ Z, MRows w x.2 x.1.rows
def csC (c : Cs) : List Value := [.string (bs c.reason), .int .i64 c.act]
def MCs (w : World) (v : Value) (C : List Cs) : Prop := w.ownsRow 0 72 2 v C.length (C.flatMap csC)
def kdCs (x : Kd × Value × Value) : List Value := [.string (bs x.1.name), .int .i64 x.1.limit, .int .i64 x.1.within, x.2.1, x.2.2]
def MKds (w : World) (v : Value) (L : List Kd) : Prop :=
  ∃ Z : List (Kd × Value × Value), Z.map Prod.fst = L ∧ w.ownsRow 0 40 5 v L.length (Z.flatMap kdCs) ∧ ∀ x ∈ Z, MCs w x.2.1 x.1.cases ∧ MStas w x.2.2 x.1.states
theorem MEff.keep {S : Nat → Prop} {w w' : World} {t : TypeId} {v : Value} {E : List Eff} (h : MEff w v E) (o : Only S w w') (hS : OfT t S w) (h1 : t ≠ 50) : MEff w' v E := own_keepT h o hS h1
theorem MRows.keep {S : Nat → Prop} {w w' : World} {t : TypeId} {v : Value} {E : List Rw} (h : MRows w v E) (o : Only S w w') (hS : OfT t S w) (h1 : t ≠ 50) (h2 : t ≠ 46) : MRows w' v E := by
  obtain ⟨Z, hz, ho, hi⟩ := h
  exact ⟨Z, hz, own_keepT ho o hS h2, fun x hx => (hi x hx).keep o hS h1⟩
theorem MStas.keep {S : Nat → Prop} {w w' : World} {t : TypeId} {v : Value} {E : List Sta} (h : MStas w v E) (o : Only S w w') (hS : OfT t S w) (h1 : t ≠ 50) (h2 : t ≠ 46) (h3 : t ≠ 43) : MStas w' v E := by
  obtain ⟨Z, hz, ho, hi⟩ := h
  exact ⟨Z, hz, own_keepT ho o hS h3, fun x hx => (hi x hx).keep o hS h1 h2⟩
theorem MCs.keep {S : Nat → Prop} {w w' : World} {t : TypeId} {v : Value} {E : List Cs} (h : MCs w v E) (o : Only S w w') (hS : OfT t S w) (h1 : t ≠ 72) : MCs w' v E := own_keepT h o hS h1
theorem MKds.keep {S : Nat → Prop} {w w' : World} {t : TypeId} {v : Value} {E : List Kd} (h : MKds w v E) (o : Only S w w') (hS : OfT t S w) (h1 : t ≠ 50) (h2 : t ≠ 46) (h3 : t ≠ 43) (h4 : t ≠ 72) (h5 : t ≠ 40) : MKds w' v E := by
  obtain ⟨Z, hz, ho, hi⟩ := h
  exact ⟨Z, hz, own_keepT ho o hS h5, fun x hx => ⟨(hi x hx).1.keep o hS h4, (hi x hx).2.keep o hS h1 h2 h3⟩⟩
/-- The row of v is new since w0. -/
def New (w0 : World) (v : Value) : Prop := ∀ g, v.ownBlock = some g → w0.heap.size ≤ g
theorem new_none (w0 : World) : New w0 (.slice none 0 0) := fun g h => by simp [Value.ownBlock] at h
/-- One element more at the end of a row of one's own. -/
theorem push_any {P : Program} {t ty e : TypeId} {z : Value} {s bytes : Nat} (ht : P.underlying t = some (.slice e)) (hi : (P.info? e).map (fun i => (i.zero, i.size, i.bytes)) = some (some z, s, bytes)) (hzs : z.cells.size = s) (hb : bytes ≤ 65536)
    {w0 w : World} {a : Option Addr} {n c : Nat} {xs : List Value} (hown : w.ownsRow 0 e s (.slice a n c) n xs) (fr : New w0 (.slice a n c)) (hw : w0.heap.size ≤ w.heap.size) (few : n ≤ 65000)
    (cs : List Value) (hl : cs.length = s) (hone : ∀ u ∈ cs, u.oneCell' = true) :
    ∃ a' c' w5, (Builtin.append_ #[t, t] ty #[.slice a n c, .slice (some ⟨w.heap.size, 0, none⟩) 1 1]).run P (w.alloc (.cells cs.toArray e)) = .ok (.slice a' (n + 1) c') w5 ∧
      w5.ownsRow 0 e s (.slice a' (n + 1) c') (n + 1) (xs ++ cs) ∧ New w0 (.slice a' (n + 1) c') ∧ Only (RowOf a) w w5 := by
  have oA : Only Nil w (w.alloc (.cells cs.toArray e)) := (Only.refl Nil w).alloc _
  obtain ⟨a', c', w5, hr, ho, hon, hsn⟩ := run_append_end (P := P) (ty := ty) ht hi hzs (own_keep hown oA (fun _ _ h => h)) ⟨w.heap.size, 0, none⟩ cs hl hone
    (fun j u hj => by
      rw [add_lit0, cell_of_row _ w.heap.size _ _ _ _ (heap_new w (.cells cs.toArray e)), Nat.zero_add]
      simpa using hj) (by omega) hb
  refine ⟨a', c', w5, hr, ho, fun g hg => ?_, (oA.nilTo _).trans hon⟩
  cases a' with
  | none => simp [Value.ownBlock] at hg
  | some x =>
    have hg' : x.block = g := by simpa [Value.ownBlock] using hg
    have hs2 := oA.size
    rcases hsn x rfl with ⟨y, hy, e⟩ | e
    · have h1 := fr y.block (by rw [hy]; rfl)
      omega
    · omega
/-- What turned is a row that is new since w0. -/
theorem only_new {w0 w w5 : World} {R : Nat} {a : Option Addr} {n c : Nat} (h : Only (At R) w0 w) (fr : New w0 (.slice a n c)) (o : Only (RowOf a) w w5) : Only (At R) w0 w5 :=
  h.then o (fun g hg hlt => by
    obtain ⟨x, rfl, rfl⟩ := hg
    have := fr x.block rfl
    omega)
theorem Rd.keepRow {w0 w w5 : World} {R N : Nat} {T : Tks} {a : Option Addr} {n c : Nat} (h : Rd w R N T) (hR : R < w0.heap.size) (fr : New w0 (.slice a n c)) (o : Only (RowOf a) w w5) : Rd w5 R N T := by
  have hn : ∀ g, RowOf a g → w0.heap.size ≤ g := fun g hg => by
    obtain ⟨x, rfl, rfl⟩ := hg
    exact fr x.block rfl
  obtain ⟨a', n', c', h1, h2, h3, h4⟩ := h
  exact ⟨a', n', c', (o.block R (lt_of_block h1) (fun q => by have := hn R q; omega)).trans h1, h2, h3, h4.keep o (fun b hb _ q => by have := hn b q; omega)⟩
theorem step_append_run {P : Program} {ops : Array Oper} {o : Oper} {a : Act} {w : World} {K : Act → World → Prop} {Q : Exit → Act → World → Prop} {E : Prop}
    (hgd : o.guard = none) (s x : Operand) (t : TypeId) (hop : o.op = Op.call { callee := Callee.builtin Builtin.append, args := #[s, x], argTypes := #[t, t] })
    (v1 v2 : Value) (hs : a.eval s = v1) (hx : a.eval x = v2) (v : Value) (w' : World) (hrun : (Builtin.append_ #[t, t] o.type #[v1, v2]).run P w = .ok v w') (h : K (a.put o.dst v) w') :
    if Region.wanted o (yielded ops a.tmps) = true then Oper.wp P o a w K Q else E := by
  have hw : Region.wanted o (yielded ops a.tmps) = true := by simp [Region.wanted, hgd]
  rw [if_pos hw]
  unfold Oper.wp
  simp [execOp, hop, resolve, invoke, builtin, hs, hx, hrun, Result.andThen]
  exact h
theorem Tryz.infoEff : (Tryz.prog.info? 50).map (fun i => (i.zero, i.size, i.bytes)) = some (some (.agg #[.int .i64 0, .string ⟨#[]⟩, .string ⟨#[]⟩, .string ⟨#[]⟩, .int .i64 0, .int .i64 0, .int .i64 0]), 7, 80) := by kernel_rfl
theorem Tryz.infoRow : (Tryz.prog.info? 46).map (fun i => (i.zero, i.size, i.bytes)) = some (some (.agg #[.string ⟨#[]⟩, .bool false, .int .i64 0, .slice none 0 0]), 4, 56) := by kernel_rfl
theorem Tryz.infoSta : (Tryz.prog.info? 43).map (fun i => (i.zero, i.size, i.bytes)) = some (some (.agg #[.string ⟨#[]⟩, .slice none 0 0]), 2, 40) := by kernel_rfl
theorem Tryz.infoCs : (Tryz.prog.info? 72).map (fun i => (i.zero, i.size, i.bytes)) = some (some (.agg #[.string ⟨#[]⟩, .int .i64 0]), 2, 24) := by kernel_rfl
theorem Tryz.infoKd : (Tryz.prog.info? 40).map (fun i => (i.zero, i.size, i.bytes)) = some (some (.agg #[.string ⟨#[]⟩, .int .i64 0, .int .i64 0, .slice none 0 0, .slice none 0 0]), 5, 80) := by kernel_rfl
theorem eff_pushed {w0 w : World} {a : Option Addr} {n c : Nat} {X : List Eff} (h : MEff w (.slice a n c) X) (hn : X.length = n) (fr : New w0 (.slice a n c)) (hw : w0.heap.size ≤ w.heap.size) (few : n ≤ 65000) (x : Eff) :
    ∃ a' c' w5, (Builtin.append_ #[44, 44] 44 #[.slice a n c, .slice (some ⟨w.heap.size, 0, none⟩) 1 1]).run Tryz.prog (w.alloc (.cells #[.int .i64 x.act, .string (bs x.ref), .string (bs x.slot), .string (bs x.name), .int .i64 x.val, .int .i64 x.n, .int .i64 x.delay] 50)) = .ok (.slice a' (n + 1) c') w5 ∧
      Hid (MEff w5 (.slice a' (n + 1) c') (X ++ [x])) ∧ Hid (New w0 (.slice a' (n + 1) c')) ∧ Only (RowOf a) w w5 := by
  subst hn
  obtain ⟨a', c', w5, hr, ho, hN, o⟩ := push_any (P := Tryz.prog) (t := 44) (ty := 44) Tryz.underlying44 Tryz.infoEff rfl (by decide) h fr hw few (effC x) rfl (by intro u hu; simp [effC] at hu; rcases hu with rfl | rfl | rfl | rfl | rfl | rfl | rfl <;> rfl)
  refine ⟨a', c', w5, hr, Lib.hid ?_, Lib.hid hN, o⟩
  unfold MEff
  rw [List.length_append, List.flatMap_append]
  simpa using ho
theorem cs_pushed {w0 w : World} {a : Option Addr} {n c : Nat} {X : List Cs} (h : MCs w (.slice a n c) X) (hn : X.length = n) (fr : New w0 (.slice a n c)) (hw : w0.heap.size ≤ w.heap.size) (few : n ≤ 65000) (x : Cs) :
    ∃ a' c' w5, (Builtin.append_ #[37, 37] 37 #[.slice a n c, .slice (some ⟨w.heap.size, 0, none⟩) 1 1]).run Tryz.prog (w.alloc (.cells #[.string (bs x.reason), .int .i64 x.act] 72)) = .ok (.slice a' (n + 1) c') w5 ∧
      Hid (MCs w5 (.slice a' (n + 1) c') (X ++ [x])) ∧ Hid (New w0 (.slice a' (n + 1) c')) ∧ Only (RowOf a) w w5 := by
  subst hn
  obtain ⟨a', c', w5, hr, ho, hN, o⟩ := push_any (P := Tryz.prog) (t := 37) (ty := 37) Tryz.underlying37 Tryz.infoCs rfl (by decide) h fr hw few (csC x) rfl (by intro u hu; simp [csC] at hu; rcases hu with rfl | rfl <;> rfl)
  refine ⟨a', c', w5, hr, Lib.hid ?_, Lib.hid hN, o⟩
  unfold MCs
  rw [List.length_append, List.flatMap_append]
  simpa using ho
theorem row_pushed {w0 w : World} {a : Option Addr} {n c : Nat} {X : List Rw} (h : MRows w (.slice a n c) X) (hn : X.length = n) (fr : New w0 (.slice a n c)) (hw : w0.heap.size ≤ w.heap.size) (few : n ≤ 65000) (x : Rw) (sl : Value) (hv : MEff w sl x.effs) :
    ∃ a' c' w5, (Builtin.append_ #[41, 41] 41 #[.slice a n c, .slice (some ⟨w.heap.size, 0, none⟩) 1 1]).run Tryz.prog (w.alloc (.cells #[.string (bs x.tag), .bool x.only, .int .i64 x.n, sl] 46)) = .ok (.slice a' (n + 1) c') w5 ∧
      Hid (MRows w5 (.slice a' (n + 1) c') (X ++ [x])) ∧ Hid (New w0 (.slice a' (n + 1) c')) ∧ Only (RowOf a) w w5 := by
  subst hn
  obtain ⟨Z, hz, ho0, hi⟩ := h
  subst hz
  rw [List.length_map] at ho0 fr few ⊢
  obtain ⟨a', c', w5, hr, ho, hN, o⟩ := push_any (P := Tryz.prog) (t := 41) (ty := 41) Tryz.underlying41 Tryz.infoRow rfl (by decide) ho0 fr hw few (rowCs (x, sl)) rfl (by obtain ⟨a1, c1, hs1⟩ := own_slice_n hv; subst hs1; intro u hu; simp [rowCs] at hu; rcases hu with rfl | rfl | rfl | rfl <;> rfl)
  have hS := ofT_row ho0
  refine ⟨a', c', w5, hr, Lib.hid ⟨Z ++ [(x, sl)], by simp, ?_, fun y hy => ?_⟩, Lib.hid hN, o⟩
  · rw [List.length_append, List.flatMap_append]
    simpa using ho
  · rcases List.mem_append.1 hy with hy | hy
    · exact (hi y hy).keep o hS (by decide)
    · obtain rfl := List.mem_singleton.1 hy
      exact hv.keep o hS (by decide)
theorem sta_pushed {w0 w : World} {a : Option Addr} {n c : Nat} {X : List Sta} (h : MStas w (.slice a n c) X) (hn : X.length = n) (fr : New w0 (.slice a n c)) (hw : w0.heap.size ≤ w.heap.size) (few : n ≤ 65000) (x : Sta) (sl : Value) (hv : MRows w sl x.rows) :
    ∃ a' c' w5, (Builtin.append_ #[38, 38] 38 #[.slice a n c, .slice (some ⟨w.heap.size, 0, none⟩) 1 1]).run Tryz.prog (w.alloc (.cells #[.string (bs x.name), sl] 43)) = .ok (.slice a' (n + 1) c') w5 ∧
      Hid (MStas w5 (.slice a' (n + 1) c') (X ++ [x])) ∧ Hid (New w0 (.slice a' (n + 1) c')) ∧ Only (RowOf a) w w5 := by
  subst hn
  obtain ⟨Z, hz, ho0, hi⟩ := h
  subst hz
  rw [List.length_map] at ho0 fr few ⊢
  obtain ⟨a', c', w5, hr, ho, hN, o⟩ := push_any (P := Tryz.prog) (t := 38) (ty := 38) Tryz.underlying38 Tryz.infoSta rfl (by decide) ho0 fr hw few (staCs (x, sl)) rfl (by obtain ⟨Z1, _, hv1, _⟩ := hv; obtain ⟨a1, c1, hs1⟩ := own_slice_n hv1; subst hs1; intro u hu; simp [staCs] at hu; rcases hu with rfl | rfl <;> rfl)
  have hS := ofT_row ho0
  refine ⟨a', c', w5, hr, Lib.hid ⟨Z ++ [(x, sl)], by simp, ?_, fun y hy => ?_⟩, Lib.hid hN, o⟩
  · rw [List.length_append, List.flatMap_append]
    simpa using ho
  · rcases List.mem_append.1 hy with hy | hy
    · exact (hi y hy).keep o hS (by decide) (by decide)
    · obtain rfl := List.mem_singleton.1 hy
      exact hv.keep o hS (by decide) (by decide)
theorem kd_pushed {w0 w : World} {a : Option Addr} {n c : Nat} {X : List Kd} (h : MKds w (.slice a n c) X) (hn : X.length = n) (fr : New w0 (.slice a n c)) (hw : w0.heap.size ≤ w.heap.size) (few : n ≤ 65000) (x : Kd) (s1 s2 : Value) (hv : MCs w s1 x.cases) (hv2 : MStas w s2 x.states) :
    ∃ a' c' w5, (Builtin.append_ #[23, 23] 23 #[.slice a n c, .slice (some ⟨w.heap.size, 0, none⟩) 1 1]).run Tryz.prog (w.alloc (.cells #[.string (bs x.name), .int .i64 x.limit, .int .i64 x.within, s1, s2] 40)) = .ok (.slice a' (n + 1) c') w5 ∧
      Hid (MKds w5 (.slice a' (n + 1) c') (X ++ [x])) ∧ Hid (New w0 (.slice a' (n + 1) c')) ∧ Only (RowOf a) w w5 := by
  subst hn
  obtain ⟨Z, hz, ho0, hi⟩ := h
  subst hz
  rw [List.length_map] at ho0 fr few ⊢
  obtain ⟨a', c', w5, hr, ho, hN, o⟩ := push_any (P := Tryz.prog) (t := 23) (ty := 23) Tryz.underlying23 Tryz.infoKd rfl (by decide) ho0 fr hw few (kdCs (x, s1, s2)) rfl (by obtain ⟨a1, c1, hs1⟩ := own_slice_n hv; subst hs1; obtain ⟨Z1, _, hv1, _⟩ := hv2; obtain ⟨a2, c2, hs2⟩ := own_slice_n hv1; subst hs2; intro u hu; simp [kdCs] at hu; rcases hu with rfl | rfl | rfl | rfl | rfl <;> rfl)
  have hS := ofT_row ho0
  refine ⟨a', c', w5, hr, Lib.hid ⟨Z ++ [(x, s1, s2)], by simp, ?_, fun y hy => ?_⟩, Lib.hid hN, o⟩
  · rw [List.length_append, List.flatMap_append]
    simpa using ho
  · rcases List.mem_append.1 hy with hy | hy
    · exact ⟨(hi y hy).1.keep o hS (by decide), (hi y hy).2.keep o hS (by decide) (by decide) (by decide)⟩
    · obtain rfl := List.mem_singleton.1 hy
      exact ⟨hv.keep o hS (by decide), hv2.keep o hS (by decide) (by decide) (by decide)⟩
end Go.Proofs.YtnkokonkbklelaaGreatDoor.Ps

/- parse: a block of effects. -/
set_option linter.unusedVariables false
namespace Go.Proofs.YtnkokonkbklelaaGreatDoor.Ps
open Go.RowKit Go.Proofs.YtnkokonkbklelaaGreatDoor Lx

theorem effect_stop {T : Tks} (h : hw T = w_close) : Many pEff (isW w_close) T = .ok [] T := by
  rw [Many_eq pEff_eats, if_pos (by unfold isW; rw [h]; rfl)]
theorem effect_bad {T r : Tks} (h : ¬ hw T = w_close) (hp : pEff T = .bad r) : Many pEff (isW w_close) T = .bad r := by
  rw [Many_eq pEff_eats, if_neg (by unfold isW; simpa using h), hp]; rfl
theorem effect_more {T r : Tks} {e : Eff} (h : ¬ hw T = w_close) (hp : pEff T = .ok e r) : Many pEff (isW w_close) T = (Many pEff (isW w_close) r).bind fun l r' => .ok (e :: l) r' := by
  rw [Many_eq pEff_eats, if_neg (by unfold isW; simpa using h), hp]; rfl

set_option maxRecDepth 100000 in
set_option maxHeartbeats 4000000 in
theorem effect_blk {w : World} {R N : Nat} {T : Tks} (h : Rd w R N T) :
    Calls Tryz.prog 98 #[.pointer (some ⟨R, 0, none⟩), .func (.func 99) #[.pointer (some ⟨R, 0, none⟩)] #[]] w (RP (fun E v w' => MEff w' v E) w R N (block pEff T)) := by
  obtain ⟨Q, hQ⟩ : ∃ Q : Ending → World → Prop, Q = RP (fun E v w' => MEff w' v E) w R N (block pEff T) := ⟨_, rfl⟩
  rw [← hQ]
  have HQ := Lib.hid hQ
  have HR := Lib.hid h
  have hlow := h.lt
  have eg := enters_of Tryz.func99 (by kernel_rfl) rfl
  clear h hQ
  go_enter Tryz.func98, Tryz.ntmps98
  go_wp2_with fail
  refine (pass_any HR.out w_open (by decide)).mono ?_
  rintro e w1 k1
  cases hp : pass w_open T with
  | bad r =>
    rw [hp] at k1
    obtain ⟨⟨b, rfl, hc, hq⟩, o1⟩ := k1
    go_wp2
    refine ⟨rfl, ?_⟩
    rw [HQ.out, block, hp]
    exact RP.bad hc hq o1
  | ok u r =>
  rw [hp] at k1
  obtain ⟨⟨v, rfl, rfl⟩, R1, o1⟩ := k1
  have HE := Lib.hid (show block pEff T = (Many pEff (isW w_close) r).bind fun l r' => (pass w_close r').bind fun _ r'' => .ok l r'' by rw [block, hp]; rfl)
  have HR1 := Lib.hid R1
  have HO1 := Lib.hid o1
  have hfew := R1.few
  clear R1 o1 hp
  go_wp2
  go_loopw [5] (fun s5 wr => ∃ (X : List Eff) (T' : Tks) (a : Option Addr) (n c : Nat), s5 = .slice a n c ∧ X.length = n ∧ n + T'.length ≤ 20000 ∧ Hid (MEff wr (.slice a n c) X) ∧ Hid (New w (.slice a n c)) ∧ Hid (Rd wr R N T') ∧ Hid (Only (At R) w wr) ∧
      Hid (Many pEff (isW w_close) r = (Many pEff (isW w_close) T').bind fun l r' => .ok (X ++ l) r'))
    (fun _ wr => left R wr)
  case atStart =>
    refine ⟨[], r, none, 0, 0, rfl, rfl, by omega, Lib.hid ⟨rfl, .inl ⟨rfl, rfl⟩⟩, Lib.hid (new_none w), HR1, HO1, Lib.hid ?_⟩
    cases Many pEff (isW w_close) r <;> rfl
  case round =>
    obtain ⟨X, T', a, n, c, rfl, hn, hb, hM, hN, hR', hO', hX⟩ := hrel
    clear HR1 HO1 hfew
    have HN := Lib.hid hn
    have HB := Lib.hid hb
    clear hn hb
    by_cases hm : hw T' = w_close
    · have hd : decide (hw T' ∈ [w_close]) = true := by simp [hm]
      have HX := Lib.hid (hX.out.trans (by rw [effect_stop hm, PR.bind_ok, List.append_nil]))
      clear hm hX
      go_wp2_with fail
      refine (comes_any (hR'.out.keep ((Only.refl Nil wr).alloc _)) (sin_new wr [w_close] _) rfl (by decide)).mono ?_
      rintro e w2 ⟨rfl, o2⟩
      rw [hd]
      have oA : Only Nil wr w2 := ((Only.refl Nil wr).alloc _).trans o2
      have R2 := Lib.hid (hR'.out.keep oA)
      have M2 := Lib.hid (hM.out.keep oA (ofT_nil 57 _) (by decide))
      have O2 := Lib.hid (hO'.out.trans (oA.nilTo _))
      clear oA o2 hd hR' hM hO'
      go_wp2_with fail
      refine (pass_any R2.out w_close (by decide)).mono ?_
      rintro e w3 k3
      cases hp : pass w_close T' with
      | bad r' =>
        rw [hp] at k3
        obtain ⟨⟨b, rfl, hc, hq⟩, o3⟩ := k3
        go_wp2
        refine ⟨rfl, ?_⟩
        rw [HQ.out, HE.out, HX.out, PR.bind_ok, hp]
        exact RP.bad hc hq (O2.out.trans o3)
      | ok u r' =>
      rw [hp] at k3
      obtain ⟨⟨v, rfl, rfl⟩, R3, o3⟩ := k3
      have M3 := Lib.hid (M2.out.keep o3 R2.out.ofT (by decide))
      have HP := Lib.hid hp
      have HR3 := Lib.hid R3
      have O3 := Lib.hid (O2.out.trans o3)
      clear R3 o3 hp
      go_wp2
      rw [HQ.out, HE.out, HX.out, PR.bind_ok, HP.out]
      exact ⟨⟨_, rfl, M3.out⟩, HR3.out, O3.out⟩
    · have hd : decide (hw T' ∈ [w_close]) = false := by simp [hm]
      have HMM := Lib.hid hm
      clear hm
      go_wp2_with fail
      refine (comes_any (hR'.out.keep ((Only.refl Nil wr).alloc _)) (sin_new wr [w_close] _) rfl (by decide)).mono ?_
      rintro e w2 ⟨rfl, o2⟩
      rw [hd]
      have oA : Only Nil wr w2 := ((Only.refl Nil wr).alloc _).trans o2
      have R2 := Lib.hid (hR'.out.keep oA)
      have M2 := Lib.hid (hM.out.keep oA (ofT_nil 57 _) (by decide))
      have O2 := Lib.hid (hO'.out.trans (oA.nilTo _))
      have hleft := Lib.hid hR'.out.left
      clear oA o2 hd hR' hM hO'
      go_wp2_with fail
      refine (effect_any R2.out).mono ?_
      rintro e w3 k3
      cases hp : pEff T' with
      | bad r' =>
        rw [hp] at k3
        obtain ⟨⟨b, rfl, hc, hq⟩, o3⟩ := k3
        go_wp2
        refine ⟨rfl, ?_⟩
        rw [HQ.out, HE.out, hX.out, effect_bad HMM.out hp]
        exact RP.bad hc hq (O2.out.trans o3)
      | ok x r' =>
      rw [hp] at k3
      obtain ⟨⟨v, rfl, hv⟩, R3, o3⟩ := k3
      have M3 := M2.out.keep o3 R2.out.ofT (by decide)
      have hsz := (O2.out.trans o3).size
      obtain rfl : v = .agg (effC x).toArray := hv
      unfold effC
      obtain ⟨a', c', w5, hr, hM5, hN5, o5⟩ := eff_pushed M3 HN.out hN.out hsz (by have := HB.out; omega) x
      have HR5 := Lib.hid (R3.keepRow hlow hN.out o5)
      have HO5 := Lib.hid (only_new (O2.out.trans o3) hN.out o5)
      have HX5 := Lib.hid (show Many pEff (isW w_close) r = (Many pEff (isW w_close) r').bind fun l r'' => .ok (X ++ [x] ++ l) r'' by
        rw [hX.out, effect_more HMM.out hp]
        cases Many pEff (isW w_close) r' with
        | ok l s => simp
        | bad s => rfl)
      have hlt := pEff_eats _ _ _ hp
      have HLT := Lib.hid hlt
      have HC := Lib.hid (show n + 1 + r'.length ≤ 20000 by have := HB.out; omega)
      have hr' := Lib.hid hr
      clear hr M3 o3 o5 R3 hX hlt M2 O2 R2 hsz hp
      go_wp2_with (at_builtin; refine Lib.wpList_append_run _ rfl (.tmp 12) (.tmp 15) 44 44 rfl _ _ rfl rfl _ _ hr'.out ?_)
      go_roundw
      case rel => exact ⟨X ++ [x], r', a', n + 1, c', by go_num, by rw [List.length_append, HN.out]; rfl, HC.out, hM5, hN5, HR5, HO5, HX5⟩
      case measure => rw [HR5.out.left, hleft.out]; exact HLT.out
end Go.Proofs.YtnkokonkbklelaaGreatDoor.Ps

/- parse: a row, read. -/
set_option linter.unusedVariables false
namespace Go.Proofs.YtnkokonkbklelaaGreatDoor.Ps
open Go.RowKit Go.Proofs.YtnkokonkbklelaaGreatDoor Lx

def rowL (tag : Wd) (only : Bool) (n : Int) (sl : Value) : List Value := [.string (bs tag), .bool only, .int .i64 n, sl]
def DR (x : Rw) (v : Value) (w : World) : Prop := ∃ sl, v = .agg #[.string (bs x.tag), .bool x.only, .int .i64 x.n, sl] ∧ MEff w sl x.effs
theorem meff_slice {w : World} {v : Value} {E : List Eff} (h : MEff w v E) : ∃ a n c, v = .slice a n c := by
  obtain ⟨a, c, h1⟩ := own_slice_n h
  exact ⟨a, _, c, h1⟩
set_option maxRecDepth 100000 in
set_option maxHeartbeats 4000000 in
theorem row_any {w : World} {R N : Nat} {T : Tks} (h : Rd w R N T) :
    Calls Tryz.prog 77 #[.pointer (some ⟨R, 0, none⟩)] w (RP DR w R N (pRow T)) := by
  obtain ⟨Q, hQ⟩ : ∃ Q : Ending → World → Prop, Q = RP DR w R N (pRow T) := ⟨_, rfl⟩
  rw [← hQ]
  have HQ := Lib.hid hQ
  obtain ⟨wA, hwA, HA, oA⟩ := box2 (Only.refl (At R) w) h.lt (rowL [] false 0 (.slice none 0 0)) 46
  obtain ⟨wB, hwB, HB, oB⟩ := box2 HA.only HA.low (rowL [] false 0 (.slice none 0 0)) 46
  have hwB' : wB = (w.alloc (.cells #[.string ⟨#[]⟩, .bool false, .int .i64 0, .slice none 0 0] 46)).alloc (.cells #[.string ⟨#[]⟩, .bool false, .int .i64 0, .slice none 0 0] 46) := by rw [hwB, hwA]; rfl
  have HO := Lib.hid (HA.keep (oB.nilTo _))
  have HL := Lib.hid HB
  have HR := Lib.hid (h.keep (oA.trans oB))
  have hszA : wA.heap.size = w.heap.size + 1 := by rw [hwA]; simp
  have hOL : w.heap.size ≠ wA.heap.size := by rw [hszA]; omega
  rw [hszA] at HL hOL HB
  clear hwA hwB HA HB h hQ hszA
  go_enter Tryz.func77, Tryz.ntmps77
  go_upto_region 2 with (fail)
  rw [← hwB']; clear hwB' oA oB
  generalize hLL : w.heap.size + 1 = L at *
  generalize hOO : w.heap.size = O at *
  clear hLL hOO
  go_wp2_with fail
  refine (choose_any (HR.out.keep ((Only.refl Nil wB).alloc _)) (sin_new wB [w_on, w_any] _) rfl (by decide) (by decide)).mono ?_
  rintro e w1 k1
  have oX : Only (At R) wB (wB.alloc (.cells ([w_on, w_any].map fun s => Value.string (bs s)).toArray 9)) := (Only.refl (At R) wB).alloc _
  cases hch : ch [w_on, w_any] T with
  | bad r =>
    rw [hch] at k1
    obtain ⟨⟨b, rfl, hc, hq⟩, o1⟩ := k1
    go_wp2
    refine ⟨rfl, ?_⟩
    rw [HQ.out, pRow, hch]
    exact RP.bad hc hq (HO.out.only.trans (oX.trans o1))
  | ok i r =>
  rw [hch] at k1
  obtain ⟨⟨v, rfl, rfl⟩, R1, o1⟩ := k1
  have hi : i < 2 := ch_lt hch
  have O1 := Lib.hid (HO.out.keep (oX.trans o1))
  have L1 := Lib.hid (HL.out.keep (oX.trans o1))
  have HR1 := Lib.hid R1
  clear o1 R1 oX HO HL
  rcases (show i = 0 ∨ i = 1 by omega) with rfl | rfl
  · have HE := Lib.hid (show pRow T = _ by rw [pRow, hch, PR.bind_ok, if_pos rfl])
    clear hch hi
    have ez : ((0 : Nat) : Int) = 0 := rfl
    rw [ez]
    clear ez
    go_wp2_with fail
    refine (name_any HR1.out).mono ?_
    rintro e w2 k2
    cases hp : tk 1 r with
    | bad r' =>
      rw [hp] at k2
      obtain ⟨⟨b, rfl, hc, hq⟩, o2⟩ := k2
      go_wp2
      refine ⟨rfl, ?_⟩
      rw [HQ.out, HE.out, hp]
      exact RP.bad hc hq (O1.out.only.trans o2)
    | ok t r1 =>
    rw [hp] at k2
    obtain ⟨⟨v, rfl, rfl⟩, R2, o2⟩ := k2
    have L2 := L1.out.keep o2
    have c0 := L2.cell 0 (v := .string (bs [])) rfl
    have f0 := L2.free 0
    have L3 := Lib.hid (show Own w R L (rowL t.w false 0 (.slice none 0 0)) 46 _ from L2.put 0 (.string (bs t.w)))
    have s3 := ((Only.refl (At L) w2).setCell (p := ⟨L, 0, none⟩) rfl (.string (bs t.w)))
    have O3 := Lib.hid ((O1.out.keep o2).other s3 (Ne.symm hOL) L2.new)
    have R3 := Lib.hid (L2.rdPut (k := 0) (.string (bs t.w)) R2)
    have HE2 := Lib.hid (HE.out.trans (by rw [hp, PR.bind_ok]))
    clear s3 L2 R2 o2 hp L1 O1 HR1 HE
    have hf := tok_k
    go_wp2_with fail
    refine (next_any R3.out).mono ?_
    rintro e w4 ⟨rfl, o4⟩
    unfold tv
    have L4 := L3.out.keep (o4.nilTo _)
    have O4 := O3.out.keep (o4.nilTo _)
    have R4 := R3.out.keep o4
    have c1 := L4.cell 1 (v := .bool false) rfl
    have f1 := L4.free 1
    clear c0 f0 L3 O3 R3
    by_cases h2 : hk r1 = 2
    · have hz : (((hk r1 : Nat) : Int) == 2) = true := by rw [h2]; rfl
      have HE3 := Lib.hid (HE2.out.trans (if_pos h2))
      have L5 := Lib.hid (show Own w R L (rowL t.w true 0 (.slice none 0 0)) 46 _ from L4.put 1 (.bool true))
      have s5 := ((Only.refl (At L) w4).setCell (p := ⟨L, 1, none⟩) rfl (.bool true))
      have O5 := Lib.hid (O4.other s5 (Ne.symm hOL) L4.new)
      have R5 := Lib.hid (L4.rdPut (k := 1) (.bool true) R4)
      clear s5 L4 O4 R4 o4 h2 HE2
      generalize ((hk r1 : Nat) : Int) = z at *
      go_wp2_with fail
      refine (number_any R5.out).mono ?_
      rintro e w6 k6
      cases hp : tk 2 r1 with
      | bad r' =>
        rw [hp] at k6
        obtain ⟨⟨b, rfl, hc, hq⟩, o6⟩ := k6
        go_wp2
        refine ⟨rfl, ?_⟩
        rw [HQ.out, HE3.out, hp]
        exact RP.bad hc hq (O5.out.only.trans o6)
      | ok u r2 =>
      rw [hp] at k6
      obtain ⟨⟨v, rfl, rfl⟩, R6, o6⟩ := k6
      have L6 := L5.out.keep o6
      have c2 := L6.cell 2 (v := .int .i64 0) rfl
      have f2 := L6.free 2
      have L7 := Lib.hid (show Own w R L (rowL t.w true u.n (.slice none 0 0)) 46 _ from L6.put 2 (.int .i64 (u.n : Int)))
      have s7 := ((Only.refl (At L) w6).setCell (p := ⟨L, 2, none⟩) rfl (.int .i64 (u.n : Int)))
      have O7 := Lib.hid ((O5.out.keep o6).other s7 (Ne.symm hOL) L6.new)
      have R7 := Lib.hid (L6.rdPut (k := 2) (.int .i64 (u.n : Int)) R6)
      have HE4 := Lib.hid (HE3.out.trans (by rw [hp, PR.bind_ok]))
      clear s7 L6 R6 o6 hp L5 O5 R5 HE3 c1 f1
      generalize ((u.n : Nat) : Int) = un at *
      generalize t.w = tg at *
      go_wp2_with fail
      refine (effect_blk R7.out).mono ?_
      rintro e w8 k8
      cases hp : block pEff r2 with
      | bad r' =>
        rw [hp] at k8
        obtain ⟨⟨b, rfl, hc, hq⟩, o8⟩ := k8
        go_wp2
        refine ⟨rfl, ?_⟩
        rw [HQ.out, HE4.out, hp]
        exact RP.bad hc hq (O7.out.only.trans o8)
      | ok E r3 =>
      rw [hp] at k8
      obtain ⟨⟨v, rfl, hv⟩, R8, o8⟩ := k8
      obtain ⟨sa, sn, sc, rfl⟩ := meff_slice hv
      have L8 := L7.out.keep o8
      have O8 := O7.out.keep o8
      have c3 := L8.cell 3 (v := .slice none 0 0) rfl
      have f3 := L8.free 3
      have L9 := show Own w R L (rowL tg true un (.slice sa sn sc)) 46 _ from L8.put 3 (.slice sa sn sc)
      have s9 := ((Only.refl (At L) w8).setCell (p := ⟨L, 3, none⟩) rfl (.slice sa sn sc))
      have O9 := O8.other s9 (Ne.symm hOL) L8.new
      have R9 := L8.rdPut (k := 3) (.slice sa sn sc) R8
      have M9 := hv.keep s9 (ofT_at L8.heap) (by decide)
      have a0 := L8.cell 0 (v := .string (bs tg)) rfl
      have a1 := L8.cell 1 (v := .bool true) rfl
      have a2 := L8.cell 2 (v := .int .i64 un) rfl
      have b0 := O8.cell 0 (v := .string (bs [])) rfl
      have b1 := O8.cell 1 (v := .bool false) rfl
      have b2 := O8.cell 2 (v := .int .i64 0) rfl
      have b3 := O8.cell 3 (v := .slice none 0 0) rfl
      have g0 := O8.free 0
      have g1 := O8.free 1
      have g2 := O8.free 2
      have g3 := O8.free 3
      have X := Lib.hid (O9.set (rowL tg true un (.slice sa sn sc)) rfl)
      have XR := Lib.hid (O9.rd 0 (rowL tg true un (.slice sa sn sc)) R9)
      have XM := Lib.hid (M9.keep (sets_only O 0 (rowL tg true un (.slice sa sn sc)) _) (ofT_at O9.heap) (by decide))
      have HP := Lib.hid hp
      clear M9 R9 O9 s9 L9 O8 L8 R8 o8 hv hp
      go_wp2
      refine bodyPost_ret (results_agg rfl _ _ O (rowL tg true un (.slice sa sn sc)) Tryz.isAgg46 Tryz.sizeOf46 rfl X.out.heap) rfl ?_
      rw [HQ.out, HE4.out, HP.out]
      exact ⟨⟨_, rfl, _, rfl, XM.out⟩, XR.out, X.out.only⟩
    · have hz : (((hk r1 : Nat) : Int) == 2) = false := by simp; omega
      have HE3 := Lib.hid (HE2.out.trans (if_neg h2))
      have L5 := Lib.hid (show Own w R L (rowL t.w false 0 (.slice none 0 0)) 46 _ from L4.put 1 (.bool false))
      have s5 := ((Only.refl (At L) w4).setCell (p := ⟨L, 1, none⟩) rfl (.bool false))
      have O5 := Lib.hid (O4.other s5 (Ne.symm hOL) L4.new)
      have R5 := Lib.hid (L4.rdPut (k := 1) (.bool false) R4)
      clear s5 L4 O4 R4 o4 h2 HE2
      generalize ((hk r1 : Nat) : Int) = z at *
      generalize t.w = tg at *
      go_wp2_with fail
      refine (effect_blk R5.out).mono ?_
      rintro e w8 k8
      cases hp : block pEff r1 with
      | bad r' =>
        rw [hp] at k8
        obtain ⟨⟨b, rfl, hc, hq⟩, o8⟩ := k8
        go_wp2
        refine ⟨rfl, ?_⟩
        rw [HQ.out, HE3.out, hp]
        exact RP.bad hc hq (O5.out.only.trans o8)
      | ok E r3 =>
      rw [hp] at k8
      obtain ⟨⟨v, rfl, hv⟩, R8, o8⟩ := k8
      obtain ⟨sa, sn, sc, rfl⟩ := meff_slice hv
      have L8 := L5.out.keep o8
      have O8 := O5.out.keep o8
      have c3 := L8.cell 3 (v := .slice none 0 0) rfl
      have f3 := L8.free 3
      have L9 := show Own w R L (rowL tg false 0 (.slice sa sn sc)) 46 _ from L8.put 3 (.slice sa sn sc)
      have s9 := ((Only.refl (At L) w8).setCell (p := ⟨L, 3, none⟩) rfl (.slice sa sn sc))
      have O9 := O8.other s9 (Ne.symm hOL) L8.new
      have R9 := L8.rdPut (k := 3) (.slice sa sn sc) R8
      have M9 := hv.keep s9 (ofT_at L8.heap) (by decide)
      have a0 := L8.cell 0 (v := .string (bs tg)) rfl
      have a1 := L8.cell 1 (v := .bool false) rfl
      have a2 := L8.cell 2 (v := .int .i64 0) rfl
      have b0 := O8.cell 0 (v := .string (bs [])) rfl
      have b1 := O8.cell 1 (v := .bool false) rfl
      have b2 := O8.cell 2 (v := .int .i64 0) rfl
      have b3 := O8.cell 3 (v := .slice none 0 0) rfl
      have g0 := O8.free 0
      have g1 := O8.free 1
      have g2 := O8.free 2
      have g3 := O8.free 3
      have X := Lib.hid (O9.set (rowL tg false 0 (.slice sa sn sc)) rfl)
      have XR := Lib.hid (O9.rd 0 (rowL tg false 0 (.slice sa sn sc)) R9)
      have XM := Lib.hid (M9.keep (sets_only O 0 (rowL tg false 0 (.slice sa sn sc)) _) (ofT_at O9.heap) (by decide))
      have HP := Lib.hid hp
      clear M9 R9 O9 s9 L9 O8 L8 R8 o8 hv hp
      go_wp2
      refine bodyPost_ret (results_agg rfl _ _ O (rowL tg false 0 (.slice sa sn sc)) Tryz.isAgg46 Tryz.sizeOf46 rfl X.out.heap) rfl ?_
      rw [HQ.out, HE3.out, HP.out]
      exact ⟨⟨_, rfl, _, rfl, XM.out⟩, XR.out, X.out.only⟩
  · have HE := Lib.hid (show pRow T = _ by rw [pRow, hch, PR.bind_ok, if_neg (by decide)])
    clear hch hi
    have ez : ((1 : Nat) : Int) = 1 := rfl
    rw [ez]
    clear ez
    have c1 := L1.out.cell 1 (v := .bool false) rfl
    go_wp2_with fail
    refine (effect_blk HR1.out).mono ?_
    rintro e w8 k8
    cases hp : block pEff r with
    | bad r' =>
      rw [hp] at k8
      obtain ⟨⟨b, rfl, hc, hq⟩, o8⟩ := k8
      go_wp2
      refine ⟨rfl, ?_⟩
      rw [HQ.out, HE.out, hp]
      exact RP.bad hc hq (O1.out.only.trans o8)
    | ok E r3 =>
    rw [hp] at k8
    obtain ⟨⟨v, rfl, hv⟩, R8, o8⟩ := k8
    obtain ⟨sa, sn, sc, rfl⟩ := meff_slice hv
    have L8 := L1.out.keep o8
    have O8 := O1.out.keep o8
    have c3 := L8.cell 3 (v := .slice none 0 0) rfl
    have f3 := L8.free 3
    have L9 := show Own w R L (rowL [] false 0 (.slice sa sn sc)) 46 _ from L8.put 3 (.slice sa sn sc)
    have s9 := ((Only.refl (At L) w8).setCell (p := ⟨L, 3, none⟩) rfl (.slice sa sn sc))
    have O9 := O8.other s9 (Ne.symm hOL) L8.new
    have R9 := L8.rdPut (k := 3) (.slice sa sn sc) R8
    have M9 := hv.keep s9 (ofT_at L8.heap) (by decide)
    have a0 := L8.cell 0 (v := .string (bs [])) rfl
    have a1 := L8.cell 1 (v := .bool false) rfl
    have a2 := L8.cell 2 (v := .int .i64 0) rfl
    have b0 := O8.cell 0 (v := .string (bs [])) rfl
    have b1 := O8.cell 1 (v := .bool false) rfl
    have b2 := O8.cell 2 (v := .int .i64 0) rfl
    have b3 := O8.cell 3 (v := .slice none 0 0) rfl
    have g0 := O8.free 0
    have g1 := O8.free 1
    have g2 := O8.free 2
    have g3 := O8.free 3
    have X := Lib.hid (O9.set (rowL [] false 0 (.slice sa sn sc)) rfl)
    have XR := Lib.hid (O9.rd 0 (rowL [] false 0 (.slice sa sn sc)) R9)
    have XM := Lib.hid (M9.keep (sets_only O 0 (rowL [] false 0 (.slice sa sn sc)) _) (ofT_at O9.heap) (by decide))
    have HP := Lib.hid hp
    clear M9 R9 O9 s9 L9 O8 L8 R8 o8 hv hp
    go_wp2
    refine bodyPost_ret (results_agg rfl _ _ O (rowL [] false 0 (.slice sa sn sc)) Tryz.isAgg46 Tryz.sizeOf46 rfl X.out.heap) rfl ?_
    rw [HQ.out, HE.out, HP.out]
    exact ⟨⟨_, rfl, _, rfl, XM.out⟩, XR.out, X.out.only⟩
end Go.Proofs.YtnkokonkbklelaaGreatDoor.Ps

/- parse: a block of rows. -/
set_option linter.unusedVariables false
namespace Go.Proofs.YtnkokonkbklelaaGreatDoor.Ps
open Go.RowKit Go.Proofs.YtnkokonkbklelaaGreatDoor Lx

theorem row_stop {T : Tks} (h : hw T = w_close) : Many pRow (isW w_close) T = .ok [] T := by
  rw [Many_eq pRow_eats, if_pos (by unfold isW; rw [h]; rfl)]
theorem row_bad {T r : Tks} (h : ¬ hw T = w_close) (hp : pRow T = .bad r) : Many pRow (isW w_close) T = .bad r := by
  rw [Many_eq pRow_eats, if_neg (by unfold isW; simpa using h), hp]; rfl
theorem row_more {T r : Tks} {e : Rw} (h : ¬ hw T = w_close) (hp : pRow T = .ok e r) : Many pRow (isW w_close) T = (Many pRow (isW w_close) r).bind fun l r' => .ok (e :: l) r' := by
  rw [Many_eq pRow_eats, if_neg (by unfold isW; simpa using h), hp]; rfl

set_option maxRecDepth 100000 in
set_option maxHeartbeats 4000000 in
theorem row_blk {w : World} {R N : Nat} {T : Tks} (h : Rd w R N T) :
    Calls Tryz.prog 76 #[.pointer (some ⟨R, 0, none⟩), .func (.func 77) #[.pointer (some ⟨R, 0, none⟩)] #[]] w (RP (fun E v w' => MRows w' v E) w R N (block pRow T)) := by
  obtain ⟨Q, hQ⟩ : ∃ Q : Ending → World → Prop, Q = RP (fun E v w' => MRows w' v E) w R N (block pRow T) := ⟨_, rfl⟩
  rw [← hQ]
  have HQ := Lib.hid hQ
  have HR := Lib.hid h
  have hlow := h.lt
  have eg := enters_of Tryz.func77 (by kernel_rfl) rfl
  clear h hQ
  go_enter Tryz.func76, Tryz.ntmps76
  go_wp2_with fail
  refine (pass_any HR.out w_open (by decide)).mono ?_
  rintro e w1 k1
  cases hp : pass w_open T with
  | bad r =>
    rw [hp] at k1
    obtain ⟨⟨b, rfl, hc, hq⟩, o1⟩ := k1
    go_wp2
    refine ⟨rfl, ?_⟩
    rw [HQ.out, block, hp]
    exact RP.bad hc hq o1
  | ok u r =>
  rw [hp] at k1
  obtain ⟨⟨v, rfl, rfl⟩, R1, o1⟩ := k1
  have HE := Lib.hid (show block pRow T = (Many pRow (isW w_close) r).bind fun l r' => (pass w_close r').bind fun _ r'' => .ok l r'' by rw [block, hp]; rfl)
  have HR1 := Lib.hid R1
  have HO1 := Lib.hid o1
  have hfew := R1.few
  clear R1 o1 hp
  go_wp2
  go_loopw [5] (fun s5 wr => ∃ (X : List Rw) (T' : Tks) (a : Option Addr) (n c : Nat), s5 = .slice a n c ∧ X.length = n ∧ n + T'.length ≤ 20000 ∧ Hid (MRows wr (.slice a n c) X) ∧ Hid (New w (.slice a n c)) ∧ Hid (Rd wr R N T') ∧ Hid (Only (At R) w wr) ∧
      Hid (Many pRow (isW w_close) r = (Many pRow (isW w_close) T').bind fun l r' => .ok (X ++ l) r'))
    (fun _ wr => left R wr)
  case atStart =>
    refine ⟨[], r, none, 0, 0, rfl, rfl, by omega, Lib.hid ⟨[], rfl, ⟨rfl, .inl ⟨rfl, rfl⟩⟩, fun x hx => by cases hx⟩, Lib.hid (new_none w), HR1, HO1, Lib.hid ?_⟩
    cases Many pRow (isW w_close) r <;> rfl
  case round =>
    obtain ⟨X, T', a, n, c, rfl, hn, hb, hM, hN, hR', hO', hX⟩ := hrel
    clear HR1 HO1 hfew
    have HN := Lib.hid hn
    have HB := Lib.hid hb
    clear hn hb
    by_cases hm : hw T' = w_close
    · have hd : decide (hw T' ∈ [w_close]) = true := by simp [hm]
      have HX := Lib.hid (hX.out.trans (by rw [row_stop hm, PR.bind_ok, List.append_nil]))
      clear hm hX
      go_wp2_with fail
      refine (comes_any (hR'.out.keep ((Only.refl Nil wr).alloc _)) (sin_new wr [w_close] _) rfl (by decide)).mono ?_
      rintro e w2 ⟨rfl, o2⟩
      rw [hd]
      have oA : Only Nil wr w2 := ((Only.refl Nil wr).alloc _).trans o2
      have R2 := Lib.hid (hR'.out.keep oA)
      have M2 := Lib.hid (hM.out.keep oA (ofT_nil 57 _) (by decide) (by decide))
      have O2 := Lib.hid (hO'.out.trans (oA.nilTo _))
      clear oA o2 hd hR' hM hO'
      go_wp2_with fail
      refine (pass_any R2.out w_close (by decide)).mono ?_
      rintro e w3 k3
      cases hp : pass w_close T' with
      | bad r' =>
        rw [hp] at k3
        obtain ⟨⟨b, rfl, hc, hq⟩, o3⟩ := k3
        go_wp2
        refine ⟨rfl, ?_⟩
        rw [HQ.out, HE.out, HX.out, PR.bind_ok, hp]
        exact RP.bad hc hq (O2.out.trans o3)
      | ok u r' =>
      rw [hp] at k3
      obtain ⟨⟨v, rfl, rfl⟩, R3, o3⟩ := k3
      have M3 := Lib.hid (M2.out.keep o3 R2.out.ofT (by decide) (by decide))
      have HP := Lib.hid hp
      have HR3 := Lib.hid R3
      have O3 := Lib.hid (O2.out.trans o3)
      clear R3 o3 hp
      go_wp2
      rw [HQ.out, HE.out, HX.out, PR.bind_ok, HP.out]
      exact ⟨⟨_, rfl, M3.out⟩, HR3.out, O3.out⟩
    · have hd : decide (hw T' ∈ [w_close]) = false := by simp [hm]
      have HMM := Lib.hid hm
      clear hm
      go_wp2_with fail
      refine (comes_any (hR'.out.keep ((Only.refl Nil wr).alloc _)) (sin_new wr [w_close] _) rfl (by decide)).mono ?_
      rintro e w2 ⟨rfl, o2⟩
      rw [hd]
      have oA : Only Nil wr w2 := ((Only.refl Nil wr).alloc _).trans o2
      have R2 := Lib.hid (hR'.out.keep oA)
      have M2 := Lib.hid (hM.out.keep oA (ofT_nil 57 _) (by decide) (by decide))
      have O2 := Lib.hid (hO'.out.trans (oA.nilTo _))
      have hleft := Lib.hid hR'.out.left
      clear oA o2 hd hR' hM hO'
      go_wp2_with fail
      refine (row_any R2.out).mono ?_
      rintro e w3 k3
      cases hp : pRow T' with
      | bad r' =>
        rw [hp] at k3
        obtain ⟨⟨b, rfl, hc, hq⟩, o3⟩ := k3
        go_wp2
        refine ⟨rfl, ?_⟩
        rw [HQ.out, HE.out, hX.out, row_bad HMM.out hp]
        exact RP.bad hc hq (O2.out.trans o3)
      | ok x r' =>
      rw [hp] at k3
      obtain ⟨⟨v, rfl, hv⟩, R3, o3⟩ := k3
      have M3 := M2.out.keep o3 R2.out.ofT (by decide) (by decide)
      have hsz := (O2.out.trans o3).size
      obtain ⟨sl, rfl, hv⟩ := hv
      obtain ⟨a', c', w5, hr, hM5, hN5, o5⟩ := row_pushed M3 HN.out hN.out hsz (by have := HB.out; omega) x sl hv
      have HR5 := Lib.hid (R3.keepRow hlow hN.out o5)
      have HO5 := Lib.hid (only_new (O2.out.trans o3) hN.out o5)
      have HX5 := Lib.hid (show Many pRow (isW w_close) r = (Many pRow (isW w_close) r').bind fun l r'' => .ok (X ++ [x] ++ l) r'' by
        rw [hX.out, row_more HMM.out hp]
        cases Many pRow (isW w_close) r' with
        | ok l s => simp
        | bad s => rfl)
      have hlt := pRow_eats _ _ _ hp
      have HLT := Lib.hid hlt
      have HC := Lib.hid (show n + 1 + r'.length ≤ 20000 by have := HB.out; omega)
      have hr' := Lib.hid hr
      clear hr M3 o3 o5 R3 hX hlt M2 O2 R2 hsz hp hv
      go_wp2_with (at_builtin; refine Lib.wpList_append_run _ rfl (.tmp 12) (.tmp 15) 41 41 rfl _ _ rfl rfl _ _ hr'.out ?_)
      go_roundw
      case rel => exact ⟨X ++ [x], r', a', n + 1, c', by go_num, by rw [List.length_append, HN.out]; rfl, HC.out, hM5, hN5, HR5, HO5, HX5⟩
      case measure => rw [HR5.out.left, hleft.out]; exact HLT.out
end Go.Proofs.YtnkokonkbklelaaGreatDoor.Ps

/- parse: a state, a case. -/
set_option linter.unusedVariables false
namespace Go.Proofs.YtnkokonkbklelaaGreatDoor.Ps
open Go.RowKit Go.Proofs.YtnkokonkbklelaaGreatDoor Lx

def staL (n : Wd) (sl : Value) : List Value := [.string (bs n), sl]
def DS (x : Sta) (v : Value) (w : World) : Prop := ∃ sl, v = .agg #[.string (bs x.name), sl] ∧ MRows w sl x.rows
theorem mrows_slice {w : World} {v : Value} {E : List Rw} (h : MRows w v E) : ∃ a n c, v = .slice a n c := by
  obtain ⟨Z, _, h1, _⟩ := h
  obtain ⟨a, c, h1⟩ := own_slice_n h1
  exact ⟨a, _, c, h1⟩
set_option maxRecDepth 100000 in
set_option maxHeartbeats 4000000 in
theorem state_any {w : World} {R N : Nat} {T : Tks} (h : Rd w R N T) :
    Calls Tryz.prog 49 #[.pointer (some ⟨R, 0, none⟩)] w (RP DS w R N (pState T)) := by
  obtain ⟨Q, hQ⟩ : ∃ Q : Ending → World → Prop, Q = RP DS w R N (pState T) := ⟨_, rfl⟩
  rw [← hQ]
  have HQ := Lib.hid hQ
  obtain ⟨wA, hwA, HA, oA⟩ := box2 (Only.refl (At R) w) h.lt (staL [] (.slice none 0 0)) 43
  have hwA' : wA = w.alloc (.cells #[.string ⟨#[]⟩, .slice none 0 0] 43) := by rw [hwA]; rfl
  have HO := Lib.hid HA
  have HR := Lib.hid (h.keep oA)
  clear hwA HA h hQ
  go_enter Tryz.func49, Tryz.ntmps49
  go_upto_region 1 with (fail)
  rw [← hwA']; clear hwA' oA
  generalize hOO : w.heap.size = O at *
  clear hOO
  go_wp2_with fail
  refine (pass_any HR.out w_state (by decide)).mono ?_
  rintro e w1 k1
  cases h1 : pass w_state T with
  | bad r =>
    rw [h1] at k1
    obtain ⟨⟨b, rfl, hc, hq⟩, o1⟩ := k1
    go_wp2
    refine ⟨rfl, ?_⟩
    rw [HQ.out, pState, h1]
    exact RP.bad hc hq (HO.out.only.trans o1)
  | ok u r =>
  rw [h1] at k1
  obtain ⟨⟨v, rfl, rfl⟩, R1, o1⟩ := k1
  have HR1 := Lib.hid R1
  have HO1 := Lib.hid (HO.out.keep o1)
  have HE := Lib.hid (show pState T = _ by rw [pState, h1, PR.bind_ok])
  clear R1 o1 h1 HO HR
  go_wp2_with fail
  refine (name_any HR1.out).mono ?_
  rintro e w2 k2
  cases h2 : tk 1 r with
  | bad r' =>
    rw [h2] at k2
    obtain ⟨⟨b, rfl, hc, hq⟩, o2⟩ := k2
    go_wp2
    refine ⟨rfl, ?_⟩
    rw [HQ.out, HE.out, h2]
    exact RP.bad hc hq (HO1.out.only.trans o2)
  | ok t r1 =>
  rw [h2] at k2
  obtain ⟨⟨v, rfl, rfl⟩, R2, o2⟩ := k2
  have HR2 := Lib.hid R2
  have HO2 := Lib.hid (HO1.out.keep o2)
  have HE2 := Lib.hid (HE.out.trans (by rw [h2, PR.bind_ok]))
  clear R2 o2 h2 HO1 HR1 HE
  go_wp2_with fail
  refine (row_blk HR2.out).mono ?_
  rintro e w3 k3
  cases h3 : block pRow r1 with
  | bad r' =>
    rw [h3] at k3
    obtain ⟨⟨b, rfl, hc, hq⟩, o3⟩ := k3
    go_wp2
    refine ⟨rfl, ?_⟩
    rw [HQ.out, HE2.out, h3]
    exact RP.bad hc hq (HO2.out.only.trans o3)
  | ok L r2 =>
  rw [h3] at k3
  obtain ⟨⟨v, rfl, hv⟩, R3, o3⟩ := k3
  obtain ⟨sa, sn, sc, rfl⟩ := mrows_slice hv
  have O3 := HO2.out.keep o3
  have b0 := O3.cell 0 (v := .string (bs [])) rfl
  have b1 := O3.cell 1 (v := .slice none 0 0) rfl
  have g0 := O3.free 0
  have g1 := O3.free 1
  have X := Lib.hid (O3.set (staL t.w (.slice sa sn sc)) rfl)
  have XR := Lib.hid (O3.rd 0 (staL t.w (.slice sa sn sc)) R3)
  have XM := Lib.hid (hv.keep (sets_only O 0 (staL t.w (.slice sa sn sc)) _) (ofT_at O3.heap) (by decide) (by decide))
  have HP := Lib.hid h3
  clear R3 o3 h3 O3 hv
  go_wp2
  refine bodyPost_ret (results_agg rfl _ _ O (staL t.w (.slice sa sn sc)) Tryz.isAgg43 Tryz.sizeOf43 rfl X.out.heap) rfl ?_
  rw [HQ.out, HE2.out, HP.out]
  exact ⟨⟨_, rfl, _, rfl, XM.out⟩, XR.out, X.out.only⟩

def csL (n : Wd) (z : Int) : List Value := [.string (bs n), .int .i64 z]
def DC (x : Cs) (v : Value) (_ : World) : Prop := v = .agg #[.string (bs x.reason), .int .i64 x.act]
set_option maxRecDepth 100000 in
set_option maxHeartbeats 4000000 in
theorem case_any {w : World} {R N : Nat} {T : Tks} (h : Rd w R N T) :
    Calls Tryz.prog 48 #[.pointer (some ⟨R, 0, none⟩)] w (RP DC w R N (pCase T)) := by
  obtain ⟨Q, hQ⟩ : ∃ Q : Ending → World → Prop, Q = RP DC w R N (pCase T) := ⟨_, rfl⟩
  rw [← hQ]
  have HQ := Lib.hid hQ
  obtain ⟨wA, hwA, HA, oA⟩ := box2 (Only.refl (At R) w) h.lt (csL [] 0) 72
  obtain ⟨wB, hwB, HB, oB⟩ := box2 HA.only HA.low (csL [] 0) 72
  have hwB' : wB = (w.alloc (.cells #[.string ⟨#[]⟩, .int .i64 0] 72)).alloc (.cells #[.string ⟨#[]⟩, .int .i64 0] 72) := by rw [hwB, hwA]; rfl
  have HO := Lib.hid (HA.keep (oB.nilTo _))
  have HL := Lib.hid HB
  have HR := Lib.hid (h.keep (oA.trans oB))
  have hszA : wA.heap.size = w.heap.size + 1 := by rw [hwA]; simp
  have hOL : w.heap.size ≠ wA.heap.size := by rw [hszA]; omega
  rw [hszA] at HL hOL HB
  clear hwA hwB HA HB h hQ hszA
  go_enter Tryz.func48, Tryz.ntmps48
  go_upto_region 2 with (fail)
  rw [← hwB']; clear hwB' oA oB
  generalize hLL : w.heap.size + 1 = L at *
  generalize hOO : w.heap.size = O at *
  clear hLL hOO
  go_wp2_with fail
  refine (choose_any (HR.out.keep ((Only.refl Nil wB).alloc _)) (sin_new wB [w_case, w_else] _) rfl (by decide) (by decide)).mono ?_
  rintro e w1 k1
  have oX : Only (At R) wB (wB.alloc (.cells ([w_case, w_else].map fun s => Value.string (bs s)).toArray 9)) := (Only.refl (At R) wB).alloc _
  cases hch : ch [w_case, w_else] T with
  | bad r =>
    rw [hch] at k1
    obtain ⟨⟨b, rfl, hc, hq⟩, o1⟩ := k1
    go_wp2
    refine ⟨rfl, ?_⟩
    rw [HQ.out, pCase, hch]
    exact RP.bad hc hq (HO.out.only.trans (oX.trans o1))
  | ok i r =>
  rw [hch] at k1
  obtain ⟨⟨v, rfl, rfl⟩, R1, o1⟩ := k1
  have hi : i < 2 := ch_lt hch
  have O1 := Lib.hid (HO.out.keep (oX.trans o1))
  have L1 := Lib.hid (HL.out.keep (oX.trans o1))
  have HR1 := Lib.hid R1
  clear o1 R1 oX HO HL
  rcases (show i = 0 ∨ i = 1 by omega) with rfl | rfl
  · have HE := Lib.hid (show pCase T = _ by rw [pCase, hch, PR.bind_ok, if_pos rfl])
    clear hch hi
    have ez : ((0 : Nat) : Int) = 0 := rfl
    rw [ez]
    clear ez
    go_wp2_with fail
    refine (name_any HR1.out).mono ?_
    rintro e w2 k2
    cases hp : tk 1 r with
    | bad r' =>
      rw [hp] at k2
      obtain ⟨⟨b, rfl, hc, hq⟩, o2⟩ := k2
      go_wp2
      refine ⟨rfl, ?_⟩
      rw [HQ.out, HE.out, hp]
      exact RP.bad hc hq (O1.out.only.trans o2)
    | ok t r1 =>
    rw [hp] at k2
    obtain ⟨⟨v, rfl, rfl⟩, R2, o2⟩ := k2
    have L2 := L1.out.keep o2
    have c0 := L2.cell 0 (v := .string (bs [])) rfl
    have f0 := L2.free 0
    have L3 := Lib.hid (show Own w R L (csL t.w 0) 72 _ from L2.put 0 (.string (bs t.w)))
    have s3 := ((Only.refl (At L) w2).setCell (p := ⟨L, 0, none⟩) rfl (.string (bs t.w)))
    have O3 := Lib.hid ((O1.out.keep o2).other s3 (Ne.symm hOL) L2.new)
    have R3 := Lib.hid (L2.rdPut (k := 0) (.string (bs t.w)) R2)
    have HE2 := Lib.hid (HE.out.trans (by rw [hp, PR.bind_ok]))
    clear s3 L2 R2 o2 hp L1 O1 HR1 HE
    generalize t.w = tg at *
    go_wp2_with (go_at_call 75; refine (directives_any _).mono ?_; rintro e w8 ⟨da, dc, rfl, s8, o8⟩)
    refine (choose_any (R3.out.keep o8) s8 rfl (by decide) (by decide)).mono ?_
    rintro e w9 k9
    cases hp : ch dirs r1 with
    | bad r' =>
      rw [hp] at k9
      obtain ⟨⟨b, rfl, hc, hq⟩, o9⟩ := k9
      go_wp2
      refine ⟨rfl, ?_⟩
      rw [HQ.out, HE2.out, hp]
      exact RP.bad hc hq (O3.out.only.trans ((o8.nilTo _).trans o9))
    | ok d r2 =>
    rw [hp] at k9
    obtain ⟨⟨v, rfl, rfl⟩, R9, o9⟩ := k9
    have hd4 : d < 4 := ch_lt hp
    have hd' : (d : Int) < 4 := by omega
    obtain ⟨z, hz⟩ : ∃ z : Int, 1 + (d : Int) = z := ⟨_, rfl⟩
    have hze : (d : Int) + 1 = z := by omega
    have HE8 := Lib.hid (HE2.out.trans (by rw [hp, PR.bind_ok, hze]))
    have L9 := L3.out.keep ((o8.nilTo _).trans o9)
    have O9 := O3.out.keep ((o8.nilTo _).trans o9)
    have c1 := L9.cell 1 (v := .int .i64 0) rfl
    have f1 := L9.free 1
    have L10 := Lib.hid (show Own w R L (csL tg z) 72 _ from L9.put 1 (.int .i64 z))
    have s10 := ((Only.refl (At L) w9).setCell (p := ⟨L, 1, none⟩) rfl (.int .i64 z))
    have O10 := Lib.hid (O9.other s10 (Ne.symm hOL) L9.new)
    have R10 := Lib.hid (L9.rdPut (k := 1) (.int .i64 z) R9)
    clear s10 L9 O9 R9 o9 o8 s8 hp hze hd4
    go_wp2_with fail
    refine (pass_any R10.out w_semi (by decide)).mono ?_
    rintro e w11 k11
    cases hq : pass w_semi r2 with
    | bad r' =>
      rw [hq] at k11
      obtain ⟨⟨b, rfl, hc, hq1⟩, o11⟩ := k11
      go_wp2
      refine ⟨rfl, ?_⟩
      rw [HQ.out, HE8.out, hq]
      exact RP.bad hc hq1 (O10.out.only.trans o11)
    | ok u r3 =>
    rw [hq] at k11
    obtain ⟨⟨v, rfl, rfl⟩, R11, o11⟩ := k11
    have L11 := L10.out.keep o11
    have O11 := O10.out.keep o11
    have a0 := L11.cell 0 (v := .string (bs tg)) rfl
    have a1 := L11.cell 1 (v := .int .i64 z) rfl
    have b0 := O11.cell 0 (v := .string (bs [])) rfl
    have b1 := O11.cell 1 (v := .int .i64 0) rfl
    have g0 := O11.free 0
    have g1 := O11.free 1
    have X := Lib.hid (O11.set (csL tg z) rfl)
    have XR := Lib.hid (O11.rd 0 (csL tg z) R11)
    have HP := Lib.hid hq
    clear L11 O11 R11 o11 hq
    go_wp2
    refine bodyPost_ret (results_agg rfl _ _ O (csL tg z) Tryz.isAgg72 Tryz.sizeOf72 rfl X.out.heap) rfl ?_
    rw [HQ.out, HE8.out, HP.out]
    exact ⟨⟨_, rfl, rfl⟩, XR.out, X.out.only⟩
  · have HE := Lib.hid (show pCase T = _ by rw [pCase, hch, PR.bind_ok, if_neg (by decide)])
    clear hch hi
    have ez : ((1 : Nat) : Int) = 1 := rfl
    rw [ez]
    clear ez
    go_wp2_with (go_at_call 75; refine (directives_any _).mono ?_; rintro e w8 ⟨da, dc, rfl, s8, o8⟩)
    refine (choose_any (HR1.out.keep o8) s8 rfl (by decide) (by decide)).mono ?_
    rintro e w9 k9
    cases hp : ch dirs r with
    | bad r' =>
      rw [hp] at k9
      obtain ⟨⟨b, rfl, hc, hq⟩, o9⟩ := k9
      go_wp2
      refine ⟨rfl, ?_⟩
      rw [HQ.out, HE.out, hp]
      exact RP.bad hc hq (O1.out.only.trans ((o8.nilTo _).trans o9))
    | ok d r2 =>
    rw [hp] at k9
    obtain ⟨⟨v, rfl, rfl⟩, R9, o9⟩ := k9
    have hd4 : d < 4 := ch_lt hp
    have hd' : (d : Int) < 4 := by omega
    obtain ⟨z, hz⟩ : ∃ z : Int, 1 + (d : Int) = z := ⟨_, rfl⟩
    have hze : (d : Int) + 1 = z := by omega
    have HE8 := Lib.hid (HE.out.trans (by rw [hp, PR.bind_ok, hze]))
    have L9 := L1.out.keep ((o8.nilTo _).trans o9)
    have O9 := O1.out.keep ((o8.nilTo _).trans o9)
    have c1 := L9.cell 1 (v := .int .i64 0) rfl
    have f1 := L9.free 1
    have L10 := Lib.hid (show Own w R L (csL [] z) 72 _ from L9.put 1 (.int .i64 z))
    have s10 := ((Only.refl (At L) w9).setCell (p := ⟨L, 1, none⟩) rfl (.int .i64 z))
    have O10 := Lib.hid (O9.other s10 (Ne.symm hOL) L9.new)
    have R10 := Lib.hid (L9.rdPut (k := 1) (.int .i64 z) R9)
    clear s10 L9 O9 R9 o9 o8 s8 hp hze hd4
    go_wp2_with fail
    refine (pass_any R10.out w_semi (by decide)).mono ?_
    rintro e w11 k11
    cases hq : pass w_semi r2 with
    | bad r' =>
      rw [hq] at k11
      obtain ⟨⟨b, rfl, hc, hq1⟩, o11⟩ := k11
      go_wp2
      refine ⟨rfl, ?_⟩
      rw [HQ.out, HE8.out, hq]
      exact RP.bad hc hq1 (O10.out.only.trans o11)
    | ok u r3 =>
    rw [hq] at k11
    obtain ⟨⟨v, rfl, rfl⟩, R11, o11⟩ := k11
    have L11 := L10.out.keep o11
    have O11 := O10.out.keep o11
    have a0 := L11.cell 0 (v := .string (bs [])) rfl
    have a1 := L11.cell 1 (v := .int .i64 z) rfl
    have b0 := O11.cell 0 (v := .string (bs [])) rfl
    have b1 := O11.cell 1 (v := .int .i64 0) rfl
    have g0 := O11.free 0
    have g1 := O11.free 1
    have X := Lib.hid (O11.set (csL [] z) rfl)
    have XR := Lib.hid (O11.rd 0 (csL [] z) R11)
    have HP := Lib.hid hq
    clear L11 O11 R11 o11 hq
    go_wp2
    refine bodyPost_ret (results_agg rfl _ _ O (csL [] z) Tryz.isAgg72 Tryz.sizeOf72 rfl X.out.heap) rfl ?_
    rw [HQ.out, HE8.out, HP.out]
    exact ⟨⟨_, rfl, rfl⟩, XR.out, X.out.only⟩
end Go.Proofs.YtnkokonkbklelaaGreatDoor.Ps
