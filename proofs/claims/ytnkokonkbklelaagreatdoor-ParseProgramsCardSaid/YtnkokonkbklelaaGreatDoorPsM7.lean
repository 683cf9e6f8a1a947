/- parse: programs in memory, as one reads them. -/
import Derived.Test.YtnkokonkbklelaaGreatDoorPsM6
import Derived.Laws.StructEq
set_option linter.unusedVariables false
namespace Go.Proofs.YtnkokonkbklelaaGreatDoor.Ps
open Go.RowKit Go.Proofs.YtnkokonkbklelaaGreatDoor Lx

/-- v is a slice of n elements of s cells each, cs in all, within its capacity; its block lies below D. -/
def CIn (D : Nat) (w : World) (v : Value) (n s : Nat) (cs : List Value) : Prop :=
  ∃ a c, (v = .slice a n c ∧ n ≤ c) ∧ cs.length = n * s ∧ ∀ i, i < cs.length → ∃ b off, a = some ⟨b, off, none⟩ ∧ b < D ∧ b < w.heap.size ∧ ∀ j, j < cs.length → w.cell? ⟨b, off + j, none⟩ = cs[j]?
theorem CIn.keep {D : Nat} {S : Nat → Prop} {w w' : World} {v : Value} {n s : Nat} {cs : List Value} (h : CIn D w v n s cs) (o : Only S w w') (hS : ∀ b, b < D → ¬ S b) : CIn D w' v n s cs := by
  obtain ⟨a, c, h1, h2, h3⟩ := h
  refine ⟨a, c, h1, h2, fun i hi => ?_⟩
  obtain ⟨b, off, ha, hD, hlt, hc⟩ := h3 i hi
  refine ⟨b, off, ha, hD, Nat.lt_of_lt_of_le hlt o.size, fun j hj => ?_⟩
  have e : cs[j]? = some cs[j] := by simp [hj]
  rw [e]
  exact only_cellS o (hS b hD) ((hc j hj).trans e)
theorem CIn.mono {D D' : Nat} {w : World} {v : Value} {n s : Nat} {cs : List Value} (h : CIn D w v n s cs) (hD : D ≤ D') : CIn D' w v n s cs := by
  obtain ⟨a, c, h1, h2, h3⟩ := h
  refine ⟨a, c, h1, h2, fun i hi => ?_⟩
  obtain ⟨b, off, ha, hb, hlt, hc⟩ := h3 i hi
  exact ⟨b, off, ha, by omega, hlt, hc⟩
theorem CIn.slice {D : Nat} {w : World} {v : Value} {n s : Nat} {cs : List Value} (h : CIn D w v n s cs) : ∃ a c, v = .slice a n c := by
  obtain ⟨a, c, h1, _⟩ := h; exact ⟨a, c, h1.1⟩
theorem CIn.cap {D : Nat} {w : World} {a : Option Addr} {c n m s : Nat} {cs : List Value} (h : CIn D w (.slice a m c) n s cs) : m ≤ c := by
  obtain ⟨a', c', ⟨h1, h2⟩, _⟩ := h
  simp only [Value.slice.injEq] at h1
  omega
def XE (D : Nat) (w : World) (v : Value) (E : List Eff) : Prop := CIn D w v E.length 7 (E.flatMap effC)
def XR (D : Nat) (w : World) (v : Value) (L : List Rw) : Prop := ∃ Z : List (Rw × Value), Z.map Prod.fst = L ∧ CIn D w v L.length 4 (Z.flatMap rowCs) ∧ ∀ x ∈ Z, XE D w x.2 x.1.effs
def XS (D : Nat) (w : World) (v : Value) (L : List Sta) : Prop := ∃ Z : List (Sta × Value), Z.map Prod.fst = L ∧ CIn D w v L.length 2 (Z.flatMap staCs) ∧ ∀ x ∈ Z, XR D w x.2 x.1.rows
def XC (D : Nat) (w : World) (v : Value) (L : List Cs) : Prop := CIn D w v L.length 2 (L.flatMap csC)
def XK (D : Nat) (w : World) (v : Value) (L : List Kd) : Prop := ∃ Z : List (Kd × Value × Value), Z.map Prod.fst = L ∧ CIn D w v L.length 5 (Z.flatMap kdCs) ∧ ∀ x ∈ Z, XC D w x.2.1 x.1.cases ∧ XS D w x.2.2 x.1.states
section
variable {D D' : Nat} {S : Nat → Prop} {w w' : World} {v : Value}
theorem XE.keep {L : List Eff} (h : XE D w v L) (o : Only S w w') (hS : ∀ b, b < D → ¬ S b) : XE D w' v L := CIn.keep h o hS
theorem XR.keep {L : List Rw} (h : XR D w v L) (o : Only S w w') (hS : ∀ b, b < D → ¬ S b) : XR D w' v L := by
  obtain ⟨Z, hz, hc, hi⟩ := h; exact ⟨Z, hz, hc.keep o hS, fun x hx => (hi x hx).keep o hS⟩
theorem XS.keep {L : List Sta} (h : XS D w v L) (o : Only S w w') (hS : ∀ b, b < D → ¬ S b) : XS D w' v L := by
  obtain ⟨Z, hz, hc, hi⟩ := h; exact ⟨Z, hz, hc.keep o hS, fun x hx => (hi x hx).keep o hS⟩
theorem XC.keep {L : List Cs} (h : XC D w v L) (o : Only S w w') (hS : ∀ b, b < D → ¬ S b) : XC D w' v L := CIn.keep h o hS
theorem XK.keep {L : List Kd} (h : XK D w v L) (o : Only S w w') (hS : ∀ b, b < D → ¬ S b) : XK D w' v L := by
  obtain ⟨Z, hz, hc, hi⟩ := h; exact ⟨Z, hz, hc.keep o hS, fun x hx => ⟨(hi x hx).1.keep o hS, (hi x hx).2.keep o hS⟩⟩
theorem XE.mono {L : List Eff} (h : XE D w v L) (hD : D ≤ D') : XE D' w v L := CIn.mono h hD
theorem XR.mono {L : List Rw} (h : XR D w v L) (hD : D ≤ D') : XR D' w v L := by
  obtain ⟨Z, hz, hc, hi⟩ := h; exact ⟨Z, hz, hc.mono hD, fun x hx => (hi x hx).mono hD⟩
theorem XS.mono {L : List Sta} (h : XS D w v L) (hD : D ≤ D') : XS D' w v L := by
  obtain ⟨Z, hz, hc, hi⟩ := h; exact ⟨Z, hz, hc.mono hD, fun x hx => (hi x hx).mono hD⟩
theorem XC.mono {L : List Cs} (h : XC D w v L) (hD : D ≤ D') : XC D' w v L := CIn.mono h hD
theorem XK.mono {L : List Kd} (h : XK D w v L) (hD : D ≤ D') : XK D' w v L := by
  obtain ⟨Z, hz, hc, hi⟩ := h; exact ⟨Z, hz, hc.mono hD, fun x hx => ⟨(hi x hx).1.mono hD, (hi x hx).2.mono hD⟩⟩
end
theorem nilS (b D : Nat) : b < D → ¬ Nil b := fun _ q => q.elim
/-- Rows of one's own, as one reads them. -/
theorem own_cin {w : World} {lo s n : Nat} {e : TypeId} {v : Value} {xs : List Value} (h : w.ownsRow lo e s v n xs) : CIn w.heap.size w v n s xs := by
  obtain ⟨a, c, rfl⟩ := own_slice_n h
  refine ⟨a, c, ⟨rfl, ?_⟩, h.1, fun i hi => ?_⟩
  · rcases h.2 with ⟨h1, h2⟩ | ⟨g, c', cur, h1, _, _, h4, _⟩
    · omega
    · simp only [Value.slice.injEq] at h1; omega
  rcases h.2 with ⟨_, h0⟩ | ⟨g, c', cur, hv, _, hg, _, _, _, ht⟩
  · have := h.1; rw [h0, Nat.zero_mul] at this; omega
  · simp only [Value.slice.injEq] at hv
    obtain ⟨rfl, _, _⟩ := hv
    refine ⟨g, 0, rfl, lt_of_block hg, lt_of_block hg, fun j hj => ?_⟩
    rw [Nat.zero_add, cell_of_row w g j _ _ _ hg]
    have h1 := h.1
    have : xs[j]? = (cur.toList.take (n * s))[j]? := by rw [ht]
    rw [this, List.getElem?_take, if_pos (by omega)]
    simp
theorem MEff.x {w : World} {v : Value} {E : List Eff} (h : MEff w v E) : XE w.heap.size w v E := own_cin h
theorem MRows.x {w : World} {v : Value} {E : List Rw} (h : MRows w v E) : XR w.heap.size w v E := by
  obtain ⟨Z, hz, ho, hi⟩ := h; exact ⟨Z, hz, own_cin ho, fun x hx => (hi x hx).x⟩
theorem MStas.x {w : World} {v : Value} {E : List Sta} (h : MStas w v E) : XS w.heap.size w v E := by
  obtain ⟨Z, hz, ho, hi⟩ := h; exact ⟨Z, hz, own_cin ho, fun x hx => (hi x hx).x⟩
theorem MCs.x {w : World} {v : Value} {E : List Cs} (h : MCs w v E) : XC w.heap.size w v E := own_cin h
theorem MKds.x {w : World} {v : Value} {E : List Kd} (h : MKds w v E) : XK w.heap.size w v E := by
  obtain ⟨Z, hz, ho, hi⟩ := h; exact ⟨Z, hz, own_cin ho, fun x hx => ⟨(hi x hx).1.x, (hi x hx).2.x⟩⟩

/-! ### One element -/
theorem flat_get {α : Type} (f : α → List Value) (s : Nat) (hf : ∀ x, (f x).length = s) (L : List α) (j k : Nat) (hj : j < L.length) (hk : k < s) : (L.flatMap f)[j * s + k]? = (f L[j])[k]? := by
  induction L generalizing j with
  | nil => simp at hj
  | cons x L ih =>
    rw [List.flatMap_cons]
    cases j with
    | zero => rw [Nat.zero_mul, Nat.zero_add, List.getElem?_append_left (by rw [hf]; exact hk)]; rfl
    | succ j =>
      rw [List.getElem?_append_right (by rw [hf, Nat.add_mul]; omega), hf]
      have e : (j + 1) * s + k - s = j * s + k := by rw [Nat.add_mul]; omega
      rw [e, ih j (by simpa using hj)]
      rfl
/-- The cells of element j of a slice. -/
def Ats (w : World) (a : Option Addr) (s j : Nat) (cs : List Value) : Prop := ∃ b off, a = some ⟨b, off, none⟩ ∧ b < w.heap.size ∧ ∀ k, k < s → w.cell? ⟨b, off + j * s + k, none⟩ = cs[k]?
theorem CIn.at_ {α : Type} {D : Nat} {w : World} {a : Option Addr} {n s c : Nat} {f : α → List Value} {Z : List α} (hf : ∀ x, (f x).length = s) (hs : 0 < s) (h : CIn D w (.slice a n c) n s (Z.flatMap f)) (hZ : Z.length = n) (j : Nat) (hj : j < n) : Ats w a s j (f (Z[j]'(by omega))) := by
  obtain ⟨a', c', ⟨h1, _⟩, h2, h3⟩ := h
  simp only [Value.slice.injEq] at h1
  obtain ⟨rfl, _, rfl⟩ := h1
  have hlt : j * s + s ≤ n * s := by rw [← Nat.succ_mul]; exact Nat.mul_le_mul_right _ hj
  obtain ⟨b, off, ha, _, hb, hc⟩ := h3 (j * s) (by omega)
  refine ⟨b, off, ha, hb, fun k hk => ?_⟩
  rw [Nat.add_assoc, hc (j * s + k) (by omega), flat_get f s hf Z j k (by omega) hk]
theorem list_ext {α : Type} {L M : List α} (hl : L.length = M.length) (h : ∀ j (h1 : j < L.length) (h2 : j < M.length), L[j] = M[j]) : L = M := List.ext_getElem hl h
theorem XE.at_ {D : Nat} {w : World} {a : Option Addr} {n c : Nat} {L : List Eff} (h : XE D w (.slice a n c) L) (hn : L.length = n) (j : Nat) (hj : j < n) : Ats w a 7 j (effC (L[j]'(by omega))) := by
  subst hn; exact CIn.at_ (f := effC) (s := 7) (fun _ => rfl) (by decide) h rfl j hj
theorem XC.at_ {D : Nat} {w : World} {a : Option Addr} {n c : Nat} {L : List Cs} (h : XC D w (.slice a n c) L) (hn : L.length = n) (j : Nat) (hj : j < n) : Ats w a 2 j (csC (L[j]'(by omega))) := by
  subst hn; exact CIn.at_ (f := csC) (s := 2) (fun _ => rfl) (by decide) h rfl j hj
theorem XR.at_ {D : Nat} {w : World} {a : Option Addr} {n c : Nat} {L : List Rw} (h : XR D w (.slice a n c) L) (hn : L.length = n) (j : Nat) (hj : j < n) : ∃ sl, Ats w a 4 j (rowCs (L[j]'(by omega), sl)) ∧ XE D w sl (L[j]'(by omega)).effs := by
  obtain ⟨Z, hz, hc, hi⟩ := h
  subst hz
  rw [List.length_map] at hn hc
  rw [hn] at hc
  have := CIn.at_ (f := rowCs) (s := 4) (fun _ => rfl) (by decide) hc hn j hj
  refine ⟨(Z[j]'(by omega)).2, ?_, ?_⟩
  · simpa using this
  · simpa using hi _ (List.getElem_mem (by omega : j < Z.length))
theorem XS.at_ {D : Nat} {w : World} {a : Option Addr} {n c : Nat} {L : List Sta} (h : XS D w (.slice a n c) L) (hn : L.length = n) (j : Nat) (hj : j < n) : ∃ sl, Ats w a 2 j (staCs (L[j]'(by omega), sl)) ∧ XR D w sl (L[j]'(by omega)).rows := by
  obtain ⟨Z, hz, hc, hi⟩ := h
  subst hz
  rw [List.length_map] at hn hc
  rw [hn] at hc
  have := CIn.at_ (f := staCs) (s := 2) (fun _ => rfl) (by decide) hc hn j hj
  refine ⟨(Z[j]'(by omega)).2, ?_, ?_⟩
  · simpa using this
  · simpa using hi _ (List.getElem_mem (by omega : j < Z.length))
theorem XK.at_ {D : Nat} {w : World} {a : Option Addr} {n c : Nat} {L : List Kd} (h : XK D w (.slice a n c) L) (hn : L.length = n) (j : Nat) (hj : j < n) : ∃ s1 s2, Ats w a 5 j (kdCs (L[j]'(by omega), s1, s2)) ∧ XC D w s1 (L[j]'(by omega)).cases ∧ XS D w s2 (L[j]'(by omega)).states := by
  obtain ⟨Z, hz, hc, hi⟩ := h
  subst hz
  rw [List.length_map] at hn hc
  rw [hn] at hc
  have := CIn.at_ (f := kdCs) (s := 5) (fun _ => rfl) (by decide) hc hn j hj
  refine ⟨(Z[j]'(by omega)).2.1, (Z[j]'(by omega)).2.2, ?_, ?_⟩
  · simpa using this
  · simpa using hi _ (List.getElem_mem (by omega : j < Z.length))
theorem XE.slice {D : Nat} {w : World} {v : Value} {L : List Eff} (h : XE D w v L) : ∃ a c, v = .slice a L.length c := CIn.slice h
theorem XC.slice {D : Nat} {w : World} {v : Value} {L : List Cs} (h : XC D w v L) : ∃ a c, v = .slice a L.length c := CIn.slice h
theorem XR.slice {D : Nat} {w : World} {v : Value} {L : List Rw} (h : XR D w v L) : ∃ a c, v = .slice a L.length c := by obtain ⟨_, _, h, _⟩ := h; exact CIn.slice h
theorem XS.slice {D : Nat} {w : World} {v : Value} {L : List Sta} (h : XS D w v L) : ∃ a c, v = .slice a L.length c := by obtain ⟨_, _, h, _⟩ := h; exact CIn.slice h
theorem XK.slice {D : Nat} {w : World} {v : Value} {L : List Kd} (h : XK D w v L) : ∃ a c, v = .slice a L.length c := by obtain ⟨_, _, h, _⟩ := h; exact CIn.slice h
end Go.Proofs.YtnkokonkbklelaaGreatDoor.Ps

/- parse: structs compared; slices.Equal. -/
set_option linter.unusedVariables false
namespace Go.Proofs.YtnkokonkbklelaaGreatDoor.Ps
open Go.RowKit Go.Proofs.YtnkokonkbklelaaGreatDoor Lx

theorem bs_beq (a b : Wd) : ((bs a).toList == (bs b).toList) = decide (a = b) := by
  rw [toList_bs, toList_bs]; exact Bool.eq_iff_iff.2 (by simp)
def smR (x : Rw) : Prop := x.effs.length ≤ 65000
def smS (x : Sta) : Prop := x.rows.length ≤ 65000 ∧ ∀ r ∈ x.rows, smR r
def smK (x : Kd) : Prop := x.cases.length ≤ 65000 ∧ x.states.length ≤ 65000 ∧ ∀ s ∈ x.states, smS s
/-- A program of lists that are not too long. -/
def smP (P : List Kd) : Prop := P.length ≤ 65000 ∧ ∀ k ∈ P, smK k
theorem neq_cs (e f : Cs) (w : World) : (binOp .neq 72 (.agg #[.string (bs e.reason), .int .i64 e.act]) (.agg #[.string (bs f.reason), .int .i64 f.act])).run Tryz.prog w = .ok (.bool (!decide (e = f))) w := by
  have hp : Tryz.prog.stoodInHeld 72 = false := by kernel_rfl
  have hu := Tryz.underlying72
  have h9 := Tryz.underlying9
  have h3 := Tryz.underlying3
  rw [run_neq_struct]
  simp [go_sem, hp, hu, h9, h3]
  obtain ⟨a, b⟩ := e
  obtain ⟨c, d⟩ := f
  simp only [toList_bs, Cs.mk.injEq]
  (repeat' split) <;> simp_all
theorem neq_eff (e f : Eff) (w : World) : (binOp .neq 50 (.agg #[.int .i64 e.act, .string (bs e.ref), .string (bs e.slot), .string (bs e.name), .int .i64 e.val, .int .i64 e.n, .int .i64 e.delay]) (.agg #[.int .i64 f.act, .string (bs f.ref), .string (bs f.slot), .string (bs f.name), .int .i64 f.val, .int .i64 f.n, .int .i64 f.delay])).run Tryz.prog w = .ok (.bool (!decide (e = f))) w := by
  have hp : Tryz.prog.stoodInHeld 50 = false := by kernel_rfl
  have hu := Tryz.underlying50
  have h9 := Tryz.underlying9
  have h3 := Tryz.underlying3
  rw [run_neq_struct]
  simp [go_sem, hp, hu, h9, h3]
  obtain ⟨a, b, c, d, e, f, g⟩ := e
  rename_i f0
  obtain ⟨a', b', c', d', e', f', g'⟩ := f0
  simp only [toList_bs, Eff.mk.injEq]
  (repeat' split) <;> simp_all
theorem guard_cs (x y : Operand) (xs ys : Array Value) (w : World) : (eqGuard .neq 72 x y (.agg xs) (.agg ys)).run Tryz.prog w = .ok () w := run_eqGuard_agg w _ _ _ _ _ _ (by kernel_rfl)
theorem guard_eff (x y : Operand) (xs ys : Array Value) (w : World) : (eqGuard .neq 50 x y (.agg xs) (.agg ys)).run Tryz.prog w = .ok () w := run_eqGuard_agg w _ _ _ _ _ _ (by kernel_rfl)
theorem eq_upto {α : Type} {L M : List α} {n : Nat} (hl : L.length = n) (hm : M.length = n) (h : ∀ j, j < n → L[j]? = M[j]?) : L = M := by
  refine List.ext_getElem? fun j => ?_
  rcases Nat.lt_or_ge j n with hj | hj
  · exact h j hj
  · rw [List.getElem?_eq_none (by omega), List.getElem?_eq_none (by omega)]


end Go.Proofs.YtnkokonkbklelaaGreatDoor.Ps
