/- lex: rows of tokens, each with its place; lex.All. -/
import Derived.Test.YtbicanlipgpioaaGreatDoorLxG
import Derived.Lib.AppendZerosOnto
namespace Go.Proofs.YtbicanlipgpioaaGreatDoor.Lx
open Go.RowKit Go.Proofs.YtbicanlipgpioaaGreatDoor Go.Shelf

/-- A token as cells. -/
def pl (x : Tok × Nat) : List Value := [.int .i64 x.1.k, .string (bs x.1.w), .int .i64 x.1.n, .int .i64 x.2]
def pls (L : List (Tok × Nat)) : List Value := L.flatMap pl
theorem pls_cons (t : Tok × Nat) (L : List (Tok × Nat)) : pls (t :: L) = .int .i64 t.1.k :: .string (bs t.1.w) :: .int .i64 t.1.n :: .int .i64 t.2 :: pls L := rfl
theorem pls_length (L : List (Tok × Nat)) : (pls L).length = L.length * 4 := by
  induction L with
  | nil => rfl
  | cons t L ih => rw [pls_cons]; simp [ih]; omega
theorem pls_append (L M : List (Tok × Nat)) : pls (L ++ M) = pls L ++ pls M := by simp [pls]
theorem pls_one (t : Tok × Nat) : pls [t] = pl t := by simp [pls]
theorem pl_oneCell (t : Tok × Nat) : ∀ v ∈ pl t, v.oneCell' = true := by intro v hv; simp [pl] at hv; rcases hv with rfl | rfl | rfl | rfl <;> rfl
theorem pls_get : ∀ (L : List (Tok × Nat)) (j : Nat), j < L.length → (pls L)[j * 4]? = some (.int .i64 (L.getD j default).1.k) ∧ (pls L)[j * 4 + 1]? = some (.string (bs (L.getD j default).1.w)) ∧
    (pls L)[j * 4 + 2]? = some (.int .i64 (L.getD j default).1.n) ∧ (pls L)[j * 4 + 3]? = some (.int .i64 (L.getD j default).2) := by
  intro L
  induction L with
  | nil => intro j hj; simp at hj
  | cons t L ih =>
    intro j hj
    cases j with
    | zero => rw [pls_cons]; simp
    | succ j =>
      obtain ⟨a, b, c, d⟩ := ih j (by simp at hj; omega)
      have e : (j + 1) * 4 = j * 4 + 4 := by omega
      rw [pls_cons, e]
      refine ⟨?_, ?_, ?_, ?_⟩
      · simpa using a
      · simpa [Nat.add_right_comm] using b
      · simpa [Nat.add_right_comm] using c
      · simpa [Nat.add_right_comm] using d

/-- The slice at a, of the tokens X. -/
def RIn (w : World) (a : Option Addr) (X : List (Tok × Nat)) : Prop :=
  ∀ i, i < X.length → ∃ b, a = some ⟨b, 0, none⟩ ∧ b < w.heap.size ∧ ∀ j, j < X.length →
    w.cell? ⟨b, j * 4, none⟩ = some (.int .i64 (X.getD j default).1.k) ∧ w.cell? ⟨b, j * 4 + 1, none⟩ = some (.string (bs (X.getD j default).1.w)) ∧
    w.cell? ⟨b, j * 4 + 2, none⟩ = some (.int .i64 (X.getD j default).1.n) ∧ w.cell? ⟨b, j * 4 + 3, none⟩ = some (.int .i64 (X.getD j default).2)
theorem RIn.keep {w w' : World} {a : Option Addr} {X : List (Tok × Nat)} (h : RIn w a X) (o : Only Nil w w') : RIn w' a X := by
  intro i hi
  obtain ⟨g, ha, hlt, hc⟩ := h i hi
  refine ⟨g, ha, Nat.lt_of_lt_of_le hlt o.size, fun j hj => ?_⟩
  obtain ⟨c1, c2, c3, c4⟩ := hc j hj
  exact ⟨only_cell o c1, only_cell o c2, only_cell o c3, only_cell o c4⟩
theorem own_rin {w : World} {base : Nat} {a : Option Addr} {n c : Nat} {X : List (Tok × Nat)} (h : w.ownsRow base 36 4 (.slice a n c) n (pls X)) : RIn w a X := by
  have hl : X.length = n := by have := h.1; rw [pls_length] at this; omega
  subst hl
  intro i hi
  rcases h.2 with ⟨_, h0⟩ | ⟨g, c', cur, hv, _, hg, _⟩
  · omega
  · simp only [Value.slice.injEq] at hv
    obtain ⟨rfl, _, rfl⟩ := hv
    refine ⟨g, rfl, lt_of_block hg, fun j hj => ?_⟩
    have e := pls_get X j hj
    exact ⟨by rw [h.cellAt _ (by omega)]; exact e.1, by rw [h.cellAt _ (by omega)]; exact e.2.1, by rw [h.cellAt _ (by omega)]; exact e.2.2.1, by rw [h.cellAt _ (by omega)]; exact e.2.2.2⟩

theorem Tryz.infoPl : (Tryz.prog.info? 36).map (fun i => (i.zero, i.size, i.bytes)) = some (some (.agg #[.int .i64 0, .string ⟨#[]⟩, .int .i64 0, .int .i64 0]), 4, 40) := by kernel_rfl

/-- In world w' there is a new row v' of the tokens X; nothing that there was in w has turned. -/
structure Rs (w w' : World) (v' : Value) (X : List (Tok × Nat)) : Prop where
  row : w'.ownsRow 0 36 4 v' X.length (pls X)
  fr : ∀ g, v'.ownBlock = some g → w.heap.size ≤ g
  only : Only Nil w w'
theorem rs_none {w w' : World} (o : Only Nil w w') : Rs w w' (.slice none 0 0) [] :=
  ⟨⟨rfl, .inl ⟨rfl, rfl⟩⟩, fun g h => by simp [Value.ownBlock] at h, o⟩
theorem Rs.more {w w' w'' : World} {v' : Value} {X : List (Tok × Nat)} (h : Rs w w' v' X) (o : Only Nil w' w'') : Rs w w'' v' X := ⟨own_keep h.row o (fun _ _ h => h), h.fr, h.only.trans o⟩
theorem Rs.rin {w w' : World} {a : Option Addr} {n c : Nat} {X : List (Tok × Nat)} (h : Rs w w' (.slice a n c) X) (hn : X.length = n) : RIn w' a X := by
  subst hn; exact own_rin h.row
/-- What turned is new. -/
theorem Rs.push {w0 w : World} {a : Option Addr} {c n : Nat} {X : List (Tok × Nat)} (h : Rs w0 w (.slice a n c) X) (hn : X.length = n) (m : Tok × Nat) (few : n ≤ 65000) (cs : Array Value) (hcs : cs = #[.int .i64 m.1.k, .string (bs m.1.w), .int .i64 m.1.n, .int .i64 m.2]) :
    ∃ a' c' w5, (Builtin.append_ #[23, 23] 23 #[.slice a n c, .slice (some ⟨w.heap.size, 0, none⟩) 1 1]).run Tryz.prog (w.alloc (.cells cs 36)) = .ok (.slice a' (n + 1) c') w5 ∧
      Hid (Rs w0 w5 (.slice a' (n + 1) c') (X ++ [m])) ∧ ∀ g, g < w.heap.size → (Value.slice a n c).ownBlock ≠ some g → w5.heap[g]? = w.heap[g]? := by
  subst hcs
  subst hn
  have oA : Only Nil w (w.alloc (.cells #[.int .i64 m.1.k, .string (bs m.1.w), .int .i64 m.1.n, .int .i64 m.2] 36)) := (Only.refl Nil w).alloc _
  obtain ⟨a', c', w5, hr, ho, hon, hsn⟩ := run_append_end (P := Tryz.prog) (w := w.alloc (.cells #[.int .i64 m.1.k, .string (bs m.1.w), .int .i64 m.1.n, .int .i64 m.2] 36)) (t := 23) (ty := 23) (e := 36) (size := 4) (bytes := 40) Tryz.underlying23 Tryz.infoPl rfl (own_keep h.row oA (fun _ _ h => h)) ⟨w.heap.size, 0, none⟩ [.int .i64 m.1.k, .string (bs m.1.w), .int .i64 m.1.n, .int .i64 m.2] rfl (pl_oneCell m)
    (fun j u hj => by
      rw [add_lit0, cell_of_row _ w.heap.size _ _ _ _ (heap_new w (.cells #[.int .i64 m.1.k, .string (bs m.1.w), .int .i64 m.1.n, .int .i64 m.2] 36)), Nat.zero_add]
      simpa using hj) (by omega) (by decide)
  have hrow : ∀ q, RowOf a q → some q = (Value.slice a X.length c).ownBlock := by rintro q ⟨x, rfl, rfl⟩; rfl
  refine ⟨a', c', w5, hr, Lib.hid ⟨?_, fun g hg => ?_, ?_⟩, fun g hg hne => (hon.block g (Nat.lt_of_lt_of_le hg oA.size) (fun q => hne (hrow g q).symm)).trans (oA.block g hg (fun q => q.elim))⟩
  · rw [List.length_append, pls_append, pls_one]
    exact ho
  · cases a' with
    | none => simp [Value.ownBlock] at hg
    | some x =>
      have hg' : x.block = g := by simpa [Value.ownBlock] using hg
      have hs := h.only.size
      have hs2 := oA.size
      rcases hsn x rfl with ⟨y, hy, e⟩ | e
      · have h1 := h.fr y.block (by rw [hy]; rfl)
        omega
      · omega
  · refine (h.only.trans oA).then hon (fun q hq hlt => ?_)
    have h1 := h.fr q (hrow q hq).symm
    omega
theorem Rs.old {w0 w : World} {v : Value} {X : List (Tok × Nat)} (h : Rs w0 w v X) {g : Nat} (hg : v.ownBlock = some g) : g < w.heap.size := by
  rcases h.row.2 with ⟨rfl, _⟩ | ⟨b, c, cur, rfl, _, hb, _⟩
  · simp [Value.ownBlock] at hg
  · have : b = g := by simpa [Value.ownBlock] using hg
    subst this
    exact lt_of_block hb
end Go.Proofs.YtbicanlipgpioaaGreatDoor.Lx
