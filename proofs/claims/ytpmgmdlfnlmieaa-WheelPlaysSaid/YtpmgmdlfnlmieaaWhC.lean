/- wheel: worlds that hold a wheel; New, Now. -/
import Derived.Test.YtpmgmdlfnlmieaaWhB
namespace Go.Proofs.Ytpmgmdlfnlmieaa.Wh
open Go.RowKit Go.Proofs.Ytpmgmdlfnlmieaa

/-- A timer's three cells. -/
def tm (t : Tm) : List Value := [.int .u64 (t.id : Int), .int .i64 (t.due : Int), .int .i64 (t.num : Int)]
def tms (L : List Tm) : List Value := L.flatMap tm
theorem tms_length (L : List Tm) : (tms L).length = L.length * 3 := by
  induction L with
  | nil => rfl
  | cons t L ih =>
    have e : tms (t :: L) = tm t ++ tms L := rfl
    rw [e, List.length_append, ih]
    simp [tm]; omega
theorem tms_append (L M : List Tm) : tms (L ++ M) = tms L ++ tms M := by simp [tms]
theorem tms_one (t : Tm) : tms [t] = tm t := by simp [tms]
theorem tm_oneCell (t : Tm) : ∀ v ∈ tm t, v.oneCell' = true := by intro v hv; simp [tm] at hv; rcases hv with rfl | rfl | rfl <;> rfl
theorem tms_oneCell (L : List Tm) : ∀ v ∈ tms L, v.oneCell' = true := by
  intro v hv
  simp only [tms, List.mem_flatMap] at hv
  obtain ⟨t, _, h⟩ := hv
  exact tm_oneCell t v h
theorem tms_get : ∀ (L : List Tm) (j : Nat), j < L.length → (tms L)[j * 3]? = some (.int .u64 ((L.getD j default).id : Int)) ∧ (tms L)[j * 3 + 1]? = some (.int .i64 ((L.getD j default).due : Int)) ∧ (tms L)[j * 3 + 2]? = some (.int .i64 ((L.getD j default).num : Int)) := by
  intro L
  induction L with
  | nil => intro j hj; simp at hj
  | cons t L ih =>
    intro j hj
    have e : tms (t :: L) = .int .u64 (t.id : Int) :: .int .i64 (t.due : Int) :: .int .i64 (t.num : Int) :: tms L := rfl
    cases j with
    | zero => rw [e]; simp
    | succ j =>
      have := ih j (by simpa using hj)
      have e1 : (j + 1) * 3 = j * 3 + 1 + 1 + 1 := by omega
      have e2 : (j + 1) * 3 + 1 = j * 3 + 1 + 1 + 1 + 1 := by omega
      have e3 : (j + 1) * 3 + 2 = j * 3 + 2 + 1 + 1 + 1 := by omega
      rw [e, e2, e3, e1]
      simpa using this

/-- The cells of a wheel: now, how many were added, the slots. -/
def hcell (now added : Nat) (V : Nat → Value) : Nat → Value
  | 0 => .int .i64 (now : Int)
  | 1 => .int .i64 (added : Int)
  | j + 2 => V j

/-- World w holds, at block hb, a wheel: V are its slots' values, F what lies in them; all blocks of it are of S. -/
structure At (w : World) (S : Nat → Prop) (hb now added : Nat) (V : Nat → Value) (F : Nat → List Tm) : Prop where
  head : w.heap[hb]? = some (.cells (rowC 34 (hcell now added V)) 62 (0, 0))
  row : ∀ n, n < 32 → w.ownsRow 0 67 3 (V n) (F n).length (tms (F n))
  apart : ∀ n m g, n < 32 → m < 32 → (V n).ownBlock = some g → (V m).ownBlock = some g → n = m
  own : ∀ n g, n < 32 → (V n).ownBlock = some g → S g ∧ g ≠ hb
  hS : S hb
  lt : ∀ k, S k → k < w.heap.size

section
variable {w w' : World} {S T : Nat → Prop} {hb now added : Nat} {V : Nat → Value} {F : Nat → List Tm}
theorem At.keep (h : At w S hb now added V F) (o : Only T w w') (hT : ∀ k, S k → ¬ T k) : At w' S hb now added V F :=
  ⟨(o.block hb (h.lt _ h.hS) (hT _ h.hS)).trans h.head, fun n hn => own_keep (h.row n hn) o (fun k hk => hT k (h.own n k hn hk.symm).1), h.apart, h.own, h.hS, fun k hk => Nat.lt_of_lt_of_le (h.lt k hk) o.size⟩
theorem At.nil (h : At w S hb now added V F) (o : Only Nil w w') : At w' S hb now added V F := h.keep o (fun _ _ h => h.elim)
theorem At.drewN (h : At w S hb now added V F) (q : Nat) : At (w.drewN q) S hb now added V F := h.nil ((Only.refl Nil w).drewN q)
theorem At.alloc (h : At w S hb now added V F) (o : Obj) : At (w.alloc o) S hb now added V F := h.nil ((Only.refl Nil w).alloc o)
theorem At.c0 (h : At w S hb now added V F) : w.cell? ⟨hb, 0, none⟩ = some (.int .i64 (now : Int)) := row_cell h.head 0 (by decide)
theorem At.c1 (h : At w S hb now added V F) : w.cell? ⟨hb, 1, none⟩ = some (.int .i64 (added : Int)) := row_cell h.head 1 (by decide)
theorem At.cs (h : At w S hb now added V F) (n : Nat) (hn : n < 32) : w.cell? ⟨hb, n + 2, none⟩ = some (V n) := row_cell h.head (n + 2) (by omega)
theorem At.fz (h : At w S hb now added V F) (i : Nat) : w.frozen? ⟨hb, i, none⟩ = false := row_frozen h.head i
theorem At.lt_hb (h : At w S hb now added V F) : hb < w.heap.size := h.lt _ h.hS
end

/-- The slice at a, of the timers X: where there is one, it leads to a row of cells that hold them. -/
def TIn (w : World) (a : Option Addr) (X : List Tm) : Prop :=
  ∀ i, i < X.length → ∃ g, a = some ⟨g, 0, none⟩ ∧ g < w.heap.size ∧ ∀ j, j < X.length →
    w.cell? ⟨g, j * 3, none⟩ = some (.int .u64 ((X.getD j default).id : Int)) ∧ w.cell? ⟨g, j * 3 + 1, none⟩ = some (.int .i64 ((X.getD j default).due : Int)) ∧ w.cell? ⟨g, j * 3 + 2, none⟩ = some (.int .i64 ((X.getD j default).num : Int))
theorem own_tin {w : World} {base : Nat} {a : Option Addr} {n c : Nat} {X : List Tm} (h : w.ownsRow base 67 3 (.slice a n c) n (tms X)) : TIn w a X := by
  have hl : X.length = n := by have := h.1; rw [tms_length] at this; omega
  subst hl
  intro i hi
  rcases h.2 with ⟨_, h0⟩ | ⟨g, c', cur, hv, _, hg, _⟩
  · omega
  · simp only [Value.slice.injEq] at hv
    obtain ⟨rfl, _, rfl⟩ := hv
    refine ⟨g, rfl, lt_of_block hg, fun j hj => ?_⟩
    have e := tms_get X j hj
    exact ⟨by rw [h.cellAt _ (by omega)]; exact e.1, by rw [h.cellAt _ (by omega)]; exact e.2.1, by rw [h.cellAt _ (by omega)]; exact e.2.2⟩
theorem TIn.keep {S : Nat → Prop} {w w' : World} {a : Option Addr} {X : List Tm} (h : TIn w a X) (o : Only S w w') (hS : ∀ k b, a = some b → S k → k ≠ b.block) : TIn w' a X := by
  intro i hi
  obtain ⟨g, ha, hlt, hc⟩ := h i hi
  have e := o.block g hlt (fun s => hS g _ ha s rfl)
  refine ⟨g, ha, Nat.lt_of_lt_of_le hlt o.size, fun j hj => ?_⟩
  obtain ⟨c1, c2, c3⟩ := hc j hj
  exact ⟨(World.cell?_of_block (a := ⟨g, j * 3, none⟩) e).trans c1, (World.cell?_of_block (a := ⟨g, j * 3 + 1, none⟩) e).trans c2, (World.cell?_of_block (a := ⟨g, j * 3 + 2, none⟩) e).trans c3⟩

/-- S, and what is new between w and w'. -/
def Plus (S : Nat → Prop) (w w' : World) (k : Nat) : Prop := S k ∨ (w.heap.size ≤ k ∧ k < w'.heap.size)

theorem new_any (w : World) : Calls Try.prog 10 #[] w fun e w' =>
    e = .returned (.pointer (some ⟨w.heap.size, 0, none⟩)) ∧ At w' (fun k => k = w.heap.size) w.heap.size 0 0 (fun _ => .slice none 0 0) (fun _ => []) ∧ Only Nil w w' := by
  go_enter Try.func10, Try.ntmps10
  go_wp2
  go_ret
  refine ⟨rfl, ⟨?_, fun n hn => World.ownsRow_nil _ _ _ _, fun n m g _ _ h => by simp [Value.ownBlock] at h, fun n g _ h => by simp [Value.ownBlock] at h, rfl, fun k hk => by subst hk; simp⟩, (Only.refl Nil w).alloc _⟩
  rw [heap_new]
  first | rfl | kernel_rfl

theorem now_any {w : World} {S : Nat → Prop} {hb now added : Nat} {V : Nat → Value} {F : Nat → List Tm} (h : At w S hb now added V F) :
    Calls Try.prog 19 #[.pointer (some ⟨hb, 0, none⟩)] w fun e w' => e = .returned (.int .i64 (now : Int)) ∧ w = w' := by
  have c0 := h.c0
  clear h
  go_enter Try.func19, Try.ntmps19
  go_wp2
  go_ret
  exact ⟨rfl, rfl⟩
end Go.Proofs.Ytpmgmdlfnlmieaa.Wh
