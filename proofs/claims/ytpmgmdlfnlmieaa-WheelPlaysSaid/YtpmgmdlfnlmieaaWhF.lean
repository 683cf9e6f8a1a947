/- wheel: find: its closure. -/
import Derived.Test.YtpmgmdlfnlmieaaWhE
import Derived.Deep.RegionWith
namespace Go.Proofs.Ytpmgmdlfnlmieaa.Wh
open Go.RowKit Go.Proofs.Ytpmgmdlfnlmieaa

/-- find's four variables, from block b on: the id, where, whom, and whether. -/
structure FV (w : World) (b id x0 x1 x2 y0 y1 y2 : Nat) (ok : Bool) : Prop where
  b0 : w.heap[b]? = some (.cells #[.int .u64 (id : Int)] 30 (0, 0))
  b1 : w.heap[b + 1]? = some (.cells #[.int .i64 (x0 : Int), .int .i64 (x1 : Int), .int .i64 (x2 : Int)] 65 (0, 0))
  b2 : w.heap[b + 2]? = some (.cells #[.int .u64 (y0 : Int), .int .i64 (y1 : Int), .int .i64 (y2 : Int)] 67 (0, 0))
  b3 : w.heap[b + 3]? = some (.cells #[.bool ok] 4 (0, 0))
theorem FV.keep {w w' : World} {b id x0 x1 x2 y0 y1 y2 : Nat} {ok : Bool} (h : FV w b id x0 x1 x2 y0 y1 y2 ok) (o : Only Nil w w') : FV w' b id x0 x1 x2 y0 y1 y2 ok :=
  ⟨(o.block _ (lt_of_block h.b0) (fun h => h.elim)).trans h.b0, (o.block _ (lt_of_block h.b1) (fun h => h.elim)).trans h.b1, (o.block _ (lt_of_block h.b2) (fun h => h.elim)).trans h.b2, (o.block _ (lt_of_block h.b3) (fun h => h.elim)).trans h.b3⟩

section
variable {w : World} {b id x0 x1 x2 y0 y1 y2 : Nat} {ok : Bool}
theorem FV.s10 (h : FV w b id x0 x1 x2 y0 y1 y2 ok) (v : Nat) : FV (w.setCell ⟨b + 1, 0, none⟩ (.int .i64 (v : Int))) b id v x1 x2 y0 y1 y2 ok :=
  ⟨by rw [Below.heap_setCell _ _ _ _ (by simp)]; exact h.b0, by rw [heap_setCell_self _ h.b1]; rfl, by rw [Below.heap_setCell _ _ _ _ (by simp)]; exact h.b2, by rw [Below.heap_setCell _ _ _ _ (by simp)]; exact h.b3⟩
theorem FV.s11 (h : FV w b id x0 x1 x2 y0 y1 y2 ok) (v : Nat) : FV (w.setCell ⟨b + 1, 1, none⟩ (.int .i64 (v : Int))) b id x0 v x2 y0 y1 y2 ok :=
  ⟨by rw [Below.heap_setCell _ _ _ _ (by simp)]; exact h.b0, by rw [heap_setCell_self _ h.b1]; rfl, by rw [Below.heap_setCell _ _ _ _ (by simp)]; exact h.b2, by rw [Below.heap_setCell _ _ _ _ (by simp)]; exact h.b3⟩
theorem FV.s12 (h : FV w b id x0 x1 x2 y0 y1 y2 ok) (v : Nat) : FV (w.setCell ⟨b + 1, 2, none⟩ (.int .i64 (v : Int))) b id x0 x1 v y0 y1 y2 ok :=
  ⟨by rw [Below.heap_setCell _ _ _ _ (by simp)]; exact h.b0, by rw [heap_setCell_self _ h.b1]; rfl, by rw [Below.heap_setCell _ _ _ _ (by simp)]; exact h.b2, by rw [Below.heap_setCell _ _ _ _ (by simp)]; exact h.b3⟩
theorem FV.s20 (h : FV w b id x0 x1 x2 y0 y1 y2 ok) (v : Nat) : FV (w.setCell ⟨b + 2, 0, none⟩ (.int .u64 (v : Int))) b id x0 x1 x2 v y1 y2 ok :=
  ⟨by rw [Below.heap_setCell _ _ _ _ (by simp)]; exact h.b0, by rw [Below.heap_setCell _ _ _ _ (by simp)]; exact h.b1, by rw [heap_setCell_self _ h.b2]; rfl, by rw [Below.heap_setCell _ _ _ _ (by simp)]; exact h.b3⟩
theorem FV.s21 (h : FV w b id x0 x1 x2 y0 y1 y2 ok) (v : Nat) : FV (w.setCell ⟨b + 2, 1, none⟩ (.int .i64 (v : Int))) b id x0 x1 x2 y0 v y2 ok :=
  ⟨by rw [Below.heap_setCell _ _ _ _ (by simp)]; exact h.b0, by rw [Below.heap_setCell _ _ _ _ (by simp)]; exact h.b1, by rw [heap_setCell_self _ h.b2]; rfl, by rw [Below.heap_setCell _ _ _ _ (by simp)]; exact h.b3⟩
theorem FV.s22 (h : FV w b id x0 x1 x2 y0 y1 y2 ok) (v : Nat) : FV (w.setCell ⟨b + 2, 2, none⟩ (.int .i64 (v : Int))) b id x0 x1 x2 y0 y1 v ok :=
  ⟨by rw [Below.heap_setCell _ _ _ _ (by simp)]; exact h.b0, by rw [Below.heap_setCell _ _ _ _ (by simp)]; exact h.b1, by rw [heap_setCell_self _ h.b2]; rfl, by rw [Below.heap_setCell _ _ _ _ (by simp)]; exact h.b3⟩
theorem FV.s30 (h : FV w b id x0 x1 x2 y0 y1 y2 ok) (v : Bool) : FV (w.setCell ⟨b + 3, 0, none⟩ (.bool v)) b id x0 x1 x2 y0 y1 y2 v :=
  ⟨by rw [Below.heap_setCell _ _ _ _ (by simp)]; exact h.b0, by rw [Below.heap_setCell _ _ _ _ (by simp)]; exact h.b1, by rw [Below.heap_setCell _ _ _ _ (by simp)]; exact h.b2, by rw [heap_setCell_self _ h.b3]; rfl⟩
theorem FV.only {S : Nat → Prop} {w0 : World} (o : Only S w0 w) (p q : Nat) (hp : S p) (v : Value) : Only S w0 (w.setCell ⟨p, q, none⟩ v) := o.setCell (p := ⟨p, q, none⟩) hp v
end

theorem find1_no {w : World} {b id x0 x1 x2 y0 y1 y2 : Nat} (h : FV w b id x0 x1 x2 y0 y1 y2 false) (k j i u0 u1 u2 : Nat) (hne : u0 ≠ id) :
    Calls Try.prog 39 #[.agg #[.int .i64 (k : Int), .int .i64 (j : Int), .int .i64 (i : Int)], .agg #[.int .u64 (u0 : Int), .int .i64 (u1 : Int), .int .i64 (u2 : Int)], .pointer (some ⟨b, 0, none⟩), .pointer (some ⟨b + 1, 0, none⟩), .pointer (some ⟨b + 2, 0, none⟩), .pointer (some ⟨b + 3, 0, none⟩)] w
      fun e w' => e = .returned (.bool true) ∧ Only Nil w w' := by
  have c0 := cell_of_heap h.b0
  have c3 := cell_of_heap h.b3
  have l0 := lt_of_block h.b0
  have l3 := lt_of_block h.b3
  have hne' : ((u0 : Int) == (id : Int)) = false := by rw [beq_eq_false_iff_ne]; omega
  clear h hne
  go_enter Try.func39, Try.ntmps39
  go_wp2
  go_ret
  exact ⟨rfl, ((Only.refl Nil w).alloc _).alloc _⟩

set_option maxHeartbeats 4000000 in
theorem find1_yes {w : World} {b id x0 x1 x2 y0 y1 y2 : Nat} (h : FV w b id x0 x1 x2 y0 y1 y2 false) (k j i u1 u2 : Nat) :
    Calls Try.prog 39 #[.agg #[.int .i64 (k : Int), .int .i64 (j : Int), .int .i64 (i : Int)], .agg #[.int .u64 (id : Int), .int .i64 (u1 : Int), .int .i64 (u2 : Int)], .pointer (some ⟨b, 0, none⟩), .pointer (some ⟨b + 1, 0, none⟩), .pointer (some ⟨b + 2, 0, none⟩), .pointer (some ⟨b + 3, 0, none⟩)] w
      fun e w' => e = .returned (.bool false) ∧ FV w' b id k j i id u1 u2 true ∧ Only (fun q => q = b + 1 ∨ q = b + 2 ∨ q = b + 3) w w' := by
  have c0 := cell_of_heap h.b0
  have l0 := lt_of_block h.b0
  have l1 := lt_of_block h.b1
  have l2 := lt_of_block h.b2
  have l3 := lt_of_block h.b3
  have f1 : ∀ o, w.frozen? ⟨b + 1, o, none⟩ = false := fun o => by simp [World.frozen?, h.b1]
  have f2 : ∀ o, w.frozen? ⟨b + 2, o, none⟩ = false := fun o => by simp [World.frozen?, h.b2]
  have f3 : ∀ o, w.frozen? ⟨b + 3, o, none⟩ = false := fun o => by simp [World.frozen?, h.b3]
  have f10 := f1 0
  have f11 := f1 1
  have f12 := f1 2
  have f20 := f2 0
  have f21 := f2 1
  have f22 := f2 2
  have f30 := f3 0
  have p0 : w.cell? ⟨b + 1, 0, none⟩ = some (.int .i64 (x0 : Int)) := by simp [World.cell?, h.b1]
  have p1 : w.cell? ⟨b + 1, 1, none⟩ = some (.int .i64 (x1 : Int)) := by simp [World.cell?, h.b1]
  have p2 : w.cell? ⟨b + 1, 2, none⟩ = some (.int .i64 (x2 : Int)) := by simp [World.cell?, h.b1]
  have q0 : w.cell? ⟨b + 2, 0, none⟩ = some (.int .u64 (y0 : Int)) := by simp [World.cell?, h.b2]
  have q1 : w.cell? ⟨b + 2, 1, none⟩ = some (.int .i64 (y1 : Int)) := by simp [World.cell?, h.b2]
  have q2 : w.cell? ⟨b + 2, 2, none⟩ = some (.int .i64 (y2 : Int)) := by simp [World.cell?, h.b2]
  have c3 := cell_of_heap h.b3
  have h' := Lib.hid h
  clear h f1 f2 f3
  go_enter Try.func39, Try.ntmps39
  go_wp2
  go_region_with fail
  all_goals
    go_wp2
    go_ret
    have o1 := Only.refl (fun q => q = b + 1 ∨ q = b + 2 ∨ q = b + 3) w
    exact ⟨rfl, (((((((((h'.out.s10 k).s11 j).s12 i).s20 id).s21 u1).s22 u2).s30 true).keep ((Only.refl Nil _).alloc _)).keep ((Only.refl Nil _).alloc _)).keep ((Only.refl Nil _).drew),
      ((((FV.only (FV.only (FV.only (FV.only (FV.only (FV.only (FV.only o1 _ _ (by simp) _) _ _ (by simp) _) _ _ (by simp) _) _ _ (by simp) _) _ _ (by simp) _) _ _ (by simp) _) _ _ (by simp) _).alloc _).alloc _).drew)⟩
end Go.Proofs.Ytpmgmdlfnlmieaa.Wh
