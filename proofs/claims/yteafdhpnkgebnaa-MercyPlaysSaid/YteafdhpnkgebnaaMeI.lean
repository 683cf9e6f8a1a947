/- mercy: the document's examples. -/
import Derived.Test.YteafdhpnkgebnaaMeH
set_option linter.unusedSimpArgs false
set_option linter.unusedVariables false
namespace Go.Proofs.Yteafdhpnkgebnaa.Me
open Go.RowKit Go.Proofs.Yteafdhpnkgebnaa

def e0 : Int → List Int := fun _ => []
def e1 : Int → List Int := asked 2 10 e0 7 1
def e2 : Int → List Int := asked 2 10 e1 7 5
def e3 : Int → List Int := asked 2 10 e2 7 10
def e4 : Int → List Int := asked 2 10 e3 7 11
def boom : Wd := [98, 111, 111, 109]
def exC : List Cs := [⟨boom, 2⟩, ⟨[], 4⟩]
/-- The two blocks from B on. -/
def Two (B q : Nat) : Prop := q = B ∨ q = B + 1
/-- They hold the example's kind. -/
structure Ex (w : World) (B : Nat) : Prop where
  r : w.heap[B]? = some (.cells #[.string ⟨#[98, 111, 111, 109]⟩, .int .i64 2, .string ⟨#[]⟩, .int .i64 4] 50 (0, 0))
  k : w.heap[B + 1]? = some (.cells #[.string ⟨#[]⟩, .int .i64 0, .int .i64 0, .slice (some ⟨B, 0, none⟩) 2 2, .slice none 0 0] 41 (0, 0))
theorem Ex.keep {w w' w0 : World} {B : Nat} (h : Ex w B) (o : Only (Free w0 (Two B)) w w') : Ex w' B :=
  ⟨(o.block _ (lt_of_block h.r) (fun h => h.2 (.inl rfl))).trans h.r, (o.block _ (lt_of_block h.k) (fun h => h.2 (.inr rfl))).trans h.k⟩
theorem Ex.cain {w : World} {B : Nat} (h : Ex w B) : CaIn w (some ⟨B, 0, none⟩) exC := by
  intro j hj
  have hb := lt_of_block h.r
  match j, hj with
  | 0, _ => exact ⟨B, 0, rfl, hb, by simp [World.cell?, h.r, exC, boom, bs], by simp [World.cell?, h.r, exC, boom, bs]⟩
  | 1, _ => exact ⟨B, 0, rfl, hb, by simp [World.cell?, h.r, exC, boom, bs], by simp [World.cell?, h.r, exC, boom, bs]⟩
theorem Ex.cells {w : World} {B : Nat} (h : Ex w B) : w.cell? ⟨B + 1, 0, none⟩ = some (.string ⟨#[]⟩) ∧ w.cell? ⟨B + 1, 1, none⟩ = some (.int .i64 0) ∧ w.cell? ⟨B + 1, 2, none⟩ = some (.int .i64 0) ∧ w.cell? ⟨B + 1, 3, none⟩ = some (.slice (some ⟨B, 0, none⟩) 2 2) ∧ w.cell? ⟨B + 1, 4, none⟩ = some (.slice none 0 0) := by
  simp [World.cell?, h.k]

set_option maxRecDepth 100000 in
set_option maxHeartbeats 4000000 in
theorem alive_any (w : World) : Calls Try.prog 8 #[] w fun e w' => e = .returned (.bool true) ∧ Only Nil w w' := by
  have a0 := Lib.hid (show Calls Try.prog 9 #[.int .i64 2, .int .i64 10] w fun e w' => e = .returned (.pointer (some ⟨w.heap.size + 1, 0, none⟩)) ∧ St w Nil w' (w.heap.size + 1) 2 0 10 e0 ∧ Only Nil w w' from st_new w w Nil (fun q h => h.elim) (Only.refl _ _) 2 10)
  have hw7 : (Lit.int .i64 7).wf = true := by decide
  have hw8 : (Lit.int .i64 8).wf = true := by decide
  generalize hH : w.heap.size + 1 = H at *
  clear hH
  have a1 := Lib.hid (fun (w1 : World) (B : Nat) (h : St w (Two B) w1 H 2 0 10 e0) => show Calls Try.prog 14 #[.pointer (some ⟨H, 0, none⟩), .int .i64 7, .int .i64 1] w1 fun e w' => e = .returned (.bool true) ∧ St w (Two B) w' H 2 1 10 e1 ∧ Only (Free w (Two B)) w1 w' from st_ask h (by decide) 7 hw7 1)
  have a2 := Lib.hid (fun (w1 : World) (B : Nat) (h : St w (Two B) w1 H 2 1 10 e1) => show Calls Try.prog 14 #[.pointer (some ⟨H, 0, none⟩), .int .i64 7, .int .i64 5] w1 fun e w' => e = .returned (.bool true) ∧ St w (Two B) w' H 2 2 10 e2 ∧ Only (Free w (Two B)) w1 w' from st_ask h (by decide) 7 hw7 5)
  have a3 := Lib.hid (fun (w1 : World) (B : Nat) (h : St w (Two B) w1 H 2 2 10 e2) => show Calls Try.prog 14 #[.pointer (some ⟨H, 0, none⟩), .int .i64 7, .int .i64 10] w1 fun e w' => e = .returned (.bool false) ∧ St w (Two B) w' H 2 3 10 e3 ∧ Only (Free w (Two B)) w1 w' from st_ask h (by decide) 7 hw7 10)
  have a4 := Lib.hid (fun (w1 : World) (B : Nat) (h : St w (Two B) w1 H 2 3 10 e3) => show Calls Try.prog 11 #[.pointer (some ⟨H, 0, none⟩), .int .i64 7, .int .i64 11] w1 fun e w' => e = .returned (.int .i64 1) ∧ St w (Two B) w' H 2 3 10 e3 ∧ Only (Free w (Two B)) w1 w' from st_left h 7 hw7 11)
  have a5 := Lib.hid (fun (w1 : World) (B : Nat) (h : St w (Two B) w1 H 2 3 10 e3) => show Calls Try.prog 14 #[.pointer (some ⟨H, 0, none⟩), .int .i64 7, .int .i64 11] w1 fun e w' => e = .returned (.bool true) ∧ St w (Two B) w' H 2 4 10 e4 ∧ Only (Free w (Two B)) w1 w' from st_ask h (by decide) 7 hw7 11)
  have a6 := Lib.hid (fun (w1 : World) (B : Nat) (h : St w (Two B) w1 H 2 4 10 e4) => show Calls Try.prog 11 #[.pointer (some ⟨H, 0, none⟩), .int .i64 8, .int .i64 11] w1 fun e w' => e = .returned (.int .i64 2) ∧ St w (Two B) w' H 2 4 10 e4 ∧ Only (Free w (Two B)) w1 w' from st_left h 8 hw8 11)
  have d1 := Lib.hid (fun (w1 : World) (B : Nat) (h : Ex w1 B) => show Calls Try.prog 16 #[.agg #[.string ⟨#[]⟩, .int .i64 0, .int .i64 0, .slice (some ⟨B, 0, none⟩) 2 2, .slice none 0 0], .string ⟨#[98, 111, 111, 109]⟩] w1 fun e w' => e = .returned (.int .i64 2) ∧ Only Nil w1 w' from dir_any h.cain rfl (by decide) boom _ _ _ _)
  have d2 := Lib.hid (fun (w1 : World) (B : Nat) (h : Ex w1 B) => show Calls Try.prog 16 #[.agg #[.string ⟨#[]⟩, .int .i64 0, .int .i64 0, .slice (some ⟨B, 0, none⟩) 2 2, .slice none 0 0], .string ⟨#[120]⟩] w1 fun e w' => e = .returned (.int .i64 4) ∧ Only Nil w1 w' from dir_any h.cain rfl (by decide) [120] _ _ _ _)
  have d3 := Lib.hid (fun (w1 : World) => show Calls Try.prog 16 #[.agg #[.string ⟨#[]⟩, .int .i64 0, .int .i64 0, .slice none 0 0, .slice none 0 0], .string ⟨#[120]⟩] w1 fun e w' => e = .returned (.int .i64 3) ∧ Only Nil w1 w' from dir_any (L := []) (fun j hj => absurd hj (Nat.not_lt_zero _)) rfl (by decide) [120] _ _ _ _)
  go_enter Try.func8, Try.ntmps8
  go_upto_region 4 with (go_at_call 9; (with_reducible refine a0.out.mono ?_); rintro e w1 ⟨rfl, h, o1⟩; have k1 := Lib.hid h; have p1 := Lib.hid o1; clear h o1 a0)
  obtain ⟨W, hW⟩ : ∃ W, W = (w1.alloc (.cells #[.string ⟨#[98, 111, 111, 109]⟩, .int .i64 2, .string ⟨#[]⟩, .int .i64 4] 50)).alloc (.cells #[.string ⟨#[]⟩, .int .i64 0, .int .i64 0, .slice (some ⟨w1.heap.size, 0, none⟩) 2 2, .slice none 0 0] 41) := ⟨_, rfl⟩
  have oW : Only Nil w1 W := by rw [hW]; exact ((Only.refl Nil w1).alloc _).alloc _
  have sW : W.heap.size = w1.heap.size + 2 := by rw [hW]; simp
  have x0 : Hid (Ex W w1.heap.size) := by
    refine Lib.hid ⟨?_, ?_⟩
    · rw [hW, Below.heap_alloc _ _ _ (by simp)]; exact heap_new _ _
    · rw [hW]
      have := heap_new (w1.alloc (.cells #[.string ⟨#[98, 111, 111, 109]⟩, .int .i64 2, .string ⟨#[]⟩, .int .i64 4] 50)) (.cells #[.string ⟨#[]⟩, .int .i64 0, .int .i64 0, .slice (some ⟨w1.heap.size, 0, none⟩) 2 2, .slice none 0 0] 41)
      rw [show (w1.alloc (.cells #[.string ⟨#[98, 111, 111, 109]⟩, .int .i64 2, .string ⟨#[]⟩, .int .i64 4] 50)).heap.size = w1.heap.size + 1 by simp] at this
      exact this
  have q1 := Lib.hid (show St w (Two w1.heap.size) W H 2 0 10 e0 from k1.out.re oW (fun q h => h.elim) (fun q h => h.elim) (fun q hq => by unfold Two at hq; omega))
  clear k1 oW sW
  go_upto_region 5 with (fail)
  rw [← hW]
  clear hW
  generalize w1.heap.size = B at *
  go_wp2_with (first
    | (go_at_call 14; (with_reducible refine (a1.out _ _ q1.out).mono ?_); rintro e w2 ⟨rfl, h, o⟩; have k2 := Lib.hid h; have x1 := Lib.hid (x0.out.keep o); clear h o a1)
    | (go_at_call 14; (with_reducible refine (a2.out _ _ k2.out).mono ?_); rintro e w3 ⟨rfl, h, o⟩; have k3 := Lib.hid h; have x2 := Lib.hid (x1.out.keep o); clear h o a2)
    | (go_at_call 14; (with_reducible refine (a3.out _ _ k3.out).mono ?_); rintro e w4 ⟨rfl, h, o⟩; have k4 := Lib.hid h; have x3 := Lib.hid (x2.out.keep o); clear h o a3)
    | (go_at_call 11; (with_reducible refine (a4.out _ _ k4.out).mono ?_); rintro e w5 ⟨rfl, h, o⟩; have k5 := Lib.hid h; have x4 := Lib.hid (x3.out.keep o); clear h o a4)
    | (go_at_call 14; (with_reducible refine (a5.out _ _ k5.out).mono ?_); rintro e w6 ⟨rfl, h, o⟩; have k6 := Lib.hid h; have x5 := Lib.hid (x4.out.keep o); clear h o a5)
    | (go_at_call 11; (with_reducible refine (a6.out _ _ k6.out).mono ?_); rintro e w7 ⟨rfl, h, o⟩; have k7 := Lib.hid h; have x6 := Lib.hid (x5.out.keep o); obtain ⟨z0, z1, z2, z3, z4⟩ := x6.out.cells; clear h o a6)
    | (go_at_call 16; (with_reducible refine (d1.out _ _ x6.out).mono ?_); rintro e w8 ⟨rfl, o⟩; have x7 := Lib.hid (x6.out.keep (w0 := w) (o.nilTo _)); have p8 := Lib.hid o; clear o; obtain ⟨y0, y1, y2, y3, y4⟩ := x7.out.cells; clear d1)
    | (go_at_call 16; (with_reducible refine (d2.out _ _ x7.out).mono ?_); rintro e w9 ⟨rfl, o⟩; have p9 := Lib.hid o; clear o d2)
    | (go_at_call 16; (with_reducible refine (d3.out _).mono ?_); rintro e w10 ⟨rfl, o⟩; have p10 := Lib.hid o; clear o d3))
  go_ret
  exact ⟨rfl, ((k7.out.only.trans p8.out).trans p9.out).trans p10.out⟩
end Go.Proofs.Yteafdhpnkgebnaa.Me
