/- dead: a sink that a call has made; letters that came in; alive. -/
import Derived.Test.YtpkphmemeapdfaaDdF
namespace Go.Proofs.Ytpkphmemeapdfaa.Dd
open Go.RowKit Go.Proofs.Ytpkphmemeapdfaa Go.Maps

/-- World w holds, at hb, a sink of L that was made behind world w0; nothing that there was in w0 has turned. -/
def Mine (w0 w : World) (hb k : Nat) (L : List Lr) : Prop := ∃ (S : Nat → Prop) (mb : Nat) (D : DataW Unit) (v : Value), At w S hb mb k D v L ∧ (∀ q, S q → w0.heap.size ≤ q) ∧ Only Nil w0 w
/-- What is put behind L, and what Put answers. -/
def nx (L : List Lr) (t : Lr) : List Lr := if right t.why then L ++ [t] else L
def er (t : Lr) : Int := if right t.why then 0 else 1
theorem nx_le (L : List Lr) (t : Lr) : (nx L t).length ≤ L.length + 1 := by unfold nx; split <;> simp
theorem nx_len (L : List Lr) (t : Lr) : (nx L t).length = L.length + (if right t.why then 1 else 0) := by unfold nx; split <;> simp

section
variable {w0 w w' : World} {hb k : Nat} {L : List Lr}
theorem Mine.nil (h : Mine w0 w hb k L) (o : Only Nil w w') : Mine w0 w' hb k L := by
  obtain ⟨S, mb, D, v, h1, h2, h3⟩ := h
  exact ⟨S, mb, D, v, h1.nil o, h2, h3.trans o⟩
theorem Mine.only (h : Mine w0 w hb k L) : Only Nil w0 w := by obtain ⟨_, _, _, _, _, _, h⟩ := h; exact h
theorem Mine.few (h : Mine w0 w hb k L) : k ≤ 64 := by obtain ⟨_, _, _, _, h, _⟩ := h; exact h.few
theorem Mine.good (h : Mine w0 w hb k L) : ∀ t ∈ L, right t.why = true := by obtain ⟨_, _, _, _, h, _⟩ := h; exact h.dat.good
theorem mine_new (w0 w : World) (o : Only Nil w0 w) (r : Int) : Calls Try.prog 8 #[.int .i64 r] w fun e w' => e = .returned (.pointer (some ⟨w.heap.size + 1, 0, none⟩)) ∧ Mine w0 w' (w.heap.size + 1) (kn r) [] :=
  (new_any r w).mono fun e w' ⟨he, h, o'⟩ => ⟨he, _, _, _, _, h, fun q hq => by have := o.size; omega, o.trans o'⟩
theorem mine_put (h : Mine w0 w hb k L) (t : Lr) (few : L.length ≤ 65000) :
    Calls Try.prog 9 #[.pointer (some ⟨hb, 0, none⟩), .int .u64 t.id, .int .i64 t.dst, .int .i64 t.why] w fun e w' => e = .returned (.int .i64 (er t)) ∧ Mine w0 w' hb k (nx L t) := by
  unfold er nx
  cases hr : right t.why
  · refine (put_bad hb t.id t.dst t.why hr).mono ?_
    rintro e w' ⟨rfl, rfl⟩
    exact ⟨rfl, h⟩
  · obtain ⟨S, mb, D, v, h1, h2, h3⟩ := h
    refine (put_ok h1 t hr few).mono ?_
    rintro e w' ⟨rfl, D', v', h', o⟩
    exact ⟨rfl, Plus S w w', mb, D', v', h', fun q hq => by
      rcases hq with hq | hq
      · exact h2 q hq
      · have := h3.size; omega, h3.then o (fun q hq hlt => by have := h2 q hq; omega)⟩
theorem mine_count (h : Mine w0 w hb k L) (x : Int) (hx : (Lit.int .i64 x).wf = true) : Calls Try.prog 11 #[.pointer (some ⟨hb, 0, none⟩), .int .i64 x] w fun e w' => e = .returned (.int .i64 (cnt L x : Nat)) ∧ w = w' := by
  obtain ⟨S, mb, D, v, h1, h2, h3⟩ := h
  exact count_any h1 x hx
theorem mine_total (h : Mine w0 w hb k L) (hL : L.length ≤ 65000) : Calls Try.prog 16 #[.pointer (some ⟨hb, 0, none⟩)] w fun e w' => e = .returned (.int .i64 (L.length : Nat)) ∧ Mine w0 w' hb k L ∧ Only Nil w w' := by
  have h' := h
  obtain ⟨S, mb, D, v, h1, h2, h3⟩ := h
  exact (total_any h1 (by omega)).mono fun e w' ⟨he, o⟩ => ⟨he, h'.nil o, o⟩
theorem mine_recent (h : Mine w0 w hb k L) : Calls Try.prog 14 #[.pointer (some ⟨hb, 0, none⟩)] w fun e w' =>
    e = .returned (.slice (some ⟨w.heap.size, 0, none⟩) (kept k L).length (kept k L).length) ∧ w'.heap[w.heap.size]? = some (.cells (lrs (kept k L)).toArray 29 (0, 0)) ∧ Mine w0 w' hb k L ∧ Only Nil w w' := by
  have h' := h
  obtain ⟨S, mb, D, v, h1, h2, h3⟩ := h
  exact (recent_any h1).mono fun e w' ⟨he, hr, o⟩ => ⟨he, hr, h'.nil o, o⟩
end

/-- The slice at a, of the letters X. -/
def LIn (w : World) (a : Option Addr) (X : List Lr) : Prop :=
  ∀ i, i < X.length → ∃ b off, a = some ⟨b, off, none⟩ ∧ b < w.heap.size ∧ ∀ j, j < X.length →
    w.cell? ⟨b, off + j * 3, none⟩ = some (.int .u64 (X.getD j default).id) ∧ w.cell? ⟨b, off + j * 3 + 1, none⟩ = some (.int .i64 (X.getD j default).dst) ∧ w.cell? ⟨b, off + j * 3 + 2, none⟩ = some (.int .i64 (X.getD j default).why)
theorem LIn.keep {S : Nat → Prop} {w w' : World} {a : Option Addr} {X : List Lr} (h : LIn w a X) (o : Only S w w') (hS : ∀ q b, a = some b → S q → q ≠ b.block) : LIn w' a X := by
  intro i hi
  obtain ⟨g, off, ha, hlt, hc⟩ := h i hi
  have e := o.block g hlt (fun s => hS g _ ha s rfl)
  refine ⟨g, off, ha, Nat.lt_of_lt_of_le hlt o.size, fun j hj => ?_⟩
  obtain ⟨c1, c2, c3⟩ := hc j hj
  exact ⟨(World.cell?_of_block (a := ⟨g, off + j * 3, none⟩) e).trans c1, (World.cell?_of_block (a := ⟨g, off + j * 3 + 1, none⟩) e).trans c2, (World.cell?_of_block (a := ⟨g, off + j * 3 + 2, none⟩) e).trans c3⟩
theorem LIn.nil {w w' : World} {a : Option Addr} {X : List Lr} (h : LIn w a X) (o : Only Nil w w') : LIn w' a X := h.keep o (fun _ _ _ h => h.elim)

def l7 : Lr := ⟨7, 1, 1⟩
def l8 : Lr := ⟨8, 1, 2⟩
def l9 : Lr := ⟨9, 0, 1⟩
def l5 : Lr := ⟨5, 1, 6⟩

set_option maxRecDepth 100000 in
set_option maxHeartbeats 4000000 in
theorem alive_any (w : World) : Calls Try.prog 7 #[] w fun e w' => e = .returned (.bool true) ∧ Only Nil w w' := by
  have a0 := Lib.hid (show Calls Try.prog 8 #[.int .i64 2] w fun e w' => e = .returned (.pointer (some ⟨w.heap.size + 1, 0, none⟩)) ∧ Mine w w' (w.heap.size + 1) 2 [] from mine_new w w (Only.refl _ _) 2)
  have a1 := Lib.hid (fun (w1 : World) (h : Mine w w1 (w.heap.size + 1) 2 []) => show Calls Try.prog 9 #[.pointer (some ⟨w.heap.size + 1, 0, none⟩), .int .u64 7, .int .i64 1, .int .i64 1] w1 fun e w' => e = .returned (.int .i64 0) ∧ Mine w w' (w.heap.size + 1) 2 [l7] from mine_put h l7 (by decide))
  have a2 := Lib.hid (fun (w1 : World) (h : Mine w w1 (w.heap.size + 1) 2 [l7]) => show Calls Try.prog 9 #[.pointer (some ⟨w.heap.size + 1, 0, none⟩), .int .u64 8, .int .i64 1, .int .i64 2] w1 fun e w' => e = .returned (.int .i64 0) ∧ Mine w w' (w.heap.size + 1) 2 [l7, l8] from mine_put h l8 (by decide))
  have a3 := Lib.hid (fun (w1 : World) (h : Mine w w1 (w.heap.size + 1) 2 [l7, l8]) => show Calls Try.prog 9 #[.pointer (some ⟨w.heap.size + 1, 0, none⟩), .int .u64 9, .int .i64 0, .int .i64 1] w1 fun e w' => e = .returned (.int .i64 0) ∧ Mine w w' (w.heap.size + 1) 2 [l7, l8, l9] from mine_put h l9 (by decide))
  have a4 := Lib.hid (fun (w1 : World) (h : Mine w w1 (w.heap.size + 1) 2 [l7, l8, l9]) => show Calls Try.prog 9 #[.pointer (some ⟨w.heap.size + 1, 0, none⟩), .int .u64 5, .int .i64 1, .int .i64 6] w1 fun e w' => e = .returned (.int .i64 1) ∧ Mine w w' (w.heap.size + 1) 2 [l7, l8, l9] from mine_put h l5 (by decide))
  have a5 := Lib.hid (fun (w1 : World) (h : Mine w w1 (w.heap.size + 1) 2 [l7, l8, l9]) => show Calls Try.prog 14 #[.pointer (some ⟨w.heap.size + 1, 0, none⟩)] w1 fun e w' => e = .returned (.slice (some ⟨w1.heap.size, 0, none⟩) 2 2) ∧
    w'.heap[w1.heap.size]? = some (.cells #[.int .u64 8, .int .i64 1, .int .i64 2, .int .u64 9, .int .i64 0, .int .i64 1] 29 (0, 0)) ∧ Mine w w' (w.heap.size + 1) 2 [l7, l8, l9] ∧ Only Nil w1 w' from mine_recent h)
  have a6 := Lib.hid (fun (w1 : World) (h : Mine w w1 (w.heap.size + 1) 2 [l7, l8, l9]) => show Calls Try.prog 11 #[.pointer (some ⟨w.heap.size + 1, 0, none⟩), .int .i64 1] w1 fun e w' => e = .returned (.int .i64 2) ∧ w1 = w' from mine_count h 1 (by decide))
  have a7 := Lib.hid (fun (w1 : World) (h : Mine w w1 (w.heap.size + 1) 2 [l7, l8, l9]) => show Calls Try.prog 11 #[.pointer (some ⟨w.heap.size + 1, 0, none⟩), .int .i64 2] w1 fun e w' => e = .returned (.int .i64 1) ∧ w1 = w' from mine_count h 2 (by decide))
  have a8 := Lib.hid (fun (w1 : World) (h : Mine w w1 (w.heap.size + 1) 2 [l7, l8, l9]) => show Calls Try.prog 16 #[.pointer (some ⟨w.heap.size + 1, 0, none⟩)] w1 fun e w' => e = .returned (.int .i64 3) ∧ Mine w w' (w.heap.size + 1) 2 [l7, l8, l9] ∧ Only Nil w1 w' from mine_total h (by decide))
  generalize w.heap.size + 1 = B at *
  go_enter Try.func7, Try.ntmps7
  go_wp2_with (first
    | (go_at_call 8; (with_reducible refine a0.out.mono ?_); rintro e w1 ⟨rfl, h⟩; have k1 := Lib.hid h; clear h a0)
    | (go_at_call 9; (with_reducible refine (a1.out _ k1.out).mono ?_); rintro e w2 ⟨rfl, h⟩; have k2 := Lib.hid h; clear h a1)
    | (go_at_call 9; (with_reducible refine (a2.out _ k2.out).mono ?_); rintro e w3 ⟨rfl, h⟩; have k3 := Lib.hid h; clear h a2)
    | (go_at_call 9; (with_reducible refine (a3.out _ k3.out).mono ?_); rintro e w4 ⟨rfl, h⟩; have k4 := Lib.hid h; clear h a3)
    | (go_at_call 9; (with_reducible refine (a4.out _ k4.out).mono ?_); rintro e w5 ⟨rfl, h⟩; have k5 := Lib.hid h; clear h a4)
    | (go_at_call 14; (with_reducible refine (a5.out _ k5.out).mono ?_); rintro e w6 ⟨rfl, h6, h, o6⟩; have k6 := Lib.hid h; have r6 := Lib.hid h6; clear h h6 a5)
    | (go_at_call 11; (with_reducible refine (a6.out _ k6.out).mono ?_); rintro e w' ⟨rfl, rfl⟩)
    | (go_at_call 11; (with_reducible refine (a7.out _ k6.out).mono ?_); rintro e w' ⟨rfl, rfl⟩)
    | (go_at_call 16; (with_reducible refine (a8.out _ k6.out).mono ?_); rintro e w7 ⟨rfl, h, o7⟩; have k7 := Lib.hid h; have r7 := (o7.block _ (lt_of_block r6.out) (fun h => h)).trans r6.out; generalize w5.heap.size = R at *; have z0 : w7.cell? ⟨R, 0, none⟩ = some (.int .u64 8) := (by simp [World.cell?, r7]); have z3 : w7.cell? ⟨R, 3, none⟩ = some (.int .u64 9) := (by simp [World.cell?, r7]); have z4 : w7.cell? ⟨R, 4, none⟩ = some (.int .i64 0) := (by simp [World.cell?, r7]); clear h r7 o7))
  go_ret
  exact ⟨rfl, k7.out.only⟩
end Go.Proofs.Ytpkphmemeapdfaa.Dd
