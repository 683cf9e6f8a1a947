/- ledger: a ledger that a call has made; the laws' call; alive. -/
import Derived.Test.YtlhdecjpjpnlhaaLgF
namespace Go.Proofs.Ytlhdecjpjpnlhaa.Lg
open Go.RowKit Go.Proofs.Ytlhdecjpjpnlhaa Go.Maps

/-- World w holds, at hb, a ledger of L that was made behind world w0; nothing that there was in w0 has turned. -/
def Mine (w0 w : World) (hb : Nat) (L : List Ms) : Prop := ∃ S : Nat → Prop, At w S hb L ∧ (∀ q, S q → w0.heap.size ≤ q) ∧ Only Nil w0 w

/-- An operation of a script. -/
structure Op where
  k : Int
  id : Int
  wh : Int
  k0 : 0 ≤ k ∧ k < 256
  ok : (Lit.int .u64 id).wf = true
instance : Inhabited Op := ⟨⟨0, 0, 0, by decide, rfl⟩⟩
/-- Which call it is. -/
def Op.m (o : Op) (n : Nat) : Nat := o.k.toNat % n
def clE (L : List Ms) (o : Op) : Int := if o.m 4 = 0 then acE L o.id o.wh else if o.m 4 = 1 then mvE L o.id o.wh else enE L o.id
def clL (L : List Ms) (o : Op) : List Ms := if o.m 4 = 0 then acL L o.id o.ok o.wh else if o.m 4 = 1 then mvL L o.id o.wh else if o.m 4 = 2 then enL L o.id 7 else enL L o.id 8

theorem acL_le (L : List Ms) (x : Int) (ok : (Lit.int .u64 x).wf = true) (p : Int) : (acL L x ok p).length ≤ L.length + 1 := by unfold acL; split <;> simp
theorem mvL_len (L : List Ms) (x p : Int) : (mvL L x p).length = L.length := by unfold mvL; split <;> simp [setW]
theorem enL_len (L : List Ms) (x p : Int) : (enL L x p).length = L.length := by unfold enL; split <;> simp [setW]
theorem clL_le (L : List Ms) (o : Op) : (clL L o).length ≤ L.length + 1 := by
  unfold clL
  split
  · exact acL_le _ _ _ _
  · split
    · rw [mvL_len]; omega
    · split <;> (rw [enL_len]; omega)

section
variable {w0 w w' : World} {hb : Nat} {L : List Ms}
theorem Mine.nil (h : Mine w0 w hb L) (o : Only Nil w w') : Mine w0 w' hb L := by
  obtain ⟨S, h1, h2, h3⟩ := h
  exact ⟨S, h1.nil o, h2, h3.trans o⟩
theorem Mine.only (h : Mine w0 w hb L) : Only Nil w0 w := by obtain ⟨_, _, _, h⟩ := h; exact h
theorem Mine.good (h : Mine w0 w hb L) : Good L := by obtain ⟨_, h, _⟩ := h; exact h.good
theorem Mine.put (h : Mine w0 w hb L) {L' : List Ms} (hp : ∀ S, At w S hb L → At w' S hb L' ∧ Only S w w') : Mine w0 w' hb L' := by
  obtain ⟨S, h1, h2, h3⟩ := h
  obtain ⟨h4, o⟩ := hp S h1
  exact ⟨S, h4, h2, h3.then o (fun q hq hlt => by have := h2 q hq; omega)⟩
theorem mine_new (w0 w : World) (o : Only Nil w0 w) : Calls Try.prog 8 #[] w fun e w' => e = .returned (.pointer (some ⟨w.heap.size + 2, 0, none⟩)) ∧ Mine w0 w' (w.heap.size + 2) [] :=
  (new_any w).mono fun e w' ⟨he, h, o'⟩ => ⟨he, _, h, fun q hq => by have := o.size; omega, o.trans o'⟩
theorem mine_accept (h : Mine w0 w hb L) (x p : Int) (hx : (Lit.int .u64 x).wf = true) (few : L.length ≤ 65000) :
    Calls Try.prog 18 #[.pointer (some ⟨hb, 0, none⟩), .int .u64 x, .int .i64 p] w fun e w' => e = .returned (.int .i64 (acE L x p)) ∧ Mine w0 w' hb (acL L x hx p) := by
  obtain ⟨S, h1, h2, h3⟩ := h
  exact (accept_any h1 x p hx few).mono fun e w' ⟨he, h4, o⟩ => ⟨he, S, h4, h2, h3.then o (fun q hq hlt => by have := h2 q hq; omega)⟩
theorem mine_move (h : Mine w0 w hb L) (x p : Int) (hx : (Lit.int .u64 x).wf = true) (few : L.length ≤ 65000) :
    Calls Try.prog 19 #[.pointer (some ⟨hb, 0, none⟩), .int .u64 x, .int .i64 p] w fun e w' => e = .returned (.int .i64 (mvE L x p)) ∧ Mine w0 w' hb (mvL L x p) := by
  obtain ⟨S, h1, h2, h3⟩ := h
  exact (move_any h1 x p hx few).mono fun e w' ⟨he, h4, o⟩ => ⟨he, S, h4, h2, h3.then o (fun q hq hlt => by have := h2 q hq; omega)⟩
theorem mine_start (h : Mine w0 w hb L) (x : Int) (hx : (Lit.int .u64 x).wf = true) (few : L.length ≤ 65000) :
    Calls Try.prog 20 #[.pointer (some ⟨hb, 0, none⟩), .int .u64 x] w fun e w' => e = .returned (.int .i64 (enE L x)) ∧ Mine w0 w' hb (enL L x 7) := by
  obtain ⟨S, h1, h2, h3⟩ := h
  exact (start_any h1 x hx few).mono fun e w' ⟨he, h4, o⟩ => ⟨he, S, h4, h2, h3.then o (fun q hq hlt => by have := h2 q hq; omega)⟩
theorem mine_kill (h : Mine w0 w hb L) (x : Int) (hx : (Lit.int .u64 x).wf = true) (few : L.length ≤ 65000) :
    Calls Try.prog 21 #[.pointer (some ⟨hb, 0, none⟩), .int .u64 x] w fun e w' => e = .returned (.int .i64 (enE L x)) ∧ Mine w0 w' hb (enL L x 8) := by
  obtain ⟨S, h1, h2, h3⟩ := h
  exact (kill_any h1 x hx few).mono fun e w' ⟨he, h4, o⟩ => ⟨he, S, h4, h2, h3.then o (fun q hq hlt => by have := h2 q hq; omega)⟩
theorem mine_where (h : Mine w0 w hb L) (x : Int) (hx : (Lit.int .u64 x).wf = true) :
    Calls Try.prog 10 #[.pointer (some ⟨hb, 0, none⟩), .int .u64 x] w fun e w' => e = .returned (.int .i64 (whOf L x)) ∧ w = w' := by
  obtain ⟨S, h1, h2, h3⟩ := h
  exact where_any h1 x hx
theorem mine_count (h : Mine w0 w hb L) (p : Nat) (h1 : 1 ≤ p) (h8 : p ≤ 8) :
    Calls Try.prog 12 #[.pointer (some ⟨hb, 0, none⟩), .int .i64 (p : Int)] w fun e w' => e = .returned (.int .i64 (cnt L p : Nat)) ∧ w = w' := by
  obtain ⟨S, h2, _, _⟩ := h
  exact count_any h2 p h1 h8
theorem mine_held (h : Mine w0 w hb L) (few : L.length ≤ 65000) : Calls Try.prog 15 #[.pointer (some ⟨hb, 0, none⟩)] w fun e w' =>
    e = .returned (.slice (some ⟨w.heap.size + 1, 0, none⟩) (hl L).length (hl L).length) ∧ PIn w' (w.heap.size + 1) (hl L) ∧ Mine w0 w' hb L ∧ Only Nil w w' := by
  have h' := h
  obtain ⟨S, h1, h2, h3⟩ := h
  exact (held_any h1 few).mono fun e w' ⟨he, hp, o⟩ => ⟨he, hp, h'.nil o, o⟩
end

set_option maxRecDepth 100000 in
theorem call_at {w : World} {S : Nat → Prop} {hb : Nat} {L : List Ms} (h : At w S hb L) (o : Op) (few : L.length ≤ 65000) :
    Calls Try.prog 17 #[.pointer (some ⟨hb, 0, none⟩), .agg #[.int .u8 o.k, .int .u64 o.id, .int .i64 o.wh]] w fun e w' => e = .returned (.int .i64 (clE L o)) ∧ At w' S hb (clL L o) ∧ Only S w w' := by
  unfold clE clL
  have oW : Only Nil w (w.alloc (.cells #[.int .u8 o.k, .int .u64 o.id, .int .i64 o.wh] 31)) := (Only.refl Nil w).alloc _
  have hW := h.nil oW
  have oS := Lib.hid (oW.nilTo S)
  have a0 := Lib.hid (accept_any hW o.id o.wh o.ok few)
  have a1 := Lib.hid (move_any hW o.id o.wh o.ok few)
  have a2 := Lib.hid (start_any hW o.id o.ok few)
  have a3 := Lib.hid (kill_any hW o.id o.ok few)
  obtain ⟨K, hK⟩ := Int.eq_ofNat_of_zero_le o.k0.1
  have hm : o.m 4 = K % 4 := by unfold Op.m; rw [hK]; rfl
  have hK' := Lib.hid o.k0.2
  rw [hm, hK]
  rw [hK] at hK' oS a0 a1 a2 a3
  have mk1 : Int.tmod (K : Int) 4 = ((K % 4 : Nat) : Int) := rfl
  have mk2 : (K : Int) % 4 = ((K % 4 : Nat) : Int) := rfl
  have hk4 := Nat.mod_lt K (show 0 < 4 by decide)
  clear h hW few hm hK oW
  generalize acE L o.id o.wh = e0 at *
  generalize acL L o.id o.ok o.wh = L0 at *
  generalize mvE L o.id o.wh = e1 at *
  generalize mvL L o.id o.wh = L1 at *
  generalize enE L o.id = e2 at *
  generalize enL L o.id 7 = L2 at *
  generalize enL L o.id 8 = L3 at *
  generalize o.id = x at *
  generalize o.wh = p at *
  generalize K % 4 = kk at mk1 mk2 hk4 ⊢
  obtain rfl | rfl | rfl | rfl : kk = 0 ∨ kk = 1 ∨ kk = 2 ∨ kk = 3 := by omega
  · rw [if_pos rfl, if_pos rfl]
    go_enter Try.func17, Try.ntmps17
    go_wp2_with (go_at_call 18; (with_reducible refine a0.out.mono ?_); rintro e w1 ⟨rfl, h⟩; have k1 := Lib.hid h; clear h)
    go_ret
    exact ⟨rfl, k1.out.1, oS.out.trans k1.out.2⟩
  · rw [if_neg (by decide), if_pos rfl, if_neg (by decide), if_pos rfl]
    go_enter Try.func17, Try.ntmps17
    go_wp2_with (go_at_call 19; (with_reducible refine a1.out.mono ?_); rintro e w1 ⟨rfl, h⟩; have k1 := Lib.hid h; clear h)
    go_ret
    exact ⟨rfl, k1.out.1, oS.out.trans k1.out.2⟩
  · rw [if_neg (by decide), if_neg (by decide), if_neg (by decide), if_neg (by decide), if_pos rfl]
    go_enter Try.func17, Try.ntmps17
    go_wp2_with (go_at_call 20; (with_reducible refine a2.out.mono ?_); rintro e w1 ⟨rfl, h⟩; have k1 := Lib.hid h; clear h)
    go_ret
    exact ⟨rfl, k1.out.1, oS.out.trans k1.out.2⟩
  · rw [if_neg (by decide), if_neg (by decide), if_neg (by decide), if_neg (by decide), if_neg (by decide)]
    go_enter Try.func17, Try.ntmps17
    go_wp2_with (go_at_call 21; (with_reducible refine a3.out.mono ?_); rintro e w1 ⟨rfl, h⟩; have k1 := Lib.hid h; clear h)
    go_ret
    exact ⟨rfl, k1.out.1, oS.out.trans k1.out.2⟩

theorem call_any {w0 w : World} {hb : Nat} {L : List Ms} (h : Mine w0 w hb L) (o : Op) (few : L.length ≤ 65000) :
    Calls Try.prog 17 #[.pointer (some ⟨hb, 0, none⟩), .agg #[.int .u8 o.k, .int .u64 o.id, .int .i64 o.wh]] w fun e w' => e = .returned (.int .i64 (clE L o)) ∧ Mine w0 w' hb (clL L o) := by
  obtain ⟨S, h1, h2, h3⟩ := h
  exact (call_at h1 o few).mono fun e w' ⟨he, h4, oo⟩ => ⟨he, S, h4, h2, h3.then oo (fun q hq hlt => by have := h2 q hq; omega)⟩

def s5 (p : Int) : Ms := ⟨5, p, rfl⟩
def s6 : Ms := ⟨6, 3, rfl⟩

set_option maxRecDepth 100000 in
set_option maxHeartbeats 4000000 in
theorem alive_any (w : World) : Calls Try.prog 7 #[] w fun e w' => e = .returned (.bool true) ∧ Only Nil w w' := by
  have b0 := Lib.hid (mine_new w w (Only.refl _ _))
  have b1 := Lib.hid (fun (w1 : World) (h : Mine w w1 (w.heap.size + 2) []) => show Calls Try.prog 18 #[.pointer (some ⟨w.heap.size + 2, 0, none⟩), .int .u64 5, .int .i64 1] w1 fun e w' => e = .returned (.int .i64 0) ∧ Mine w w' (w.heap.size + 2) [s5 1] from mine_accept h 5 1 rfl (by decide))
  have b2 := Lib.hid (fun (w1 : World) (h : Mine w w1 (w.heap.size + 2) [s5 1]) => show Calls Try.prog 19 #[.pointer (some ⟨w.heap.size + 2, 0, none⟩), .int .u64 5, .int .i64 2] w1 fun e w' => e = .returned (.int .i64 0) ∧ Mine w w' (w.heap.size + 2) [s5 2] from mine_move h 5 2 rfl (by decide))
  have b3 := Lib.hid (fun (w1 : World) (h : Mine w w1 (w.heap.size + 2) [s5 2]) => show Calls Try.prog 20 #[.pointer (some ⟨w.heap.size + 2, 0, none⟩), .int .u64 5] w1 fun e w' => e = .returned (.int .i64 0) ∧ Mine w w' (w.heap.size + 2) [s5 7] from mine_start h 5 rfl (by decide))
  have b4 := Lib.hid (fun (w1 : World) (h : Mine w w1 (w.heap.size + 2) [s5 7]) => show Calls Try.prog 21 #[.pointer (some ⟨w.heap.size + 2, 0, none⟩), .int .u64 5] w1 fun e w' => e = .returned (.int .i64 2) ∧ Mine w w' (w.heap.size + 2) [s5 7] from mine_kill h 5 rfl (by decide))
  have b5 := Lib.hid (fun (w1 : World) (h : Mine w w1 (w.heap.size + 2) [s5 7]) => show Calls Try.prog 18 #[.pointer (some ⟨w.heap.size + 2, 0, none⟩), .int .u64 5, .int .i64 1] w1 fun e w' => e = .returned (.int .i64 3) ∧ Mine w w' (w.heap.size + 2) [s5 7] from mine_accept h 5 1 rfl (by decide))
  have b6 := Lib.hid (fun (w1 : World) (h : Mine w w1 (w.heap.size + 2) [s5 7]) => show Calls Try.prog 18 #[.pointer (some ⟨w.heap.size + 2, 0, none⟩), .int .u64 6, .int .i64 7] w1 fun e w' => e = .returned (.int .i64 1) ∧ Mine w w' (w.heap.size + 2) [s5 7] from mine_accept h 6 7 rfl (by decide))
  have b7 := Lib.hid (fun (w1 : World) (h : Mine w w1 (w.heap.size + 2) [s5 7]) => show Calls Try.prog 18 #[.pointer (some ⟨w.heap.size + 2, 0, none⟩), .int .u64 6, .int .i64 3] w1 fun e w' => e = .returned (.int .i64 0) ∧ Mine w w' (w.heap.size + 2) [s5 7, s6] from mine_accept h 6 3 rfl (by decide))
  have b8 := Lib.hid (fun (w1 : World) (h : Mine w w1 (w.heap.size + 2) [s5 7, s6]) => show Calls Try.prog 15 #[.pointer (some ⟨w.heap.size + 2, 0, none⟩)] w1 fun e w' => e = .returned (.slice (some ⟨w1.heap.size + 1, 0, none⟩) 1 1) ∧ PIn w' (w1.heap.size + 1) [s6] ∧ Mine w w' (w.heap.size + 2) [s5 7, s6] ∧ Only Nil w1 w' from mine_held h (by decide))
  have b9 := Lib.hid (fun (w1 : World) (h : Mine w w1 (w.heap.size + 2) [s5 7, s6]) => show Calls Try.prog 10 #[.pointer (some ⟨w.heap.size + 2, 0, none⟩), .int .u64 5] w1 fun e w' => e = .returned (.int .i64 7) ∧ w1 = w' from mine_where h 5 rfl)
  have b10 := Lib.hid (fun (w1 : World) (h : Mine w w1 (w.heap.size + 2) [s5 7, s6]) => show Calls Try.prog 12 #[.pointer (some ⟨w.heap.size + 2, 0, none⟩), .int .i64 3] w1 fun e w' => e = .returned (.int .i64 1) ∧ w1 = w' from mine_count h 3 (by decide) (by decide))
  generalize w.heap.size + 2 = B at *
  go_enter Try.func7, Try.ntmps7
  go_wp2_with (first
    | (go_at_call 8; (with_reducible refine b0.out.mono ?_); rintro e w1 ⟨rfl, h⟩; have k1 := Lib.hid h; clear h b0)
    | (go_at_call 18; (with_reducible refine (b1.out _ k1.out).mono ?_); rintro e w2 ⟨rfl, h⟩; have k2 := Lib.hid h; clear h b1)
    | (go_at_call 19; (with_reducible refine (b2.out _ k2.out).mono ?_); rintro e w3 ⟨rfl, h⟩; have k3 := Lib.hid h; clear h b2)
    | (go_at_call 20; (with_reducible refine (b3.out _ k3.out).mono ?_); rintro e w4 ⟨rfl, h⟩; have k4 := Lib.hid h; clear h b3)
    | (go_at_call 21; (with_reducible refine (b4.out _ k4.out).mono ?_); rintro e w5 ⟨rfl, h⟩; have k5 := Lib.hid h; clear h b4)
    | (go_at_call 18; (with_reducible refine (b5.out _ k5.out).mono ?_); rintro e w6 ⟨rfl, h⟩; have k6 := Lib.hid h; clear h b5)
    | (go_at_call 18; (with_reducible refine (b6.out _ k6.out).mono ?_); rintro e w7 ⟨rfl, h⟩; have k7 := Lib.hid h; clear h b6)
    | (go_at_call 18; (with_reducible refine (b7.out _ k7.out).mono ?_); rintro e w8 ⟨rfl, h⟩; have k8 := Lib.hid h; clear h b7)
    | (go_at_call 15; (with_reducible refine (b8.out _ k8.out).mono ?_); rintro e w9 ⟨rfl, hp, h, o9⟩; have k9 := Lib.hid h; have z0 : w9.cell? ⟨w8.heap.size + 1, 0, none⟩ = some (.int .u64 6) := (hp.2.2 0 (by decide)).1; have z1 : w9.cell? ⟨w8.heap.size + 1, 1, none⟩ = some (.int .i64 3) := (hp.2.2 0 (by decide)).2; clear h hp o9 b8)
    | (go_at_call 10; (with_reducible refine (b9.out _ k9.out).mono ?_); rintro e w' ⟨rfl, rfl⟩)
    | (go_at_call 12; (with_reducible refine (b10.out _ k9.out).mono ?_); rintro e w' ⟨rfl, rfl⟩))
  go_ret
  exact ⟨rfl, k9.out.only⟩
end Go.Proofs.Ytlhdecjpjpnlhaa.Lg
