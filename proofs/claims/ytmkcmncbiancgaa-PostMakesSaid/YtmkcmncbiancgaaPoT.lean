/- The document's own Lay of a box (trouperef18), and where its rings lie. -/
import Derived.Test.YtmkcmncbiancgaaPoM
import Derived.Test.YtmkcmncbiancgaaRingL
namespace Go.Proofs.Ytmkcmncbiancgaa.Po
open Go.RowKit Go.Proofs.Ytmkcmncbiancgaa

/-- The document's box, as a value. -/
abbrev boxV (b c d : Nat) : Value := .agg #[.int .i64 (b : Int), .int .i64 (c : Int), .int .i64 (d : Int)]
abbrev ringV (b c : Nat) : Value := .agg [.int .i64 (b : Int), .int .i64 (c : Int)].toArray
theorem mailRing_any (w : World) (b c d : Nat) (hb : b ≤ 1000) :
    Calls Try.prog 44 #[boxV b c d] w fun e w' => e = .returned (ringV (b + 2) c) ∧ Only Nil w w' := by
  have o1 := Lib.hid (((Only.refl Nil w).alloc (.cells #[.int .i64 (b : Int), .int .i64 (c : Int), .int .i64 (d : Int)] 42)).alloc (.cells [.int .i64 ((b + 2 : Nat) : Int), .int .i64 (c : Int)].toArray 90))
  have bn := Lib.hid (heap_new (w.alloc (.cells #[.int .i64 (b : Int), .int .i64 (c : Int), .int .i64 (d : Int)] 42)) (.cells [.int .i64 ((b + 2 : Nat) : Int), .int .i64 (c : Int)].toArray 90))
  rw [show (w.alloc (.cells #[.int .i64 (b : Int), .int .i64 (c : Int), .int .i64 (d : Int)] 42)).heap.size = w.heap.size + 1 by simp] at bn
  have e1 : IntKind.i64.wrap ((b : Int) + 2) = ((b + 2 : Nat) : Int) := by rw [IntKind.wrap_i64]; omega
  clear hb
  go_enter Try.func44, Try.ntmps44
  go_wp2
  refine bodyPost_ret (results_agg rfl _ _ (w.heap.size + 1) [_, _] Try.isAgg90 Try.sizeOf90 rfl bn.out) rfl ?_
  exact ⟨rfl, o1.out⟩
theorem noteRing_any (w : World) (b c d : Nat) (hb : b ≤ 1000) (hc : c ≤ 64) :
    Calls Try.prog 45 #[boxV b c d] w fun e w' => e = .returned (ringV (b + 4 + 2 * c) d) ∧ Only Nil w w' := by
  have o1 := Lib.hid (((Only.refl Nil w).alloc (.cells #[.int .i64 (b : Int), .int .i64 (c : Int), .int .i64 (d : Int)] 42)).alloc (.cells [.int .i64 ((b + 4 + 2 * c : Nat) : Int), .int .i64 (d : Int)].toArray 90))
  have bn := Lib.hid (heap_new (w.alloc (.cells #[.int .i64 (b : Int), .int .i64 (c : Int), .int .i64 (d : Int)] 42)) (.cells [.int .i64 ((b + 4 + 2 * c : Nat) : Int), .int .i64 (d : Int)].toArray 90))
  rw [show (w.alloc (.cells #[.int .i64 (b : Int), .int .i64 (c : Int), .int .i64 (d : Int)] 42)).heap.size = w.heap.size + 1 by simp] at bn
  have e1 : IntKind.i64.wrap ((b : Int) + 4) = (b : Int) + 4 := by rw [IntKind.wrap_i64]; omega
  have e2 : IntKind.i64.wrap (2 * (c : Int)) = 2 * (c : Int) := by rw [IntKind.wrap_i64]; omega
  have e3 : IntKind.i64.wrap ((b : Int) + 4 + 2 * (c : Int)) = ((b + 4 + 2 * c : Nat) : Int) := by rw [IntKind.wrap_i64]; omega
  clear hb hc
  go_enter Try.func45, Try.ntmps45
  go_wp2
  refine bodyPost_ret (results_agg rfl _ _ (w.heap.size + 1) [_, _] Try.isAgg90 Try.sizeOf90 rfl bn.out) rfl ?_
  exact ⟨rfl, o1.out⟩
set_option maxRecDepth 100000 in
set_option maxHeartbeats 8000000 in
theorem play_any {w : World} {hb rb : Nat} {L : List Int} {t : Int} (h : RefAt w hb rb L t) (b c d : Nat) (hb1 : b + 4 + 2 * c ≤ 1000) (hc2 : c ≤ 64) (hd2 : d ≤ 64) (hL : b + 6 + 2 * c + 2 * d ≤ L.length) :
    Calls Try.prog 17 #[ptr hb, boxV b c d] w fun e w' => e = .returned (.tuple #[]) ∧ RefAt w' hb rb (playL L b c d) t ∧ Only (Blk hb rb) w w' := by
  have l1 := h.lt_hb
  have l2 := h.lt_rb
  obtain ⟨W0, hW0⟩ : ∃ W0, W0 = w.alloc (.cells #[.int .i64 (b : Int), .int .i64 (c : Int), .int .i64 (d : Int)] 42) := ⟨_, rfl⟩
  have o0 : Only Nil w W0 := by rw [hW0]; exact (Only.refl Nil w).alloc _
  have bR : W0.heap[w.heap.size]? = some (.cells #[.int .i64 (b : Int), .int .i64 (c : Int), .int .i64 (d : Int)] 42 (0, 0)) := by rw [hW0]; exact heap_new w _
  have h2 := h.keep o0 (fun h => h) (fun h => h)
  have bl := Lib.hid (fun (w' : World) (o : Only (Blk hb rb) W0 w') => (show w'.cell? ⟨w.heap.size, 0, none⟩ = some (.int .i64 (b : Int)) ∧ w'.cell? ⟨w.heap.size, 1, none⟩ = some (.int .i64 (c : Int)) ∧ w'.cell? ⟨w.heap.size, 2, none⟩ = some (.int .i64 (d : Int)) from by
    have e := (o.block w.heap.size (lt_of_block bR) (fun hh => by rcases hh with e | e <;> omega)).trans bR
    exact ⟨by simp [World.cell?, e], by simp [World.cell?, e], by simp [World.cell?, e]⟩))
  obtain ⟨r0, r1, r2⟩ := bl.out _ (Only.refl _ _)
  have c0 := h2.c0
  have ci := h2.ci b (by omega)
  have fi := h2.fi b
  generalize L.getD b 0 = x0 at ci
  have h2' := Lib.hid h2
  have g0 : (b : Int) + 1 < (L.length : Int) := by omega
  have g1 : (b : Int) < (L.length : Int) := by omega
  have hbi : (b : Int) ≤ 1000 := by omega
  have mr := Lib.hid (fun w => mailRing_any w b c d (by omega))
  have nr := Lib.hid (fun w => noteRing_any w b c d (by omega) hc2)
  have ly1 := Lib.hid (fun w1 (m : RefAt w1 hb rb ((L.set b 0).set (b + 1) 0) t) => rlay_any m (b + 2) c (by omega) hc2 (by simp; omega))
  have ly2 := Lib.hid (fun w1 (m : RefAt w1 hb rb (layL ((L.set b 0).set (b + 1) 0) (b + 2) c) t) => rlay_any m (b + 4 + 2 * c) d (by omega) hd2 (by rw [layL_length]; simp; omega))
  have ho := Lib.hid (o0.nilTo (Blk hb rb))
  have hL1 := Lib.hid hL
  clear h h2 o0 bR hb1 hc2 hd2 hL
  subst hW0
  go_enter Try.func17, Try.ntmps17
  go_wp2
  generalize (w.alloc (.cells #[.int .i64 (b : Int), .int .i64 (c : Int), .int .i64 (d : Int)] 42)) = W0 at *
  go_region_with (fail)
  all_goals (
    clear r0 r1 r2 c0 ci fi
    have R1 := Lib.hid ((h2'.out.store (b) 0).drew)
    have O1 := Lib.hid (((Only.refl (Blk hb rb) W0).setCell (p := ⟨rb, b, none⟩) (Blk.r hb rb) (.int .u64 0)).drew)
    generalize World.drew (World.setCell W0 ⟨rb, b, none⟩ (.int .u64 0)) = W1 at R1 O1 ⊢
    obtain ⟨r0, r1, r2⟩ := bl.out W1 O1.out
    have c0 := R1.out.c0
    rw [List.length_set] at c0
    have ci := R1.out.ci (b + 1) (by rw [List.length_set]; omega)
    have fi := R1.out.fi (b + 1)
    obtain ⟨x, hx⟩ : ∃ x, (L.set b 0).getD (b + 1) 0 = x := ⟨_, rfl⟩
    rw [hx] at ci
    clear hx
    have ti : ((b : Int) + 1).toNat = b + 1 := by omega
    have ti0 : (0 : Int) ≤ (b : Int) + 1 := by omega
    have tiw : IntKind.i64.wrap ((b : Int) + 1) = (b : Int) + 1 := IntWalk.i64_in _ (by omega)
    go_wp2
    go_region_with (fail)
    all_goals (
      clear ti ti0 tiw
      clear r0 r1 r2 c0 ci fi
      have R2 := Lib.hid ((R1.out.store (b + 1) 0).drew)
      have O2 := Lib.hid ((O1.out.setCell (p := ⟨rb, b + 1, none⟩) (Blk.r hb rb) (.int .u64 0)).drew)
      generalize World.drew (World.setCell W1 ⟨rb, b + 1, none⟩ (.int .u64 0)) = W2 at R2 O2 ⊢
      obtain ⟨r0, r1, r2⟩ := bl.out W2 O2.out
      go_wp2_with (first
        | (go_at_call 44; refine (mr.out _).mono ?_; rintro e w3 ⟨rfl, o3⟩; have R3 := Lib.hid (R2.out.keep o3 (fun h => h) (fun h => h)); have O3 := Lib.hid (O2.out.trans (o3.nilTo _)); clear o3)
        | (go_at_call 43; (with_reducible refine (ly1.out _ R3.out).mono ?_); rintro e w4 ⟨rfl, m4, o4⟩; have R4 := Lib.hid m4; have O4 := Lib.hid (O3.out.trans o4); obtain ⟨s0, s1, s2⟩ := bl.out w4 (O3.out.trans o4); clear m4 o4)
        | (go_at_call 45; refine (nr.out _).mono ?_; rintro e w5 ⟨rfl, o5⟩; have R5 := Lib.hid (R4.out.keep o5 (fun h => h) (fun h => h)); have O5 := Lib.hid (O4.out.trans (o5.nilTo _)); clear o5)
        | (go_at_call 43; (with_reducible refine (ly2.out _ R5.out).mono ?_); rintro e w6 ⟨rfl, m6, o6⟩; have R6 := Lib.hid m6; have O6 := Lib.hid (O5.out.trans o6); clear m6 o6))
      go_end0
      exact ⟨rfl, R6.out, ho.out.trans O6.out⟩))
end Go.Proofs.Ytmkcmncbiancgaa.Po
