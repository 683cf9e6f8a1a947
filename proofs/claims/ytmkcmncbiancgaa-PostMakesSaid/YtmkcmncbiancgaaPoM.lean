/- A box made. -/
import Derived.Test.YtmkcmncbiancgaaPoL
namespace Go.Proofs.Ytmkcmncbiancgaa.Po
open Go.RowKit Go.Proofs.Ytmkcmncbiancgaa

theorem psize_yes (w : World) (c d : Nat) (hc : 0 < c) (hc2 : c ≤ 64) (hd : 0 < d) (hd2 : d ≤ 64) :
    Calls Try.prog 13 #[.int .i64 (c : Int), .int .i64 (d : Int)] w fun e w' => e = .returned (.int .i64 (6 + 2 * (c : Int) + 2 * (d : Int))) ∧ w = w' := by
  have s1 := Lib.hid (size_yes w c hc hc2)
  have s2 := Lib.hid (size_yes w d hd hd2)
  have e1 : IntKind.i64.wrap (2 + (2 + 2 * (c : Int))) = 4 + 2 * (c : Int) := by rw [IntKind.wrap_i64]; omega
  have e2 : IntKind.i64.wrap (4 + 2 * (c : Int) + (2 + 2 * (d : Int))) = 6 + 2 * (c : Int) + 2 * (d : Int) := by rw [IntKind.wrap_i64]; omega
  have n1 : ((2 + 2 * (c : Int)) == 0) = false := by simp; omega
  have n2 : ((2 + 2 * (d : Int)) == 0) = false := by simp; omega
  clear hc hc2 hd hd2
  generalize 2 + 2 * (c : Int) = x at *
  generalize 2 + 2 * (d : Int) = y at *
  generalize 4 + 2 * (c : Int) = z at *
  generalize 6 + 2 * (c : Int) + 2 * (d : Int) = u at *
  go_enter Try.func13, Try.ntmps13
  go_wp2_with (first
    | (go_at_call 41; (with_reducible refine (s1.out).mono ?_); rintro e w1 ⟨rfl, rfl⟩)
    | (go_at_call 41; (with_reducible refine (s2.out).mono ?_); rintro e w1 ⟨rfl, rfl⟩))
  go_ret
  exact ⟨rfl, rfl⟩
theorem size_any (w : World) (c : Int) : ∃ x : Int, Calls Try.prog 41 #[.int .i64 c] w fun e w' => e = .returned (.int .i64 x) ∧ w = w' := by
  by_cases hc : c < 1 ∨ 64 < c
  · exact ⟨0, size_no w c hc⟩
  · obtain ⟨n, rfl⟩ := Int.eq_ofNat_of_zero_le (show 0 ≤ c by omega)
    exact ⟨_, size_yes w n (by omega) (by omega)⟩
theorem psize_no (w : World) (c d : Int) (h : (c < 1 ∨ 64 < c) ∨ (d < 1 ∨ 64 < d)) :
    Calls Try.prog 13 #[.int .i64 c, .int .i64 d] w fun e w' => e = .returned (.int .i64 0) ∧ w = w' := by
  by_cases hc : c < 1 ∨ 64 < c
  · obtain ⟨y, s2⟩ := size_any w d
    have s1 := Lib.hid (size_no w c hc)
    have s2' := Lib.hid s2
    clear h hc s2
    go_enter Try.func13, Try.ntmps13
    go_wp2_with (first
      | (go_at_call 41; (with_reducible refine (s1.out).mono ?_); rintro e w1 ⟨rfl, rfl⟩)
      | (go_at_call 41; (with_reducible refine (s2'.out).mono ?_); rintro e w1 ⟨rfl, rfl⟩))
    go_ret
    exact ⟨rfl, rfl⟩
  · have hd : d < 1 ∨ 64 < d := by omega
    obtain ⟨n, rfl⟩ := Int.eq_ofNat_of_zero_le (show 0 ≤ c by omega)
    have s1 := Lib.hid (size_yes w n (by omega) (by omega))
    have s2 := Lib.hid (size_no w d hd)
    have n1 : ((2 + 2 * (n : Int)) == 0) = false := by simp; omega
    clear h hc hd
    generalize 2 + 2 * (n : Int) = x at *
    go_enter Try.func13, Try.ntmps13
    go_wp2_with (first
      | (go_at_call 41; (with_reducible refine (s1.out).mono ?_); rintro e w1 ⟨rfl, rfl⟩)
      | (go_at_call 41; (with_reducible refine (s2.out).mono ?_); rintro e w1 ⟨rfl, rfl⟩))
    go_ret
    exact ⟨rfl, rfl⟩

/-- The cells of a fresh box. -/
def playL (L : List Int) (b c d : Nat) : List Int := layL (layL ((L.set b 0).set (b + 1) 0) (b + 2) c) (b + 4 + 2 * c) d
theorem playL_length (L : List Int) (b c d : Nat) : (playL L b c d).length = L.length := by simp [playL, layL_length]
section
variable {w : World} {hb rb b c d : Nat} {L : List Int} {t : Int}
/-- While a box is laid out: its span in a variable of its own. -/
structure Mk1 (w w1 : World) (hb rb ow b : Nat) (L : List Int) (t : Int) : Prop where
  mem : MemAt w1 hb rb L t
  only : Only (Blk hb rb) w w1
  own : w1.heap[ow]? = some (.cells #[ptr hb, .int .i64 (b : Int)] 78 (0, 0))
  n1 : ¬ Blk hb rb ow
theorem Mk1.cl {w1 : World} {ow : Nat} (h : Mk1 w w1 hb rb ow b L t) : w1.cell? ⟨ow, 0, none⟩ = some (ptr hb) ∧ w1.cell? ⟨ow, 1, none⟩ = some (.int .i64 (b : Int)) := by simp [World.cell?, h.own]
theorem Mk1.store {w1 : World} {ow : Nat} (h : Mk1 w w1 hb rb ow b L t) (i : Nat) (hi : i ≤ 1) (hl : b + 1 < L.length) (hb1 : b ≤ 1000000) (t0 : 0 ≤ t) (t1 : t < 4611686018427387904) :
    Calls Try.prog 39 #[.agg #[ptr hb, .int .i64 (b : Int)], .int .i64 (i : Int), .int .u64 0] w1 fun e w2 => e = .returned (.tuple #[]) ∧ Mk1 w w2 hb rb ow b (L.set (b + i) 0) (t + 1) := by
  refine (sstore_any (b := b) h.mem i (b + i) 0 (by omega) (by omega) hb1 (by omega) (by omega) t0 t1).mono ?_
  rintro e w2 ⟨rfl, m, o⟩
  exact ⟨rfl, m, h.only.trans o, block_at h.own o h.n1, h.n1⟩
theorem Mk1.store0 {w1 : World} {ow : Nat} (h : Mk1 w w1 hb rb ow b L t) (hl : b + 1 < L.length) (hb1 : b ≤ 1000000) (t0 : 0 ≤ t) (t1 : t < 4611686018427387904) :
    Calls Try.prog 39 #[.agg #[ptr hb, .int .i64 (b : Int)], .int .i64 0, .int .u64 0] w1 fun e w2 => e = .returned (.tuple #[]) ∧ Mk1 w w2 hb rb ow b (L.set b 0) (t + 1) := h.store 0 (by omega) hl hb1 t0 t1
theorem Mk1.store1 {w1 : World} {ow : Nat} (h : Mk1 w w1 hb rb ow b L t) (hl : b + 1 < L.length) (hb1 : b ≤ 1000000) (t0 : 0 ≤ t) (t1 : t < 4611686018427387904) :
    Calls Try.prog 39 #[.agg #[ptr hb, .int .i64 (b : Int)], .int .i64 1, .int .u64 0] w1 fun e w2 => e = .returned (.tuple #[]) ∧ Mk1 w w2 hb rb ow b (L.set (b + 1) 0) (t + 1) := h.store 1 (by omega) hl hb1 t0 t1
/-- The struct of the box, with what its two last cells hold. -/
structure Mk2 (w w1 : World) (hb rb bq b : Nat) (x y : Value) (L : List Int) (t : Int) : Prop where
  mem : MemAt w1 hb rb L t
  only : Only (Blk hb rb) w w1
  box : w1.heap[bq]? = some (.cells #[ptr hb, .int .i64 (b : Int), x, y] 84 (0, 0))
  n1 : ¬ Blk hb rb bq
  n2 : w.heap.size ≤ bq
theorem Mk2.cl {w1 : World} {bq : Nat} {x y : Value} (h : Mk2 w w1 hb rb bq b x y L t) : w1.cell? ⟨bq, 2, none⟩ = some x ∧ w1.cell? ⟨bq, 3, none⟩ = some y ∧ w1.frozen? ⟨bq, 2, none⟩ = false ∧ w1.frozen? ⟨bq, 3, none⟩ = false := by simp [World.cell?, World.frozen?, h.box]
theorem Mk2.set2 {w1 : World} {bq : Nat} {x y : Value} (h : Mk2 w w1 hb rb bq b x y L t) (z : Value) : Mk2 w (w1.setCell ⟨bq, 2, none⟩ z) hb rb bq b z y L t :=
  have k : Only (fun i => i = bq) w1 (w1.setCell ⟨bq, 2, none⟩ z) := set1_only (Only.refl _ w1) 2 z
  ⟨h.mem.keep k (fun e => h.n1 (.inl (show bq = hb from (show hb = bq from e).symm))) (fun e => h.n1 (.inr (show bq = rb from (show rb = bq from e).symm))), h.only.then k (fun i hi hl => absurd hl (by have : i = bq := hi; have := h.n2; omega)), set1_heap (vs := [_, _, x, y]) h.box 2 z, h.n1, h.n2⟩
theorem Mk2.set3 {w1 : World} {bq : Nat} {x y : Value} (h : Mk2 w w1 hb rb bq b x y L t) (z : Value) : Mk2 w (w1.setCell ⟨bq, 3, none⟩ z) hb rb bq b x z L t :=
  have k : Only (fun i => i = bq) w1 (w1.setCell ⟨bq, 3, none⟩ z) := set1_only (Only.refl _ w1) 3 z
  ⟨h.mem.keep k (fun e => h.n1 (.inl (show bq = hb from (show hb = bq from e).symm))) (fun e => h.n1 (.inr (show bq = rb from (show rb = bq from e).symm))), h.only.then k (fun i hi hl => absurd hl (by have : i = bq := hi; have := h.n2; omega)), set1_heap (vs := [_, _, x, y]) h.box 3 z, h.n1, h.n2⟩
theorem Mk2.ring {w1 : World} {bq : Nat} {x y : Value} (h : Mk2 w w1 hb rb bq b x y L t) (b' c : Nat) (t0 : 0 ≤ t) (t1 : t < 4611686018427380000) (hc : 0 < c) (hc2 : c ≤ 64) (hb1 : b' ≤ 1000) (hL : b' + 2 + 2 * c ≤ L.length) (hL2 : L.length ≤ 65536) :
    Calls Try.prog 40 #[ptr hb, .int .i64 (b' : Int), .int .i64 (c : Int)] w1 fun e w2 => ∃ g, e = .returned (.tuple #[ptr g, .int .i64 0]) ∧ w.heap.size ≤ g ∧ bq < g ∧ Rng w2 g hb rb b' c (layL L b' c) (t + 2 + 2 * (c : Int)) ∧ Mk2 w w2 hb rb bq b x y (layL L b' c) (t + 2 + 2 * (c : Int)) ∧ Only (Blk hb rb) w1 w2 := by
  refine (make_yes h.mem t0 t1 hc hc2 hb1 hL hL2).mono ?_
  rintro e w2 ⟨g, rfl, hg, hR, o⟩
  have := lt_of_block h.box
  have := h.only.size
  exact ⟨g, rfl, by omega, by omega, hR, ⟨hR.mem, h.only.trans o, block_at h.box o h.n1, h.n1, h.n2⟩, o⟩

set_option maxHeartbeats 4000000 in
theorem pmake_yes (h : MemAt w hb rb L t) (t0 : 0 ≤ t) (t1 : t < 4611686018427370000) (hc : 0 < c) (hc2 : c ≤ 64) (hd : 0 < d) (hd2 : d ≤ 64) (hL : b + 6 + 2 * c + 2 * d ≤ L.length) (hL2 : L.length ≤ 1000) :
    Calls Try.prog 12 #[ptr hb, .int .i64 (b : Int), .int .i64 (c : Int), .int .i64 (d : Int)] w fun e w' => ∃ bx mg ng,
      e = .returned (.tuple #[ptr bx, .int .i64 0]) ∧ Hid (Bx w' ⟨bx, mg, ng, hb, rb, b, c, d⟩ (playL L b c d) (t + 6 + 2 * (c : Int) + 2 * (d : Int)) ∧ (w.heap.size ≤ bx ∧ w.heap.size ≤ mg ∧ w.heap.size ≤ ng) ∧ Only (Blk hb rb) w w') := by
  have sz := Lib.hid (fun w' => psize_yes w' c d hc hc2 hd hd2)
  have rz := Lib.hid (fun w' => size_yes w' c hc hc2)
  have at' := Lib.hid (at_yes h b (6 + 2 * (c : Int) + 2 * (d : Int)) (by omega) (by omega) (by omega) (by omega))
  unfold spanV at at'
  have l1 := h.lt_hb
  have l2 := h.lt_rb
  have st0 : Hid (∀ w2, Only Nil w w2 → Mk1 w (w2.alloc (.cells #[ptr hb, .int .i64 (b : Int)] 78)) hb rb w2.heap.size b L t) := Lib.hid (fun w2 o => by
    have o' := o.alloc (.cells #[ptr hb, .int .i64 (b : Int)] 78)
    have sz2 := o.size
    exact ⟨h.keep o' (fun z => z) (fun z => z), o'.nilTo _, heap_new w2 _, fun z => by rcases z with z | z <;> omega⟩)
  have s1 := Lib.hid (fun w' ow (m : Mk1 w w' hb rb ow b L t) => m.store0 (by omega) (by omega) t0 (by omega))
  have s2 := Lib.hid (fun w' ow (m : Mk1 w w' hb rb ow b (L.set b 0) (t + 1)) => m.store1 (by rw [List.length_set]; omega) (by omega) (by omega) (by omega))
  have st2 : Hid (∀ w' ow, Mk1 w w' hb rb ow b ((L.set b 0).set (b + 1) 0) (t + 1 + 1) → Mk2 w (w'.alloc (.cells #[ptr hb, .int .i64 (b : Int), .pointer none, .pointer none] 84)) hb rb w'.heap.size b (.pointer none) (.pointer none) ((L.set b 0).set (b + 1) 0) (t + 1 + 1)) := Lib.hid (fun w' ow m => by
    have := m.only.size
    exact ⟨m.mem.alloc _, m.only.alloc _, heap_new w' _, fun z => by rcases z with z | z <;> omega, by omega⟩)
  have r1 := Lib.hid (fun w1 bq (m : Mk2 w w1 hb rb bq b (.pointer none) (.pointer none) ((L.set b 0).set (b + 1) 0) (t + 1 + 1)) => m.ring (b + 2) c (by omega) (by omega) hc hc2 (by omega) (by simp; omega) (by simp; omega))
  have r2 := Lib.hid (fun w1 bq g (m : Mk2 w w1 hb rb bq b (ptr g) (.pointer none) (layL ((L.set b 0).set (b + 1) 0) (b + 2) c) (t + 1 + 1 + 2 + 2 * (c : Int))) => m.ring (b + 4 + 2 * c) d (by omega) (by omega) hd hd2 (by omega) (by rw [layL_length]; simp; omega) (by rw [layL_length]; simp; omega))
  have fin : Hid (∀ w5 w2 bq g1 g2, Mk2 w w5 hb rb bq b (.pointer none) (.pointer none) (layL ((L.set b 0).set (b + 1) 0) (b + 2) c) (t + 1 + 1 + 2 + 2 * (c : Int)) → w.heap.size ≤ g1 → bq < g1 → Rng w5 g1 hb rb (b + 2) c (layL ((L.set b 0).set (b + 1) 0) (b + 2) c) (t + 1 + 1 + 2 + 2 * (c : Int)) →
      w.heap.size ≤ g2 → bq < g2 → Rng w2 g2 hb rb (b + 4 + 2 * c) d (playL L b c d) (t + 1 + 1 + 2 + 2 * (c : Int) + 2 + 2 * (d : Int)) → Mk2 w w2 hb rb bq b (ptr g1) (.pointer none) (playL L b c d) (t + 1 + 1 + 2 + 2 * (c : Int) + 2 + 2 * (d : Int)) → Only (Blk hb rb) (w5.setCell ⟨bq, 2, none⟩ (ptr g1)) w2 →
      Bx (w2.setCell ⟨bq, 3, none⟩ (ptr g2)) ⟨bq, g1, g2, hb, rb, b, c, d⟩ (playL L b c d) (t + 6 + 2 * (c : Int) + 2 * (d : Int)) ∧ (w.heap.size ≤ bq ∧ w.heap.size ≤ g1 ∧ w.heap.size ≤ g2) ∧ Only (Blk hb rb) w (w2.setCell ⟨bq, 3, none⟩ (ptr g2))) := Lib.hid (by
    intro w5 w2 bq g1 g2 m5 k2 k1 R1 k4 k5 R2 m2 o
    have m3 := m2.set3 (ptr g2)
    have k0 : Only (fun i => i = bq) w5 (w5.setCell ⟨bq, 2, none⟩ (ptr g1)) := set1_only (Only.refl _ w5) 2 (ptr g1)
    have k : Only (fun i => i = bq) w2 (w2.setCell ⟨bq, 3, none⟩ (ptr g2)) := set1_only (Only.refl _ w2) 3 (ptr g2)
    have et : t + 1 + 1 + 2 + 2 * (c : Int) + 2 + 2 * (d : Int) = t + 6 + 2 * (c : Int) + 2 * (d : Int) := by omega
    rw [et] at m3 R2
    have R1' : RgAt w2 g1 hb (b + 2) c := (R1.ring.keep k0 (by show ¬ g1 = bq; omega)).keep o R1.ne
    refine ⟨⟨m3.box, fun kk => ?_, m3.n1, by simp; omega, by simp [playL_length]; omega⟩, ⟨m3.n2, k2, k4⟩, m3.only⟩
    cases kk with
    | false => exact ⟨R1'.keep k (by show ¬ g1 = bq; omega), m3.mem, R1.ne, hc, hc2, by simp [BA.bb]; omega, by simp [BA.bb, BA.cc, playL_length]; omega, by omega⟩
    | true => exact ⟨R2.ring.keep k (by show ¬ g2 = bq; omega), m3.mem, R2.ne, hd, hd2, by simp [BA.bb]; omega, by simp [BA.bb, BA.cc, playL_length]; omega, by omega⟩)
  have b1 : ((b + 2 : Nat) : Int) = (b : Int) + 2 := by omega
  have b2 : ((b + 4 + 2 * c : Nat) : Int) = (b : Int) + 2 + (2 + 2 * (c : Int)) := by omega
  have gb : (b : Int) ≤ 1000 := by omega
  have gc : (c : Int) ≤ 64 := by omega
  rw [b1] at r1
  rw [b2] at r2
  clear h t0 t1 hc hc2 hd hd2 hL hL2 l1 l2 b1 b2
  go_enter Try.func12, Try.ntmps12
  go_wp2_with (first
    | (go_at_call 13; refine (sz.out _).mono ?_; rintro e w1 ⟨rfl, rfl⟩)
    | (go_at_call 41; refine (rz.out _).mono ?_; rintro e w1 ⟨rfl, rfl⟩)
    | (go_at_call 38; refine at'.out.mono ?_; rintro e w2 ⟨rfl, o2⟩; have k0 := st0.out _ o2; obtain ⟨v0, v1⟩ := k0.cl; have k0' := Lib.hid k0; clear k0 o2)
    | (go_at_call 39; (with_reducible refine (s1.out _ _ k0'.out).mono ?_); rintro e w3 ⟨rfl, k1⟩; obtain ⟨x0, x1⟩ := k1.cl; have k1' := Lib.hid k1; clear k1)
    | (go_at_call 39; (with_reducible refine (s2.out _ _ k1'.out).mono ?_); rintro e w4 ⟨rfl, k2⟩; obtain ⟨y0, y1⟩ := k2.cl; have k2' := Lib.hid k2; have k3' := Lib.hid (st2.out _ _ k2); clear k2)
    | (go_at_call 40; (with_reducible refine (r1.out _ _ k3'.out).mono ?_); rintro e w5 ⟨g1, rfl, p1, p2, R1, k5, o5⟩; obtain ⟨u0, u1, u2, u3⟩ := k5.cl; have R1' := Lib.hid R1; have k5' := Lib.hid (k5.set2 (ptr g1)); have q5' := Lib.hid (And.intro k5 (And.intro p1 p2)); clear R1 k5 p1 p2 o5)
    | (go_at_call 40; (with_reducible refine (r2.out _ _ _ k5'.out).mono ?_); rintro e w6 ⟨g2, rfl, p1, p2, R2, k6, o6⟩; obtain ⟨u0, u1, u2, u3⟩ := k6.cl; have en := Lib.hid (fin.out _ _ _ _ _ q5'.out.1 q5'.out.2.1 q5'.out.2.2 R1'.out p1 p2 R2 k6 o6); clear R2 k6 p1 p2 o6))
  go_ret2
  exact ⟨_, _, _, rfl, en⟩
theorem pmake_nil (w : World) (b c d : Int) :
    Calls Try.prog 12 #[.pointer none, .int .i64 b, .int .i64 c, .int .i64 d] w fun e w' => e = .returned (.tuple #[.pointer none, .int .i64 1]) ∧ Only Nil w w' := by
  have sz : ∃ x : Int, Hid (∀ w', Calls Try.prog 13 #[.int .i64 c, .int .i64 d] w' fun e w'' => e = .returned (.int .i64 x) ∧ w' = w'') := by
    by_cases hc : (c < 1 ∨ 64 < c) ∨ (d < 1 ∨ 64 < d)
    · exact ⟨0, Lib.hid (fun w' => psize_no w' c d hc)⟩
    · obtain ⟨n, rfl⟩ := Int.eq_ofNat_of_zero_le (show 0 ≤ c by omega)
      obtain ⟨m, rfl⟩ := Int.eq_ofNat_of_zero_le (show 0 ≤ d by omega)
      exact ⟨_, Lib.hid (fun w' => psize_yes w' n m (by omega) (by omega) (by omega) (by omega))⟩
  obtain ⟨x, sz⟩ := sz
  have at' := Lib.hid (at_nil w b x)
  go_enter Try.func12, Try.ntmps12
  go_wp2_with (first
    | (go_at_call 13; refine (sz.out _).mono ?_; rintro e w1 ⟨rfl, rfl⟩)
    | (go_at_call 38; refine at'.out.mono ?_; rintro e w2 ⟨rfl, o2⟩))
  go_ret2
  exact ⟨rfl, o2.alloc _⟩
theorem pmake_bad (w : World) (hb : Nat) (b c d : Int) (hc : (c < 1 ∨ 64 < c) ∨ (d < 1 ∨ 64 < d)) :
    Calls Try.prog 12 #[ptr hb, .int .i64 b, .int .i64 c, .int .i64 d] w fun e w' => e = .returned (.tuple #[.pointer none, .int .i64 1]) ∧ Only Nil w w' := by
  have sz := Lib.hid (fun w' => psize_no w' c d hc)
  have at' := Lib.hid (at_low w hb b 0 (by decide))
  clear hc
  go_enter Try.func12, Try.ntmps12
  go_wp2_with (first
    | (go_at_call 13; refine (sz.out _).mono ?_; rintro e w1 ⟨rfl, rfl⟩)
    | (go_at_call 38; refine at'.out.mono ?_; rintro e w2 ⟨rfl, o2⟩))
  go_ret2
  exact ⟨rfl, o2.alloc _⟩
theorem pmake_no (h : MemAt w hb rb L t) (b : Int) (hc : 0 < c) (hc2 : c ≤ 64) (hd : 0 < d) (hd2 : d ≤ 64) (hL2 : L.length ≤ 65536) (hn : b < 0 ∨ (L.length : Int) - (6 + 2 * (c : Int) + 2 * (d : Int)) < b) :
    Calls Try.prog 12 #[ptr hb, .int .i64 b, .int .i64 (c : Int), .int .i64 (d : Int)] w fun e w' => e = .returned (.tuple #[.pointer none, .int .i64 1]) ∧ Only Nil w w' := by
  have sz := Lib.hid (fun w' => psize_yes w' c d hc hc2 hd hd2)
  have at' := Lib.hid (at_no h b (6 + 2 * (c : Int) + 2 * (d : Int)) (by omega) (by omega) hL2 hn)
  clear hc hn hc2 hd hd2 hL2 h
  go_enter Try.func12, Try.ntmps12
  go_wp2_with (first
    | (go_at_call 13; refine (sz.out _).mono ?_; rintro e w1 ⟨rfl, rfl⟩)
    | (go_at_call 38; refine at'.out.mono ?_; rintro e w2 ⟨rfl, o2⟩))
  go_ret2
  exact ⟨rfl, o2.alloc _⟩
end
end Go.Proofs.Ytmkcmncbiancgaa.Po
