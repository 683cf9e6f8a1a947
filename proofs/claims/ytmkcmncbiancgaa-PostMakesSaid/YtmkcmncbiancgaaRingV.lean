/- A ring made. -/
import Derived.Test.YtmkcmncbiancgaaRingU
import Derived.Test.YtmkcmncbiancgaaRgM
import Derived.Test.YtmkcmncbiancgaaRingL
namespace Go.Proofs.Ytmkcmncbiancgaa
open Go.RowKit

section
variable {w : World} {rg hb rb b c : Nat} {L : List Int} {t : Int}
theorem turnAt_of {c k : Nat} (b : Nat) (h : k < c) : turnAt b c k = b + 2 + 2 * k := by unfold turnAt; rw [Nat.mod_eq_of_lt h]
set_option maxHeartbeats 4000000 in
theorem make_yes (h : MemAt w hb rb L t) (t0 : 0 ≤ t) (t1 : t < 4611686018427380000) (hc : 0 < c) (hc2 : c ≤ 64) (hb1 : b ≤ 1000) (hL : b + 2 + 2 * c ≤ L.length) (hL2 : L.length ≤ 65536) :
    Calls Try.prog 40 #[.pointer (some ⟨hb, 0, none⟩), .int .i64 (b : Int), .int .i64 (c : Int)] w fun e w' => ∃ g,
      e = .returned (.tuple #[.pointer (some ⟨g, 0, none⟩), .int .i64 0]) ∧ w.heap.size ≤ g ∧ Rng w' g hb rb b c (layL L b c) (t + 2 + 2 * (c : Int)) ∧ Only (Blk hb rb) w w' := by
  have sz := Lib.hid (fun w' => rgsize_yes w' c hc hc2)
  have at' := Lib.hid (at_yes h b (2 + 2 * (c : Int)) (by omega) (by omega) hL2 (by omega))
  unfold spanV at at'
  have l1 := h.lt_hb
  have l2 := h.lt_rb
  have st0 : Hid (∀ w2, Only Nil w w2 → Mk w ((w2.alloc (.cells #[.pointer (some ⟨hb, 0, none⟩), .int .i64 (b : Int)] 78)).alloc (.cells #[.pointer (some ⟨hb, 0, none⟩), .int .i64 (b : Int), .int .i64 (c : Int)] 107)) hb rb w2.heap.size (w2.heap.size + 1) b c L t) := Lib.hid (fun w2 o => by
    have o' := (o.alloc (.cells #[.pointer (some ⟨hb, 0, none⟩), .int .i64 (b : Int)] 78)).alloc (.cells #[.pointer (some ⟨hb, 0, none⟩), .int .i64 (b : Int), .int .i64 (c : Int)] 107)
    have sz2 := o.size
    refine ⟨h.keep o' (fun z => z) (fun z => z), o'.nilTo _, ?_, ⟨?_⟩, fun z => by rcases z with z | z <;> omega, fun z => by rcases z with z | z <;> omega⟩
    · rw [Below.heap_alloc _ _ _ (by simp)]; exact heap_new w2 _
    · have := heap_new (w2.alloc (.cells #[.pointer (some ⟨hb, 0, none⟩), .int .i64 (b : Int)] 78)) (.cells #[.pointer (some ⟨hb, 0, none⟩), .int .i64 (b : Int), .int .i64 (c : Int)] 107)
      simpa using this)
  have g3 : (c : Int) ≤ 64 := by omega
  have p0 := Lib.hid (And.intro hc (And.intro hc2 (And.intro hb1 (And.intro hL (And.intro t0 t1)))))
  have s1 := Lib.hid (fun w' ob rg (m : Mk w w' hb rb ob rg b c L t) => m.store 0 b (by omega) (by omega) (by omega) (by omega) (by omega) t0 (by omega))
  have s2 := Lib.hid (fun w' ob rg (m : Mk w w' hb rb ob rg b c (L.set b 0) (t + 1)) => m.store 1 (b + 1) (by omega) (by rw [List.length_set]; omega) (by omega) (by omega) (by omega) (by omega) (by omega))
  clear h t0 t1 hc hc2 hb1 hL hL2 l1 l2
  go_enter Try.func40, Try.ntmps40
  go_wp2_with (first
    | (go_at_call 41; refine (sz.out _).mono ?_; rintro e w1 ⟨rfl, rfl⟩)
    | (go_at_call 38; refine at'.out.mono ?_; rintro e w2 ⟨rfl, o2⟩; have k0 := st0.out _ o2; obtain ⟨v0, v1⟩ := k0.cl; have k0' := Lib.hid k0; clear k0; obtain ⟨u0, u1⟩ := two_new w2 (.pointer (some ⟨hb, 0, none⟩)) (.int .i64 (b : Int)) 78)
    | (go_at_call 39; (with_reducible refine (s1.out _ _ _ k0'.out).mono ?_); rintro e w3 ⟨rfl, k1⟩; obtain ⟨x0, x1⟩ := k1.cl; have k1' := Lib.hid k1; clear k1)
    | (go_at_call 39; (with_reducible refine (s2.out _ _ _ k1'.out).mono ?_); rintro e w4 ⟨rfl, k2⟩; have k2' := Lib.hid k2; clear k2))
  have et : Hid (t + 1 + 1 = t + 2 + 2 * ((0 : Nat) : Int)) := Lib.hid (by omega)
  rw [et.out] at k2'
  have zg : Hid (w.heap.size ≤ w2.heap.size + 1) := Lib.hid (by have := o2.size; omega)
  clear k0' k1' st0 s1 s2 at' sz o2 u0 u1 v0 v1 x0 x1 et
  generalize w2.heap.size + 1 = rg at k2' zg ⊢
  generalize w2.heap.size = ob at k2' ⊢
  go_loopw [31] (fun s3 wr => ∃ k : Nat, k ≤ c ∧ s3 = .int .i64 (k : Int) ∧ Hid (Mk w wr hb rb ob rg b c (layL L b k) (t + 2 + 2 * (k : Int))))
    (fun s3 _ => c - (intOf s3).toNat)
  case atStart => exact ⟨0, Nat.zero_le _, rfl, k2'⟩
  case round =>
    obtain ⟨k, hk, rfl, hM⟩ := hrel
    obtain ⟨hc, hc2, hb1, hL, t0, t1⟩ := p0.out
    obtain ⟨v0, v1⟩ := hM.out.cl
    by_cases hkc : k < c
    · have hki : (k : Int) < (c : Int) := by omega
      have ek : IntKind.u64.wrap (k : Int) = (k : Int) := by rw [IntKind.wrap_u64]; omega
      have tn := Lib.hid (fun n => mturn_any (hM.out.drewN n).ring k hkc hc2)
      have st := Lib.hid (fun n => (hM.out.drewN n).store (2 + 2 * (k : Int)) (b + 2 + 2 * k) (by omega) (by rw [layL_length]; omega) (by omega) (by omega) (by omega) (by omega) (by omega))
      have vl := Lib.hid (fun w' (m : Mk w w' hb rb ob rg b c ((layL L b k).set (b + 2 + 2 * k) 0) (t + 2 + 2 * (k : Int) + 1)) n => mvalue_any (m.drewN n).ring k hkc hc2)
      have sv := Lib.hid (fun w' (m : Mk w w' hb rb ob rg b c ((layL L b k).set (b + 2 + 2 * k) 0) (t + 2 + 2 * (k : Int) + 1)) n => (m.drewN n).store (2 + 2 * (k : Int) + 1) (b + 3 + 2 * k) (by omega) (by rw [List.length_set, layL_length]; omega) (by omega) (by omega) (by omega) (by omega) (by omega))
      have et : Hid (t + 2 + 2 * (k : Int) + 1 + 1 = t + 2 + 2 * ((k + 1 : Nat) : Int)) := Lib.hid (by omega)
      clear hkc hk hc hc2 hb1 hL t0 t1
      go_wp2_with (fail)
      go_region_held3 (fun w' => w'.cell? ⟨ob, 0, none⟩ = some (.pointer (some ⟨hb, 0, none⟩)) ∧ w'.cell? ⟨ob, 1, none⟩ = some (.int .i64 (b : Int)))
        (first | exact ⟨v0, v1⟩ | exact ⟨x0, x1⟩ | go_keep)
        (first
          | (go_at_call 67; refine (tn.out _).mono ?_; rintro e w1 ⟨rfl, rfl⟩)
          | (go_at_call 39; refine (st.out _).mono ?_; rintro e w3 ⟨rfl, m3⟩; obtain ⟨x0, x1⟩ := m3.cl))
      have m3' := Lib.hid m3
      go_wp2_with (fail)
      go_region_held3 (fun w' => w'.cell? ⟨ob, 0, none⟩ = some (.pointer (some ⟨hb, 0, none⟩)) ∧ w'.cell? ⟨ob, 1, none⟩ = some (.int .i64 (b : Int)))
        (first | exact ⟨x0, x1⟩ | exact ⟨y0, y1⟩ | go_keep)
        (first
          | (go_at_call 68; refine (vl.out _ m3'.out _).mono ?_; rintro e w4 ⟨rfl, rfl⟩)
          | (go_at_call 39; refine (sv.out _ m3'.out _).mono ?_; rintro e w5 ⟨rfl, m5⟩; obtain ⟨y0, y1⟩ := m5.cl))
      rw [et.out] at m5
      have m5' := Lib.hid m5
      go_wp2_with (fail)
      go_roundw
      case rel => exact ⟨k + 1, by omega, by go_num, m5'⟩
      case measure => simp [intOf]; omega
    · obtain rfl : k = c := by omega
      have hki : ¬ ((k : Int) < (k : Int)) := by omega
      have fin : Hid (Rng wr rg hb rb b k (layL L b k) (t + 2 + 2 * (k : Int))) := Lib.hid ⟨⟨hM.out.ring.head⟩, hM.out.mem, hM.out.n2, hc, hc2, hb1, by rw [layL_length]; exact hL, by omega⟩
      clear hkc hk hc hc2 hb1 hL t0 t1 v0 v1
      go_wp2
      go_ret2
      exact ⟨_, rfl, zg.out, fin.out, hM.out.only⟩
theorem make_nil (w : World) (b c : Int) :
    Calls Try.prog 40 #[.pointer none, .int .i64 b, .int .i64 c] w fun e w' => e = .returned (.tuple #[.pointer none, .int .i64 1]) ∧ Only Nil w w' := by
  have sz : ∃ x : Int, Hid (∀ w', Calls Try.prog 41 #[.int .i64 c] w' fun e w'' => e = .returned (.int .i64 x) ∧ w' = w'') := by
    by_cases hc : c < 1 ∨ 64 < c
    · exact ⟨0, Lib.hid (fun w' => size_no w' c hc)⟩
    · obtain ⟨n, rfl⟩ := Int.eq_ofNat_of_zero_le (show 0 ≤ c by omega)
      exact ⟨2 + 2 * (n : Int), Lib.hid (fun w' => size_yes w' n (by omega) (by omega))⟩
  obtain ⟨x, sz⟩ := sz
  have at' := Lib.hid (at_nil w b x)
  go_enter Try.func40, Try.ntmps40
  go_wp2_with (first
    | (go_at_call 41; refine (sz.out _).mono ?_; rintro e w1 ⟨rfl, rfl⟩)
    | (go_at_call 38; refine at'.out.mono ?_; rintro e w2 ⟨rfl, o2⟩))
  go_ret2
  exact ⟨rfl, o2.alloc _⟩
theorem make_bad (w : World) (hb : Nat) (b c : Int) (hc : c < 1 ∨ 64 < c) :
    Calls Try.prog 40 #[.pointer (some ⟨hb, 0, none⟩), .int .i64 b, .int .i64 c] w fun e w' => e = .returned (.tuple #[.pointer none, .int .i64 1]) ∧ Only Nil w w' := by
  have sz := Lib.hid (fun w' => size_no w' c hc)
  have at' := Lib.hid (at_low w hb b 0 (by decide))
  clear hc
  go_enter Try.func40, Try.ntmps40
  go_wp2_with (first
    | (go_at_call 41; refine (sz.out _).mono ?_; rintro e w1 ⟨rfl, rfl⟩)
    | (go_at_call 38; refine at'.out.mono ?_; rintro e w2 ⟨rfl, o2⟩))
  go_ret2
  exact ⟨rfl, o2.alloc _⟩
theorem make_no (h : MemAt w hb rb L t) (b : Int) (hc : 0 < c) (hc2 : c ≤ 64) (hL2 : L.length ≤ 65536) (hn : b < 0 ∨ (L.length : Int) - (2 + 2 * (c : Int)) < b) :
    Calls Try.prog 40 #[.pointer (some ⟨hb, 0, none⟩), .int .i64 b, .int .i64 (c : Int)] w fun e w' => e = .returned (.tuple #[.pointer none, .int .i64 1]) ∧ Only Nil w w' := by
  have sz := Lib.hid (fun w' => size_yes w' c hc hc2)
  have at' := Lib.hid (at_no h b (2 + 2 * (c : Int)) (by omega) (by omega) hL2 hn)
  clear hc hn hc2 hL2 h
  go_enter Try.func40, Try.ntmps40
  go_wp2_with (first
    | (go_at_call 41; refine (sz.out _).mono ?_; rintro e w1 ⟨rfl, rfl⟩)
    | (go_at_call 38; refine at'.out.mono ?_; rintro e w2 ⟨rfl, o2⟩))
  go_ret2
  exact ⟨rfl, o2.alloc _⟩
end
end Go.Proofs.Ytmkcmncbiancgaa
