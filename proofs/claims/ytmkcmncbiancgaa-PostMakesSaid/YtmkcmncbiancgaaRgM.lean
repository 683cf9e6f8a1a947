/- A ring made (for who lays out its cells by one). -/
import Derived.Test.YtmkcmncbiancgaaSpanB
import Derived.LoopTactic
import Derived.Deep.DeepCutAuto
namespace Go.Proofs.Ytmkcmncbiancgaa
open Go.RowKit

theorem rgsize_yes (w : World) (c : Nat) (hc : 0 < c) (hc2 : c ≤ 64) :
    Calls Try.prog 41 #[.int .i64 (c : Int)] w fun e w' => e = .returned (.int .i64 (2 + 2 * (c : Int))) ∧ w = w' := by
  have h1 : ¬ ((c : Int) < 1) := by omega
  have h2 : ¬ ((64 : Int) < (c : Int)) := by omega
  have h3 : (c : Int) ≤ 64 := by omega
  go_enter Try.func41, Try.ntmps41
  go_wp2
  go_ret
  exact ⟨rfl, rfl⟩
/-- World w holds, at block g, a ring of c slots. -/
structure RmAt (w : World) (g hb b c : Nat) : Prop where
  head : w.heap[g]? = some (.cells #[.pointer (some ⟨hb, 0, none⟩), .int .i64 (b : Int), .int .i64 (c : Int)] 107 (0, 0))
theorem mturn_any {w : World} {g hb b c : Nat} (h : RmAt w g hb b c) (k : Nat) (hk : k < c) (hc2 : c ≤ 64) :
    Calls Try.prog 67 #[.pointer (some ⟨g, 0, none⟩), .int .u64 (k : Int)] w fun e w' => e = .returned (.int .i64 (2 + 2 * (k : Int))) ∧ w = w' := by
  have c2 : w.cell? ⟨g, 2, none⟩ = some (.int .i64 (c : Int)) := by simp [World.cell?, h.head]
  have e1 : IntKind.u64.wrap (c : Int) = (c : Int) := by rw [IntKind.wrap_u64]; omega
  have e2 : Int.tmod (k : Int) (c : Int) = (k : Int) := by rw [show Int.tmod (k : Int) (c : Int) = ((k % c : Nat) : Int) from rfl, Nat.mod_eq_of_lt hk]
  have e3 : ¬ ((c : Int) = 0) := by omega
  have k9 : (k : Int) < 64 := by omega
  clear h hk hc2
  go_enter Try.func67, Try.ntmps67
  go_wp2
  go_ret
  exact ⟨rfl, rfl⟩
theorem mvalue_any {w : World} {g hb b c : Nat} (h : RmAt w g hb b c) (k : Nat) (hk : k < c) (hc2 : c ≤ 64) :
    Calls Try.prog 68 #[.pointer (some ⟨g, 0, none⟩), .int .u64 (k : Int)] w fun e w' => e = .returned (.int .i64 (2 + 2 * (k : Int) + 1)) ∧ w = w' := by
  have tn := Lib.hid (mturn_any h k hk hc2)
  have k9 : (k : Int) < 64 := by omega
  clear h hk hc2
  go_enter Try.func68, Try.ntmps68
  go_wp2_with (go_at_call 67; (with_reducible refine (tn.out).mono ?_); rintro e w1 ⟨rfl, rfl⟩)
  go_ret
  exact ⟨rfl, rfl⟩

/-- The cells of a fresh ring, after k slots. -/
def layL (L : List Int) (b : Nat) : Nat → List Int
  | 0 => (L.set b 0).set (b + 1) 0
  | k + 1 => ((layL L b k).set (b + 2 + 2 * k) 0).set (b + 3 + 2 * k) 0
theorem layL_length (L : List Int) (b k : Nat) : (layL L b k).length = L.length := by
  induction k with
  | zero => simp [layL]
  | succ k ih => simp [layL, ih]
section
variable {w : World} {hb rb b c : Nat} {L : List Int} {t : Int}
/-- While a ring is laid out: the memory, the row of cells in its own variable, the ring. -/
structure Mk (w w' : World) (hb rb ob rg b c : Nat) (L : List Int) (t : Int) : Prop where
  mem : MemAt w' hb rb L t
  only : Only (Blk hb rb) w w'
  own : w'.heap[ob]? = some (.cells #[.pointer (some ⟨hb, 0, none⟩), .int .i64 (b : Int)] 78 (0, 0))
  ring : RmAt w' rg hb b c
  n1 : ¬ Blk hb rb ob
  n2 : ¬ Blk hb rb rg
theorem Mk.cl {w w' : World} {ob rg : Nat} (h : Mk w w' hb rb ob rg b c L t) : w'.cell? ⟨ob, 0, none⟩ = some (.pointer (some ⟨hb, 0, none⟩)) ∧ w'.cell? ⟨ob, 1, none⟩ = some (.int .i64 (b : Int)) := by simp [World.cell?, h.own]
theorem Mk.store {w w' : World} {ob rg : Nat} (h : Mk w w' hb rb ob rg b c L t) (k : Int) (i : Nat) (hk : (b : Int) + k = (i : Int)) (hi : i < L.length) (hb1 : b ≤ 1000000) (k0 : 0 ≤ k) (k1 : k ≤ 1000000) (t0 : 0 ≤ t) (t1 : t < 4611686018427387904) :
    Calls Try.prog 39 #[.agg #[.pointer (some ⟨hb, 0, none⟩), .int .i64 (b : Int)], .int .i64 k, .int .u64 0] w' fun e w'' => e = .returned (.tuple #[]) ∧ Mk w w'' hb rb ob rg b c (L.set i 0) (t + 1) := by
  refine (sstore_any (b := b) h.mem k i 0 hk hi hb1 k0 k1 t0 t1).mono ?_
  rintro e w2 ⟨rfl, m, o⟩
  exact ⟨rfl, m, h.only.trans o, (o.block ob (lt_of_block h.own) h.n1).trans h.own, ⟨(o.block rg (lt_of_block h.ring.head) h.n2).trans h.ring.head⟩, h.n1, h.n2⟩
theorem Mk.drewN {w w' : World} {ob rg : Nat} (h : Mk w w' hb rb ob rg b c L t) (n : Nat) : Mk w (w'.drewN n) hb rb ob rg b c L t := ⟨h.mem.drewN n, h.only.drewN n, h.own, ⟨h.ring.head⟩, h.n1, h.n2⟩

set_option maxHeartbeats 4000000 in
theorem rmake_yes (h : MemAt w hb rb L t) (t0 : 0 ≤ t) (t1 : t < 4611686018427380000) (hc : 0 < c) (hc2 : c ≤ 64) (hb1 : b ≤ 1000) (hL : b + 2 + 2 * c ≤ L.length) (hL2 : L.length ≤ 65536) :
    Calls Try.prog 40 #[.pointer (some ⟨hb, 0, none⟩), .int .i64 (b : Int), .int .i64 (c : Int)] w fun e w' => ∃ g,
      e = .returned (.tuple #[.pointer (some ⟨g, 0, none⟩), .int .i64 0]) ∧ Hid (MemAt w' hb rb (layL L b c) (t + 2 + 2 * (c : Int)) ∧ Only (Blk hb rb) w w') := by
  have sz := Lib.hid (fun w' => rgsize_yes w' c hc hc2)
  have at' := Lib.hid (at_yes h b (2 + 2 * (c : Int)) (by omega) (by omega) hL2 (by omega))
  unfold spanV at at'
  have l1 := h.lt_hb
  have l2 := h.lt_rb
  have st0 : Hid (∀ w2, Only Nil w w2 → Mk w ((w2.alloc (.cells #[.pointer (some ⟨hb, 0, none⟩), .int .i64 (b : Int)] 78)).alloc (.cells #[.pointer (some ⟨hb, 0, none⟩), .int .i64 (b : Int), .int .i64 (c : Int)] 107)) hb rb w2.heap.size (w2.heap.size + 1) b c L t) := Lib.hid (fun w2 o => by
    have o' := (o.alloc (.cells #[.pointer (some ⟨hb, 0, none⟩), .int .i64 (b : Int)] 78)).alloc (.cells #[.pointer (some ⟨hb, 0, none⟩), .int .i64 (b : Int), .int .i64 (c : Int)] 107)
    have sz2 := o.size
    refine ⟨h.keep o' (fun z => z) (fun z => z), o'.nilTo _, ?_, ⟨?_⟩, fun z => by rcases z with z | z <;> omega, fun z => by rcases z with z | z <;> omega⟩
    · rw [Below.heap_alloc _ _ _ (by simp)]; exact heap_new w2 _
    · have := heap_new (w2.alloc (.cells #[.pointer (some ⟨hb, 0, none⟩), .int .i64 (b : Int)] 78)) (.cells #[.pointer (some ⟨hb, 0, none⟩), .int .i64 (b : Int), .int .i64 (c : Int)] 107)
      simpa using this)
  have g3 : (c : Int) ≤ 64 := by omega
  have p0 := Lib.hid (And.intro hc (And.intro hc2 (And.intro hb1 (And.intro hL (And.intro t0 t1)))))
  have s1 := Lib.hid (fun w' ob rg (m : Mk w w' hb rb ob rg b c L t) => m.store 0 b (by omega) (by omega) (by omega) (by omega) (by omega) t0 (by omega))
  have s2 := Lib.hid (fun w' ob rg (m : Mk w w' hb rb ob rg b c (L.set b 0) (t + 1)) => m.store 1 (b + 1) (by omega) (by rw [List.length_set]; omega) (by omega) (by omega) (by omega) (by omega) (by omega))
  clear h t0 t1 hc hc2 hb1 hL hL2 l1 l2
  go_enter Try.func40, Try.ntmps40
  go_wp2_with (first
    | (go_at_call 41; refine (sz.out _).mono ?_; rintro e w1 ⟨rfl, rfl⟩)
    | (go_at_call 38; refine at'.out.mono ?_; rintro e w2 ⟨rfl, o2⟩; have k0 := st0.out _ o2; obtain ⟨v0, v1⟩ := k0.cl; have k0' := Lib.hid k0; clear k0; obtain ⟨u0, u1⟩ := two_new w2 (.pointer (some ⟨hb, 0, none⟩)) (.int .i64 (b : Int)) 78)
    | (go_at_call 39; (with_reducible refine (s1.out _ _ _ k0'.out).mono ?_); rintro e w3 ⟨rfl, k1⟩; obtain ⟨x0, x1⟩ := k1.cl; have k1' := Lib.hid k1; clear k1)
    | (go_at_call 39; (with_reducible refine (s2.out _ _ _ k1'.out).mono ?_); rintro e w4 ⟨rfl, k2⟩; have k2' := Lib.hid k2; clear k2))
  have et : Hid (t + 1 + 1 = t + 2 + 2 * ((0 : Nat) : Int)) := Lib.hid (by omega)
  rw [et.out] at k2'
  clear k0' k1' st0 s1 s2 at' sz o2 u0 u1 v0 v1 x0 x1 et
  generalize w2.heap.size + 1 = rg at k2' ⊢
  generalize w2.heap.size = ob at k2' ⊢
  go_loopw [31] (fun s3 wr => ∃ k : Nat, k ≤ c ∧ s3 = .int .i64 (k : Int) ∧ Hid (Mk w wr hb rb ob rg b c (layL L b k) (t + 2 + 2 * (k : Int))))
    (fun s3 _ => c - (intOf s3).toNat)
  case atStart => exact ⟨0, Nat.zero_le _, rfl, k2'⟩
  case round =>
    obtain ⟨k, hk, rfl, hM⟩ := hrel
    obtain ⟨hc, hc2, hb1, hL, t0, t1⟩ := p0.out
    obtain ⟨v0, v1⟩ := hM.out.cl
    by_cases hkc : k < c
    · have hki : (k : Int) < (c : Int) := by omega
      have ek : IntKind.u64.wrap (k : Int) = (k : Int) := by rw [IntKind.wrap_u64]; omega
      have tn := Lib.hid (fun n => mturn_any (hM.out.drewN n).ring k hkc hc2)
      have st := Lib.hid (fun n => (hM.out.drewN n).store (2 + 2 * (k : Int)) (b + 2 + 2 * k) (by omega) (by rw [layL_length]; omega) (by omega) (by omega) (by omega) (by omega) (by omega))
      have vl := Lib.hid (fun w' (m : Mk w w' hb rb ob rg b c ((layL L b k).set (b + 2 + 2 * k) 0) (t + 2 + 2 * (k : Int) + 1)) n => mvalue_any (m.drewN n).ring k hkc hc2)
      have sv := Lib.hid (fun w' (m : Mk w w' hb rb ob rg b c ((layL L b k).set (b + 2 + 2 * k) 0) (t + 2 + 2 * (k : Int) + 1)) n => (m.drewN n).store (2 + 2 * (k : Int) + 1) (b + 3 + 2 * k) (by omega) (by rw [List.length_set, layL_length]; omega) (by omega) (by omega) (by omega) (by omega) (by omega))
      have et : Hid (t + 2 + 2 * (k : Int) + 1 + 1 = t + 2 + 2 * ((k + 1 : Nat) : Int)) := Lib.hid (by omega)
      clear hkc hk hc hc2 hb1 hL t0 t1
      go_wp2_with (fail)
      go_region_held3 (fun w' => w'.cell? ⟨ob, 0, none⟩ = some (.pointer (some ⟨hb, 0, none⟩)) ∧ w'.cell? ⟨ob, 1, none⟩ = some (.int .i64 (b : Int)))
        (first | exact ⟨v0, v1⟩ | exact ⟨x0, x1⟩ | go_keep)
        (first
          | (go_at_call 67; refine (tn.out _).mono ?_; rintro e w1 ⟨rfl, rfl⟩)
          | (go_at_call 39; refine (st.out _).mono ?_; rintro e w3 ⟨rfl, m3⟩; obtain ⟨x0, x1⟩ := m3.cl))
      have m3' := Lib.hid m3
      go_wp2_with (fail)
      go_region_held3 (fun w' => w'.cell? ⟨ob, 0, none⟩ = some (.pointer (some ⟨hb, 0, none⟩)) ∧ w'.cell? ⟨ob, 1, none⟩ = some (.int .i64 (b : Int)))
        (first | exact ⟨x0, x1⟩ | exact ⟨y0, y1⟩ | go_keep)
        (first
          | (go_at_call 68; refine (vl.out _ m3'.out _).mono ?_; rintro e w4 ⟨rfl, rfl⟩)
          | (go_at_call 39; refine (sv.out _ m3'.out _).mono ?_; rintro e w5 ⟨rfl, m5⟩; obtain ⟨y0, y1⟩ := m5.cl))
      rw [et.out] at m5
      have m5' := Lib.hid m5
      go_wp2_with (fail)
      go_roundw
      case rel => exact ⟨k + 1, by omega, by go_num, m5'⟩
      case measure => simp [intOf]; omega
    · obtain rfl : k = c := by omega
      have hki : ¬ ((k : Int) < (k : Int)) := by omega
      clear hkc hk hc hc2 hb1 hL t0 t1 v0 v1
      go_wp2
      go_ret2
      exact ⟨⟨_, rfl⟩, Lib.hid ⟨hM.out.mem, hM.out.only⟩⟩
end
end Go.Proofs.Ytmkcmncbiancgaa
