/- CellsPlays answers true for every number and every script, and turns nothing that there was: the walk. -/
import Derived.Test.YtcbmnnpanclclaaCellsG
import Derived.Test.YtcbmnnpanclclaaCellsApartW
import Derived.Deep.RegionHeld3
namespace Go.Proofs.Ytcbmnnpanclclaa
open Go.RowKit

/-- An operation's four numbers. -/
structure OpN where
  kind : Int
  cell : Int
  old : Int
  val : Int

/-- The slice at a, of the operations S: where there is one, it leads to a row of cells below the world's end that hold them. -/
def OpsIn (w : World) (a : Option Addr) (S : List OpN) : Prop :=
  ∀ i, i < S.length → ∃ b off, a = some ⟨b, off, none⟩ ∧ b < w.heap.size ∧ ∀ j, (h : j < S.length) →
    w.cell? ⟨b, off + j * 4, none⟩ = some (.int .u8 S[j].kind) ∧ w.cell? ⟨b, off + j * 4 + 1, none⟩ = some (.int .i64 S[j].cell) ∧ w.cell? ⟨b, off + j * 4 + 2, none⟩ = some (.int .u64 S[j].old) ∧ w.cell? ⟨b, off + j * 4 + 3, none⟩ = some (.int .u64 S[j].val)

theorem RefAt.alloc {w : World} {hb rb : Nat} {L : List Int} {t : Int} (h : RefAt w hb rb L t) (o : Obj) : RefAt (w.alloc o) hb rb L t :=
  ⟨(Below.heap_alloc _ _ _ h.lt_hb).trans h.head, (Below.heap_alloc _ _ _ h.lt_rb).trans h.row, h.ne⟩

theorem _root_.Go.RowKit.Below.drewN' {B : Nat} {a w : World} (h : Below B a w) (n : Nat) : Below B a (w.drewN n) := ⟨h.os, h.tape, h.output, h.size, h.block⟩

theorem pl_len {w : World} {hb rb n : Nat} {L : List Int} {t : Int} (h : MemAt w hb rb L t) (hL : L.length = n) : Calls Try.prog 12 #[.pointer (some ⟨hb, 0, none⟩)] w fun e w' => e = .returned (.int .i64 n) ∧ w = w' := by
  have := len_any h
  rwa [hL] at this

set_option maxRecDepth 100000 in
set_option maxHeartbeats 2000000 in
theorem plays_walk (n : Int) (a : Option Addr) (cap : Nat) (S : List OpN) (w : World) (hn : n ≤ 4096) (hS : OpsIn w a S) (hr : S.length * 32 ≤ 140737488351232) (hk : ∀ j, (h : j < S.length) → 0 ≤ S[j].kind ∧ S[j].kind < 256) :
    Calls Try.prog 3 #[.int .i64 n, .slice a S.length cap] w fun e w' => e = .returned (.bool true) ∧ Below w.heap.size w w' := by
  have hS' := Lib.hid hS
  have hk' := Lib.hid hk
  clear hS hk
  have nn := Lib.hid (fun w => new_any n w)
  have rn := Lib.hid (fun w => rnew_any n w)
  have cl := count_le n
  have lz := Lib.hid (length_zeros (count n))
  generalize count n = c at nn rn cl lz
  generalize zeros c = Z at nn rn lz
  generalize hlen : S.length = len at hr ⊢
  have hlen' := Lib.hid hlen
  clear hlen
  go_enter Try.func3, Try.ntmps3
  go_wp2_with (first
    | (go_at_call 9; (with_reducible refine (alive_any _).mono ?_); rintro e w1 ⟨rfl, p1⟩)
    | (go_at_call 10; (with_reducible refine (nn.out _).mono ?_); rintro e w2 ⟨rfl, h2, p2⟩)
    | (go_at_call 11; (with_reducible refine (rn.out _).mono ?_); rintro e w3 ⟨rfl, h3, p3⟩))
  have b1 : Below w.heap.size w w1 := p1.below (Nat.le_refl _) (fun _ h => h.elim)
  have b2 : Below w.heap.size w w2 := b1.trans (p2.below b1.size (fun _ h => h.elim))
  have b3 : Below w.heap.size w w3 := b2.trans (p3.below b2.size (fun _ h => h.elim))
  have m3 := h2.keep p3 (fun h => h) (fun h => h)
  have s1 := b1.size
  have s2 := h2.lt_hb
  clear p1 p2 p3 b1 b2 h2
  generalize w1.heap.size = rb at *
  generalize w2.heap.size = rb2 at *
  have r0 := h3.c0
  rw [lz.out] at r0
  have pl := Lib.hid (fun k => pl_len (m3.drewN k) lz.out)
  go_quiet ((go_at_call 12; exact quiet_same (pl.out _)))
  clear r0
  go_wp2
  go_loopw [7] (fun i wr => ∃ (k : Nat) (L : List Int) (t : Int), k ≤ len ∧ i = .int .i64 k ∧ L.length = c ∧ 0 ≤ t ∧ t ≤ (k : Int) ∧ MemAt wr (rb + 1) rb L t ∧ RefAt wr (rb2 + 1) rb2 L t ∧ Below w.heap.size w wr)
    (fun i _ => len - (intOf i).toNat)
  case atStart => exact ⟨0, Z, 0, Nat.zero_le _, rfl, lz.out, by decide, by decide, m3.drewN _, h3.drewN _, ⟨b3.os, b3.tape, b3.output, b3.size, b3.block⟩⟩
  case round =>
    obtain ⟨k, L, t, hk, rfl, hL, t0, t1, hm, hq, hbel⟩ := hrel
    have hL' := Lib.hid hL
    clear hL m3 h3 b3
    have hsz := hbel.size
    by_cases hlt : k < len
    · obtain ⟨b, off, rfl, hb1, hb2⟩ := hS'.out k (by rw [hlen'.out]; exact hlt)
      have hkk := hk'.out k (by rw [hlen'.out]; exact hlt)
      obtain ⟨x0, x1, x2, x3⟩ := hb2 k (by rw [hlen'.out]; exact hlt)
      clear hb2
      generalize S[k]'(by rw [hlen'.out]; exact hlt) = o at x0 x1 x2 x3 hkk
      obtain ⟨kind, I, old, v⟩ := o
      simp only at x0 x1 x2 x3 hkk
      have y0 := (hbel.cell (p := ⟨b, off + k * 4, none⟩) hb1).trans x0
      have y1 := (hbel.cell (p := ⟨b, off + k * 4 + 1, none⟩) hb1).trans x1
      have y2 := (hbel.cell (p := ⟨b, off + k * 4 + 2, none⟩) hb1).trans x2
      have y3 := (hbel.cell (p := ⟨b, off + k * 4 + 3, none⟩) hb1).trans x3
      clear x0 x1 x2 x3
      go_wp2_with fail
      have mA := hm.alloc (.cells #[.int .u8 kind, .int .i64 I, .int .u64 old, .int .u64 v] 34)
      have qA := hq.alloc (.cells #[.int .u8 kind, .int .i64 I, .int .u64 old, .int .u64 v] 34)
      have oA : OpAt (wr.alloc (.cells #[.int .u8 kind, .int .i64 I, .int .u64 old, .int .u64 v] 34)) wr.heap.size kind I old v := heap_new _ _
      have bA : Below w.heap.size w (wr.alloc (.cells #[.int .u8 kind, .int .i64 I, .int .u64 old, .int .u64 v] 34)) := hbel.alloc hsz _
      have z1 := hm.lt_hb
      have z2 := hq.lt_hb
      clear hm hq hbel y0 y1 y2 y3 hb1
      generalize wr.alloc (.cells #[.int .u8 kind, .int .i64 I, .int .u64 old, .int .u64 v] 34) = W1 at *
      generalize wr.heap.size = ob at *
      have hs1 := bA.size
      have c0 := oA.ck
      have c1 := oA.ci
      have c2 := oA.co
      have c3 := oA.cv
      rcases out_or_in L I with hi | ⟨i, rfl, hi⟩
      · have hi' := Lib.hid hi
        have oA' := Lib.hid oA
        clear hi oA
        go_wp2_with (first
          | (go_at_call 13; (with_reducible refine (rhas_no qA _ hi'.out).mono ?_); rintro e w4 ⟨rfl, rfl⟩)
          | (go_at_call 14; (with_reducible refine (load_no mA _ hi'.out).mono ?_); rintro e w4 ⟨rfl, rfl⟩)
          | (go_at_call 15; (with_reducible refine (store_no mA _ _ hi'.out).mono ?_); rintro e w4 ⟨rfl, rfl⟩)
          | (go_at_call 16; (with_reducible refine (swap_no mA _ _ _ hi'.out).mono ?_); rintro e w4 ⟨rfl, rfl⟩)
          | (go_at_call 17; (with_reducible refine (add_no mA _ _ hi'.out).mono ?_); rintro e w4 ⟨rfl, rfl⟩)
          | (go_at_call 18; (with_reducible refine (peek_no mA _ hi'.out).mono ?_); rintro e w4 ⟨rfl, rfl⟩))
        go_roundw
        case rel => exact ⟨k + 1, L, t, by omega, by go_num, hL'.out, t0, by omega, mA, qA, bA⟩
        case measure => simp [intOf]; omega
      · have h5 : kind % 5 = 0 ∨ kind % 5 = 1 ∨ kind % 5 = 2 ∨ kind % 5 = 3 ∨ kind % 5 = 4 := by omega
        rcases h5 with h5 | h5 | h5 | h5 | h5
        · go_wp2_with (first
            | (go_at_call 13; (with_reducible refine (rhas_yes qA i hi).mono ?_); rintro e w4 ⟨rfl, rfl⟩)
            | (go_at_call 14; (with_reducible refine (load_yes mA i hi t0 (by omega)).mono ?_); rintro e w5 ⟨rfl, m5, o5⟩; have q5 := qA.keep o5 (fun h => by rcases h with h | h <;> omega) (fun h => by rcases h with h | h <;> omega); have oB := oA.keep o5 (fun h => by rcases h with h | h <;> omega); have d1 := oB.ci; have d2 := oB.co; have d3 := oB.cv)
            | (go_at_call 19; (with_reducible refine (rload_yes q5 i hi t0 (by omega)).mono ?_); rintro e w6 ⟨rfl, q6, o6⟩; have m6 := m5.keep o6 (fun h => by rcases h with h | h <;> omega) (fun h => by rcases h with h | h <;> omega); have tq := Lib.hid (fun n => touched_any (m6.drewN n)); have r1 := q6.c1))
          go_quiet ((go_at_call 23; exact quiet_same (tq.out _)))
          go_wp2
          go_roundw
          case rel => exact ⟨k + 1, L, t + 1, by omega, by go_num, hL'.out, by omega, by omega, m6.drewN _, q6.drewN _, ((bA.trans (o5.under hs1 (by omega) (by omega))).trans (o6.under (by have := o5.size; omega) (by omega) (by omega))).drewN' _⟩
          case measure => simp [intOf]; omega
        · go_wp2_with (first
            | (go_at_call 13; (with_reducible refine (rhas_yes qA i hi).mono ?_); rintro e w4 ⟨rfl, rfl⟩)
            | (go_at_call 15; (with_reducible refine (store_yes mA i v hi t0 (by omega)).mono ?_); rintro e w5 ⟨rfl, m5, o5⟩; have q5 := qA.keep o5 (fun h => by rcases h with h | h <;> omega) (fun h => by rcases h with h | h <;> omega); have oB := oA.keep o5 (fun h => by rcases h with h | h <;> omega); have d1 := oB.ci; have d2 := oB.co; have d3 := oB.cv)
            | (go_at_call 20; (with_reducible refine (rstore_yes q5 i v hi t0 (by omega)).mono ?_); rintro e w6 ⟨rfl, q6, o6⟩; have m6 := m5.keep o6 (fun h => by rcases h with h | h <;> omega) (fun h => by rcases h with h | h <;> omega); have tq := Lib.hid (fun n => touched_any (m6.drewN n)); have r1 := q6.c1))
          go_quiet ((go_at_call 23; exact quiet_same (tq.out _)))
          go_wp2
          go_roundw
          case rel => exact ⟨k + 1, L.set i v, t + 1, by omega, by go_num, by rw [List.length_set]; exact hL'.out, by omega, by omega, m6.drewN _, q6.drewN _, ((bA.trans (o5.under hs1 (by omega) (by omega))).trans (o6.under (by have := o5.size; omega) (by omega) (by omega))).drewN' _⟩
          case measure => simp [intOf]; omega
        · by_cases hsw : L.getD i 0 = old
          · have hsw' := Lib.hid hsw
            clear hsw
            go_wp2_with (first
              | (go_at_call 13; (with_reducible refine (rhas_yes qA i hi).mono ?_); rintro e w4 ⟨rfl, rfl⟩)
              | (go_at_call 16; (with_reducible refine (swap_done mA i old v hi hsw'.out t0 (by omega)).mono ?_); rintro e w5 ⟨rfl, m5, o5⟩; have q5 := qA.keep o5 (fun h => by rcases h with h | h <;> omega) (fun h => by rcases h with h | h <;> omega); have oB := oA.keep o5 (fun h => by rcases h with h | h <;> omega); have d1 := oB.ci; have d2 := oB.co; have d3 := oB.cv)
              | (go_at_call 21; (with_reducible refine (rswap_done q5 i old v hi hsw'.out t0 (by omega)).mono ?_); rintro e w6 ⟨rfl, q6, o6⟩; have m6 := m5.keep o6 (fun h => by rcases h with h | h <;> omega) (fun h => by rcases h with h | h <;> omega); have tq := Lib.hid (fun n => touched_any (m6.drewN n)); have r1 := q6.c1))
            go_quiet ((go_at_call 23; exact quiet_same (tq.out _)))
            go_wp2
            go_roundw
            case rel => exact ⟨k + 1, L.set i v, t + 1, by omega, by go_num, by rw [List.length_set]; exact hL'.out, by omega, by omega, m6.drewN _, q6.drewN _, ((bA.trans (o5.under hs1 (by omega) (by omega))).trans (o6.under (by have := o5.size; omega) (by omega) (by omega))).drewN' _⟩
            case measure => simp [intOf]; omega
          · have hsw' := Lib.hid hsw
            clear hsw
            go_wp2_with (first
              | (go_at_call 13; (with_reducible refine (rhas_yes qA i hi).mono ?_); rintro e w4 ⟨rfl, rfl⟩)
              | (go_at_call 16; (with_reducible refine (swap_not mA i old v hi (by simpa using hsw'.out) t0 (by omega)).mono ?_); rintro e w5 ⟨rfl, m5, o5⟩; have q5 := qA.keep o5 (fun h => by rcases h with h | h <;> omega) (fun h => by rcases h with h | h <;> omega); have oB := oA.keep o5 (fun h => by rcases h with h | h <;> omega); have d1 := oB.ci; have d2 := oB.co; have d3 := oB.cv)
              | (go_at_call 21; (with_reducible refine (rswap_not q5 i old v hi (by simpa using hsw'.out) t0 (by omega)).mono ?_); rintro e w6 ⟨rfl, q6, o6⟩; have m6 := m5.keep o6 (fun h => by rcases h with h | h <;> omega) (fun h => by rcases h with h | h <;> omega); have tq := Lib.hid (fun n => touched_any (m6.drewN n)); have r1 := q6.c1))
            go_quiet ((go_at_call 23; exact quiet_same (tq.out _)))
            go_wp2
            go_roundw
            case rel => exact ⟨k + 1, L, t + 1, by omega, by go_num, hL'.out, by omega, by omega, m6.drewN _, q6.drewN _, ((bA.trans (o5.under hs1 (by omega) (by omega))).trans (o6.under (by have := o5.size; omega) (by omega) (by omega))).drewN' _⟩
            case measure => simp [intOf]; omega
        · go_wp2_with (first
            | (go_at_call 13; (with_reducible refine (rhas_yes qA i hi).mono ?_); rintro e w4 ⟨rfl, rfl⟩)
            | (go_at_call 17; (with_reducible refine (add_yes mA i v hi t0 (by omega)).mono ?_); rintro e w5 ⟨rfl, m5, o5⟩; have q5 := qA.keep o5 (fun h => by rcases h with h | h <;> omega) (fun h => by rcases h with h | h <;> omega); have oB := oA.keep o5 (fun h => by rcases h with h | h <;> omega); have d1 := oB.ci; have d2 := oB.co; have d3 := oB.cv)
            | (go_at_call 22; (with_reducible refine (radd_yes q5 i v hi t0 (by omega)).mono ?_); rintro e w6 ⟨rfl, q6, o6⟩; have m6 := m5.keep o6 (fun h => by rcases h with h | h <;> omega) (fun h => by rcases h with h | h <;> omega); have tq := Lib.hid (fun n => touched_any (m6.drewN n)); have r1 := q6.c1))
          go_quiet ((go_at_call 23; exact quiet_same (tq.out _)))
          go_wp2
          go_roundw
          case rel => exact ⟨k + 1, _, t + 1, by omega, by go_num, by rw [List.length_set]; exact hL'.out, by omega, by omega, m6.drewN _, q6.drewN _, ((bA.trans (o5.under hs1 (by omega) (by omega))).trans (o6.under (by have := o5.size; omega) (by omega) (by omega))).drewN' _⟩
          case measure => simp [intOf]; omega
        · have pk := Lib.hid (fun n => peek_yes (mA.drewN n) i hi)
          have r0 := qA.c0
          have r1 := qA.c1
          have ri := qA.ci i hi
          have h0 : (0 : Int) ≤ (i : Int) := by omega
          have h1 : (i : Int) < (L.length : Int) := by omega
          generalize L.getD i 0 = x at pk ri
          go_wp2_with (go_at_call 13; (with_reducible refine (rhas_yes qA i hi).mono ?_); rintro e w4 ⟨rfl, rfl⟩)
          go_quiet ((go_at_call 18; exact quiet_same (pk.out _)))
          have mB := mA.drewN nq
          have qB := qA.drewN nq
          have bB := bA.drewN' nq
          clear pk r0 r1 ri c0 c1 c2 c3
          generalize W1.drewN nq = W2 at mB qB bB ⊢
          have tq := Lib.hid (fun n => touched_any (mB.drewN n))
          have r1 := qB.c1
          go_wp2
          go_quiet ((go_at_call 23; exact quiet_same (tq.out _)))
          go_wp2
          go_roundw
          case rel => exact ⟨k + 1, L, t, by omega, by go_num, hL'.out, t0, by omega, mB.drewN _, qB.drewN _, bB.drewN' _⟩
          case measure => simp [intOf]; omega
    · have r0 := hq.c0
      have r1 := hq.c1
      have z2 := hq.lt_hb
      have z1 := hm.lt_hb
      have hcl : L.length ≤ 65536 := by rw [hL'.out]; exact cl
      have tq := Lib.hid (fun n => touched_any (hm.drewN n))
      have al := fun n => all_any (hm.drewN n) hcl
      have sm := fun (w : World) (b : Nat) h1 h2 => same_yes w b rb2 L h1 h2 hcl
      rw [hL'.out] at r0 al sm
      have al' := Lib.hid al
      have sm' := Lib.hid sm
      clear al sm
      go_wp2
      go_region_held3 (fun w' => w'.cell? ⟨rb2 + 1, 0, none⟩ = some (.slice (some ⟨rb2, 0, none⟩) c c) ∧ w'.cell? ⟨rb2 + 1, 1, none⟩ = some (.int .i64 t))
        (first | exact ⟨k0, k1⟩ | exact ⟨j0, j1⟩ | go_keep)
        (first
          | (go_at_call 23; refine (tq.out _).mono ?_; rintro e w4 ⟨rfl, rfl⟩)
          | (go_at_call 25; refine (al'.out _).mono ?_; rintro e w5 ⟨rfl, h5, z5, o5⟩; have q5 := (hq.drewN _).keep o5 (fun h => h) (fun h => h); have k0 := q5.c0; have k1 := q5.c1; rw [hL'.out] at k0)
          | (go_at_call 24; refine (sm'.out _ _ h5 q5.row).mono ?_; rintro e w6 ⟨rfl, o6⟩; have q6 := q5.keep o6 (fun h => h) (fun h => h); have j0 := q6.c0; have j1 := q6.c1; rw [hL'.out] at j0))
      go_wp2
      go_ret
      exact ⟨rfl, ((hbel.drewN' _).trans (o5.below hsz (fun _ h => h.elim))).trans (o6.below (Nat.le_trans hsz o5.size) (fun _ h => h.elim))⟩

set_option maxRecDepth 100000 in
theorem plays_much (n : Int) (a : Option Addr) (len cap : Nat) (w : World) (hn : 4096 < n) :
    Calls Try.prog 3 #[.int .i64 n, .slice a len cap] w fun e w' => e = .returned (.bool true) ∧ Below w.heap.size w w' := by
  go_enter Try.func3, Try.ntmps3
  go_wp2_with (go_at_call 9; (with_reducible refine (alive_any _).mono ?_); rintro e w1 ⟨rfl, o1⟩)
  go_ret
  exact ⟨rfl, o1.below (Nat.le_refl _) (fun _ h => h.elim)⟩

theorem plays_all (n : Int) (a : Option Addr) (cap : Nat) (S : List OpN) (w : World) (hS : OpsIn w a S) (hr : S.length * 32 ≤ 140737488351232) (hk : ∀ j, (h : j < S.length) → 0 ≤ S[j].kind ∧ S[j].kind < 256) :
    Calls Try.prog 3 #[.int .i64 n, .slice a S.length cap] w fun e w' => e = .returned (.bool true) ∧ Below w.heap.size w w' := by
  by_cases h : n ≤ 4096
  · exact plays_walk n a cap S w h hS hr hk
  · exact plays_much n a S.length cap w (by omega)
end Go.Proofs.Ytcbmnnpanclclaa
