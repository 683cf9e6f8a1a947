/- RingCloses answers true for all numbers and values, and turns nothing that there was: the walk. -/
import Derived.Test.YtpnpbgcndlfobaaRingXm
import Derived.Test.YtpnpbgcndlfobaaRingY
import Derived.Test.YtpnpbgcndlfobaaRowA
namespace Go.Proofs.Ytpnpbgcndlfobaa
open Go.RowKit

theorem RowK.keep {k : IntKind} {w w' : World} {a : Option Addr} {L : List Int} (h : RowK k w a L) (o : Only Nil w w') : RowK k w' a L := h.later (o.below (Nat.le_refl _) (fun _ h => h.elim))

/-- k values have gone into a fresh ring, j of them are out. -/
def Cl (c : Nat) (V : List Int) (k j : Nat) (x : Int) (L : List Int) : Prop :=
  ∃ R, RgL c x R L ∧ R.tail = k ∧ R.head = j ∧ (∀ i, i < c → R.turn i = if i < j then 2 else if i < k then 1 else 0) ∧ (∀ i, i < k → R.val i = V.getD i 0) ∧ k ≤ c ∧ j ≤ k ∧ 0 < c ∧ c ≤ 8

theorem Cl.fresh (c : Nat) (V : List Int) (hc : 0 < c) (hc2 : c ≤ 8) : Cl c V 0 0 0 (zeros (2 + 2 * c)) :=
  ⟨_, RgL.fresh c, rfl, rfl, fun i _ => by simp, fun i h => by omega, by omega, by omega, hc, hc2⟩
theorem Cl.put {c k : Nat} {V L : List Int} (h : Cl c V k 0 0 L) (hk : k < c) : ∃ L', Runs 0 c 5 L (.put0 (V.getD k 0)) L' (.over 1 0 k) ∧ Cl c V (k + 1) 0 0 L' := by
  obtain ⟨R, r, rfl, h0, ht, hv, h1, h2, hc, hc8⟩ := h
  have em := Nat.mod_eq_of_lt hk
  have ed := Nat.div_eq_of_lt hk
  obtain ⟨L', a, b⟩ := run_put r hc (by omega) (by omega) (V.getD R.tail 0) (by rw [em, ed, ht _ hk]; simp)
  refine ⟨L', a, _, b, rfl, h0, ?_, ?_, by omega, by omega, hc, hc8⟩
  · intro i hi
    simp only [em, ed]
    by_cases e : i = R.tail
    · subst e; rw [upd_same]; simp
    · rw [upd_other _ _ _ _ e, ht i hi]
      by_cases e2 : i < R.tail
      · rw [if_neg (by omega), if_pos e2, if_neg (by omega), if_pos (by omega)]
      · rw [if_neg (by omega), if_neg e2, if_neg (by omega), if_neg (by omega)]
  · intro i hi
    simp only [em]
    by_cases e : i = R.tail
    · subst e; rw [upd_same]
    · rw [upd_other _ _ _ _ e]; exact hv i (by omega)
theorem Cl.close {c k : Nat} {V L : List Int} (h : Cl c V k 0 0 L) : ∃ L', Runs 0 c 2 L .close0 L' (.over 1 0 0) ∧ Cl c V k 0 9223372036854775808 L' := by
  obtain ⟨R, r, h3, h0, ht, hv, h1, h2, hc, hc8⟩ := h
  obtain ⟨L', a, b⟩ := run_close r (by omega) (by omega)
  exact ⟨L', a, R, b, h3, h0, ht, hv, h1, h2, hc, hc8⟩
theorem Cl.close2 {c k j : Nat} {V L : List Int} (h : Cl c V k j 9223372036854775808 L) : Runs 0 c 1 L .close0 L (.over 1 0 0) := by
  obtain ⟨R, r, h3, h0, ht, hv, h1, h2, hc, hc8⟩ := h
  exact run_close2 r (by omega) (by omega)
theorem Cl.late {c k j : Nat} {V L : List Int} (h : Cl c V k j 9223372036854775808 L) (v : Int) : Runs 0 c 1 L (.put0 v) L (.over 3 0 0) := by
  obtain ⟨R, r, h3, h0, ht, hv, h1, h2, hc, hc8⟩ := h
  exact run_late r (by omega) (by omega) v
theorem Cl.drain {c k j : Nat} {V L : List Int} (h : Cl c V k j 9223372036854775808 L) (hj : j < k) : ∃ L', Runs 0 c 6 L .drain0 L' (.over 1 (V.getD j 0) 0) ∧ Cl c V k (j + 1) 9223372036854775808 L' := by
  obtain ⟨R, r, h3, rfl, ht, hv, h1, h2, hc, hc8⟩ := h
  have hjc : R.head < c := by omega
  have em := Nat.mod_eq_of_lt hjc
  have ed := Nat.div_eq_of_lt hjc
  obtain ⟨L', a, b⟩ := run_drain r hc (.inr rfl) (by omega) (by omega) (by omega) (by rw [em, ed, ht _ hjc]; simp [hj])
  rw [em, hv _ hj] at a
  refine ⟨L', a, _, b, h3, rfl, ?_, hv, h1, by omega, hc, hc8⟩
  intro i hi
  simp only [em, ed]
  by_cases e : i = R.head
  · subst e; rw [upd_same]; simp
  · rw [upd_other _ _ _ _ e, ht i hi]
    by_cases e2 : i < R.head
    · rw [if_pos e2, if_pos (by omega)]
    · rw [if_neg e2, if_neg (show ¬ i < R.head + 1 by omega)]
theorem Cl.end {c k : Nat} {V L : List Int} (h : Cl c V k k 9223372036854775808 L) : Runs 0 c 2 L .drain0 L (.over 5 0 0) := by
  obtain ⟨R, r, h3, h0, ht, hv, h1, h2, hc, hc8⟩ := h
  exact run_end r (by omega) (by omega)
theorem Cl.none {c k : Nat} {V L : List Int} (h : Cl c V k k 9223372036854775808 L) : Runs 0 c 2 L .take0 L (.over 4 0 0) := by
  obtain ⟨R, r, h3, h0, ht, hv, h1, h2, hc, hc8⟩ := h
  refine run_none r hc (.inr rfl) (by omega) (by omega) ?_
  rw [h0]
  rcases Nat.lt_or_ge k c with g | g
  · rw [Nat.mod_eq_of_lt g, Nat.div_eq_of_lt g, ht k g]; simp
  · have e : k = c := by omega
    rw [e, Nat.mod_self, Nat.div_self hc, ht 0 hc]
    simp [show 0 < k by omega]

set_option maxRecDepth 100000 in
set_option maxHeartbeats 16000000 in
theorem closes_walk (sl : Int) (a : Option Addr) (cap : Nat) (V : List Int) (late : Int) (c : Nat) (w : World) (hc : 1 ≤ c ∧ c ≤ 8) (e1 : 1 + sl % 8 = (c : Int)) (hsl : 0 ≤ sl ∧ sl < 256) (hV : RowK .u64 w a V) (hr : V.length * 8 ≤ 140737488351232) :
    Calls Try.prog 7 #[.int .u8 sl, .slice a V.length cap, .int .u64 late] w fun e w' => e = .returned (.bool true) ∧ Below w.heap.size w w' := by
  have md : Hid (∀ (w : World), Calls Try.prog 30 #[.int .i64 (1 + sl % 8)] w fun e w' => ∃ rg, e = .returned (.pointer (some ⟨rg, 0, none⟩)) ∧ Lw w w' rg (w.heap.size + 1) w.heap.size 0 c (zeros (2 + 2 * c)) (2 + 2 * (c : Int))) :=
    Lib.hid (fun w => by rw [e1]; exact made_any c w (by omega) (by omega))
  obtain ⟨x1, x2⟩ := hsl
  have e1' := Lib.hid e1
  have hc' := Lib.hid hc
  have hV' := Lib.hid hV
  have c8 : (c : Int) ≤ 8 := by omega
  clear e1 hc hV
  generalize hlen : V.length = len at hr ⊢
  have hlen' := Lib.hid hlen
  clear hlen
  go_enter Try.func7, Try.ntmps7
  go_wp2_with (first
    | (go_at_call 10; (with_reducible refine (alive_any _).mono ?_); rintro e w1 ⟨rfl, o1⟩)
    | (go_at_call 30; (with_reducible refine (md.out _).mono ?_); rintro e w2 ⟨rg, rfl, l2⟩))
  rw [e1'.out]
  have ow := Lib.hid o1
  have K0 : Hid (∃ L1 t1, t1 ≤ 100 + 10 * ((0 : Nat) : Int) ∧ Cl c V 0 0 0 L1 ∧ Lw w1 w2 rg (w1.heap.size + 1) w1.heap.size 0 c L1 t1) := Lib.hid ⟨_, _, by omega, Cl.fresh c V (by have := hc'.out; omega) hc'.out.2, l2⟩
  clear o1 l2
  generalize w1.heap.size = B at *
  go_loopw [9] (fun s3 wr => ∃ k : Nat, k ≤ len ∧ k ≤ c ∧ s3 = .int .i64 (k : Int) ∧ Hid (∃ L1 t1, t1 ≤ 100 + 10 * (k : Int) ∧ Cl c V k 0 0 L1 ∧ Lw w1 wr rg (B + 1) B 0 c L1 t1))
    (fun s3 _ => len - (intOf s3).toNat)
  case atStart => exact ⟨0, Nat.zero_le _, Nat.zero_le _, rfl, K0⟩
  case round =>
    obtain ⟨k, hk, hkc, rfl, hh⟩ := hrel
    obtain ⟨L1, t1, ht1, C1, l1⟩ := hh.out
    by_cases hgo : k < len ∧ k < c
    · obtain ⟨g1, g2⟩ := hgo
      have g1' : (k : Int) < (len : Int) := by omega
      have g2' : (k : Int) < (c : Int) := by omega
      obtain ⟨b, off, rfl, hb1, hb2⟩ := (hV'.out.keep (ow.out.trans l1.only)) k (by rw [hlen'.out]; exact g1)
      have hx : wr.cell? ⟨b, off + k, none⟩ = some (.int .u64 (V.getD k 0)) := hb2 k (by rw [hlen'.out]; exact g1)
      obtain ⟨L2, r2, C2⟩ := C1.put g2
      have C2' := Lib.hid C2
      generalize V.getD k 0 = x at hx r2
      have pp := Lib.hid (l1.put x)
      have dd := Lib.hid (fun (w9 : World) (ob : Nat) (l : Lw w1 w9 rg (B + 1) B 0 c L1 t1) (q : Op1 w1 w9 ob rg (B + 1) B (.put0 x)) => (l.done q r2 (by decide) (by omega)).mono (R' := fun e w' => e = .returned (.tuple #[.int .i64 1, .int .u64 0, .int .i64 5]) ∧ Lw w1 w' rg (B + 1) B 0 c L2 (t1 + 5)) (fun e w' hh => ⟨hh.1, hh.2.1⟩))
      have ht2 := Lib.hid (show t1 + 5 ≤ 100 + 10 * ((k + 1 : Nat) : Int) by omega)
      have hk2 := Lib.hid (And.intro g1 g2)
      clear C1 C2 r2 l1 hh ht1 hk hkc g1 g2 K0 hb2
      go_wp2_with (first
        | (go_at_call 29; (with_reducible refine (pp.out).mono ?_); rintro e w3 ⟨rfl, l3, q3, o3, z3⟩)
        | (go_at_call 28; (with_reducible refine (dd.out _ _ l3 q3).mono ?_); rintro e w4 ⟨rfl, l4⟩))
      have J4 := Lib.hid l4
      clear l3 q3 o3 z3 l4
      go_roundw
      case rel => exact ⟨k + 1, by have := hk2.out; omega, by have := hk2.out; omega, by go_num, Lib.hid ⟨_, _, ht2.out, C2'.out, J4.out⟩⟩
      case measure => have := hk2.out; simp [intOf]; omega
    · have hex : (¬ k < len) ∨ (k < len ∧ ¬ k < c) := by omega
      obtain ⟨L2, r2, C2⟩ := C1.close
      have r3 := C2.close2
      have H1 := Lib.hid l1
      have hsm : Hid (t1 ≤ 200) := Lib.hid (by have := hc'.out; omega)
      rcases hex with f1 | ⟨f1, f2⟩
      · have f1' : ¬ ((k : Int) < (len : Int)) := by omega
        clear f1
        have p0 := Lib.hid (fun (w9 : World) (l : Lw w1 w9 rg (B + 1) B 0 c L1 (t1)) => l.close)
        have d0 := Lib.hid (fun (w9 : World) (ob : Nat) (l : Lw w1 w9 rg (B + 1) B 0 c L1 (t1)) (q : Op1 w1 w9 ob rg (B + 1) B .close0) => (l.done q r2 (by decide) (by have := hsm.out; omega)).mono (R' := fun e w' => e = .returned (.tuple #[.int .i64 1, .int .u64 0, .int .i64 2]) ∧ Lw w1 w' rg (B + 1) B 0 c L2 (t1 + 2)) (fun e w' hh => ⟨hh.1, hh.2.1⟩))
        have p1 := Lib.hid (fun (w9 : World) (l : Lw w1 w9 rg (B + 1) B 0 c L2 (t1 + 2)) => l.close)
        have d1 := Lib.hid (fun (w9 : World) (ob : Nat) (l : Lw w1 w9 rg (B + 1) B 0 c L2 (t1 + 2)) (q : Op1 w1 w9 ob rg (B + 1) B .close0) => (l.done q r3 (by decide) (by have := hsm.out; omega)).mono (R' := fun e w' => e = .returned (.tuple #[.int .i64 1, .int .u64 0, .int .i64 1]) ∧ Lw w1 w' rg (B + 1) B 0 c L2 (t1 + 2 + 1)) (fun e w' hh => ⟨hh.1, hh.2.1⟩))
        have C2' := Lib.hid C2
        have hkk := Lib.hid (And.intro hk hkc)
        clear hgo C1 C2 r2 r3 l1 hh ht1 hk hkc K0
        go_wp2_with (first
          | (go_at_call 31; (with_reducible refine (p0.out _ H1.out).mono ?_); rintro e w3 ⟨rfl, l3, q3, _, _⟩)
          | (go_at_call 28; (with_reducible refine (d0.out _ _ l3 q3).mono ?_); rintro e w4 ⟨rfl, l4⟩)
          | (go_at_call 31; (with_reducible refine (p1.out _ l4).mono ?_); rintro e w5 ⟨rfl, l5, q5, _, _⟩)
          | (go_at_call 28; (with_reducible refine (d1.out _ _ l5 q5).mono ?_); rintro e w6 ⟨rfl, l6⟩))
        have Z0 : Hid (∃ L1 t1, t1 ≤ 300 + 10 * ((0 : Nat) : Int) ∧ Cl c V k 0 9223372036854775808 L1 ∧ Lw w1 w6 rg (B + 1) B 0 c L1 t1) := Lib.hid ⟨_, _, by have := hsm.out; omega, C2'.out, l6⟩
        clear p0 p1 d0 d1 l3 l4 l5 l6 q3 q5 H1 hsm C2'
        go_loopw [19] (fun s3 ws => ∃ i : Nat, i ≤ k ∧ s3 = .int .i64 (i : Int) ∧ Hid (∃ L1 t1, t1 ≤ 300 + 10 * (i : Int) ∧ Cl c V k i 9223372036854775808 L1 ∧ Lw w1 ws rg (B + 1) B 0 c L1 t1))
          (fun s3 _ => k - (intOf s3).toNat)
        case atStart => exact ⟨0, Nat.zero_le _, rfl, Z0⟩
        case round =>
          obtain ⟨i, hi, rfl, hh⟩ := hrel
          obtain ⟨L1, t1, ht1, C1, l1⟩ := hh.out
          by_cases hik : i < k
          · have h1 : (i : Int) < (k : Int) := by omega
            have h2 : (i : Int) < (len : Int) := by have := hkk.out; omega
            obtain ⟨b, off, rfl, hb1, hb2⟩ := (hV'.out.keep (ow.out.trans l1.only)) i (by rw [hlen'.out]; have := hkk.out; omega)
            obtain ⟨L2, r2, C2⟩ := C1.drain hik
            have r1 := C1.late late
            have C2' := Lib.hid C2
            have pp := Lib.hid (l1.put late)
            have dd := Lib.hid (fun (w9 : World) (ob : Nat) (l : Lw w1 w9 rg (B + 1) B 0 c L1 t1) (q : Op1 w1 w9 ob rg (B + 1) B (.put0 late)) => (l.done q r1 (by decide) (by have := hkk.out; have := hc'.out; omega)).mono (R' := fun e w' => e = .returned (.tuple #[.int .i64 3, .int .u64 0, .int .i64 1]) ∧ Lw w1 w' rg (B + 1) B 0 c L1 (t1 + 1)) (fun e w' hh => ⟨hh.1, hh.2.1⟩))
            have ff := Lib.hid (fun (w9 : World) (l : Lw w1 w9 rg (B + 1) B 0 c L1 (t1 + 1)) => l.drain)
            have hV2 := Lib.hid (fun (w9 : World) (l : Lw w1 w9 rg (B + 1) B 0 c L2 (t1 + 1 + 6)) => (show w9.cell? ⟨b, off + i, none⟩ = some (.int .u64 (V.getD i 0)) from by
              obtain ⟨b', off', e, g1, g2⟩ := (hV'.out.keep (ow.out.trans l.only)) i (by rw [hlen'.out]; have := hkk.out; omega)
              simp only [Option.some.injEq, Addr.mk.injEq, and_true] at e
              obtain ⟨rfl, rfl⟩ := e
              exact g2 i (by rw [hlen'.out]; have := hkk.out; omega)))
            generalize V.getD i 0 = x at r2 hV2
            have gg := Lib.hid (fun (w9 : World) (ob : Nat) (l : Lw w1 w9 rg (B + 1) B 0 c L1 (t1 + 1)) (q : Op1 w1 w9 ob rg (B + 1) B .drain0) => (l.done q r2 (by decide) (by have := hkk.out; have := hc'.out; omega)).mono (R' := fun e w' => e = .returned (.tuple #[.int .i64 1, .int .u64 x, .int .i64 6]) ∧ Lw w1 w' rg (B + 1) B 0 c L2 (t1 + 1 + 6)) (fun e w' hh => ⟨hh.1, hh.2.1⟩))
            have ht2 := Lib.hid (show t1 + 1 + 6 ≤ 300 + 10 * ((i + 1 : Nat) : Int) by omega)
            have hi2 := Lib.hid (And.intro hik hik)
            clear C1 C2 r1 r2 l1 hh ht1 hi hik Z0 hb2
            go_wp2_with (first
              | (go_at_call 29; (with_reducible refine (pp.out).mono ?_); rintro e w7 ⟨rfl, l7, q7, _, _⟩)
              | (go_at_call 28; (with_reducible refine (dd.out _ _ l7 q7).mono ?_); rintro e w8 ⟨rfl, l8⟩)
              | (go_at_call 32; (with_reducible refine (ff.out _ l8).mono ?_); rintro e w9 ⟨rfl, l9, q9, _, _⟩)
              | (go_at_call 28; (with_reducible refine (gg.out _ _ l9 q9).mono ?_); rintro e w10 ⟨rfl, l10⟩; have hx := hV2.out _ l10))
            have J4 := Lib.hid l10
            clear l7 q7 l8 l9 q9 l10 hx
            go_roundw
            case rel => exact ⟨i + 1, by have := hi2.out; omega, by go_num, Lib.hid ⟨_, _, ht2.out, C2'.out, J4.out⟩⟩
            case measure => have := hi2.out; simp [intOf]; omega
          · obtain rfl : i = k := by omega
            have h1 : ¬ ((i : Int) < (i : Int)) := by omega
            have r1 := C1.end
            have r2 := C1.none
            have H1 := Lib.hid l1
            have hsm : Hid (t1 ≤ 400) := Lib.hid (by have := hc'.out; have := hkk.out; omega)
            have p0 := Lib.hid (fun (w9 : World) (l : Lw w1 w9 rg (B + 1) B 0 c L1 (t1)) => l.drain)
            have d0 := Lib.hid (fun (w9 : World) (ob : Nat) (l : Lw w1 w9 rg (B + 1) B 0 c L1 (t1)) (q : Op1 w1 w9 ob rg (B + 1) B .drain0) => (l.done q r1 (by decide) (by have := hsm.out; omega)).mono (R' := fun e w' => e = .returned (.tuple #[.int .i64 5, .int .u64 0, .int .i64 2]) ∧ Lw w1 w' rg (B + 1) B 0 c L1 (t1 + 2)) (fun e w' hh => ⟨hh.1, hh.2.1⟩))
            have p1 := Lib.hid (fun (w9 : World) (l : Lw w1 w9 rg (B + 1) B 0 c L1 (t1 + 2)) => l.drain)
            have d1 := Lib.hid (fun (w9 : World) (ob : Nat) (l : Lw w1 w9 rg (B + 1) B 0 c L1 (t1 + 2)) (q : Op1 w1 w9 ob rg (B + 1) B .drain0) => (l.done q r1 (by decide) (by have := hsm.out; omega)).mono (R' := fun e w' => e = .returned (.tuple #[.int .i64 5, .int .u64 0, .int .i64 2]) ∧ Lw w1 w' rg (B + 1) B 0 c L1 (t1 + 2 + 2)) (fun e w' hh => ⟨hh.1, hh.2.1⟩))
            have p2 := Lib.hid (fun (w9 : World) (l : Lw w1 w9 rg (B + 1) B 0 c L1 (t1 + 2 + 2)) => l.take)
            have d2 := Lib.hid (fun (w9 : World) (ob : Nat) (l : Lw w1 w9 rg (B + 1) B 0 c L1 (t1 + 2 + 2)) (q : Op1 w1 w9 ob rg (B + 1) B .take0) => (l.done q r2 (by decide) (by have := hsm.out; omega)).mono (R' := fun e w' => e = .returned (.tuple #[.int .i64 4, .int .u64 0, .int .i64 2]) ∧ Lw w1 w' rg (B + 1) B 0 c L1 (t1 + 2 + 2 + 2)) (fun e w' hh => ⟨hh.1, hh.2.1⟩))
            clear C1 r1 r2 l1 hh ht1 hi hik Z0
            go_wp2_with (first
              | (go_at_call 32; (with_reducible refine (p0.out _ H1.out).mono ?_); rintro e y0 ⟨rfl, j0, q0, _, _⟩)
              | (go_at_call 28; (with_reducible refine (d0.out _ _ j0 q0).mono ?_); rintro e x0 ⟨rfl, k0⟩)
              | (go_at_call 32; (with_reducible refine (p1.out _ k0).mono ?_); rintro e y1 ⟨rfl, j1, q1, _, _⟩)
              | (go_at_call 28; (with_reducible refine (d1.out _ _ j1 q1).mono ?_); rintro e x1 ⟨rfl, k1⟩)
              | (go_at_call 33; (with_reducible refine (p2.out _ k1).mono ?_); rintro e y2 ⟨rfl, j2, q2, _, _⟩)
              | (go_at_call 28; (with_reducible refine (d2.out _ _ j2 q2).mono ?_); rintro e x2 ⟨rfl, k2⟩))
            go_ret
            exact ⟨rfl, (ow.out.trans k2.only).below (Nat.le_refl _) (fun _ h => h.elim)⟩
      · have f1' : (k : Int) < (len : Int) := by omega
        have f2' : ¬ ((k : Int) < (c : Int)) := by omega
        clear f1 f2
        have p0 := Lib.hid (fun (w9 : World) (l : Lw w1 w9 rg (B + 1) B 0 c L1 (t1)) => l.close)
        have d0 := Lib.hid (fun (w9 : World) (ob : Nat) (l : Lw w1 w9 rg (B + 1) B 0 c L1 (t1)) (q : Op1 w1 w9 ob rg (B + 1) B .close0) => (l.done q r2 (by decide) (by have := hsm.out; omega)).mono (R' := fun e w' => e = .returned (.tuple #[.int .i64 1, .int .u64 0, .int .i64 2]) ∧ Lw w1 w' rg (B + 1) B 0 c L2 (t1 + 2)) (fun e w' hh => ⟨hh.1, hh.2.1⟩))
        have p1 := Lib.hid (fun (w9 : World) (l : Lw w1 w9 rg (B + 1) B 0 c L2 (t1 + 2)) => l.close)
        have d1 := Lib.hid (fun (w9 : World) (ob : Nat) (l : Lw w1 w9 rg (B + 1) B 0 c L2 (t1 + 2)) (q : Op1 w1 w9 ob rg (B + 1) B .close0) => (l.done q r3 (by decide) (by have := hsm.out; omega)).mono (R' := fun e w' => e = .returned (.tuple #[.int .i64 1, .int .u64 0, .int .i64 1]) ∧ Lw w1 w' rg (B + 1) B 0 c L2 (t1 + 2 + 1)) (fun e w' hh => ⟨hh.1, hh.2.1⟩))
        have C2' := Lib.hid C2
        have hkk := Lib.hid (And.intro hk hkc)
        clear hgo C1 C2 r2 r3 l1 hh ht1 hk hkc K0
        go_wp2_with (first
          | (go_at_call 31; (with_reducible refine (p0.out _ H1.out).mono ?_); rintro e w3 ⟨rfl, l3, q3, _, _⟩)
          | (go_at_call 28; (with_reducible refine (d0.out _ _ l3 q3).mono ?_); rintro e w4 ⟨rfl, l4⟩)
          | (go_at_call 31; (with_reducible refine (p1.out _ l4).mono ?_); rintro e w5 ⟨rfl, l5, q5, _, _⟩)
          | (go_at_call 28; (with_reducible refine (d1.out _ _ l5 q5).mono ?_); rintro e w6 ⟨rfl, l6⟩))
        have Z0 : Hid (∃ L1 t1, t1 ≤ 300 + 10 * ((0 : Nat) : Int) ∧ Cl c V k 0 9223372036854775808 L1 ∧ Lw w1 w6 rg (B + 1) B 0 c L1 t1) := Lib.hid ⟨_, _, by have := hsm.out; omega, C2'.out, l6⟩
        clear p0 p1 d0 d1 l3 l4 l5 l6 q3 q5 H1 hsm C2'
        go_loopw [19] (fun s3 ws => ∃ i : Nat, i ≤ k ∧ s3 = .int .i64 (i : Int) ∧ Hid (∃ L1 t1, t1 ≤ 300 + 10 * (i : Int) ∧ Cl c V k i 9223372036854775808 L1 ∧ Lw w1 ws rg (B + 1) B 0 c L1 t1))
          (fun s3 _ => k - (intOf s3).toNat)
        case atStart => exact ⟨0, Nat.zero_le _, rfl, Z0⟩
        case round =>
          obtain ⟨i, hi, rfl, hh⟩ := hrel
          obtain ⟨L1, t1, ht1, C1, l1⟩ := hh.out
          by_cases hik : i < k
          · have h1 : (i : Int) < (k : Int) := by omega
            have h2 : (i : Int) < (len : Int) := by have := hkk.out; omega
            obtain ⟨b, off, rfl, hb1, hb2⟩ := (hV'.out.keep (ow.out.trans l1.only)) i (by rw [hlen'.out]; have := hkk.out; omega)
            obtain ⟨L2, r2, C2⟩ := C1.drain hik
            have r1 := C1.late late
            have C2' := Lib.hid C2
            have pp := Lib.hid (l1.put late)
            have dd := Lib.hid (fun (w9 : World) (ob : Nat) (l : Lw w1 w9 rg (B + 1) B 0 c L1 t1) (q : Op1 w1 w9 ob rg (B + 1) B (.put0 late)) => (l.done q r1 (by decide) (by have := hkk.out; have := hc'.out; omega)).mono (R' := fun e w' => e = .returned (.tuple #[.int .i64 3, .int .u64 0, .int .i64 1]) ∧ Lw w1 w' rg (B + 1) B 0 c L1 (t1 + 1)) (fun e w' hh => ⟨hh.1, hh.2.1⟩))
            have ff := Lib.hid (fun (w9 : World) (l : Lw w1 w9 rg (B + 1) B 0 c L1 (t1 + 1)) => l.drain)
            have hV2 := Lib.hid (fun (w9 : World) (l : Lw w1 w9 rg (B + 1) B 0 c L2 (t1 + 1 + 6)) => (show w9.cell? ⟨b, off + i, none⟩ = some (.int .u64 (V.getD i 0)) from by
              obtain ⟨b', off', e, g1, g2⟩ := (hV'.out.keep (ow.out.trans l.only)) i (by rw [hlen'.out]; have := hkk.out; omega)
              simp only [Option.some.injEq, Addr.mk.injEq, and_true] at e
              obtain ⟨rfl, rfl⟩ := e
              exact g2 i (by rw [hlen'.out]; have := hkk.out; omega)))
            generalize V.getD i 0 = x at r2 hV2
            have gg := Lib.hid (fun (w9 : World) (ob : Nat) (l : Lw w1 w9 rg (B + 1) B 0 c L1 (t1 + 1)) (q : Op1 w1 w9 ob rg (B + 1) B .drain0) => (l.done q r2 (by decide) (by have := hkk.out; have := hc'.out; omega)).mono (R' := fun e w' => e = .returned (.tuple #[.int .i64 1, .int .u64 x, .int .i64 6]) ∧ Lw w1 w' rg (B + 1) B 0 c L2 (t1 + 1 + 6)) (fun e w' hh => ⟨hh.1, hh.2.1⟩))
            have ht2 := Lib.hid (show t1 + 1 + 6 ≤ 300 + 10 * ((i + 1 : Nat) : Int) by omega)
            have hi2 := Lib.hid (And.intro hik hik)
            clear C1 C2 r1 r2 l1 hh ht1 hi hik Z0 hb2
            go_wp2_with (first
              | (go_at_call 29; (with_reducible refine (pp.out).mono ?_); rintro e w7 ⟨rfl, l7, q7, _, _⟩)
              | (go_at_call 28; (with_reducible refine (dd.out _ _ l7 q7).mono ?_); rintro e w8 ⟨rfl, l8⟩)
              | (go_at_call 32; (with_reducible refine (ff.out _ l8).mono ?_); rintro e w9 ⟨rfl, l9, q9, _, _⟩)
              | (go_at_call 28; (with_reducible refine (gg.out _ _ l9 q9).mono ?_); rintro e w10 ⟨rfl, l10⟩; have hx := hV2.out _ l10))
            have J4 := Lib.hid l10
            clear l7 q7 l8 l9 q9 l10 hx
            go_roundw
            case rel => exact ⟨i + 1, by have := hi2.out; omega, by go_num, Lib.hid ⟨_, _, ht2.out, C2'.out, J4.out⟩⟩
            case measure => have := hi2.out; simp [intOf]; omega
          · obtain rfl : i = k := by omega
            have h1 : ¬ ((i : Int) < (i : Int)) := by omega
            have r1 := C1.end
            have r2 := C1.none
            have H1 := Lib.hid l1
            have hsm : Hid (t1 ≤ 400) := Lib.hid (by have := hc'.out; have := hkk.out; omega)
            have p0 := Lib.hid (fun (w9 : World) (l : Lw w1 w9 rg (B + 1) B 0 c L1 (t1)) => l.drain)
            have d0 := Lib.hid (fun (w9 : World) (ob : Nat) (l : Lw w1 w9 rg (B + 1) B 0 c L1 (t1)) (q : Op1 w1 w9 ob rg (B + 1) B .drain0) => (l.done q r1 (by decide) (by have := hsm.out; omega)).mono (R' := fun e w' => e = .returned (.tuple #[.int .i64 5, .int .u64 0, .int .i64 2]) ∧ Lw w1 w' rg (B + 1) B 0 c L1 (t1 + 2)) (fun e w' hh => ⟨hh.1, hh.2.1⟩))
            have p1 := Lib.hid (fun (w9 : World) (l : Lw w1 w9 rg (B + 1) B 0 c L1 (t1 + 2)) => l.drain)
            have d1 := Lib.hid (fun (w9 : World) (ob : Nat) (l : Lw w1 w9 rg (B + 1) B 0 c L1 (t1 + 2)) (q : Op1 w1 w9 ob rg (B + 1) B .drain0) => (l.done q r1 (by decide) (by have := hsm.out; omega)).mono (R' := fun e w' => e = .returned (.tuple #[.int .i64 5, .int .u64 0, .int .i64 2]) ∧ Lw w1 w' rg (B + 1) B 0 c L1 (t1 + 2 + 2)) (fun e w' hh => ⟨hh.1, hh.2.1⟩))
            have p2 := Lib.hid (fun (w9 : World) (l : Lw w1 w9 rg (B + 1) B 0 c L1 (t1 + 2 + 2)) => l.take)
            have d2 := Lib.hid (fun (w9 : World) (ob : Nat) (l : Lw w1 w9 rg (B + 1) B 0 c L1 (t1 + 2 + 2)) (q : Op1 w1 w9 ob rg (B + 1) B .take0) => (l.done q r2 (by decide) (by have := hsm.out; omega)).mono (R' := fun e w' => e = .returned (.tuple #[.int .i64 4, .int .u64 0, .int .i64 2]) ∧ Lw w1 w' rg (B + 1) B 0 c L1 (t1 + 2 + 2 + 2)) (fun e w' hh => ⟨hh.1, hh.2.1⟩))
            clear C1 r1 r2 l1 hh ht1 hi hik Z0
            go_wp2_with (first
              | (go_at_call 32; (with_reducible refine (p0.out _ H1.out).mono ?_); rintro e y0 ⟨rfl, j0, q0, _, _⟩)
              | (go_at_call 28; (with_reducible refine (d0.out _ _ j0 q0).mono ?_); rintro e x0 ⟨rfl, k0⟩)
              | (go_at_call 32; (with_reducible refine (p1.out _ k0).mono ?_); rintro e y1 ⟨rfl, j1, q1, _, _⟩)
              | (go_at_call 28; (with_reducible refine (d1.out _ _ j1 q1).mono ?_); rintro e x1 ⟨rfl, k1⟩)
              | (go_at_call 33; (with_reducible refine (p2.out _ k1).mono ?_); rintro e y2 ⟨rfl, j2, q2, _, _⟩)
              | (go_at_call 28; (with_reducible refine (d2.out _ _ j2 q2).mono ?_); rintro e x2 ⟨rfl, k2⟩))
            go_ret
            exact ⟨rfl, (ow.out.trans k2.only).below (Nat.le_refl _) (fun _ h => h.elim)⟩

theorem closes_all (sl : Int) (a : Option Addr) (cap : Nat) (V : List Int) (late : Int) (w : World) (hsl : 0 ≤ sl ∧ sl < 256) (hV : RowK .u64 w a V) (hr : V.length * 8 ≤ 140737488351232) :
    Calls Try.prog 7 #[.int .u8 sl, .slice a V.length cap, .int .u64 late] w fun e w' => e = .returned (.bool true) ∧ Below w.heap.size w w' :=
  closes_walk sl a cap V late (1 + sl % 8).toNat w (by omega) (by omega) hsl hV hr
end Go.Proofs.Ytpnpbgcndlfobaa
