/- BellMeets answers true for all numbers and every list of picks, and turns nothing that there was: the walk. -/
import Derived.Test.YtfhbgabblegecaaBlMeA
import Derived.Test.YtfhbgabblegecaaBlY
namespace Go.Proofs.Ytfhbgabblegecaa.Bl
open Go.RowKit

/-- What the walk carries: the bell, the Sleep, the Ring. -/
def Mt (n k : Nat) (w1 w : World) (rg B sb rb : Nat) (po saw looked brought : Bool) (R : Nat) (tm : Int) : Prop :=
  ∃ L t p r, Lw w1 w rg (B + 1) B 0 n L t ∧ Op1 w1 w sb rg (B + 1) B n p ∧ Op1 w1 w rb rg (B + 1) B n r ∧ MI n k L p r saw looked brought ∧ p.isO = po ∧ rk n r ≤ R ∧ t ≤ tm ∧ sb ≠ rb ∧ p.apart (OB (B + 1) B rb) ∧ r.apart (OB (B + 1) B sb)
section
variable {n k : Nat} {w1 w w' : World} {rg B sb rb : Nat} {po saw looked brought : Bool} {R R' : Nat} {tm tm' : Int}
theorem Mt.mono (h : Mt n k w1 w rg B sb rb po saw looked brought R tm) (h1 : R ≤ R') (h2 : tm ≤ tm') : Mt n k w1 w rg B sb rb po saw looked brought R' tm' := by
  obtain ⟨L, t, p, r, l, q1, q2, i, e, hr, ht, hne, a1, a2⟩ := h
  exact ⟨L, t, p, r, l, q1, q2, i, e, Nat.le_trans hr h1, by omega, hne, a1, a2⟩
theorem Mt.nil (h : Mt n k w1 w rg B sb rb po saw looked brought R tm) (o : Only Nil w w') : Mt n k w1 w' rg B sb rb po saw looked brought R tm := by
  obtain ⟨L, t, p, r, l, q1, q2, i, e, hr, ht, hne, a1, a2⟩ := h
  exact ⟨L, t, p, r, l.nil o, q1.nil o, q2.nil o, i, e, hr, ht, hne, a1, a2⟩
theorem Mt.only (h : Mt n k w1 w rg B sb rb po saw looked brought R tm) : Only Nil w1 w := by
  obtain ⟨L, t, p, r, l, _⟩ := h
  exact l.only
theorem stepT_le (s : OS) (t : Int) : stepT s t ≤ t + 1 := by unfold stepT; split <;> omega
theorem Mt.over (h : Mt n k w1 w rg B sb rb po saw looked brought R tm) :
    Calls Try.prog 17 #[.pointer (some ⟨sb, 0, none⟩)] w fun e w' => e = .returned (.bool po) ∧ w = w' := by
  obtain ⟨L, t, p, r, l, q1, q2, i, rfl, _⟩ := h
  exact overO q1.op q1.ok
theorem Mt.sleep (h : Mt n k w1 w rg B sb rb false saw looked brought R tm) (h3 : tm < 4611686018426000000) :
    Calls Try.prog 20 #[.pointer (some ⟨sb, 0, none⟩)] w fun e w' => ∃ x, e = .returned (.bool x) ∧ Mt n k w1 w' rg B sb rb true saw looked brought R (tm + 1) := by
  obtain ⟨L, t, p, r, l, q1, q2, i, e, hr, ht, hne, a1, a2⟩ := h
  refine (l.step q1 (by omega)).mono ?_
  rintro e' w' ⟨rfl, l', q', o⟩
  exact ⟨_, rfl, _, _, _, _, l', q', q2.other o (fun e => hne e.symm) a2, (i.sleep e).1, (i.sleep e).2, hr, by have := stepT_le p t; omega, hne, stepS_apart _ _ _ _ _ a1, a2⟩
theorem Mt.ring (h : Mt n k w1 w rg B sb rb po saw looked true R tm) (h3 : tm < 4611686018426000000) :
    Calls Try.prog 20 #[.pointer (some ⟨rb, 0, none⟩)] w fun e w' => ∃ x, e = .returned (.bool x) ∧ Mt n k w1 w' rg B sb rb po saw looked true (R - 1) (tm + 1) := by
  obtain ⟨L, t, p, r, l, q1, q2, i, e, hr, ht, hne, a1, a2⟩ := h
  refine (l.step q2 (by omega)).mono ?_
  rintro e' w' ⟨rfl, l', q', o⟩
  exact ⟨_, rfl, _, _, _, _, l', q1.other o hne a1, q', i.ring.1, e, by have := i.ring.2; omega, by have := stepT_le r t; omega, hne, a1, stepS_apart _ _ _ _ _ a2⟩
theorem Lw.memStep {L L' : List Int} {t : Int} {b : Nat} (h : Lw w1 w rg (B + 1) B b n L t) (m : MemAt w' (B + 1) B L' (t + 1)) (o : Only (Blk (B + 1) B) w w') (hl : L'.length = L.length) (ht : t + 1 < 4611686018427000000) : Lw w1 w' rg (B + 1) B b n L' (t + 1) :=
  ⟨{ h.rng with ring := h.rng.ring.keep o h.rng.ne, mem := m, len := by rw [hl]; exact h.rng.len, t0 := by have := h.rng.t0; omega }, h.only.then o (fun i hi hlt => by have := h.g1; have := h.g2; rcases hi with e | e <;> omega), h.g1, h.g2, h.g3, ht⟩
theorem Mt.look (h : Mt n k w1 w rg B sb rb true saw false brought R tm) (h3 : tm < 4611686018426000000) :
    Calls Try.prog 35 #[.pointer (some ⟨B + 1, 0, none⟩), .int .i64 (n : Int)] w fun e w' => ∃ v : Int, e = .returned (.tuple #[.int .u64 v, .int .i64 0]) ∧ Mt n k w1 w' rg B sb rb true (decide (v = 1)) true brought R (tm + 1) := by
  obtain ⟨L, t, p, r, l, q1, q2, i, e, hr, ht, hne, a1, a2⟩ := h
  refine (load_yes l.rng.mem n (by have := i.len; omega) l.rng.t0 (by omega)).mono ?_
  rintro e' w' ⟨rfl, m, o⟩
  have o1 : Only (OB (B + 1) B rb) w w' := o.mono (fun _ h => .inl h)
  have o2 : Only (OB (B + 1) B sb) w w' := o.mono (fun _ h => .inl h)
  exact ⟨_, rfl, _, _, _, _, l.memStep m o rfl (by omega), q1.other o1 hne a1, q2.other o2 (fun e => hne e.symm) a2, i.look e, e, hr, by omega, hne, a1, a2⟩
theorem Mt.bring (h : Mt n k w1 w rg B sb rb po saw looked false R tm) (h3 : tm < 4611686018426000000) :
    Calls Try.prog 27 #[.pointer (some ⟨B + 1, 0, none⟩), .int .i64 (n : Int), .int .u64 1] w fun e w' => e = .returned (.int .i64 0) ∧ Mt n k w1 w' rg B sb rb po saw looked true 16 (tm + 1) := by
  obtain ⟨L, t, p, r, l, q1, q2, i, e, hr, ht, hne, a1, a2⟩ := h
  refine (store_yes l.rng.mem n 1 (by have := i.len; omega) l.rng.t0 (by omega)).mono ?_
  rintro e' w' ⟨rfl, m, o⟩
  have o1 : Only (OB (B + 1) B rb) w w' := o.mono (fun _ h => .inl h)
  have o2 : Only (OB (B + 1) B sb) w w' := o.mono (fun _ h => .inl h)
  exact ⟨rfl, _, _, _, _, l.memStep m o (by simp) (by omega), q1.other o1 hne a1, q2.other o2 (fun e => hne e.symm) a2, i.bring, e, by rw [i.ring0 rfl]; have := l.rng.uc; simp only [rk]; omega, by omega, hne, a1, a2⟩
end

theorem run_poll (n k x : Nat) (L : List Int) (hk : k < n) : Runs 0 n 1 L (bgn .poll n (k : Int) x) L (.over (Kd.out (L.getD k 0) .poll) (-1)) := by
  rw [bgn_in .poll n k x hk]
  have h : stepS 0 n L (.one .poll k x (x + 1)) = .over (Kd.out (L.getD k 0) .poll) (-1) := by unfold stepS acc Kd.acc doAcc res; simp only [Nat.zero_add]
  refine Runs.step rfl ?_
  rw [h]
  exact Runs.over rfl
theorem made_nil (w : World) (n : Nat) (hn : 0 < n) (hn2 : n ≤ 8) :
    Calls Try.prog 29 #[.int .i64 (n : Int), .slice none 0 0] w fun e w' => ∃ rg,
      e = .returned (.tuple #[.pointer (some ⟨rg, 0, none⟩), .pointer (some ⟨w.heap.size + 1, 0, none⟩)]) ∧ Hid (∃ t, Lw w w' rg (w.heap.size + 1) w.heap.size 0 n (zeros (n + 1)) t ∧ t ≤ 100) := by
  have h := made_any w n hn hn2 none [] 0 (fun i hi => by simp at hi) (by simp)
  rw [napL_nil] at h
  exact h
/-- What the walk begins with. -/
theorem Mt.start {n k : Nat} {w1 w2 w3 w4 : World} {rg B : Nat} {t : Int} (l2 : Lw w1 w2 rg (B + 1) B 0 n (zeros (n + 1)) t) (ht : t ≤ 100) (hk : k < n) (q3 : Op1 w1 w3 (w2.heap.size + 2) rg (B + 1) B n (bgn .sleep n (k : Int) w2.heap.size)) (o3 : Only Nil w2 w3) (z3 : w2.heap.size + 2 < w3.heap.size)
    (q4 : Op1 w1 w4 w3.heap.size rg (B + 1) B n (.look 0)) (o4 : Only Nil w3 w4) : Mt n k w1 w4 rg B (w2.heap.size + 2) w3.heap.size false false false false 16 100 := by
  have g1 := l2.rng.mem.lt_hb; have g2 := l2.rng.mem.lt_rb
  rw [bgn_in .sleep n k _ hk] at q3
  refine ⟨_, _, _, _, (l2.nil o3).nil o4, q3.nil o4, q4, MI.start n k _ hk, rfl, ?_, ht, by omega, ⟨fun hh => ?_, fun hh => ?_⟩, trivial⟩
  · have := l2.rng.uc; simp only [rk]; omega
  · rcases hh with (e | e) | e <;> omega
  · rcases hh with (e | e) | e <;> omega

set_option maxRecDepth 100000 in
set_option maxHeartbeats 16000000 in
theorem meets_walk (k j : Int) (a : Option Addr) (cap : Nat) (V : List Bool) (n : Nat) (m : Nat) (w : World) (hc : 1 ≤ n ∧ n ≤ 8) (e1 : 1 + k % 8 = (n : Int)) (e2 : Int.tmod j (n : Int) = (m : Int)) (hm : m < n) (hk : 0 ≤ k ∧ k < 256) (hj : 0 ≤ j ∧ j < 256) (hV : RowBo w a V) (hr : V.length * 1 ≤ 140737488351232) :
    Calls Try.prog 6 #[.int .u8 k, .int .u8 j, .slice a V.length cap] w fun e w' => e = .returned (.bool true) ∧ Below w.heap.size w w' := by
  have md := Lib.hid (fun w => made_nil w n (by omega) (by omega))
  have sl := Lib.hid (fun (w1 w2 : World) (rg B : Nat) (t : Int) (h : Lw w1 w2 rg (B + 1) B 0 n (zeros (n + 1)) t) => h.sleep (m : Int))
  have ri := Lib.hid (fun (w1 w2 : World) (rg B : Nat) (t : Int) (h : Lw w1 w2 rg (B + 1) B 0 n (zeros (n + 1)) t) => h.ring)
  obtain ⟨x1, x2⟩ := hk
  obtain ⟨y1, y2⟩ := hj
  have c8 := Lib.hid hc
  have hV' := Lib.hid hV
  have hm' := Lib.hid hm
  have ne0 : ¬ ((n : Int) = 0) := by omega
  clear hc hV hm
  generalize hlen : V.length = len at hr ⊢
  have hlen' := Lib.hid hlen
  clear hlen
  have len8 : (len : Int) ≤ 140737488351232 := by omega
  go_enter Try.func6, Try.ntmps6
  go_wp2_with (first
    | (go_at_call 13; (with_reducible refine (alive_any _).mono ?_); rintro e w1 ⟨rfl, o1⟩)
    | (go_at_call 29; (with_reducible refine (md.out _).mono ?_); rintro e w2 ⟨rg, rfl, l2x⟩; obtain ⟨t, l2, ht⟩ := l2x.out)
    | (go_at_call 34; (with_reducible refine (sl.out _ _ _ _ _ l2).mono ?_); rintro e w3 ⟨rfl, l3, q3, o3, z3⟩)
    | (go_at_call 31; (with_reducible refine (ri.out _ _ _ _ _ l3).mono ?_); rintro e w4 ⟨rfl, l4, q4, o4, z4⟩))
  have F0 : Hid (Mt n m w1 w4 rg w1.heap.size (w2.heap.size + 2) w3.heap.size false false false false 17 100) := Lib.hid ((Mt.start l2 ht hm'.out q3 o3 z3 q4 o4).mono (by decide) (Int.le_refl _))
  have ow := Lib.hid o1
  clear o1 l2 l2x l3 q3 l4 o3 z3 q4 o4 z4 md sl ri ht
  generalize w2.heap.size + 2 = sb at F0 ⊢
  generalize w3.heap.size = rb at F0 ⊢
  generalize w1.heap.size = B at F0 ⊢
  go_loopw [13, 14, 15, 16] (fun s13 s14 s15 s16 wr => ∃ (i : Nat) (po saw looked brought : Bool), i ≤ len + 40 ∧ s13 = .bool saw ∧ s14 = .bool looked ∧ s15 = .bool brought ∧ s16 = .int .i64 (i : Int) ∧ Hid (Mt n m w1 wr rg B sb rb po saw looked brought (17 - (i - len)) (100 + 2 * (i : Int))) ∧ Hid ((len + 1 ≤ i → po = true ∧ brought = true) ∧ (len + 2 ≤ i → looked = true)))
    (fun _ _ _ s16 _ => len + 40 - (intOf s16).toNat)
  case atStart => exact ⟨0, false, false, false, false, Nat.zero_le _, rfl, rfl, rfl, rfl, Lib.hid (F0.out.mono (by omega) (by omega)), Lib.hid ⟨fun h => by omega, fun h => by omega⟩⟩
  case round =>
    obtain ⟨i, po, saw, looked, brought, hi, rfl, rfl, rfl, rfl, hh, hP⟩ := hrel
    by_cases hin : i < len + 40
    · have hii : (i : Int) < (len : Int) + 40 := by omega
      have hi2 := Lib.hid hin
      clear hin hi
      have ov := Lib.hid (fun (q : Mt n m w1 wr rg B sb rb po saw looked brought (17 - (i - len)) (100 + 2 * (i : Int))) => q.over)
      by_cases hil : i < len
      · have hl0 := Lib.hid (show ¬ ((len : Int) ≤ (i : Int)) by omega)
        have hli := hl0.out
        clear hl0 hP
        have hl2 : (i : Int) < (len : Int) := by omega
        obtain ⟨b, off, rfl, hb1, hb2⟩ := hV'.out i (by rw [hlen'.out]; exact hil)
        have hx0' := Lib.hid (hb2 i (by rw [hlen'.out]; exact hil))
        have hb1' := Lib.hid hb1
        clear hb2 hb1
        have hy' := Lib.hid (fun w' (o : Only Nil w1 w') => (World.cell?_of_block (a := ⟨b, off + i, none⟩) ((ow.out.trans o).block b hb1'.out (fun h => h))).trans hx0'.out)
        have hx := hy'.out wr hh.out.only
        have hil' := Lib.hid hil
        clear hil
        generalize V.getD i false = x at hx hy' hx0'
        cases x
        · skip
          cases brought
          · skip
            have st2 := Lib.hid (hh.out.bring (by omega))
            go_wp2_with (go_at_call 27; (with_reducible refine (st2.out).mono ?_); rintro e w9 ⟨rfl, h9⟩; have hz9 := hy'.out _ h9.only)
            have g9 := Lib.hid h9
            clear h9
            go_roundw
            case rel => exact ⟨i + 1, _, _, _, _, by have := hi2.out; omega, rfl, rfl, rfl, by go_num, Lib.hid (g9.out.mono (by have := hil'.out; omega) (by omega)), Lib.hid ⟨fun h => absurd hil'.out (by omega), fun h => absurd hil'.out (by omega)⟩⟩
            case measure => have := hi2.out; simp [intOf]; omega
          · skip
            have st2 := Lib.hid (hh.out.ring (by omega))
            go_wp2_with (go_at_call 20; (with_reducible refine (st2.out).mono ?_); rintro e w9 ⟨x9, rfl, h9⟩; have hz9 := hy'.out _ h9.only)
            have g9 := Lib.hid h9
            clear h9
            go_roundw
            case rel => exact ⟨i + 1, _, _, _, _, by have := hi2.out; omega, rfl, rfl, rfl, by go_num, Lib.hid (g9.out.mono (by have := hil'.out; omega) (by omega)), Lib.hid ⟨fun h => absurd hil'.out (by omega), fun h => absurd hil'.out (by omega)⟩⟩
            case measure => have := hi2.out; simp [intOf]; omega
        · skip
          cases po
          · skip
            have ov2 := Lib.hid (ov.out hh.out)
            have st1 := Lib.hid (hh.out.sleep (by omega))
            go_wp2_with (first
              | (go_at_call 17; (with_reducible refine (ov2.out).mono ?_); rintro e w7 ⟨rfl, rfl⟩)
              | (go_at_call 20; (with_reducible refine (st1.out).mono ?_); rintro e w8 ⟨x8, rfl, h8⟩; have hz8 := hy'.out _ h8.only))
            have g9 := Lib.hid h8
            clear h8
            go_roundw
            case rel => exact ⟨i + 1, _, _, _, _, by have := hi2.out; omega, rfl, rfl, rfl, by go_num, Lib.hid (g9.out.mono (by have := hil'.out; omega) (by omega)), Lib.hid ⟨fun h => absurd hil'.out (by omega), fun h => absurd hil'.out (by omega)⟩⟩
            case measure => have := hi2.out; simp [intOf]; omega
          · cases looked
            · skip
              have ov2 := Lib.hid (ov.out hh.out)
              have st1 := Lib.hid (hh.out.look (by omega))
              go_wp2_with (first
                | (go_at_call 17; (with_reducible refine (ov2.out).mono ?_); rintro e w7 ⟨rfl, rfl⟩)
                | (go_at_call 35; (with_reducible refine (st1.out).mono ?_); rintro e w8 ⟨v8, rfl, h8⟩; have hz8 := hy'.out _ h8.only))
              have g9 := Lib.hid h8
              clear h8
              go_roundw
              case rel => exact ⟨i + 1, _, _, _, _, by have := hi2.out; omega, rfl, rfl, rfl, by go_num, Lib.hid (g9.out.mono (by have := hil'.out; omega) (by omega)), Lib.hid ⟨fun h => absurd hil'.out (by omega), fun h => absurd hil'.out (by omega)⟩⟩
              case measure => have := hi2.out; simp [intOf]; omega
            · skip
              have ov2 := Lib.hid (ov.out hh.out)
              go_wp2_with (go_at_call 17; (with_reducible refine (ov2.out).mono ?_); rintro e w7 ⟨rfl, rfl⟩)
              go_roundw
              case rel => exact ⟨i + 1, _, _, _, _, by have := hi2.out; omega, rfl, rfl, rfl, by go_num, Lib.hid (hh.out.mono (by have := hil'.out; omega) (by omega)), Lib.hid ⟨fun h => absurd hil'.out (by omega), fun h => absurd hil'.out (by omega)⟩⟩
              case measure => have := hi2.out; simp [intOf]; omega
      · have hli : (len : Int) ≤ (i : Int) := by omega
        have hil' := Lib.hid hil
        clear hil
        cases po
        · skip
          cases brought
          · skip
            have ov2 := Lib.hid (ov.out hh.out)
            have st1 := Lib.hid (hh.out.sleep (by omega))
            have st2 := Lib.hid (fun w' sw (q : Mt n m w1 w' rg B sb rb true sw looked false (17 - (i - len)) (100 + 2 * (i : Int) + 1)) => q.bring (by omega))
            go_wp2_with (first
              | (go_at_call 17; (with_reducible refine (ov2.out).mono ?_); rintro e w7 ⟨rfl, rfl⟩)
              | (go_at_call 20; (with_reducible refine (st1.out).mono ?_); rintro e w8 ⟨x8, rfl, h8⟩)
              | (go_at_call 27; (with_reducible refine (st2.out _ _ h8).mono ?_); rintro e w9 ⟨rfl, h9⟩))
            have g9 := Lib.hid h9
            clear h8 h9
            have hil2 : ¬ (len + 1 ≤ i) := fun h => absurd (hP.out.1 h).2 (by decide)
            go_roundw
            case rel => exact ⟨i + 1, _, _, _, _, by have := hi2.out; omega, rfl, rfl, rfl, by go_num, Lib.hid (g9.out.mono (by have := hil'.out; omega) (by omega)), Lib.hid ⟨fun _ => ⟨rfl, rfl⟩, fun h => absurd (hP.out.1 (by omega)).1 (by decide)⟩⟩
            case measure => have := hi2.out; simp [intOf]; omega
          · skip
            have ov2 := Lib.hid (ov.out hh.out)
            have st1 := Lib.hid (hh.out.sleep (by omega))
            have st2 := Lib.hid (fun w' sw (q : Mt n m w1 w' rg B sb rb true sw looked true (17 - (i - len)) (100 + 2 * (i : Int) + 1)) => q.ring (by omega))
            go_wp2_with (first
              | (go_at_call 17; (with_reducible refine (ov2.out).mono ?_); rintro e w7 ⟨rfl, rfl⟩)
              | (go_at_call 20; (with_reducible refine (st1.out).mono ?_); rintro e w8 ⟨x8, rfl, h8⟩)
              | (go_at_call 20; (with_reducible refine (st2.out _ _ h8).mono ?_); rintro e w9 ⟨x9, rfl, h9⟩))
            have g9 := Lib.hid h9
            clear h8 h9
            go_roundw
            case rel => exact ⟨i + 1, _, _, _, _, by have := hi2.out; omega, rfl, rfl, rfl, by go_num, Lib.hid (g9.out.mono (by have := hil'.out; omega) (by omega)), Lib.hid ⟨fun _ => ⟨rfl, rfl⟩, fun h => absurd (hP.out.1 (by omega)).1 (by decide)⟩⟩
            case measure => have := hi2.out; simp [intOf]; omega
        · cases looked
          · skip
            cases brought
            · skip
              have ov2 := Lib.hid (ov.out hh.out)
              have st1 := Lib.hid (hh.out.look (by omega))
              have st2 := Lib.hid (fun w' sw (q : Mt n m w1 w' rg B sb rb true sw true false (17 - (i - len)) (100 + 2 * (i : Int) + 1)) => q.bring (by omega))
              go_wp2_with (first
                | (go_at_call 17; (with_reducible refine (ov2.out).mono ?_); rintro e w7 ⟨rfl, rfl⟩)
                | (go_at_call 35; (with_reducible refine (st1.out).mono ?_); rintro e w8 ⟨v8, rfl, h8⟩)
                | (go_at_call 27; (with_reducible refine (st2.out _ _ h8).mono ?_); rintro e w9 ⟨rfl, h9⟩))
              have g9 := Lib.hid h9
              clear h8 h9
              have hil2 : ¬ (len + 1 ≤ i) := fun h => absurd (hP.out.1 h).2 (by decide)
              go_roundw
              case rel => exact ⟨i + 1, _, _, _, _, by have := hi2.out; omega, rfl, rfl, rfl, by go_num, Lib.hid (g9.out.mono (by have := hil'.out; omega) (by omega)), Lib.hid ⟨fun _ => ⟨rfl, rfl⟩, fun _ => rfl⟩⟩
              case measure => have := hi2.out; simp [intOf]; omega
            · skip
              have ov2 := Lib.hid (ov.out hh.out)
              have st1 := Lib.hid (hh.out.look (by omega))
              have st2 := Lib.hid (fun w' sw (q : Mt n m w1 w' rg B sb rb true sw true true (17 - (i - len)) (100 + 2 * (i : Int) + 1)) => q.ring (by omega))
              go_wp2_with (first
                | (go_at_call 17; (with_reducible refine (ov2.out).mono ?_); rintro e w7 ⟨rfl, rfl⟩)
                | (go_at_call 35; (with_reducible refine (st1.out).mono ?_); rintro e w8 ⟨v8, rfl, h8⟩)
                | (go_at_call 20; (with_reducible refine (st2.out _ _ h8).mono ?_); rintro e w9 ⟨x9, rfl, h9⟩))
              have g9 := Lib.hid h9
              clear h8 h9
              go_roundw
              case rel => exact ⟨i + 1, _, _, _, _, by have := hi2.out; omega, rfl, rfl, rfl, by go_num, Lib.hid (g9.out.mono (by have := hil'.out; omega) (by omega)), Lib.hid ⟨fun _ => ⟨rfl, rfl⟩, fun _ => rfl⟩⟩
              case measure => have := hi2.out; simp [intOf]; omega
          · skip
            cases brought
            · skip
              have ov2 := Lib.hid (ov.out hh.out)
              have st2 := Lib.hid (hh.out.bring (by omega))
              go_wp2_with (first
                | (go_at_call 17; (with_reducible refine (ov2.out).mono ?_); rintro e w7 ⟨rfl, rfl⟩)
                | (go_at_call 27; (with_reducible refine (st2.out).mono ?_); rintro e w9 ⟨rfl, h9⟩))
              have g9 := Lib.hid h9
              clear h9
              have hil2 : ¬ (len + 1 ≤ i) := fun h => absurd (hP.out.1 h).2 (by decide)
              go_roundw
              case rel => exact ⟨i + 1, _, _, _, _, by have := hi2.out; omega, rfl, rfl, rfl, by go_num, Lib.hid (g9.out.mono (by have := hil'.out; omega) (by omega)), Lib.hid ⟨fun _ => ⟨rfl, rfl⟩, fun _ => rfl⟩⟩
              case measure => have := hi2.out; simp [intOf]; omega
            · skip
              have ov2 := Lib.hid (ov.out hh.out)
              have st2 := Lib.hid (hh.out.ring (by omega))
              go_wp2_with (first
                | (go_at_call 17; (with_reducible refine (ov2.out).mono ?_); rintro e w7 ⟨rfl, rfl⟩)
                | (go_at_call 20; (with_reducible refine (st2.out).mono ?_); rintro e w9 ⟨x9, rfl, h9⟩))
              have g9 := Lib.hid h9
              clear h9
              go_roundw
              case rel => exact ⟨i + 1, _, _, _, _, by have := hi2.out; omega, rfl, rfl, rfl, by go_num, Lib.hid (g9.out.mono (by have := hil'.out; omega) (by omega)), Lib.hid ⟨fun _ => ⟨rfl, rfl⟩, fun _ => rfl⟩⟩
              case measure => have := hi2.out; simp [intOf]; omega
    · have hin2 : i = len + 40 := by omega
      have hii : ¬ ((i : Int) < (len : Int) + 40) := by omega
      obtain ⟨rfl, rfl⟩ := hP.out.1 (by omega)
      obtain rfl := hP.out.2 (by omega)
      have hm0 := hh.out.mono (R' := 0) (by omega) (Int.le_refl _)
      obtain ⟨L, t, p, r, l, q1, q2, mi, e, hr, ht, hne, a1, a2⟩ := hm0
      have fin := mi.fin (by omega)
      have po := Lib.hid (l.poll (m : Int))
      have dn := Lib.hid (fun w2 ob (h : Lw w1 w2 rg (B + 1) B 0 n L t) (q : Op1 w1 w2 ob rg (B + 1) B n (bgn .poll n (m : Int) wr.heap.size)) => h.done q (run_poll n m _ L hm'.out) (by decide) (by omega))
      have np : rb < wr.heap.size := q2.op.lt
      have np' := Lib.hid np
      have q2' := Lib.hid q2
      have l' := Lib.hid l
      clear hin2 hi hP hh q1 q2 l np mi e hr ht hne a1 a2
      rcases fin with ⟨h0, rfl⟩ | ⟨h0, rfl, rfl⟩
      · have kd : Kd.out (L.getD m 0) .poll = 1 := by unfold Kd.out; rw [if_pos h0]
        rw [kd] at dn
        have ovr := Lib.hid (fun w' (q : OpIn w' rb rg (.over 7 (m : Int))) => overO (n := n) q (by show 1 ≤ _; omega))
        have whr := Lib.hid (fun w' (q : OpIn w' rb rg (.over 7 (m : Int))) => whoO q)
        simp only [OS.o, OS.x, OS.isO] at ovr whr dn
        clear h0 kd
        go_wp2_with (first
          | (go_at_call 37; (with_reducible refine (po.out).mono ?_); rintro e w8 ⟨rfl, l8, q8, o8, z8⟩)
          | (go_at_call 36; (with_reducible refine (dn.out _ _ l8 q8).mono ?_); rintro e w9 ⟨rfl, l9, _, o9⟩
             have y2 := (((q2'.out.nil o8).other o9 (by have := np'.out; omega) trivial)).op)
          | (go_at_call 17; (with_reducible refine (ovr.out _ y2).mono ?_); rintro e w7 ⟨rfl, rfl⟩)
          | (go_at_call 33; (with_reducible refine (whr.out _ y2).mono ?_); rintro e w7 ⟨rfl, rfl⟩))
        all_goals (go_ret; exact ⟨rfl, (ow.out.trans l9.only).below (Nat.le_refl _) (fun _ h => h.elim)⟩)
      · have kd : Kd.out (L.getD m 0) .poll = 4 := by unfold Kd.out; rw [h0]; rfl
        rw [kd] at dn
        have ovr := Lib.hid (fun w' (q : OpIn w' rb rg (.over 4 (-1))) => overO (n := n) q (by show 1 ≤ _; omega))
        have whr := Lib.hid (fun w' (q : OpIn w' rb rg (.over 4 (-1))) => whoO q)
        simp only [OS.o, OS.x, OS.isO] at ovr whr dn
        have hneg : ((-1 : Int) == (m : Int)) = false := by simp
        clear h0 kd
        go_wp2_with (first
          | (go_at_call 37; (with_reducible refine (po.out).mono ?_); rintro e w8 ⟨rfl, l8, q8, o8, z8⟩)
          | (go_at_call 36; (with_reducible refine (dn.out _ _ l8 q8).mono ?_); rintro e w9 ⟨rfl, l9, _, o9⟩
             have y2 := (((q2'.out.nil o8).other o9 (by have := np'.out; omega) trivial)).op)
          | (go_at_call 17; (with_reducible refine (ovr.out _ y2).mono ?_); rintro e w7 ⟨rfl, rfl⟩)
          | (go_at_call 33; (with_reducible refine (whr.out _ y2).mono ?_); rintro e w7 ⟨rfl, rfl⟩))
        go_ret
        exact ⟨rfl, (ow.out.trans l9.only).below (Nat.le_refl _) (fun _ h => h.elim)⟩

theorem meets_all (k j : Int) (a : Option Addr) (cap : Nat) (V : List Bool) (w : World) (hk : 0 ≤ k ∧ k < 256) (hj : 0 ≤ j ∧ j < 256) (hV : RowBo w a V) (hr : V.length * 1 ≤ 140737488351232) :
    Calls Try.prog 6 #[.int .u8 k, .int .u8 j, .slice a V.length cap] w fun e w' => e = .returned (.bool true) ∧ Below w.heap.size w w' := by
  obtain ⟨n, hn⟩ := Int.eq_ofNat_of_zero_le (show 0 ≤ 1 + k % 8 by omega)
  obtain ⟨j', rfl⟩ := Int.eq_ofNat_of_zero_le hj.1
  refine meets_walk k j' a cap V n (j' % n) w (by omega) hn rfl (Nat.mod_lt _ (by omega)) hk hj hV hr
end Go.Proofs.Ytfhbgabblegecaa.Bl
