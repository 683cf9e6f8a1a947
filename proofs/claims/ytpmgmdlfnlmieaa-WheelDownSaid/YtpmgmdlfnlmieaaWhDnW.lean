/- WheelDown: the walk. -/
import Derived.Test.YtpmgmdlfnlmieaaWhL
namespace Go.Proofs.Ytpmgmdlfnlmieaa.Wh
open Go.RowKit Go.Proofs.Ytpmgmdlfnlmieaa

theorem lev_down {now due : Nat} (h : now + 1 < due) (h2 : due ≤ now + 4096) : lev (now + 1) due ≤ lev now due ∧ (lev (now + 1) due < lev now due → (now + 1) % pw (lev now due) = 0) := by
  rcases lev_cases now due with ⟨e, a⟩ | ⟨e, a⟩ | ⟨e, a⟩ | ⟨e, a⟩ <;> rcases lev_cases (now + 1) due with ⟨e', a'⟩ | ⟨e', a'⟩ | ⟨e', a'⟩ | ⟨e', a'⟩ <;> rw [e, e'] <;> refine ⟨by omega, fun _ => ?_⟩ <;> simp only [pw] <;> omega
theorem pw_step {i k : Nat} (h : i < k) (hk : k ≤ 3) : pw i * 8 = pw (i + 1) ∧ pw i ≤ 64 ∧ 1 ≤ pw i := by
  have : i = 0 ∨ i = 1 ∨ i = 2 := by omega
  rcases this with rfl | rfl | rfl <;> exact ⟨rfl, by decide, by decide⟩
theorem pw_bd (k : Nat) : 1 ≤ pw k ∧ pw k ≤ 512 := by
  unfold pw
  split <;> omega

set_option maxRecDepth 100000 in
set_option maxHeartbeats 4000000 in
theorem down_all (x y : Int) (w : World) :
    Calls Try.prog 5 #[.int .i64 x, .int .i64 y] w fun e w' => e = .returned (.bool true) ∧ Below w.heap.size w w' := by
  obtain ⟨a, ha, hma⟩ := mod_any x 5000 (by decide) (by decide)
  obtain ⟨d1, hd1, hmd⟩ := mod_any y 4095 (by decide) (by decide)
  have hma' := Lib.hid (fun w => show Calls Try.prog 15 #[.int .i64 x, .int .i64 5000] w fun e w' => e = .returned (.int .i64 (a : Int)) ∧ w = w' from hma w)
  have hmd' := Lib.hid (fun w => show Calls Try.prog 15 #[.int .i64 y, .int .i64 4095] w fun e w' => e = .returned (.int .i64 (d1 : Int)) ∧ w = w' from hmd w)
  obtain ⟨d, hd⟩ : ∃ d, d = d1 + 1 := ⟨_, rfl⟩
  have ed : 1 + (d1 : Int) = (d : Int) := by omega
  have hd4 : Hid (1 ≤ d ∧ d ≤ 4095) := Lib.hid (by omega)
  have hd1' : (d1 : Int) < 4095 := by omega
  have ha' := Lib.hid ha
  clear hma hmd hd ha hd1
  have m1 := Lib.hid (fun w1 (o : Only Nil w w1) => mine_new w w1 o)
  have m2 := Lib.hid (fun w1 B (h : Mine w w1 B a 0 []) => show Calls Try.prog 12 #[.pointer (some ⟨B, 0, none⟩), .int .u64 9, .int .i64 (d : Int)] w1 fun e w' => e = .returned (.int .i64 0) ∧ Mine w w' B a 1 [⟨9, a + d, 0⟩] from
    mine_add_ok h 9 d (by simp) (by simp) hd4.out.1 hd4.out.2 (by decide) (by decide))
  have m3 := Lib.hid (fun w1 B n (h : Mine w w1 B n 1 [⟨9, a + d, 0⟩]) => show Calls Try.prog 23 #[.pointer (some ⟨B, 0, none⟩), .int .u64 9] w1 fun e w' => e = .returned (.tuple #[.int .i64 (lev n (a + d) : Nat), .int .i64 (dig (a + d) (lev n (a + d)) : Nat), .bool true]) ∧ Mine w w' B n 1 [⟨9, a + d, 0⟩] from
    mine_where_yes h ⟨9, a + d, 0⟩ (by simp))
  have m4 := Lib.hid (fun w1 B n (h : Mine w w1 B n 1 [⟨9, a + d, 0⟩]) (hn : n + 1 < a + d) => show Calls Try.prog 18 #[.pointer (some ⟨B, 0, none⟩)] w1 fun e w' => ∃ v, e = .returned v ∧ Hid (w'.ownsRow w1.heap.size 30 1 v 0 []) ∧ Mine w w' B (n + 1) 1 [⟨9, a + d, 0⟩] from by
    have := mine_tick h (by have := ha'.out; have := hd4.out; omega)
    have e1 : ((⟨9, a + d, 0⟩ : Tm).due == n + 1) = false := beq_eq_false_iff_ne.2 (show a + d ≠ n + 1 by omega)
    simp only [List.filter_cons, e1, Bool.not_false, if_true, List.filter_nil] at this
    exact this)
  have m5 := Lib.hid (fun w1 B n (h : Mine w w1 B n 1 [⟨9, a + d, 0⟩]) (hn : n + 1 = a + d) => show Calls Try.prog 18 #[.pointer (some ⟨B, 0, none⟩)] w1 fun e w' => ∃ v, e = .returned v ∧ Hid (w'.ownsRow w1.heap.size 30 1 v 1 [.int .u64 9]) ∧ Mine w w' B (n + 1) 1 [] from by
    have := mine_tick h (by have := ha'.out; have := hd4.out; omega)
    have e1 : ((⟨9, a + d, 0⟩ : Tm).due == n + 1) = true := beq_iff_eq.2 (show a + d = n + 1 by omega)
    simp only [List.filter_cons, e1, Bool.not_true, if_true, List.filter_nil] at this
    exact this)
  have m6 := Lib.hid (fun w1 B n (h : Mine w w1 B n 1 [⟨9, a + d, 0⟩]) => mine_now h)
  go_enter Try.func5, Try.ntmps5
  go_wp2_with (first
    | (go_at_call 9; (with_reducible refine (alive_any _).mono ?_); rintro e w1 ⟨rfl, h⟩; have o1 := Lib.hid h; clear h)
    | (go_at_call 10; (with_reducible refine (m1.out _ o1.out).mono ?_); rintro e w2 ⟨rfl, h⟩; have k2 := Lib.hid h; clear h; generalize w1.heap.size = B at *))
  go_loopw [6] (fun s6 wr => ∃ (i : Nat), i ≤ a ∧ s6 = .int .i64 (i : Int) ∧ Hid (Mine w wr B i 0 []))
    (fun s6 _ => a - (intOf s6).toNat)
  case atStart => exact ⟨0, by omega, rfl, k2⟩
  case round =>
    obtain ⟨i, hi, rfl, hm⟩ := hrel
    have ha5 := ha'.out
    by_cases hia : i < a
    · have tk := Lib.hid (mine_tick0 hm.out (by omega))
      have hi5 : (i : Int) < 5000 := by omega
      clear ha5
      go_wp2_with (first
        | (go_at_call 15; (with_reducible refine (hma'.out _).mono ?_); rintro e w' ⟨rfl, rfl⟩)
        | (go_at_call 18; (with_reducible refine tk.out.mono ?_); rintro e w3 ⟨v3, rfl, _, h⟩; have k3 := Lib.hid h; clear h))
      go_roundw
      case rel => exact ⟨i + 1, by omega, by go_num, k3⟩
      case measure => simp [intOf]; omega
    · obtain rfl : i = a := by omega
      have hk0 : ¬ (i : Int) < (i : Int) := by omega
      clear ha5 hia
      go_wp2_with (first
        | (go_at_call 15; (with_reducible refine (hma'.out _).mono ?_); rintro e w' ⟨rfl, rfl⟩)
        | (go_at_call 15; (with_reducible refine (hmd'.out _).mono ?_); rintro e w' ⟨rfl, rfl⟩)
        | (go_at_call 12; (with_reducible refine (m2.out _ _ hm.out).mono ?_); rintro e w3 ⟨rfl, h⟩; have k3 := Lib.hid h; clear h)
        | (go_at_call 23; (with_reducible refine (m3.out _ _ _ k3.out).mono ?_); rintro e w4 ⟨rfl, h⟩; have k4 := Lib.hid h; clear h))
      go_loopw [8, 11] (fun s8 s11 wr => ∃ (t n : Nat), 1 ≤ t ∧ t ≤ d ∧ n + 1 = i + t ∧ s11 = .int .i64 (t : Int) ∧ s8 = .int .i64 (lev n (i + d) : Nat) ∧ Hid (Mine w wr B n 1 [⟨9, i + d, 0⟩]))
        (fun _ s11 _ => d - (intOf s11).toNat)
      case atStart => exact ⟨1, i, by omega, hd4.out.1, rfl, rfl, rfl, k4⟩
      case round =>
        obtain ⟨t, n, ht1, htd, hn, rfl, rfl, hm5⟩ := hrel
        have hd4b := hd4.out
        have hi5 := ha'.out
        by_cases hlt : t < d
        · have hld := lev_down (now := n) (due := i + d) (by omega) (by omega)
          have hl3 := lev_le n (i + d)
          have hsd := dig_lt (i + d) (lev (n + 1) (i + d))
          have tk := Lib.hid (m4.out _ _ n hm5.out (by omega))
          have wh := Lib.hid (fun w1 h => m3.out w1 B (n + 1) h)
          have nw := Lib.hid (fun w1 h => m6.out w1 B (n + 1) h)
          obtain ⟨N, hN⟩ : ∃ N, N = n + 1 := ⟨_, rfl⟩
          rw [← hN] at hld hsd tk wh nw
          have hN' := Lib.hid hN
          have hNs := Lib.hid (show N < 20000 by omega)
          have hNs' : (N : Int) < 20000 := by omega
          have htd' : (t : Int) < (d : Int) := by omega
          have ht4 : (t : Int) < 4096 := by omega
          have hnx := Lib.hid (show N + 1 = i + (t + 1) by omega)
          have hbd := Lib.hid (show 1 ≤ t ∧ t < d ∧ 1 ≤ t + 1 from ⟨ht1, hlt, by omega⟩)
          clear hN hn hd4b hi5 hlt ht1 htd hk0
          have hsd' : (dig (i + d) (lev N (i + d)) : Nat) < 8 := hsd
          generalize hk : lev n (i + d) = k at *
          generalize hk2 : lev N (i + d) = k2 at *
          generalize dig (i + d) k2 = sd at *
          have hk2' := Lib.hid hk2
          have hld' := Lib.hid hld
          clear hk hk2 hld hsd'
          have hs1 : decide ((sd : Int) < 0) = false := decide_eq_false (by omega)
          have hs2 : decide (7 < (sd : Int)) = false := decide_eq_false (by omega)
          go_wp2_with (first
            | (go_at_call 18; (with_reducible refine tk.out.mono ?_); rintro e w6 ⟨v6, rfl, _, h⟩; have k6 := Lib.hid h; clear h)
            | (go_at_call 23; (with_reducible refine (wh.out _ k6.out).mono ?_); rintro e w7 ⟨rfl, h⟩; have k7 := Lib.hid h; clear h))
          go_loop [15, 16] (fun s15 s16 => ∃ (j : Nat), j ≤ k ∧ s16 = .int .i64 (j : Int) ∧ s15 = .int .i64 (pw j : Nat)) (fun _ s16 => k - (intOf s16).toNat)
          case atStart => exact ⟨0, by omega, rfl, rfl⟩
          case round =>
            obtain ⟨j, hj, rfl, rfl⟩ := hrel
            by_cases hjk : j < k
            · obtain ⟨p1, p2, p3⟩ := pw_step hjk hl3
              have p1' := Lib.hid p1
              have hjk' : j < k := hjk
              have hj3 : (j : Int) < 3 := by omega
              generalize hq0 : pw (j + 1) = q at *
              have hq := Lib.hid hq0
              clear hq0
              generalize pw j = p at *
              have p2' : (p : Int) ≤ 64 := by omega
              clear p1 p2 p3
              go_wp2
              go_round
              case rel => exact ⟨j + 1, by omega, by go_num, (by rw [hq.out, ← p1'.out]; go_num)⟩
              case measure => simp [intOf]; omega
            · obtain rfl : j = k := by omega
              have hj0 : ¬ (j : Int) < (j : Int) := by omega
              obtain ⟨b1, b2⟩ := pw_bd j
              have hmod : Hid (k2 < j → N % pw j = 0) := Lib.hid hld'.out.2
              have hle := hld'.out.1
              generalize hu0 : pw j = u at *
              have hu := Lib.hid hu0
              clear hu0 hld'
              by_cases hkk : k2 < j
              · have hz : (N : Int) % (u : Int) = 0 := by have := hmod.out hkk; omega
                have hg1 : ¬ (j < k2) := by omega
                have hu1 : ¬ ((u : Int) = 0) := by omega
                clear hmod hle
                go_wp2_with (go_at_call 19; (with_reducible refine (nw.out _ k7.out).mono ?_); rintro e w8 ⟨rfl, h⟩; have k8 := Lib.hid h; clear h)
                go_roundw
                case rel => exact ⟨t + 1, N, hbd.out.2.2, hbd.out.2.1, hnx.out, by go_num, by rw [hk2'.out], k8⟩
                case measure => have := hbd.out; simp [intOf]; omega
              · obtain rfl : k2 = j := by omega
                have hg1 : ¬ (k2 < k2) := by omega
                clear hmod hle hkk
                go_wp2
                go_roundw
                case rel => exact ⟨t + 1, N, hbd.out.2.2, hbd.out.2.1, hnx.out, by go_num, by rw [hk2'.out], k7⟩
                case measure => have := hbd.out; simp [intOf]; omega
        · obtain rfl : t = d := by omega
          have hk1 : ¬ (t : Int) < (t : Int) := by omega
          have tk := Lib.hid (m5.out _ _ n hm5.out (by omega))
          clear hd4b hi5 hn ht1 htd hk0
          go_wp2_with (go_at_call 18; (with_reducible refine tk.out.mono ?_); rintro e w6 ⟨v6, rfl, h6, h⟩; have k6 := Lib.hid h; clear h; obtain ⟨g6, c6, u6, rfl, _, hg6, hx6⟩ := own_block (g := fun _ => .int .u64 9) h6.out (by decide); have c0 := hx6 0 (by decide); clear hx6)
          go_ret
          exact ⟨rfl, k6.out.only.below (Nat.le_refl _) (fun _ h => h.elim)⟩
end Go.Proofs.Ytpmgmdlfnlmieaa.Wh
