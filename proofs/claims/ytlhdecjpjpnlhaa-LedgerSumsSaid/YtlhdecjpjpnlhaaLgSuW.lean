/- LedgerSums: the walk. -/
import Derived.Test.YtlhdecjpjpnlhaaLgH
namespace Go.Proofs.Ytlhdecjpjpnlhaa.Lg
open Go.RowKit Go.Proofs.Ytlhdecjpjpnlhaa

/-- The counts of the first j places, together. -/
def pt (L : List Ms) : Nat → Nat
  | 0 => 0
  | j + 1 => pt L j + cnt L ((j + 1 : Nat) : Int)
theorem pt_eight {L : List Ms} (g : Good L) : pt L 8 = L.length := by
  rw [← cnt_all g]
  simp [pt]
theorem pt_six (L : List Ms) : pt L 6 = (hl L).length := by
  rw [← cnt_held]
  simp [pt]
theorem pt_le (L : List Ms) : ∀ j, pt L j ≤ j * L.length
  | 0 => by simp [pt]
  | j + 1 => by
    have := pt_le L j
    have : cnt L ((j + 1 : Nat) : Int) ≤ L.length := cq_le _ _
    simp only [pt]
    rw [Nat.succ_mul]; omega

theorem clL_len (L : List Ms) (o : Op) : (clL L o).length = L.length + (if clE L o = 0 ∧ o.m 4 = 0 then 1 else 0) := by
  by_cases h0 : o.m 4 = 0
  · have e1 : clL L o = acL L o.id o.ok o.wh := by unfold clL; rw [if_pos h0]
    have e2 : clE L o = acE L o.id o.wh := by unfold clE; rw [if_pos h0]
    rw [e1, e2]
    unfold acL acE
    cases hp : held o.wh
    · simp
    · by_cases hz : whOf L o.id = 0
      · simp [hz, h0]
      · simp [hz]
  · rw [if_neg (fun h => h0 h.2)]
    unfold clL
    rw [if_neg h0]
    by_cases h1 : o.m 4 = 1
    · rw [if_pos h1, mvL_len]; rfl
    · rw [if_neg h1]
      split <;> rw [enL_len] <;> rfl

theorem hl_at {L : List Ms} {j : Nat} (h : j < (hl L).length) : (hl L).getD j default ∈ hl L := by
  simp [List.getD, h]
theorem hl_ne {L : List Ms} (g : Good L) {k i : Nat} (hk : k < i) (hi : i < (hl L).length) : ((hl L).getD k default).id ≠ ((hl L).getD i default).id := by
  have := List.pairwise_iff_getElem.1 (hl_apart g) k i (by omega) hi hk
  simpa [List.getD, hi, show k < (hl L).length by omega] using this

set_option maxRecDepth 100000 in
set_option maxHeartbeats 8000000 in
theorem sums_all (a : Option Addr) (cap : Nat) (X : List Op) (w : World) (hX : OpsIn w a X) (hr : X.length * 24 ≤ 140737488351232) :
    Calls Try.prog 5 #[.slice a X.length cap] w fun e w' => e = .returned (.bool true) ∧ Below w.heap.size w w' := by
  have hX' := Lib.hid hX
  clear hX
  generalize hlen : X.length = len at hr ⊢
  have hlen' := Lib.hid hlen
  clear hlen
  have len8 : (len : Int) * 24 ≤ 140737488351232 := by omega
  clear hr
  go_enter Try.func5, Try.ntmps5
  go_wp2_with (first
    | (go_at_call 7; (with_reducible refine (alive_any _).mono ?_); rintro e w1 ⟨rfl, h⟩; have o1 := Lib.hid h; clear h)
    | (go_at_call 8; (with_reducible refine (mine_new w _ o1.out).mono ?_); rintro e w2 ⟨rfl, h⟩; have k2 := Lib.hid h; clear h; generalize w1.heap.size + 2 = hb at *))
  go_loopw [4, 5] (fun s4 s5 wr => ∃ (i : Nat) (L : List Ms), i ≤ len ∧ i ≤ 300 ∧ s4 = .int .i64 (L.length : Nat) ∧ s5 = .int .i64 (i : Int) ∧ Hid (L.length ≤ i) ∧ Hid (Mine w wr hb L))
    (fun _ s5 _ => 1000 - (intOf s5).toNat)
  case atStart => exact ⟨0, [], Nat.zero_le _, Nat.zero_le _, rfl, rfl, Lib.hid (Nat.le_refl _), k2⟩
  case round =>
    obtain ⟨i, L, hil, hi1, rfl, rfl, hn, hm⟩ := hrel
    by_cases hin : i < len ∧ i < 300
    · have hli : (i : Int) < (len : Int) := by omega
      have hl3 : (i : Int) < 300 := by omega
      obtain ⟨bS, off, rfl, hb1, hb2⟩ := hX'.out i (by rw [hlen'.out]; exact hin.1)
      obtain ⟨x5, x6, x7⟩ := hb2 i (by rw [hlen'.out]; exact hin.1)
      clear hb2
      generalize X.getD i default = o at x5 x6 x7
      have owr : Only Nil w wr := hm.out.only
      have y5 : wr.cell? ⟨bS, off + i * 3, none⟩ = some (.int .u8 o.k) := (World.cell?_of_block (a := ⟨bS, off + i * 3, none⟩) (owr.block bS hb1 (fun z => z))).trans x5
      have y6 : wr.cell? ⟨bS, off + i * 3 + 1, none⟩ = some (.int .u64 o.id) := (World.cell?_of_block (a := ⟨bS, off + i * 3 + 1, none⟩) (owr.block bS hb1 (fun z => z))).trans x6
      have y7 : wr.cell? ⟨bS, off + i * 3 + 2, none⟩ = some (.int .i64 o.wh) := (World.cell?_of_block (a := ⟨bS, off + i * 3 + 2, none⟩) (owr.block bS hb1 (fun z => z))).trans x7
      have z5 := Lib.hid (fun (w3 : World) (o3 : Only Nil w w3) => (World.cell?_of_block (a := ⟨bS, off + i * 3, none⟩) (o3.block bS hb1 (fun z => z))).trans x5)
      have cl := call_any hm.out o (by have := hn.out; omega)
      have hL' := clL_len L o
      obtain ⟨K, hK⟩ := Int.eq_ofNat_of_zero_le o.k0.1
      have hm4 : o.m 4 = K % 4 := by unfold Op.m; rw [hK]; rfl
      have hK' := Lib.hid o.k0.2
      rw [hm4] at hL'
      have mk1 : Int.tmod (K : Int) 4 = ((K % 4 : Nat) : Int) := rfl
      have mk2 : (K : Int) % 4 = ((K % 4 : Nat) : Int) := rfl
      rw [hK] at y5 z5 cl hK'
      have cl' := Lib.hid cl
      have few := hn.out
      clear cl
      generalize clE L o = ev at *
      generalize clL L o = Ln at *
      have nums := Lib.hid (And.intro hin (And.intro hi1 (And.intro hil few)))
      have lenI : (L.length : Int) ≤ 300 := by omega
      clear x5 x6 x7 hb1 hin hil hi1 owr hm4 hK hm hn few
      generalize o.id = x at *
      generalize o.wh = p at *
      generalize K % 4 = kk at mk1 mk2 hL'
      by_cases he : ev = 0
      · subst he
        by_cases hk : kk = 0
        · subst hk
          rw [if_pos ⟨rfl, rfl⟩] at hL'
          have hL2 := Lib.hid hL'
          clear hL'
          go_wp2_with (go_at_call 17; (with_reducible refine cl'.out.mono ?_); rintro e w3 ⟨rfl, h3⟩; have e5 := z5.out _ h3.only; have k3 := Lib.hid h3; clear h3)
          refine ⟨?rel, ?measure⟩
          case rel => exact ⟨i + 1, Ln, by have := nums.out; omega, by have := nums.out; omega, by rw [hL2.out]; go_num, by go_num, Lib.hid (by have := hL2.out; have := nums.out; omega), k3⟩
          case measure => simp [intOf]; omega
        · rw [if_neg (fun h => hk h.2)] at hL'
          have hL2 := Lib.hid hL'
          have hk2 : ¬ ((kk : Int) = 0) := by omega
          clear hL' hk
          go_wp2_with (go_at_call 17; (with_reducible refine cl'.out.mono ?_); rintro e w3 ⟨rfl, h3⟩; have e5 := z5.out _ h3.only; have k3 := Lib.hid h3; clear h3)
          refine ⟨?rel, ?measure⟩
          case rel => exact ⟨i + 1, Ln, by have := nums.out; omega, by have := nums.out; omega, by rw [hL2.out]; rfl, by go_num, Lib.hid (by have := hL2.out; have := nums.out; omega), k3⟩
          case measure => simp [intOf]; omega
      · rw [if_neg (fun h => he h.1)] at hL'
        have hL2 := Lib.hid hL'
        clear hL'
        go_wp2_with (go_at_call 17; (with_reducible refine cl'.out.mono ?_); rintro e w3 ⟨rfl, h3⟩; have e5 := z5.out _ h3.only; have k3 := Lib.hid h3; clear h3)
        refine ⟨?rel, ?measure⟩
        case rel => exact ⟨i + 1, Ln, by have := nums.out; omega, by have := nums.out; omega, by rw [hL2.out]; rfl, by go_num, Lib.hid (by have := hL2.out; have := nums.out; omega), k3⟩
        case measure => simp [intOf]; omega
    · have hcase : i = len ∨ (i < len ∧ i = 300) := by omega
      have hLl := Lib.hid (show L.length ≤ 300 by have := hn.out; omega)
      clear hin hil hi1 hn
      have nn := Lib.hid (pt_le L)
      have e8 := Lib.hid (pt_eight hm.out.good)
      have e6 := Lib.hid (pt_six L)
      have cn := Lib.hid (fun (j : Nat) (hj : j < 8) => show Calls Try.prog 12 #[.pointer (some ⟨hb, 0, none⟩), .int .i64 ((j : Int) + 1)] wr fun e w' => e = .returned (.int .i64 (cnt L ((j + 1 : Nat) : Int) : Nat)) ∧ wr = w' from mine_count hm.out (j + 1) (by omega) (by omega))
      have hh := Lib.hid (fun (wx : World) (h : Mine w wx hb L) => mine_held h (by have := hLl.out; omega))
      have hlt := Lib.hid (fun (j : Nat) (h : j < (hl L).length) => hl_at h)
      have hne := Lib.hid (fun (k i : Nat) (hk : k < i) (hi : i < (hl L).length) => hl_ne hm.out.good hk hi)
      have hwl := Lib.hid (fun (j : Nat) (h : j < (hl L).length) => show whOf L ((hl L).getD j default).id = ((hl L).getD j default).wh ∧ 1 ≤ ((hl L).getD j default).wh ∧ ((hl L).getD j default).wh ≤ 6 from by
        obtain ⟨h1, h2⟩ := hl_mem.1 (hl_at h)
        have h3 := (held_iff _).1 h2
        exact ⟨whOf_mem hm.out.good h1, h3.1, h3.2⟩)
      have whw := Lib.hid (fun (wx : World) (h : Mine w wx hb L) (x : Int) (hx : (Lit.int .u64 x).wf = true) => mine_where h x hx)
      rw [← e8.out]
      generalize hHe : hl L = H at *
      have hHl := Lib.hid (show H.length ≤ 300 by rw [← hHe]; have := hLl.out; have : (hl L).length ≤ L.length := cq_le _ _; omega)
      clear hHe
      have hmO := hm.out.only
      have hmO' := Lib.hid hmO
      clear hmO
      obtain rfl | ⟨hlt2, rfl⟩ := hcase
      · have hk : ¬ (i : Int) < (i : Int) := by omega
        go_wp2_with fail
        go_loopw [6, 7, 8] (fun s6 s7 s8 wz => ∃ j : Nat, j ≤ 8 ∧ s6 = .int .i64 (pt L j : Nat) ∧ s7 = .int .i64 (pt L (min j 6) : Nat) ∧ s8 = .int .i64 ((j : Int) + 1) ∧ wr = wz)
          (fun _ _ s8 _ => 9 - (intOf s8).toNat)
        case atStart => exact ⟨0, Nat.zero_le _, rfl, rfl, rfl, rfl⟩
        case round =>
          obtain ⟨j, hj, rfl, rfl, rfl, rfl⟩ := hrel
          by_cases hj8 : j < 8
          · have cj := Lib.hid (cn.out j hj8)
            have b1 : ((pt L j : Nat) : Int) ≤ 2400 := by have := nn.out j; have := hLl.out; have : j * L.length ≤ 8 * 300 := Nat.mul_le_mul hj (by omega); omega
            have b2 : ((cnt L ((j + 1 : Nat) : Int) : Nat) : Int) ≤ 300 := by have : cnt L ((j + 1 : Nat) : Int) ≤ L.length := cq_le _ _; have := hLl.out; omega
            have b3 : ((pt L (min j 6) : Nat) : Int) ≤ 2400 := by have := nn.out (min j 6); have := hLl.out; have : min j 6 * L.length ≤ 8 * 300 := Nat.mul_le_mul (by omega) (by omega); omega
            have e1 := Lib.hid (show pt L (j + 1) = pt L j + cnt L ((j + 1 : Nat) : Int) from rfl)
            have hjj : (j : Int) + 1 ≤ 8 := by omega
            by_cases h6 : j < 6
            · have hj6 : (j : Int) + 1 ≤ 6 := by omega
              have m1 := Lib.hid (show min j 6 = j by omega)
              have m2 := Lib.hid (show min (j + 1) 6 = j + 1 by omega)
              rw [m1.out]
              generalize cnt L ((j + 1 : Nat) : Int) = cj' at *
              obtain ⟨pj, hpj⟩ : ∃ pj, pj = pt L j := ⟨_, rfl⟩
              rw [← hpj] at e1 b1 ⊢
              clear hpj h6 hj8 b3
              go_wp2_with (go_at_call 12; (with_reducible refine cj.out.mono ?_); rintro e w' ⟨rfl, rfl⟩)
              go_roundw
              case rel => exact ⟨j + 1, by omega, by rw [e1.out]; go_num, by rw [m2.out, e1.out]; go_num, by go_num, trivial⟩
              case measure => simp [intOf]; omega
            · have hj6 : ¬ ((j : Int) + 1 ≤ 6) := by omega
              have m1 := Lib.hid (show min (j + 1) 6 = min j 6 by omega)
              generalize cnt L ((j + 1 : Nat) : Int) = cj' at *
              obtain ⟨pm, hpm⟩ : ∃ pm, pm = pt L (min j 6) := ⟨_, rfl⟩
              obtain ⟨pj, hpj⟩ : ∃ pj, pj = pt L j := ⟨_, rfl⟩
              rw [← hpm] at b3 ⊢
              rw [← hpj] at e1 b1 ⊢
              have hpm' := Lib.hid hpm
              clear hpj hpm h6 hj8
              go_wp2_with (go_at_call 12; (with_reducible refine cj.out.mono ?_); rintro e w' ⟨rfl, rfl⟩)
              go_roundw
              case rel => exact ⟨j + 1, by omega, by rw [e1.out]; go_num, by rw [m1.out, hpm'.out], by go_num, trivial⟩
              case measure => simp [intOf]; omega
          · obtain rfl : j = 8 := by omega
            clear hj8 hj
            have m6 : pt L (min 8 6) = H.length := e6.out
            rw [m6]
            clear m6
            generalize pt L 8 = all at *
            go_wp2_with (go_at_call 15; (with_reducible refine (hh.out _ hm.out).mono ?_); rintro e w4 ⟨rfl, hp4, hm4, o4⟩; have p4 := Lib.hid hp4; have k4 := Lib.hid hm4; clear hp4 hm4 o4)
            generalize wr.heap.size + 1 = T at *
            have hH3 : (H.length : Int) ≤ 300 := by have := hHl.out; omega
            generalize hHn : H.length = hn at *
            have hHn' := Lib.hid hHn
            clear hHn
            go_loopw [10, 11] (fun s10 _ wy => ∃ q : Nat, q ≤ hn ∧ s10 = .int .i64 (q : Int) ∧ Hid (PIn wy T H) ∧ Hid (Mine w wy hb L))
              (fun s10 _ _ => 1000 - (intOf s10).toNat)
            case atStart => exact ⟨0, Nat.zero_le _, rfl, p4, k4⟩
            case round =>
              obtain ⟨q, hq, rfl, py, my⟩ := hrel
              by_cases hqn : q < hn
              · have hqi : (q : Int) < (hn : Int) := by omega
                have hq' := Lib.hid hqn
                obtain ⟨g1, g2, g3⟩ := hwl.out q hqn
                have nq' := Lib.hid (fun k hk => hne.out k q hk hqn)
                have ix := (H.getD q default).ok
                have ix' := Lib.hid ix
                clear ix hqn hq
                obtain ⟨Hq, hHq⟩ : ∃ m, m = H.getD q default := ⟨_, rfl⟩
                rw [← hHq] at g1 g2 g3 nq' ix'
                have hHq' := Lib.hid hHq
                clear hHq
                generalize wr = wO at *
                go_wp2_with fail
                go_loopw [11] (fun s11 wz => ∃ k : Nat, k ≤ q ∧ s11 = .int .i64 (k : Int) ∧ Hid (PIn wz T H) ∧ Hid (Mine w wz hb L))
                  (fun s11 _ => 1000 - (intOf s11).toNat)
                case atStart => exact ⟨0, Nat.zero_le _, rfl, py, my⟩
                case round =>
                  obtain ⟨k, hk1, rfl, pz, mz⟩ := hrel
                  have dq := pz.out.2.2 q (by rw [hHn'.out]; exact hq'.out)
                  rw [← hHq'.out] at dq
                  obtain ⟨dq0, dq1⟩ := dq
                  by_cases hkq : k < q
                  · have dk := (pz.out.2.2 k (by rw [hHn'.out]; have := hq'.out; omega)).1
                    have hne2 : ¬ (H.getD k default).id = Hq.id := nq'.out k hkq
                    generalize (H.getD k default).id = xk at *
                    have hki : (k : Int) < (q : Int) := by omega
                    have hkh : (k : Int) < (hn : Int) := by omega
                    have hkq' := Lib.hid hkq
                    clear hkq hk1
                    go_wp2_with fail
                    go_quiet (fail)
                    go_wp2_with fail
                    have pz2 := Lib.hid (pz.out.nil ((Only.refl Nil wr).drewN nq))
                    have mz2 := Lib.hid (mz.out.nil ((Only.refl Nil wr).drewN nq))
                    go_roundw
                    case rel => exact ⟨k + 1, hkq'.out, by go_num, pz2, mz2⟩
                    case measure => have := hkq'.out; have := hq'.out; simp [intOf]; omega
                  · obtain rfl : k = q := by omega
                    clear hkq hk1
                    have wq := Lib.hid (fun n => whw.out (wr.drewN n) (mz.out.nil ((Only.refl Nil wr).drewN n)) Hq.id ix'.out)
                    rw [g1] at wq
                    have g4 : ¬ Hq.wh < 1 := by omega
                    have g5 : ¬ 6 < Hq.wh := by omega
                    generalize Hq.wh = hw at *
                    generalize Hq.id = hi at *
                    clear g1 g2 g3
                    go_wp2_with fail
                    go_quiet ((go_at_call 10; exact quiet_same (wq.out _)))
                    go_wp2_with fail
                    have pz2 := Lib.hid (pz.out.nil ((Only.refl Nil wr).drewN nq))
                    have mz2 := Lib.hid (mz.out.nil ((Only.refl Nil wr).drewN nq))
                    go_roundw
                    case rel => exact ⟨k + 1, hq'.out, by go_num, pz2, mz2⟩
                    case measure => have := hq'.out; simp [intOf]; omega
              · obtain rfl : q = hn := by omega
                have my' := Lib.hid my.out.only
                clear hqn hq
                go_wp2
                go_ret
                exact ⟨rfl, my'.out.below (Nat.le_refl _) (fun _ h => h.elim)⟩
      · have hk : (300 : Int) < (len : Int) := by omega
        have hk2 : ¬ (300 : Int) < 300 := by omega
        clear hlt2
        go_wp2_with fail
        go_loopw [6, 7, 8] (fun s6 s7 s8 wz => ∃ j : Nat, j ≤ 8 ∧ s6 = .int .i64 (pt L j : Nat) ∧ s7 = .int .i64 (pt L (min j 6) : Nat) ∧ s8 = .int .i64 ((j : Int) + 1) ∧ wr = wz)
          (fun _ _ s8 _ => 9 - (intOf s8).toNat)
        case atStart => exact ⟨0, Nat.zero_le _, rfl, rfl, rfl, rfl⟩
        case round =>
          obtain ⟨j, hj, rfl, rfl, rfl, rfl⟩ := hrel
          by_cases hj8 : j < 8
          · have cj := Lib.hid (cn.out j hj8)
            have b1 : ((pt L j : Nat) : Int) ≤ 2400 := by have := nn.out j; have := hLl.out; have : j * L.length ≤ 8 * 300 := Nat.mul_le_mul hj (by omega); omega
            have b2 : ((cnt L ((j + 1 : Nat) : Int) : Nat) : Int) ≤ 300 := by have : cnt L ((j + 1 : Nat) : Int) ≤ L.length := cq_le _ _; have := hLl.out; omega
            have b3 : ((pt L (min j 6) : Nat) : Int) ≤ 2400 := by have := nn.out (min j 6); have := hLl.out; have : min j 6 * L.length ≤ 8 * 300 := Nat.mul_le_mul (by omega) (by omega); omega
            have e1 := Lib.hid (show pt L (j + 1) = pt L j + cnt L ((j + 1 : Nat) : Int) from rfl)
            have hjj : (j : Int) + 1 ≤ 8 := by omega
            by_cases h6 : j < 6
            · have hj6 : (j : Int) + 1 ≤ 6 := by omega
              have m1 := Lib.hid (show min j 6 = j by omega)
              have m2 := Lib.hid (show min (j + 1) 6 = j + 1 by omega)
              rw [m1.out]
              generalize cnt L ((j + 1 : Nat) : Int) = cj' at *
              obtain ⟨pj, hpj⟩ : ∃ pj, pj = pt L j := ⟨_, rfl⟩
              rw [← hpj] at e1 b1 ⊢
              clear hpj h6 hj8 b3
              go_wp2_with (go_at_call 12; (with_reducible refine cj.out.mono ?_); rintro e w' ⟨rfl, rfl⟩)
              go_roundw
              case rel => exact ⟨j + 1, by omega, by rw [e1.out]; go_num, by rw [m2.out, e1.out]; go_num, by go_num, trivial⟩
              case measure => simp [intOf]; omega
            · have hj6 : ¬ ((j : Int) + 1 ≤ 6) := by omega
              have m1 := Lib.hid (show min (j + 1) 6 = min j 6 by omega)
              generalize cnt L ((j + 1 : Nat) : Int) = cj' at *
              obtain ⟨pm, hpm⟩ : ∃ pm, pm = pt L (min j 6) := ⟨_, rfl⟩
              obtain ⟨pj, hpj⟩ : ∃ pj, pj = pt L j := ⟨_, rfl⟩
              rw [← hpm] at b3 ⊢
              rw [← hpj] at e1 b1 ⊢
              have hpm' := Lib.hid hpm
              clear hpj hpm h6 hj8
              go_wp2_with (go_at_call 12; (with_reducible refine cj.out.mono ?_); rintro e w' ⟨rfl, rfl⟩)
              go_roundw
              case rel => exact ⟨j + 1, by omega, by rw [e1.out]; go_num, by rw [m1.out, hpm'.out], by go_num, trivial⟩
              case measure => simp [intOf]; omega
          · obtain rfl : j = 8 := by omega
            clear hj8 hj
            have m6 : pt L (min 8 6) = H.length := e6.out
            rw [m6]
            clear m6
            generalize pt L 8 = all at *
            go_wp2_with (go_at_call 15; (with_reducible refine (hh.out _ hm.out).mono ?_); rintro e w4 ⟨rfl, hp4, hm4, o4⟩; have p4 := Lib.hid hp4; have k4 := Lib.hid hm4; clear hp4 hm4 o4)
            generalize wr.heap.size + 1 = T at *
            have hH3 : (H.length : Int) ≤ 300 := by have := hHl.out; omega
            generalize hHn : H.length = hn at *
            have hHn' := Lib.hid hHn
            clear hHn
            go_loopw [10, 11] (fun s10 _ wy => ∃ q : Nat, q ≤ hn ∧ s10 = .int .i64 (q : Int) ∧ Hid (PIn wy T H) ∧ Hid (Mine w wy hb L))
              (fun s10 _ _ => 1000 - (intOf s10).toNat)
            case atStart => exact ⟨0, Nat.zero_le _, rfl, p4, k4⟩
            case round =>
              obtain ⟨q, hq, rfl, py, my⟩ := hrel
              by_cases hqn : q < hn
              · have hqi : (q : Int) < (hn : Int) := by omega
                have hq' := Lib.hid hqn
                obtain ⟨g1, g2, g3⟩ := hwl.out q hqn
                have nq' := Lib.hid (fun k hk => hne.out k q hk hqn)
                have ix := (H.getD q default).ok
                have ix' := Lib.hid ix
                clear ix hqn hq
                obtain ⟨Hq, hHq⟩ : ∃ m, m = H.getD q default := ⟨_, rfl⟩
                rw [← hHq] at g1 g2 g3 nq' ix'
                have hHq' := Lib.hid hHq
                clear hHq
                generalize wr = wO at *
                go_wp2_with fail
                go_loopw [11] (fun s11 wz => ∃ k : Nat, k ≤ q ∧ s11 = .int .i64 (k : Int) ∧ Hid (PIn wz T H) ∧ Hid (Mine w wz hb L))
                  (fun s11 _ => 1000 - (intOf s11).toNat)
                case atStart => exact ⟨0, Nat.zero_le _, rfl, py, my⟩
                case round =>
                  obtain ⟨k, hk1, rfl, pz, mz⟩ := hrel
                  have dq := pz.out.2.2 q (by rw [hHn'.out]; exact hq'.out)
                  rw [← hHq'.out] at dq
                  obtain ⟨dq0, dq1⟩ := dq
                  by_cases hkq : k < q
                  · have dk := (pz.out.2.2 k (by rw [hHn'.out]; have := hq'.out; omega)).1
                    have hne2 : ¬ (H.getD k default).id = Hq.id := nq'.out k hkq
                    generalize (H.getD k default).id = xk at *
                    have hki : (k : Int) < (q : Int) := by omega
                    have hkh : (k : Int) < (hn : Int) := by omega
                    have hkq' := Lib.hid hkq
                    clear hkq hk1
                    go_wp2_with fail
                    go_quiet (fail)
                    go_wp2_with fail
                    have pz2 := Lib.hid (pz.out.nil ((Only.refl Nil wr).drewN nq))
                    have mz2 := Lib.hid (mz.out.nil ((Only.refl Nil wr).drewN nq))
                    go_roundw
                    case rel => exact ⟨k + 1, hkq'.out, by go_num, pz2, mz2⟩
                    case measure => have := hkq'.out; have := hq'.out; simp [intOf]; omega
                  · obtain rfl : k = q := by omega
                    clear hkq hk1
                    have wq := Lib.hid (fun n => whw.out (wr.drewN n) (mz.out.nil ((Only.refl Nil wr).drewN n)) Hq.id ix'.out)
                    rw [g1] at wq
                    have g4 : ¬ Hq.wh < 1 := by omega
                    have g5 : ¬ 6 < Hq.wh := by omega
                    generalize Hq.wh = hw at *
                    generalize Hq.id = hi at *
                    clear g1 g2 g3
                    go_wp2_with fail
                    go_quiet ((go_at_call 10; exact quiet_same (wq.out _)))
                    go_wp2_with fail
                    have pz2 := Lib.hid (pz.out.nil ((Only.refl Nil wr).drewN nq))
                    have mz2 := Lib.hid (mz.out.nil ((Only.refl Nil wr).drewN nq))
                    go_roundw
                    case rel => exact ⟨k + 1, hq'.out, by go_num, pz2, mz2⟩
                    case measure => have := hq'.out; simp [intOf]; omega
              · obtain rfl : q = hn := by omega
                have my' := Lib.hid my.out.only
                clear hqn hq
                go_wp2
                go_ret
                exact ⟨rfl, my'.out.below (Nat.le_refl _) (fun _ h => h.elim)⟩
end Go.Proofs.Ytlhdecjpjpnlhaa.Lg
