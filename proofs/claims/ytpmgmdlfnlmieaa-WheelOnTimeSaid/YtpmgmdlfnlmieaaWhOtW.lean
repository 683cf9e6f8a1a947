/- WheelOnTime: the walk. -/
import Derived.Test.YtpmgmdlfnlmieaaWhOtA
namespace Go.Proofs.Ytpmgmdlfnlmieaa.Wh
open Go.RowKit Go.Proofs.Ytpmgmdlfnlmieaa

/-- A row of ids, opened. -/
theorem ids_in {w : World} {base : Nat} {a : Option Addr} {n c : Nat} {M : List Tm} (h : w.ownsRow base 30 1 (.slice a n c) n (ids M)) (q : Nat) (hq : q < n) :
    ∃ g, a = some ⟨g, 0, none⟩ ∧ w.cell? ⟨g, q, none⟩ = some (.int .u64 ((M.getD q default).id : Int)) := by
  have hl : M.length = n := by have := h.1; simp [ids] at this; exact this
  rcases h.2 with ⟨_, h0⟩ | ⟨g, c', cur, hv, _, hg, _⟩
  · omega
  · simp only [Value.slice.injEq] at hv
    obtain ⟨rfl, _, rfl⟩ := hv
    refine ⟨g, rfl, ?_⟩
    rw [h.cellAt q (by omega)]
    simp [ids, hl, hq]

set_option maxRecDepth 100000 in
set_option maxHeartbeats 8000000 in
theorem ontime_all (x y : Int) (a : Option Addr) (c : Nat) (L : List Int) (w : World) (row : RowK .i64 w a L) (hL : L.length * 8 ≤ 140737488351232) :
    Calls Try.prog 4 #[.int .i64 x, .slice a L.length c, .int .i64 y] w fun e w' => e = .returned (.bool true) ∧ Below w.heap.size w w' := by
  obtain ⟨A, hA, hmA⟩ := mod_any x 5000 (by decide) (by decide)
  obtain ⟨D1, hD1⟩ : ∃ D1 : Nat → Nat, ∀ i, D1 i < 4095 ∧ ∀ w, Calls Try.prog 15 #[.int .i64 (L.getD i 0), .int .i64 ((4095 : Nat) : Int)] w fun e w' => e = .returned (.int .i64 (D1 i : Int)) ∧ w = w' :=
    ⟨fun i => Classical.choose (mod_any (L.getD i 0) 4095 (by decide) (by decide)), fun i => Classical.choose_spec (mod_any (L.getD i 0) 4095 (by decide) (by decide))⟩
  obtain ⟨D, hD⟩ : ∃ D : Nat → Nat, ∀ i, D i = D1 i + 1 := ⟨fun i => D1 i + 1, fun _ => rfl⟩
  have hmA' := Lib.hid (fun w => show Calls Try.prog 15 #[.int .i64 x, .int .i64 5000] w fun e w' => e = .returned (.int .i64 (A : Int)) ∧ w = w' from hmA w)
  have hmD := Lib.hid (fun i w => show Calls Try.prog 15 #[.int .i64 (L.getD i 0), .int .i64 4095] w fun e w' => e = .returned (.int .i64 (D1 i : Int)) ∧ w = w' from (hD1 i).2 w)
  have hDb := Lib.hid (fun i => show 1 ≤ D i ∧ D i ≤ 4095 ∧ D i = D1 i + 1 from ⟨by have := hD i; omega, by have := hD i; have := (hD1 i).1; omega, hD i⟩)
  have hA' := Lib.hid hA
  have row' := Lib.hid row
  have hL' := Lib.hid (show (L.length : Int) ≤ 140737488351232 by omega)
  clear hmA hD1 hD hA row hL
  obtain ⟨n, hn⟩ : ∃ n, n = min L.length 20 := ⟨_, rfl⟩
  have en : min (L.length : Int) 20 = (n : Int) := by omega
  have hn20 := Lib.hid (show n ≤ 20 ∧ n ≤ L.length by omega)
  clear hn
  generalize hlen : L.length = len at *
  have hlen' := Lib.hid hlen
  clear hlen
  have m1 := Lib.hid (fun w1 (o : Only Nil w w1) => mine_new w w1 o)
  go_enter Try.func4, Try.ntmps4
  go_wp2_with (first
    | (go_at_call 9; (with_reducible refine (alive_any _).mono ?_); rintro e w1 ⟨rfl, h⟩; have o1 := Lib.hid h; clear h)
    | (go_at_call 10; (with_reducible refine (m1.out _ o1.out).mono ?_); rintro e w2 ⟨rfl, h⟩; have k2 := Lib.hid h; clear h; generalize w1.heap.size = B at *))
  go_loopw [8] (fun s8 wr => ∃ (i : Nat), i ≤ A ∧ s8 = .int .i64 (i : Int) ∧ Hid (Mine w wr B i 0 []))
    (fun s8 _ => A - (intOf s8).toNat)
  case atStart => exact ⟨0, by omega, rfl, k2⟩
  case round =>
    obtain ⟨i, hi, rfl, hm⟩ := hrel
    have ha5 := hA'.out
    by_cases hia : i < A
    · have tk := Lib.hid (mine_tick0 hm.out (by omega))
      have hi5 : (i : Int) < 5000 := by omega
      clear ha5
      go_wp2_with (first
        | (go_at_call 15; (with_reducible refine (hmA'.out _).mono ?_); rintro e w' ⟨rfl, rfl⟩)
        | (go_at_call 18; (with_reducible refine tk.out.mono ?_); rintro e w3 ⟨v3, rfl, h3, h⟩; have k3 := Lib.hid h; clear h; obtain ⟨a3, c3, rfl⟩ := own_slice_n h3.out))
      go_roundw
      case rel => exact ⟨i + 1, by omega, by go_num, k3⟩
      case measure => simp [intOf]; omega
    · obtain rfl : i = A := by omega
      have hk0 : ¬ (i : Int) < (i : Int) := by omega
      have k3 := hm
      clear ha5 hia
      go_wp2_with (go_at_call 15; (with_reducible refine (hmA'.out _).mono ?_); rintro e w' ⟨rfl, rfl⟩)
      (try simp only [en])
      clear en hk0
      go_loopw [10, 11] (fun s10 s11 wr => ∃ (j : Nat), j ≤ n ∧ s11 = .int .i64 (j : Int) ∧ s10 = .int .i64 (mx D j : Nat) ∧ Hid (Mine w wr B i j (LT i D j)))
        (fun _ s11 _ => n - (intOf s11).toNat)
      case atStart => exact ⟨0, by omega, rfl, rfl, k3⟩
      case round =>
        obtain ⟨j, hj, rfl, rfl, hm⟩ := hrel
        by_cases hjn : j < n
        · obtain ⟨b, off, rfl, _, hc⟩ := (row'.out.later (hm.out.only.below (Nat.le_refl _) (fun _ h => h.elim))) j (by rw [hlen'.out]; have := hn20.out; omega)
          have c0 := hc j (by rw [hlen'.out]; have := hn20.out; omega)
          clear hc
          have hd := hDb.out j
          have had := Lib.hid (mine_add_ok hm.out j (D j) (LT_id i D j) (by rw [LT_len]; have := hn20.out; omega) hd.1 hd.2.1 (by have := hn20.out; omega) (by have := hn20.out; omega))
          rw [← LT_succ] at had
          have md := Lib.hid (hmD.out j)
          have hmle := mx_le D (fun i => (hDb.out i).2.1) j
          have hmx : max (mx D j : Int) (D j : Int) = (mx D (j + 1) : Nat) := by simp only [mx]; omega
          have hjn' : (j : Int) < (n : Int) := by omega
          have hj20 : (j : Int) < 20 := by have := hn20.out; omega
          have hjl : (j : Int) < (len : Int) := by have := hn20.out; omega
          have eD : 1 + (D1 j : Int) = (D j : Int) := by omega
          have hd1 : (D1 j : Int) < 4095 := by omega
          have eu : IntKind.u64.wrap (j : Int) = (j : Int) := by rw [IntKind.wrap_u64]; omega
          have hjn2 := Lib.hid hjn
          have hL2 := hL'.out
          clear hd hj hjn
          generalize L.getD j 0 = z at *
          generalize hp0 : mx D (j + 1) = p at *
          have hp := Lib.hid hp0
          clear hp0
          generalize mx D j = q at *
          generalize D j = dj at *
          generalize D1 j = ej at *
          have hq : (q : Int) ≤ 4095 := by omega
          clear hmle
          go_wp2_with (first
            | (go_at_call 15; (with_reducible refine (md.out _).mono ?_); rintro e w' ⟨rfl, rfl⟩)
            | (go_at_call 12; (with_reducible refine had.out.mono ?_); rintro e w4 ⟨rfl, h⟩; have k4 := Lib.hid h; clear h))
          go_roundw
          case rel => exact ⟨j + 1, (by have := hjn2.out; omega), by go_num, by rw [hp.out], k4⟩
          case measure => have := hjn2.out; simp [intOf]; omega
        · obtain rfl : j = n := by omega
          have hk1 : ¬ (j : Int) < (j : Int) := by omega
          by_cases hn0 : j = 0
          · have h0 : ((j : Int) == 0) = true := by rw [beq_iff_eq]; omega
            clear hn0 hjn
            go_wp2
            go_ret
            exact ⟨rfl, hm.out.only.below (Nat.le_refl _) (fun _ h => h.elim)⟩
          · have h0 : ((j : Int) == 0) = false := by rw [beq_eq_false_iff_ne]; omega
            obtain ⟨k, hk, hmk⟩ := mod_any y j (by omega) (by have := hn20.out; omega)
            have hmk' := Lib.hid hmk
            have hk' := Lib.hid hk
            have hmle := mx_le D (fun i => (hDb.out i).2.1) j
            have hmge := Lib.hid (mx_ge D j)
            have k5 : Hid (Mine w wr B (i + 0) j (LF i D j 0)) := Lib.hid (by rw [LF_zero i D j (fun q => (hDb.out q).1)]; exact hm.out)
            have hDk := hDb.out k
            have mdk := Lib.hid (hmD.out k)
            have eD : 1 + (D1 k : Int) = (D k : Int) := by omega
            have hd1 : (D1 k : Int) < 4095 := by omega
            have hk20 : (k : Int) < 20 := by have := hn20.out; omega
            have hkl : (k : Int) < (len : Int) := by have := hn20.out; omega
            have ek : IntKind.u64.wrap (k : Int) = (k : Int) := by rw [IntKind.wrap_u64]; omega
            generalize hX0 : mx D j = X at *
            have hX := Lib.hid hX0
            have hX4 : (X : Int) ≤ 4095 := by omega
            have hX4' := Lib.hid hmle
            clear hmk hk hn0 hjn hDk hX0 hmle
            go_wp2_with (go_at_call 15; (with_reducible refine (hmk'.out _).mono ?_); rintro e w' ⟨rfl, rfl⟩)
            clear h0 hk1
            go_loopw [14] (fun s14 wr => ∃ (t m : Nat), m ≤ X ∧ Hid (t = m + 1) ∧ s14 = .int .i64 (t : Int) ∧ Hid (Mine w wr B (i + m) j (LF i D j m)))
              (fun s14 _ => X + 1 - (intOf s14).toNat)
            case atStart => exact ⟨1, 0, by omega, Lib.hid rfl, rfl, k5⟩
            case round =>
              obtain ⟨t, m, hmX, ht, rfl, hm6⟩ := hrel
              have ht0 := ht.out
              by_cases hlt : m < X
              · have tk := mine_tick hm6.out (by have := hA'.out; have := hX4'.out; omega)
                rw [LF_next] at tk
                have htold := told_count i D j m k hk'.out
                have hfew := Nat.le_trans (List.length_filter_le (fun t : Tm => t.due == i + m + 1) (LF i D j m)) hm6.out.good.few
                generalize ((LF i D j m).filter fun t => t.due == i + m + 1) = M at *
                have tk' := Lib.hid tk
                have htold' : tc M k M.length = if D k = m + 1 then 1 else 0 := by unfold tc; rw [List.take_length]; exact htold
                have htc := Lib.hid htold'
                obtain ⟨b, off, rfl, _, hc⟩ := (row'.out.later (hm6.out.only.below (Nat.le_refl _) (fun _ h => h.elim))) k (by rw [hlen'.out]; have := hn20.out; have := hk'.out; omega)
                clear hc tk htold htold'
                generalize hml : M.length = ml at *
                have hml' := Lib.hid hml
                have ht4 : (t : Int) ≤ 4095 := by have := hX4'.out; omega
                have htX : (t : Int) ≤ (X : Int) := by omega
                have hnx := Lib.hid (show m + 1 ≤ X ∧ t + 1 = m + 1 + 1 by omega)
                have hml64 : (ml : Int) ≤ 64 := by omega
                clear hml hfew hmX hlt ht0
                have hL2 := hL'.out
                go_wp2_with (go_at_call 18; (with_reducible refine tk'.out.mono ?_); rintro e w6 ⟨v6, rfl, h6, h⟩; have k6 := Lib.hid h; clear h; obtain ⟨a6, c6, rfl⟩ := own_slice_n h6.out)
                have hc := row'.out.later (k6.out.only.below (Nat.le_refl _) (fun _ h => h.elim)) k (by rw [hlen'.out]; have := hn20.out; have := hk'.out; omega)
                obtain ⟨b', off', hbb, _, hc⟩ := hc
                simp only [Option.some.injEq, Addr.mk.injEq, and_true] at hbb
                obtain ⟨rfl, rfl⟩ := hbb
                have c0 := hc k (by rw [hlen'.out]; have := hn20.out; have := hk'.out; omega)
                clear hc
                generalize L.getD k 0 = zk at *
                go_loop [16, 17] (fun s16 s17 => ∃ (q : Nat), q ≤ ml ∧ s17 = .int .i64 (q : Int) ∧ s16 = .int .i64 (tc M k q : Nat)) (fun _ s17 => ml - (intOf s17).toNat)
                case atStart => exact ⟨0, by omega, rfl, rfl⟩
                case round =>
                  obtain ⟨q, hq, rfl, rfl⟩ := hrel
                  have htl := tc_le M k q
                  by_cases hqm : q < ml
                  · obtain ⟨g6, rfl, d0⟩ := ids_in h6.out q hqm
                    have hst := Lib.hid (tc_step M k q (by rw [hml'.out]; exact hqm))
                    have hqi : (q : Int) < (ml : Int) := by omega
                    generalize (M.getD q default).id = z at *
                    generalize hu0 : tc M k (q + 1) = u' at *
                    have hu2 := Lib.hid hu0
                    clear hu0
                    generalize hu : tc M k q = u at *
                    have hu64 : (u : Int) ≤ 64 := by omega
                    have hqs := Lib.hid (show q + 1 ≤ ml from hqm)
                    clear htl hqm hq
                    by_cases hz : z = k
                    · have hs1 : Hid (u' = u + 1) := Lib.hid (by have := hst.out; rw [if_pos hz] at this; exact this)
                      have hz' : ((z : Int) == (k : Int)) = true := by rw [beq_iff_eq]; omega
                      clear hz hst hu
                      go_wp2
                      go_round
                      case rel => exact ⟨q + 1, hqs.out, by go_num, by rw [hu2.out, hs1.out]; go_num⟩
                      case measure => have := hqs.out; simp [intOf]; omega
                    · have hz' : ((z : Int) == (k : Int)) = false := by rw [beq_eq_false_iff_ne]; omega
                      have hs1 : Hid (u' = u) := Lib.hid (by have := hst.out; rw [if_neg hz] at this; exact this)
                      clear hz hst hu
                      go_wp2
                      go_round
                      case rel => exact ⟨q + 1, hqs.out, by go_num, by rw [hu2.out, hs1.out]⟩
                      case measure => have := hqs.out; simp [intOf]; omega
                  · obtain rfl : q = ml := by omega
                    have hq0 : ¬ (q : Int) < (q : Int) := by omega
                    have k7 : Hid (Mine w w6 B (i + (m + 1)) j (LF i D j (m + 1))) := k6
                    by_cases hDk : D k = m + 1
                    · have htv : ((tc M k q : Nat) : Int) = 1 := by rw [htc.out, if_pos hDk]; rfl
                      have eD' : 1 + (D1 k : Int) = (t : Int) := by have := ht.out; omega
                      rw [htv]
                      clear htv eD hDk htl hqm
                      go_wp2_with (go_at_call 15; (with_reducible refine (mdk.out _).mono ?_); rintro e w' ⟨rfl, rfl⟩)
                      go_roundw
                      case rel => exact ⟨t + 1, m + 1, hnx.out.1, Lib.hid hnx.out.2, by go_num, k7⟩
                      case measure => simp [intOf]; omega
                    · have htv : ((tc M k q : Nat) : Int) = 0 := by rw [htc.out, if_neg hDk]; rfl
                      have hne : ((t : Int) == (D k : Int)) = false := by rw [beq_eq_false_iff_ne]; have := ht.out; omega
                      rw [htv]
                      clear htv hDk htl hqm
                      generalize D k = dk at *
                      go_wp2_with (go_at_call 15; (with_reducible refine (mdk.out _).mono ?_); rintro e w' ⟨rfl, rfl⟩)
                      all_goals
                        go_roundw
                        case rel => exact ⟨t + 1, m + 1, hnx.out.1, Lib.hid hnx.out.2, by go_num, k7⟩
                        case measure => simp [intOf]; omega
              · obtain rfl : m = X := by omega
                have htX : ¬ ((t : Int) ≤ (m : Int)) := by omega
                have ln := mine_len hm6.out
                rw [LF_end i D j m (fun q hq => by have := hmge.out q hq; have := hX.out; omega)] at ln
                have ln' := Lib.hid (show Calls Try.prog 20 #[.pointer (some ⟨B, 0, none⟩)] wr fun e w' => e = .returned (.int .i64 0) ∧ Mine w w' B (i + m) j [] from ln)
                clear ln ht0 hlt
                go_wp2_with (go_at_call 20; (with_reducible refine ln'.out.mono ?_); rintro e w7 ⟨rfl, h⟩; have k7 := Lib.hid h; clear h)
                go_ret
                exact ⟨rfl, k7.out.only.below (Nat.le_refl _) (fun _ h => h.elim)⟩
end Go.Proofs.Ytpmgmdlfnlmieaa.Wh
