/- WheelApart: the walk. -/
import Derived.Test.YtpmgmdlfnlmieaaWhApA
namespace Go.Proofs.Ytpmgmdlfnlmieaa.Wh
open Go.RowKit Go.Proofs.Ytpmgmdlfnlmieaa

/-- A row of ids, opened. -/
theorem ids_in {w : World} {base : Nat} {a : Option Addr} {n c : Nat} {M : List Tm} (h : w.ownsRow base 30 1 (.slice a n c) n (ids M)) (q : Nat) (hq : q < n) :
    ∃ g, a = some ⟨g, 0, none⟩ ∧ w.cell? ⟨g, q, none⟩ = some (.int .u64 ((M.getD q default).id : Int)) := by
  have hl : M.length = n := by have := h.1; simp [ids] at this; exact this
  rcases h.2 with ⟨_, h0⟩ | ⟨g, c', cur, hv, _, hg, _⟩
  · omega
  · simp only [Value.slice.injEq] at hv
    obtain ⟨rfl, _, rfl⟩ := hv
    refine ⟨g, rfl, ?_⟩
    rw [h.cellAt q (by omega)]
    simp [ids, hl, hq]

set_option maxRecDepth 100000 in
set_option maxHeartbeats 8000000 in
theorem apart_all (x : Int) (a1 : Option Addr) (c1 : Nat) (X : List Int) (a2 : Option Addr) (c2 : Nat) (Y : List Bool) (w : World) (rowX : RowK .i64 w a1 X) (hX : X.length * 8 ≤ 140737488351232) (rowY : RowBo w a2 Y) (hY : Y.length * 1 ≤ 140737488351232) :
    Calls Try.prog 8 #[.int .i64 x, .slice a1 X.length c1, .slice a2 Y.length c2] w fun e w' => e = .returned (.bool true) ∧ Below w.heap.size w w' := by
  obtain ⟨d1, hd1, hmd⟩ := mod_any x 4095 (by decide) (by decide)
  have hmd' := Lib.hid (fun w => show Calls Try.prog 15 #[.int .i64 x, .int .i64 4095] w fun e w' => e = .returned (.int .i64 (d1 : Int)) ∧ w = w' from hmd w)
  obtain ⟨d, hd⟩ : ∃ d, d = d1 + 1 := ⟨_, rfl⟩
  have ed : 1 + (d1 : Int) = (d : Int) := by omega
  have hd4 : Hid (1 ≤ d ∧ d ≤ 4095) := Lib.hid (by omega)
  have hd1' : (d1 : Int) < 4095 := by omega
  have rX := Lib.hid rowX
  have rY := Lib.hid rowY
  have hX' := Lib.hid (show (X.length : Int) ≤ 140737488351232 by omega)
  have hY' := Lib.hid (show (Y.length : Int) ≤ 140737488351232 by omega)
  clear hmd hd hd1 rowX rowY hX hY
  generalize hlx : X.length = lx at *
  generalize hly : Y.length = ly at *
  have hlx' := Lib.hid hlx
  have hly' := Lib.hid hly
  clear hlx hly
  have m1 := Lib.hid (fun w1 (o : Only Nil w w1) => mine_new w1 w1 (Only.refl _ _))
  have m2 := Lib.hid (fun w1 w2 B (o : Only Nil w w1) (h : Mine w1 w2 B 0 0 []) => two_new o h)
  go_enter Try.func8, Try.ntmps8
  go_wp2_with (first
    | (go_at_call 9; (with_reducible refine (alive_any _).mono ?_); rintro e w1 ⟨rfl, h⟩; have o1 := Lib.hid h; clear h)
    | (go_at_call 10; (with_reducible refine (m2.out _ _ _ o1.out k2.out).mono ?_); rintro e w3 ⟨rfl, h⟩; have k3 := Lib.hid h; clear h; generalize w2.heap.size = C at *; generalize w1.heap.size = B at *)
    | (go_at_call 10; (with_reducible refine (m1.out _ o1.out).mono ?_); rintro e w2 ⟨rfl, h⟩; have k2 := Lib.hid h; clear h)
    | (go_at_call 15; (with_reducible refine (hmd'.out _).mono ?_); rintro e w' ⟨rfl, rfl⟩))
  (try simp only [ed])
  clear ed k2
  go_loopw [10] (fun s10 wr => ∃ (j c : Nat) (U : List Tm), j ≤ 30 ∧ s10 = .int .i64 (j : Int) ∧ Hid (Two w wr B 0 0 [] C 0 c U) ∧ Hid (Oth j c U))
    (fun s10 _ => 30 - (intOf s10).toNat)
  case atStart => exact ⟨0, 0, [], by omega, rfl, k3, Lib.hid ⟨by simp, by omega, fun t ht => by simp at ht⟩⟩
  case round =>
    obtain ⟨j, c, U, hj, rfl, hm, ho⟩ := hrel
    by_cases hjl : j < lx ∧ j < 30
    · obtain ⟨b, off, rfl, _, hc⟩ := (rX.out.later (hm.out.only.below (Nat.le_refl _) (fun _ h => h.elim))) j (by rw [hlx'.out]; exact hjl.1)
      have c0 := hc j (by rw [hlx'.out]; exact hjl.1)
      clear hc
      generalize X.getD j 0 = z at *
      have had := Lib.hid (show Calls Try.prog 12 #[.pointer (some ⟨C, 0, none⟩), .int .u64 (100 + (j : Int)), .int .i64 z] wr fun e w' => ∃ r c' M', e = .returned (.int .i64 r) ∧ Two w w' C 0 c' M' B 0 0 [] ∧ Oth (j + 1) c' M' from two_add_any hm.out.swap ho.out (by omega) z)
      have e1 : (j : Int) < (lx : Int) := by omega
      have e2 : (j : Int) < 30 := by omega
      have eu : IntKind.u64.wrap (100 + (j : Int)) = 100 + (j : Int) := by rw [IntKind.wrap_u64]; omega
      have hL2 := hX'.out
      have hjs := Lib.hid (show j + 1 ≤ 30 by omega)
      clear hjl hj
      go_wp2_with (go_at_call 12; (with_reducible refine had.out.mono ?_); rintro e w4 ⟨r4, cc4, M4, rfl, h, h2⟩; have k4 := Lib.hid h.swap; have q4 := Lib.hid h2; clear h h2)
      go_roundw
      case rel => exact ⟨j + 1, cc4, M4, hjs.out, by go_num, k4, q4⟩
      case measure => have := hjs.out; simp [intOf]; omega
    · have hw := Lib.hid (show Calls Try.prog 12 #[.pointer (some ⟨B, 0, none⟩), .int .u64 1, .int .i64 (d : Int)] wr fun e w' => e = .returned (.int .i64 0) ∧ Two w w' B 0 1 [⟨1, d, 0⟩] C 0 c U from by
        have := two_add hm.out 1 d (by simp) (by simp) hd4.out.1 hd4.out.2 (by decide) (by decide)
        rw [Nat.zero_add d] at this
        exact this)
      have hu := Lib.hid (fun w1 (h : Two w w1 B 0 1 [⟨1, d, 0⟩] C 0 c U) => show Calls Try.prog 12 #[.pointer (some ⟨C, 0, none⟩), .int .u64 1, .int .i64 (d : Int)] w1 fun e w' => e = .returned (.int .i64 0) ∧ Two w w' C 0 (c + 1) (U ++ [⟨1, d, c⟩]) B 0 1 [⟨1, d, 0⟩] from by
        have := two_add h.swap 1 d (fun t ht => by have := ho.out.id t ht; omega) (by have := ho.out.few; omega) hd4.out.1 hd4.out.2 (by have := ho.out.add; omega) (by decide)
        rw [Nat.zero_add d] at this
        exact this)
      have hOne : Hid (One d 0 (U ++ [⟨1, d, c⟩])) := Lib.hid ⟨fun s hs e => by
        rcases List.mem_append.1 hs with h | h
        · have := ho.out.id s h; omega
        · simp at h; subst h; rfl, fun _ => ⟨⟨1, d, c⟩, by simp, rfl⟩⟩
      have hno : ¬ ((j : Int) < (lx : Int)) ∨ (j : Int) < (lx : Int) ∧ ¬ ((j : Int) < 30) := by omega
      clear hjl hj
      rcases hno with e1 | ⟨e1, e2⟩
      all_goals
        go_wp2_with (first
          | (go_at_call 12; (with_reducible refine hw.out.mono ?_); rintro e w4 ⟨rfl, h⟩; have k4 := Lib.hid h; clear h)
          | (go_at_call 12; (with_reducible refine (hu.out _ k4.out).mono ?_); rintro e w5 ⟨rfl, h⟩; have k5 := Lib.hid h.swap; clear h))
        have hst : Hid (Two w w5 B 0 1 (W1 d 0) C 0 (c + 1) (U ++ [⟨1, d, c⟩])) := Lib.hid (by unfold W1; rw [if_pos (show 0 < d from hd4.out.1)]; exact k5.out)
        generalize hcn : c + 1 = cn at *
        generalize U ++ [⟨1, d, c⟩] = U0 at *
        clear hw hu k4 k5 hm ho hcn
        go_loopw [11] (fun s11 wr => ∃ (j : Nat) (U : List Tm), j ≤ 30 ∧ s11 = .int .i64 (j : Int) ∧ Hid (Two w wr B 0 1 (W1 d 0) C 0 cn U) ∧ Hid (One d 0 U))
          (fun s11 _ => 30 - (intOf s11).toNat)
        case atStart => exact ⟨0, U0, by omega, rfl, hst, hOne⟩
        case round =>
          obtain ⟨j, U, hj, rfl, hm, ho⟩ := hrel
          by_cases hjl : j < ly ∧ j < 30
          · obtain ⟨b, off, rfl, _, hc⟩ := (rY.out.later (hm.out.only.below (Nat.le_refl _) (fun _ h => h.elim))) j (by rw [hly'.out]; exact hjl.1)
            have c0 := hc j (by rw [hly'.out]; exact hjl.1)
            clear hc
            generalize Y.getD j false = z at *
            have hcut := Lib.hid (show Calls Try.prog 14 #[.pointer (some ⟨C, 0, none⟩), .int .u64 (100 + (j : Int))] wr fun e w' => ∃ r, e = .returned (.bool r) ∧ Two w w' C 0 cn (cut U (100 + j)) B 0 1 (W1 d 0) from two_cut hm.out.swap (100 + j))
            have e1 : (j : Int) < (ly : Int) := by omega
            have e2 : (j : Int) < 30 := by omega
            have eu : IntKind.u64.wrap (100 + (j : Int)) = 100 + (j : Int) := by rw [IntKind.wrap_u64]; omega
            have hL2 := hY'.out
            have hjs := Lib.hid (show j + 1 ≤ 30 by omega)
            clear hjl hj
            cases z with
            | true =>
              go_wp2_with (go_at_call 14; (with_reducible refine hcut.out.mono ?_); rintro e w6 ⟨r6, rfl, h⟩; have k6 := Lib.hid h.swap; clear h)
              go_roundw
              case rel => exact ⟨j + 1, cut U (100 + j), hjs.out, by go_num, k6, Lib.hid (ho.out.cut _ (by omega))⟩
              case measure => have := hjs.out; simp [intOf]; omega
            | false =>
              go_wp2
              go_roundw
              case rel => exact ⟨j + 1, U, hjs.out, by go_num, hm, ho⟩
              case measure => have := hjs.out; simp [intOf]; omega
          · have hno : ¬ ((j : Int) < (ly : Int)) ∨ (j : Int) < (ly : Int) ∧ ¬ ((j : Int) < 30) := by omega
            clear hjl hj
            rcases hno with e1 | ⟨e1, e2⟩
            all_goals
              go_wp2
              go_loopw [12] (fun s12 wr => ∃ (t : Nat) (V : List Tm), t ≤ d ∧ s12 = .int .i64 (t : Int) ∧ Hid (Two w wr B t 1 (W1 d t) C t cn V) ∧ Hid (One d t V))
                (fun s12 _ => d - (intOf s12).toNat)
              case atStart => exact ⟨0, U, by omega, rfl, hm, ho⟩
              case round =>
                obtain ⟨t, V, htd, rfl, hm2, ho2⟩ := hrel
                by_cases hlt : t < d
                · have t1 := two_tick hm2.out (by have := hd4.out; omega)
                  obtain ⟨hla, hrest⟩ := W1_tick d t hlt
                  rw [hrest, hla] at t1
                  have t1' := Lib.hid t1
                  have t2 := Lib.hid (fun w1 (h : Two w w1 B (t + 1) 1 (W1 d (t + 1)) C t cn V) => two_tick h.swap (by have := hd4.out; omega))
                  have htold := ho2.out.told hlt
                  have hfew := Nat.le_trans (List.length_filter_le (fun s : Tm => s.due == t + 1) V) hm2.out.good2.few
                  have hone := Lib.hid ho2.out.tick
                  generalize (V.filter fun s => s.due == t + 1) = M at *
                  generalize (V.filter fun s => !(s.due == t + 1)) = V' at *
                  have htl := Lib.hid htold
                  clear t1 hla hrest htold
                  generalize hml : M.length = ml at *
                  have hml' := Lib.hid hml
                  have hml64 : (ml : Int) ≤ 64 := by omega
                  have htd' : (t : Int) < (d : Int) := by omega
                  have ht4 : (t : Int) < 4095 := by have := hd4.out; omega
                  have hlt' := Lib.hid hlt
                  clear hml hfew hlt htd
                  generalize hlen1 : (if t + 1 = d then 1 else 0) = l1 at *
                  have hl1 := Lib.hid hlen1
                  clear hlen1
                  go_wp2_with (first
                    | (go_at_call 18; (with_reducible refine t1'.out.mono ?_); rintro e w7 ⟨v7, rfl, h7, h⟩; have k7 := Lib.hid h; clear h; obtain ⟨a7, c7, rfl⟩ := own_slice_n h7.out)
                    | (go_at_call 18; (with_reducible refine (t2.out _ k7.out).mono ?_); rintro e w8 ⟨v8, rfl, h8, h⟩; have k8 := Lib.hid h.swap; clear h; obtain ⟨a8, c8, rfl⟩ := own_slice_n h8.out))
                  go_loop [15, 16] (fun s15 s16 => ∃ (q : Nat), q ≤ ml ∧ s16 = .int .i64 (q : Int) ∧ s15 = .bool (th M q)) (fun _ s16 => ml - (intOf s16).toNat)
                  case atStart => exact ⟨0, by omega, rfl, rfl⟩
                  case round =>
                    obtain ⟨q, hq, rfl, rfl⟩ := hrel
                    by_cases hqm : q < ml
                    · obtain ⟨g8, rfl, d0⟩ := ids_in h8.out q hqm
                      have hst2 := Lib.hid (th_step M q (by rw [hml'.out]; exact hqm))
                      have hqi : (q : Int) < (ml : Int) := by omega
                      generalize (M.getD q default).id = z at *
                      have hqs := Lib.hid (show q + 1 ≤ ml from hqm)
                      clear hqm hq
                      by_cases hb : th M q = true
                      · have hs1 : Hid (th M (q + 1) = true) := Lib.hid (by rw [hst2.out, hb]; rfl)
                        rw [hb]
                        clear hb hst2
                        go_wp2
                        go_round
                        case rel => exact ⟨q + 1, hqs.out, by go_num, by rw [hs1.out]⟩
                        case measure => have := hqs.out; simp [intOf]; omega
                      · have hb' : th M q = false := by simpa using hb
                        rw [hb'] at hst2 ⊢
                        clear hb hb'
                        by_cases hz : z = 1
                        · have hs1 : Hid (th M (q + 1) = true) := Lib.hid (by rw [hst2.out, hz]; rfl)
                          subst hz
                          clear hst2
                          go_wp2
                          go_round
                          case rel => exact ⟨q + 1, hqs.out, by go_num, by rw [hs1.out]⟩
                          case measure => have := hqs.out; simp [intOf]; omega
                        · have hs1 : Hid (th M (q + 1) = false) := Lib.hid (by rw [hst2.out, Bool.false_or]; exact beq_eq_false_iff_ne.2 hz)
                          have hz' : ((z : Int) == 1) = false := by rw [beq_eq_false_iff_ne]; omega
                          clear hz hst2
                          go_wp2
                          go_round
                          case rel => exact ⟨q + 1, hqs.out, by go_num, by rw [hs1.out]⟩
                          case measure => have := hqs.out; simp [intOf]; omega
                    · obtain rfl : q = ml := by omega
                      have hq0 : ¬ (q : Int) < (q : Int) := by omega
                      rw [htl.out]
                      clear hqm hq
                      by_cases hlast : t + 1 = d
                      · have e3 : l1 = 1 := by rw [← hl1.out, if_pos hlast]
                        subst e3
                        rw [decide_eq_true hlast]
                        clear hlast
                        go_wp2
                        go_roundw
                        case rel => exact ⟨t + 1, V', hlt'.out, by go_num, k8, hone⟩
                        case measure => have := hlt'.out; simp [intOf]; omega
                      · have e3 : l1 = 0 := by rw [← hl1.out, if_neg hlast]
                        subst e3
                        rw [decide_eq_false hlast]
                        clear hlast
                        go_wp2
                        go_roundw
                        case rel => exact ⟨t + 1, V', hlt'.out, by go_num, k8, hone⟩
                        case measure => have := hlt'.out; simp [intOf]; omega
                · obtain rfl : t = d := by omega
                  have hk1 : ¬ (t : Int) < (t : Int) := by omega
                  have ln := two_len hm2.out
                  rw [show W1 t t = [] by unfold W1; rw [if_neg (Nat.lt_irrefl t)]] at ln
                  have ln' := Lib.hid (show Calls Try.prog 20 #[.pointer (some ⟨B, 0, none⟩)] wr fun e w' => e = .returned (.int .i64 0) ∧ Two w w' B t 1 [] C t cn V from ln)
                  clear ln hlt htd
                  go_wp2_with (go_at_call 20; (with_reducible refine ln'.out.mono ?_); rintro e w9 ⟨rfl, h⟩; have k9 := Lib.hid h; clear h)
                  go_ret
                  exact ⟨rfl, k9.out.only.below (Nat.le_refl _) (fun _ h => h.elim)⟩
end Go.Proofs.Ytpmgmdlfnlmieaa.Wh
