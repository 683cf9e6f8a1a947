/- RingMakes answers true for all numbers, and turns nothing that there was: the walk. -/
import Derived.Test.YtpnpbgcndlfobaaRingX
import Derived.Deep.RegionHeld3
namespace Go.Proofs.Ytpnpbgcndlfobaa
open Go.RowKit

/-- n cells, the first k of which hold 99. -/
def fillN (n k : Nat) : List Int := (List.range n).map fun i => if i < k then 99 else 0
theorem fillN_length (n k : Nat) : (fillN n k).length = n := by simp [fillN]
theorem fillN_zero (n : Nat) : fillN n 0 = zeros n := by
  apply List.ext_getElem <;> simp [fillN, zeros]
theorem fillN_set (n k : Nat) : (fillN n k).set k 99 = fillN n (k + 1) := by
  apply List.ext_getElem
  · simp [fillN]
  · intro i h1 h2
    simp only [fillN, List.getElem_set, List.getElem_map, List.getElem_range]
    by_cases e : k = i
    · subst e; simp
    · simp only [e, if_false]
      by_cases h : i < k
      · rw [if_pos h, if_pos (by omega)]
      · rw [if_neg h, if_neg (by omega)]
theorem fillN_beyond (n k : Nat) (h : n ≤ k) : fillN n k = fillN n n := by
  apply List.ext_getElem
  · simp [fillN]
  · intro i h1 h2
    have : i < n := by simpa [fillN] using h1
    simp only [fillN, List.getElem_map, List.getElem_range]
    rw [if_pos (by omega), if_pos (by omega)]

set_option maxRecDepth 100000 in
set_option maxHeartbeats 8000000 in
theorem makes_lo (ct base sl : Int) (n : Nat) (hct : ct ≤ 1000) (hn : count ct = n) (hs : sl < 1) (w : World) :
    Calls Try.prog 4 #[.int .i64 ct, .int .i64 base, .int .i64 sl] w fun e w' => e = .returned (.bool true) ∧ Below w.heap.size w w' := by
  have nw := Lib.hid (fun w => new_any ct w)
  have rn := Lib.hid (fun w => rnew_any ct w)
  rw [hn] at nw rn
  have hle : (n : Int) ≤ 1000 := by unfold count at hn; omega
  have hn' := Lib.hid hn
  have mk := Lib.hid (fun (w : World) (hb rb : Nat) (t : Int) (_ : MemAt w hb rb (fillN n n) t) => make_bad w hb base sl (by omega))
  have mn := Lib.hid (fun w => make_nil w base sl)
  have sz := Lib.hid (fun w => size_no w sl (by omega))
  have g1 : decide (1 ≤ sl) = false := by simp; omega
  clear hs
  clear hn
  go_enter Try.func4, Try.ntmps4
  go_wp2_with (first
    | (go_at_call 10; (with_reducible refine (alive_any _).mono ?_); rintro e w1 ⟨rfl, o1⟩)
    | (go_at_call 11; (with_reducible refine (nw.out _).mono ?_); rintro e w2 ⟨rfl, m2, o2⟩))
  have O2 := Lib.hid o2
  have O1 := Lib.hid o1
  have b1 := Lib.hid o1.size
  rw [← fillN_zero] at m2
  have M2 := Lib.hid m2
  clear o1 o2 m2
  generalize w1.heap.size = B1 at *
  go_loopw [8] (fun s3 wr => ∃ k : Nat, k ≤ n ∧ s3 = .int .i64 (k : Int) ∧ Hid (MemAt wr (B1 + 1) B1 (fillN n k) (k : Int)) ∧ Hid (Only (Blk (B1 + 1) B1) w2 wr))
    (fun s3 _ => n - (intOf s3).toNat)
  case atStart => exact ⟨0, Nat.zero_le _, rfl, M2, Lib.hid (Only.refl _ _)⟩
  case round =>
    obtain ⟨k, hk, rfl, hM, hO⟩ := hrel
    have ln := Lib.hid (len_any hM.out)
    rw [fillN_length] at ln
    by_cases hkn : k < n
    · have hki : (k : Int) < (n : Int) := by omega
      have st := Lib.hid (store_yes hM.out k 99 (by rw [fillN_length]; exact hkn) (by omega) (by omega))
      rw [fillN_set] at st
      clear hk hkn
      go_wp2_with (first
        | (go_at_call 24; (with_reducible refine (ln.out).mono ?_); rintro e w3 ⟨rfl, rfl⟩)
        | (go_at_call 25; (with_reducible refine (st.out).mono ?_); rintro e w3 ⟨rfl, m3, o3⟩))
      have M3 := Lib.hid m3
      have O3 := Lib.hid o3
      clear m3 o3
      go_roundw
      case rel => exact ⟨k + 1, by omega, by go_num, M3, Lib.hid (hO.out.trans O3.out)⟩
      case measure => simp [intOf]; omega
    · obtain rfl : k = n := by omega
      have hki : ¬ ((k : Int) < (k : Int)) := by omega
      clear hk hkn
      go_wp2_with (first
        | (go_at_call 24; (with_reducible refine (ln.out).mono ?_); rintro e w3 ⟨rfl, rfl⟩)
        | (go_at_call 12; (with_reducible refine (mk.out _ _ _ _ hM.out).mono ?_); rintro e w5 ⟨rfl, p5⟩)
        | (go_at_call 12; (with_reducible refine (mn.out _).mono ?_); rintro e w6 ⟨rfl, p6⟩)
        | (go_at_call 26; (with_reducible refine (sz.out _).mono ?_); rintro e w7 ⟨rfl, rfl⟩)
        | (go_at_call 13; (with_reducible refine (rn.out _).mono ?_); rintro e w8 ⟨rfl, r8, o8⟩))
      have R8 := Lib.hid r8
      have hs6 := (p5.trans p6).size
      have O8 := Lib.hid ((p5.trans p6).trans o8)
      have s8 := o8.size
      rw [← fillN_zero] at R8
      clear r8 o8
      have M8 := Lib.hid (hM.out.keep O8.out (fun h => h) (fun h => h))
      have O9 := Lib.hid (((O1.out.trans O2.out).next hO.out (fun i hi hl => by have := b1.out; rcases hi with e | e <;> omega)).trans O8.out)
      have L4 := Lib.hid (And.intro (Nat.lt_of_lt_of_le hM.out.lt_hb hs6) (Nat.lt_of_lt_of_le hM.out.lt_rb hs6))
      clear p5 p6 hs6
      generalize w6.heap.size = B2 at *
      clear s8 hO hM ln O8
      have J := Lib.hid (And.intro M8.out O9.out)
      clear M8 O9
      go_loopw [15] (fun s3 ws => ∃ i : Nat, i ≤ k ∧ s3 = .int .i64 (i : Int) ∧ Hid (RefAt ws (B2 + 1) B2 (fillN k i) 0) ∧ Hid (Only (Blk (B2 + 1) B2) w8 ws))
        (fun s3 _ => k - (intOf s3).toNat)
      case atStart => exact ⟨0, Nat.zero_le _, rfl, R8, Lib.hid (Only.refl _ _)⟩
      case round =>
        obtain ⟨i, hi, rfl, hR, hP⟩ := hrel
        have c0 := hR.out.c0
        rw [fillN_length] at c0
        by_cases hik : i < k
        · have hii : (i : Int) < (k : Int) := by omega
          have ci := hR.out.ci i (by rw [fillN_length]; exact hik)
          have fi := hR.out.fi i
          obtain ⟨x, hx⟩ : ∃ x, (fillN k i).getD i 0 = x := ⟨_, rfl⟩
          rw [hx] at ci
          have R9 := Lib.hid (hR.out.store i 99)
          rw [fillN_set] at R9
          have P9 := Lib.hid (hP.out.setCell (p := ⟨B2, i, none⟩) (Blk.r (B2 + 1) B2) (.int .u64 99))
          clear hi hik hx
          go_wp2
          go_roundw
          case rel => exact ⟨i + 1, by omega, by go_num, R9, P9⟩
          case measure => simp [intOf]; omega
        · obtain rfl : i = k := by omega
          have hii : ¬ ((i : Int) < (i : Int)) := by omega
          clear hi hik
          have K1 := Lib.hid (J.out.1.keep hP.out (fun h => by have := L4.out.1; rcases h with e | e <;> omega) (fun h => by have := L4.out.2; rcases h with e | e <;> omega))
          have K2 := Lib.hid (J.out.2.next hP.out (fun q hq hl => by have := b1.out; have := L4.out.1; rcases hq with e | e <;> omega))

          have hlen : Hid ((fillN i i).length = i) := Lib.hid (by rw [fillN_length])
          have al := Lib.hid (fun n => all_any (K1.out.drewN n) (by rw [hlen.out]; omega))
          have sm := Lib.hid (fun (w : World) (ra rc : Nat) h1 h2 => same_yes w ra rc (fillN i i) h1 h2 (by rw [hlen.out]; omega))
          rw [hlen.out] at al sm
          go_wp2
          go_region_held3 (fun w' => w'.cell? ⟨B2 + 1, 0, none⟩ = some (.slice (some ⟨B2, 0, none⟩) i i))
            (first | exact c0 | exact k0 | exact j0 | go_keep)
            (first
              | (go_at_call 23; refine (al.out _).mono ?_; rintro e w5 ⟨rfl, h5, z5, o5⟩; have q5 := (hR.out.drewN _).keep o5 (fun h => h) (fun h => h); have k0 := q5.c0; rw [hlen.out] at k0)
              | (go_at_call 22; refine (sm.out _ _ _ h5 q5.row).mono ?_; rintro e w6 ⟨rfl, o6⟩; have q6 := q5.keep o6 (fun h => h) (fun h => h); have j0 := q6.c0; rw [hlen.out] at j0))
          go_wp2
          go_ret
          exact ⟨rfl, (((K2.out.drewN _).trans o5).trans o6).below (Nat.le_refl _) (fun _ h => h.elim)⟩
set_option maxRecDepth 100000 in
set_option maxHeartbeats 8000000 in
theorem makes_hi (ct base sl : Int) (n : Nat) (hct : ct ≤ 1000) (hn : count ct = n) (hs : 64 < sl) (w : World) :
    Calls Try.prog 4 #[.int .i64 ct, .int .i64 base, .int .i64 sl] w fun e w' => e = .returned (.bool true) ∧ Below w.heap.size w w' := by
  have nw := Lib.hid (fun w => new_any ct w)
  have rn := Lib.hid (fun w => rnew_any ct w)
  rw [hn] at nw rn
  have hle : (n : Int) ≤ 1000 := by unfold count at hn; omega
  have hn' := Lib.hid hn
  have mk := Lib.hid (fun (w : World) (hb rb : Nat) (t : Int) (_ : MemAt w hb rb (fillN n n) t) => make_bad w hb base sl (by omega))
  have mn := Lib.hid (fun w => make_nil w base sl)
  have sz := Lib.hid (fun w => size_no w sl (by omega))
  have g1 : decide (1 ≤ sl) = true := by simp; omega
  have g2 : decide (sl ≤ 64) = false := by simp; omega
  clear hs
  clear hn
  go_enter Try.func4, Try.ntmps4
  go_wp2_with (first
    | (go_at_call 10; (with_reducible refine (alive_any _).mono ?_); rintro e w1 ⟨rfl, o1⟩)
    | (go_at_call 11; (with_reducible refine (nw.out _).mono ?_); rintro e w2 ⟨rfl, m2, o2⟩))
  have O2 := Lib.hid o2
  have O1 := Lib.hid o1
  have b1 := Lib.hid o1.size
  rw [← fillN_zero] at m2
  have M2 := Lib.hid m2
  clear o1 o2 m2
  generalize w1.heap.size = B1 at *
  go_loopw [8] (fun s3 wr => ∃ k : Nat, k ≤ n ∧ s3 = .int .i64 (k : Int) ∧ Hid (MemAt wr (B1 + 1) B1 (fillN n k) (k : Int)) ∧ Hid (Only (Blk (B1 + 1) B1) w2 wr))
    (fun s3 _ => n - (intOf s3).toNat)
  case atStart => exact ⟨0, Nat.zero_le _, rfl, M2, Lib.hid (Only.refl _ _)⟩
  case round =>
    obtain ⟨k, hk, rfl, hM, hO⟩ := hrel
    have ln := Lib.hid (len_any hM.out)
    rw [fillN_length] at ln
    by_cases hkn : k < n
    · have hki : (k : Int) < (n : Int) := by omega
      have st := Lib.hid (store_yes hM.out k 99 (by rw [fillN_length]; exact hkn) (by omega) (by omega))
      rw [fillN_set] at st
      clear hk hkn
      go_wp2_with (first
        | (go_at_call 24; (with_reducible refine (ln.out).mono ?_); rintro e w3 ⟨rfl, rfl⟩)
        | (go_at_call 25; (with_reducible refine (st.out).mono ?_); rintro e w3 ⟨rfl, m3, o3⟩))
      have M3 := Lib.hid m3
      have O3 := Lib.hid o3
      clear m3 o3
      go_roundw
      case rel => exact ⟨k + 1, by omega, by go_num, M3, Lib.hid (hO.out.trans O3.out)⟩
      case measure => simp [intOf]; omega
    · obtain rfl : k = n := by omega
      have hki : ¬ ((k : Int) < (k : Int)) := by omega
      clear hk hkn
      go_wp2_with (first
        | (go_at_call 24; (with_reducible refine (ln.out).mono ?_); rintro e w3 ⟨rfl, rfl⟩)
        | (go_at_call 12; (with_reducible refine (mk.out _ _ _ _ hM.out).mono ?_); rintro e w5 ⟨rfl, p5⟩)
        | (go_at_call 12; (with_reducible refine (mn.out _).mono ?_); rintro e w6 ⟨rfl, p6⟩)
        | (go_at_call 26; (with_reducible refine (sz.out _).mono ?_); rintro e w7 ⟨rfl, rfl⟩)
        | (go_at_call 13; (with_reducible refine (rn.out _).mono ?_); rintro e w8 ⟨rfl, r8, o8⟩))
      have R8 := Lib.hid r8
      have hs6 := (p5.trans p6).size
      have O8 := Lib.hid ((p5.trans p6).trans o8)
      have s8 := o8.size
      rw [← fillN_zero] at R8
      clear r8 o8
      have M8 := Lib.hid (hM.out.keep O8.out (fun h => h) (fun h => h))
      have O9 := Lib.hid (((O1.out.trans O2.out).next hO.out (fun i hi hl => by have := b1.out; rcases hi with e | e <;> omega)).trans O8.out)
      have L4 := Lib.hid (And.intro (Nat.lt_of_lt_of_le hM.out.lt_hb hs6) (Nat.lt_of_lt_of_le hM.out.lt_rb hs6))
      clear p5 p6 hs6
      generalize w6.heap.size = B2 at *
      clear s8 hO hM ln O8
      have J := Lib.hid (And.intro M8.out O9.out)
      clear M8 O9
      go_loopw [15] (fun s3 ws => ∃ i : Nat, i ≤ k ∧ s3 = .int .i64 (i : Int) ∧ Hid (RefAt ws (B2 + 1) B2 (fillN k i) 0) ∧ Hid (Only (Blk (B2 + 1) B2) w8 ws))
        (fun s3 _ => k - (intOf s3).toNat)
      case atStart => exact ⟨0, Nat.zero_le _, rfl, R8, Lib.hid (Only.refl _ _)⟩
      case round =>
        obtain ⟨i, hi, rfl, hR, hP⟩ := hrel
        have c0 := hR.out.c0
        rw [fillN_length] at c0
        by_cases hik : i < k
        · have hii : (i : Int) < (k : Int) := by omega
          have ci := hR.out.ci i (by rw [fillN_length]; exact hik)
          have fi := hR.out.fi i
          obtain ⟨x, hx⟩ : ∃ x, (fillN k i).getD i 0 = x := ⟨_, rfl⟩
          rw [hx] at ci
          have R9 := Lib.hid (hR.out.store i 99)
          rw [fillN_set] at R9
          have P9 := Lib.hid (hP.out.setCell (p := ⟨B2, i, none⟩) (Blk.r (B2 + 1) B2) (.int .u64 99))
          clear hi hik hx
          go_wp2
          go_roundw
          case rel => exact ⟨i + 1, by omega, by go_num, R9, P9⟩
          case measure => simp [intOf]; omega
        · obtain rfl : i = k := by omega
          have hii : ¬ ((i : Int) < (i : Int)) := by omega
          clear hi hik
          have K1 := Lib.hid (J.out.1.keep hP.out (fun h => by have := L4.out.1; rcases h with e | e <;> omega) (fun h => by have := L4.out.2; rcases h with e | e <;> omega))
          have K2 := Lib.hid (J.out.2.next hP.out (fun q hq hl => by have := b1.out; have := L4.out.1; rcases hq with e | e <;> omega))

          have hlen : Hid ((fillN i i).length = i) := Lib.hid (by rw [fillN_length])
          have al := Lib.hid (fun n => all_any (K1.out.drewN n) (by rw [hlen.out]; omega))
          have sm := Lib.hid (fun (w : World) (ra rc : Nat) h1 h2 => same_yes w ra rc (fillN i i) h1 h2 (by rw [hlen.out]; omega))
          rw [hlen.out] at al sm
          go_wp2
          go_region_held3 (fun w' => w'.cell? ⟨B2 + 1, 0, none⟩ = some (.slice (some ⟨B2, 0, none⟩) i i))
            (first | exact c0 | exact k0 | exact j0 | go_keep)
            (first
              | (go_at_call 23; refine (al.out _).mono ?_; rintro e w5 ⟨rfl, h5, z5, o5⟩; have q5 := (hR.out.drewN _).keep o5 (fun h => h) (fun h => h); have k0 := q5.c0; rw [hlen.out] at k0)
              | (go_at_call 22; refine (sm.out _ _ _ h5 q5.row).mono ?_; rintro e w6 ⟨rfl, o6⟩; have q6 := q5.keep o6 (fun h => h) (fun h => h); have j0 := q6.c0; rw [hlen.out] at j0))
          go_wp2
          go_ret
          exact ⟨rfl, (((K2.out.drewN _).trans o5).trans o6).below (Nat.le_refl _) (fun _ h => h.elim)⟩
set_option maxRecDepth 100000 in
set_option maxHeartbeats 8000000 in
theorem makes_neg (ct base : Int) (c n : Nat) (hct : ct ≤ 1000) (hn : count ct = n) (hc : 0 < c) (hc2 : c ≤ 64) (hs : base < 0) (w : World) :
    Calls Try.prog 4 #[.int .i64 ct, .int .i64 base, .int .i64 (c : Int)] w fun e w' => e = .returned (.bool true) ∧ Below w.heap.size w w' := by
  have nw := Lib.hid (fun w => new_any ct w)
  have rn := Lib.hid (fun w => rnew_any ct w)
  rw [hn] at nw rn
  have hle : (n : Int) ≤ 1000 := by unfold count at hn; omega
  have hn' := Lib.hid hn
  have mk := Lib.hid (fun (w : World) (hb rb : Nat) (t : Int) (h : MemAt w hb rb (fillN n n) t) => make_no (c := c) h base hc hc2 (by rw [fillN_length]; omega) (by rw [fillN_length]; omega))
  have mn := Lib.hid (fun w => make_nil w base (c : Int))
  have sz := Lib.hid (fun w => size_yes w c hc hc2)
  have g1 : decide (1 ≤ (c : Int)) = true := by simp; omega
  have g2 : decide ((c : Int) ≤ 64) = true := by simp; omega
  have g3 : ((2 + 2 * (c : Int)) == 0) = false := by simp; omega
  have g4 : decide (base < 0) = true := by simp; omega
  have g5 : (c : Int) ≤ 64 := by omega
  clear hs hc hc2
  clear hn
  go_enter Try.func4, Try.ntmps4
  go_wp2_with (first
    | (go_at_call 10; (with_reducible refine (alive_any _).mono ?_); rintro e w1 ⟨rfl, o1⟩)
    | (go_at_call 11; (with_reducible refine (nw.out _).mono ?_); rintro e w2 ⟨rfl, m2, o2⟩))
  have O2 := Lib.hid o2
  have O1 := Lib.hid o1
  have b1 := Lib.hid o1.size
  rw [← fillN_zero] at m2
  have M2 := Lib.hid m2
  clear o1 o2 m2
  generalize w1.heap.size = B1 at *
  go_loopw [8] (fun s3 wr => ∃ k : Nat, k ≤ n ∧ s3 = .int .i64 (k : Int) ∧ Hid (MemAt wr (B1 + 1) B1 (fillN n k) (k : Int)) ∧ Hid (Only (Blk (B1 + 1) B1) w2 wr))
    (fun s3 _ => n - (intOf s3).toNat)
  case atStart => exact ⟨0, Nat.zero_le _, rfl, M2, Lib.hid (Only.refl _ _)⟩
  case round =>
    obtain ⟨k, hk, rfl, hM, hO⟩ := hrel
    have ln := Lib.hid (len_any hM.out)
    rw [fillN_length] at ln
    by_cases hkn : k < n
    · have hki : (k : Int) < (n : Int) := by omega
      have st := Lib.hid (store_yes hM.out k 99 (by rw [fillN_length]; exact hkn) (by omega) (by omega))
      rw [fillN_set] at st
      clear hk hkn
      go_wp2_with (first
        | (go_at_call 24; (with_reducible refine (ln.out).mono ?_); rintro e w3 ⟨rfl, rfl⟩)
        | (go_at_call 25; (with_reducible refine (st.out).mono ?_); rintro e w3 ⟨rfl, m3, o3⟩))
      have M3 := Lib.hid m3
      have O3 := Lib.hid o3
      clear m3 o3
      go_roundw
      case rel => exact ⟨k + 1, by omega, by go_num, M3, Lib.hid (hO.out.trans O3.out)⟩
      case measure => simp [intOf]; omega
    · obtain rfl : k = n := by omega
      have hki : ¬ ((k : Int) < (k : Int)) := by omega
      clear hk hkn
      go_wp2_with (first
        | (go_at_call 24; (with_reducible refine (ln.out).mono ?_); rintro e w3 ⟨rfl, rfl⟩)
        | (go_at_call 12; (with_reducible refine (mk.out _ _ _ _ hM.out).mono ?_); rintro e w5 ⟨rfl, p5⟩)
        | (go_at_call 12; (with_reducible refine (mn.out _).mono ?_); rintro e w6 ⟨rfl, p6⟩)
        | (go_at_call 26; (with_reducible refine (sz.out _).mono ?_); rintro e w7 ⟨rfl, rfl⟩)
        | (go_at_call 13; (with_reducible refine (rn.out _).mono ?_); rintro e w8 ⟨rfl, r8, o8⟩))
      have R8 := Lib.hid r8
      have hs6 := (p5.trans p6).size
      have O8 := Lib.hid ((p5.trans p6).trans o8)
      have s8 := o8.size
      rw [← fillN_zero] at R8
      clear r8 o8
      have M8 := Lib.hid (hM.out.keep O8.out (fun h => h) (fun h => h))
      have O9 := Lib.hid (((O1.out.trans O2.out).next hO.out (fun i hi hl => by have := b1.out; rcases hi with e | e <;> omega)).trans O8.out)
      have L4 := Lib.hid (And.intro (Nat.lt_of_lt_of_le hM.out.lt_hb hs6) (Nat.lt_of_lt_of_le hM.out.lt_rb hs6))
      clear p5 p6 hs6
      generalize w6.heap.size = B2 at *
      clear s8 hO hM ln O8
      have J := Lib.hid (And.intro M8.out O9.out)
      clear M8 O9
      go_loopw [15] (fun s3 ws => ∃ i : Nat, i ≤ k ∧ s3 = .int .i64 (i : Int) ∧ Hid (RefAt ws (B2 + 1) B2 (fillN k i) 0) ∧ Hid (Only (Blk (B2 + 1) B2) w8 ws))
        (fun s3 _ => k - (intOf s3).toNat)
      case atStart => exact ⟨0, Nat.zero_le _, rfl, R8, Lib.hid (Only.refl _ _)⟩
      case round =>
        obtain ⟨i, hi, rfl, hR, hP⟩ := hrel
        have c0 := hR.out.c0
        rw [fillN_length] at c0
        by_cases hik : i < k
        · have hii : (i : Int) < (k : Int) := by omega
          have ci := hR.out.ci i (by rw [fillN_length]; exact hik)
          have fi := hR.out.fi i
          obtain ⟨x, hx⟩ : ∃ x, (fillN k i).getD i 0 = x := ⟨_, rfl⟩
          rw [hx] at ci
          have R9 := Lib.hid (hR.out.store i 99)
          rw [fillN_set] at R9
          have P9 := Lib.hid (hP.out.setCell (p := ⟨B2, i, none⟩) (Blk.r (B2 + 1) B2) (.int .u64 99))
          clear hi hik hx
          go_wp2
          go_roundw
          case rel => exact ⟨i + 1, by omega, by go_num, R9, P9⟩
          case measure => simp [intOf]; omega
        · obtain rfl : i = k := by omega
          have hii : ¬ ((i : Int) < (i : Int)) := by omega
          clear hi hik
          have K1 := Lib.hid (J.out.1.keep hP.out (fun h => by have := L4.out.1; rcases h with e | e <;> omega) (fun h => by have := L4.out.2; rcases h with e | e <;> omega))
          have K2 := Lib.hid (J.out.2.next hP.out (fun q hq hl => by have := b1.out; have := L4.out.1; rcases hq with e | e <;> omega))

          have hlen : Hid ((fillN i i).length = i) := Lib.hid (by rw [fillN_length])
          have al := Lib.hid (fun n => all_any (K1.out.drewN n) (by rw [hlen.out]; omega))
          have sm := Lib.hid (fun (w : World) (ra rc : Nat) h1 h2 => same_yes w ra rc (fillN i i) h1 h2 (by rw [hlen.out]; omega))
          rw [hlen.out] at al sm
          go_wp2
          go_region_held3 (fun w' => w'.cell? ⟨B2 + 1, 0, none⟩ = some (.slice (some ⟨B2, 0, none⟩) i i))
            (first | exact c0 | exact k0 | exact j0 | go_keep)
            (first
              | (go_at_call 23; refine (al.out _).mono ?_; rintro e w5 ⟨rfl, h5, z5, o5⟩; have q5 := (hR.out.drewN _).keep o5 (fun h => h) (fun h => h); have k0 := q5.c0; rw [hlen.out] at k0)
              | (go_at_call 22; refine (sm.out _ _ _ h5 q5.row).mono ?_; rintro e w6 ⟨rfl, o6⟩; have q6 := q5.keep o6 (fun h => h) (fun h => h); have j0 := q6.c0; rw [hlen.out] at j0))
          go_wp2
          go_ret
          exact ⟨rfl, (((K2.out.drewN _).trans o5).trans o6).below (Nat.le_refl _) (fun _ h => h.elim)⟩
set_option maxRecDepth 100000 in
set_option maxHeartbeats 8000000 in
theorem makes_far (ct base : Int) (c n : Nat) (hct : ct ≤ 1000) (hn : count ct = n) (hc : 0 < c) (hc2 : c ≤ 64) (hs : ¬ base < 0 ∧ (n : Int) - (2 + 2 * (c : Int)) < base) (w : World) :
    Calls Try.prog 4 #[.int .i64 ct, .int .i64 base, .int .i64 (c : Int)] w fun e w' => e = .returned (.bool true) ∧ Below w.heap.size w w' := by
  have nw := Lib.hid (fun w => new_any ct w)
  have rn := Lib.hid (fun w => rnew_any ct w)
  rw [hn] at nw rn
  have hle : (n : Int) ≤ 1000 := by unfold count at hn; omega
  have hn' := Lib.hid hn
  have mk := Lib.hid (fun (w : World) (hb rb : Nat) (t : Int) (h : MemAt w hb rb (fillN n n) t) => make_no (c := c) h base hc hc2 (by rw [fillN_length]; omega) (by rw [fillN_length]; omega))
  have mn := Lib.hid (fun w => make_nil w base (c : Int))
  have sz := Lib.hid (fun w => size_yes w c hc hc2)
  have g1 : decide (1 ≤ (c : Int)) = true := by simp; omega
  have g2 : decide ((c : Int) ≤ 64) = true := by simp; omega
  have g3 : ((2 + 2 * (c : Int)) == 0) = false := by simp; omega
  have g4 : decide (base < 0) = false := by simp; omega
  have g6 : decide ((n : Int) - (2 + 2 * (c : Int)) < base) = true := by simp; omega
  have g5 : (c : Int) ≤ 64 := by omega
  clear hs hc hc2
  clear hn
  go_enter Try.func4, Try.ntmps4
  go_wp2_with (first
    | (go_at_call 10; (with_reducible refine (alive_any _).mono ?_); rintro e w1 ⟨rfl, o1⟩)
    | (go_at_call 11; (with_reducible refine (nw.out _).mono ?_); rintro e w2 ⟨rfl, m2, o2⟩))
  have O2 := Lib.hid o2
  have O1 := Lib.hid o1
  have b1 := Lib.hid o1.size
  rw [← fillN_zero] at m2
  have M2 := Lib.hid m2
  clear o1 o2 m2
  generalize w1.heap.size = B1 at *
  go_loopw [8] (fun s3 wr => ∃ k : Nat, k ≤ n ∧ s3 = .int .i64 (k : Int) ∧ Hid (MemAt wr (B1 + 1) B1 (fillN n k) (k : Int)) ∧ Hid (Only (Blk (B1 + 1) B1) w2 wr))
    (fun s3 _ => n - (intOf s3).toNat)
  case atStart => exact ⟨0, Nat.zero_le _, rfl, M2, Lib.hid (Only.refl _ _)⟩
  case round =>
    obtain ⟨k, hk, rfl, hM, hO⟩ := hrel
    have ln := Lib.hid (len_any hM.out)
    rw [fillN_length] at ln
    by_cases hkn : k < n
    · have hki : (k : Int) < (n : Int) := by omega
      have st := Lib.hid (store_yes hM.out k 99 (by rw [fillN_length]; exact hkn) (by omega) (by omega))
      rw [fillN_set] at st
      clear hk hkn
      go_wp2_with (first
        | (go_at_call 24; (with_reducible refine (ln.out).mono ?_); rintro e w3 ⟨rfl, rfl⟩)
        | (go_at_call 25; (with_reducible refine (st.out).mono ?_); rintro e w3 ⟨rfl, m3, o3⟩))
      have M3 := Lib.hid m3
      have O3 := Lib.hid o3
      clear m3 o3
      go_roundw
      case rel => exact ⟨k + 1, by omega, by go_num, M3, Lib.hid (hO.out.trans O3.out)⟩
      case measure => simp [intOf]; omega
    · obtain rfl : k = n := by omega
      have hki : ¬ ((k : Int) < (k : Int)) := by omega
      clear hk hkn
      go_wp2_with (first
        | (go_at_call 24; (with_reducible refine (ln.out).mono ?_); rintro e w3 ⟨rfl, rfl⟩)
        | (go_at_call 12; (with_reducible refine (mk.out _ _ _ _ hM.out).mono ?_); rintro e w5 ⟨rfl, p5⟩)
        | (go_at_call 12; (with_reducible refine (mn.out _).mono ?_); rintro e w6 ⟨rfl, p6⟩)
        | (go_at_call 26; (with_reducible refine (sz.out _).mono ?_); rintro e w7 ⟨rfl, rfl⟩)
        | (go_at_call 13; (with_reducible refine (rn.out _).mono ?_); rintro e w8 ⟨rfl, r8, o8⟩))
      have R8 := Lib.hid r8
      have hs6 := (p5.trans p6).size
      have O8 := Lib.hid ((p5.trans p6).trans o8)
      have s8 := o8.size
      rw [← fillN_zero] at R8
      clear r8 o8
      have M8 := Lib.hid (hM.out.keep O8.out (fun h => h) (fun h => h))
      have O9 := Lib.hid (((O1.out.trans O2.out).next hO.out (fun i hi hl => by have := b1.out; rcases hi with e | e <;> omega)).trans O8.out)
      have L4 := Lib.hid (And.intro (Nat.lt_of_lt_of_le hM.out.lt_hb hs6) (Nat.lt_of_lt_of_le hM.out.lt_rb hs6))
      clear p5 p6 hs6
      generalize w6.heap.size = B2 at *
      clear s8 hO hM ln O8
      have J := Lib.hid (And.intro M8.out O9.out)
      clear M8 O9
      go_loopw [15] (fun s3 ws => ∃ i : Nat, i ≤ k ∧ s3 = .int .i64 (i : Int) ∧ Hid (RefAt ws (B2 + 1) B2 (fillN k i) 0) ∧ Hid (Only (Blk (B2 + 1) B2) w8 ws))
        (fun s3 _ => k - (intOf s3).toNat)
      case atStart => exact ⟨0, Nat.zero_le _, rfl, R8, Lib.hid (Only.refl _ _)⟩
      case round =>
        obtain ⟨i, hi, rfl, hR, hP⟩ := hrel
        have c0 := hR.out.c0
        rw [fillN_length] at c0
        by_cases hik : i < k
        · have hii : (i : Int) < (k : Int) := by omega
          have ci := hR.out.ci i (by rw [fillN_length]; exact hik)
          have fi := hR.out.fi i
          obtain ⟨x, hx⟩ : ∃ x, (fillN k i).getD i 0 = x := ⟨_, rfl⟩
          rw [hx] at ci
          have R9 := Lib.hid (hR.out.store i 99)
          rw [fillN_set] at R9
          have P9 := Lib.hid (hP.out.setCell (p := ⟨B2, i, none⟩) (Blk.r (B2 + 1) B2) (.int .u64 99))
          clear hi hik hx
          go_wp2
          go_roundw
          case rel => exact ⟨i + 1, by omega, by go_num, R9, P9⟩
          case measure => simp [intOf]; omega
        · obtain rfl : i = k := by omega
          have hii : ¬ ((i : Int) < (i : Int)) := by omega
          clear hi hik
          have K1 := Lib.hid (J.out.1.keep hP.out (fun h => by have := L4.out.1; rcases h with e | e <;> omega) (fun h => by have := L4.out.2; rcases h with e | e <;> omega))
          have K2 := Lib.hid (J.out.2.next hP.out (fun q hq hl => by have := b1.out; have := L4.out.1; rcases hq with e | e <;> omega))

          have hlen : Hid ((fillN i i).length = i) := Lib.hid (by rw [fillN_length])
          have al := Lib.hid (fun n => all_any (K1.out.drewN n) (by rw [hlen.out]; omega))
          have sm := Lib.hid (fun (w : World) (ra rc : Nat) h1 h2 => same_yes w ra rc (fillN i i) h1 h2 (by rw [hlen.out]; omega))
          rw [hlen.out] at al sm
          go_wp2
          go_region_held3 (fun w' => w'.cell? ⟨B2 + 1, 0, none⟩ = some (.slice (some ⟨B2, 0, none⟩) i i))
            (first | exact c0 | exact k0 | exact j0 | go_keep)
            (first
              | (go_at_call 23; refine (al.out _).mono ?_; rintro e w5 ⟨rfl, h5, z5, o5⟩; have q5 := (hR.out.drewN _).keep o5 (fun h => h) (fun h => h); have k0 := q5.c0; rw [hlen.out] at k0)
              | (go_at_call 22; refine (sm.out _ _ _ h5 q5.row).mono ?_; rintro e w6 ⟨rfl, o6⟩; have q6 := q5.keep o6 (fun h => h) (fun h => h); have j0 := q6.c0; rw [hlen.out] at j0))
          go_wp2
          go_ret
          exact ⟨rfl, (((K2.out.drewN _).trans o5).trans o6).below (Nat.le_refl _) (fun _ h => h.elim)⟩
set_option maxRecDepth 100000 in
set_option maxHeartbeats 8000000 in
theorem makes_ok (ct : Int) (b c n : Nat) (hct : ct ≤ 1000) (hn : count ct = n) (hc : 0 < c) (hc2 : c ≤ 64) (hs : b + 2 + 2 * c ≤ n) (w : World) :
    Calls Try.prog 4 #[.int .i64 ct, .int .i64 (b : Int), .int .i64 (c : Int)] w fun e w' => e = .returned (.bool true) ∧ Below w.heap.size w w' := by
  have nw := Lib.hid (fun w => new_any ct w)
  have rn := Lib.hid (fun w => rnew_any ct w)
  rw [hn] at nw rn
  have hle : (n : Int) ≤ 1000 := by unfold count at hn; omega
  have hn' := Lib.hid hn
  have mk := Lib.hid (fun (w : World) (hb rb : Nat) (t : Int) (h : MemAt w hb rb (fillN n n) t) (ht : 0 ≤ t ∧ t ≤ 1000) => make_yes (b := b) (c := c) h ht.1 (by omega) hc hc2 (by omega) (by rw [fillN_length]; omega) (by rw [fillN_length]; omega))
  have mn := Lib.hid (fun w => make_nil w (b : Int) (c : Int))
  have sz := Lib.hid (fun w => size_yes w c hc hc2)
  have ly := Lib.hid (fun (w : World) (hb rb : Nat) (t : Int) (h : RefAt w hb rb (fillN n n) t) => rlay_any h b c (by omega) hc2 (by rw [fillN_length]; omega))
  have g1 : decide (1 ≤ (c : Int)) = true := by simp; omega
  have g2 : decide ((c : Int) ≤ 64) = true := by simp; omega
  have g3 : ((2 + 2 * (c : Int)) == 0) = false := by simp; omega
  have g4 : decide ((b : Int) < 0) = false := by simp
  have g6 : decide ((n : Int) - (2 + 2 * (c : Int)) < (b : Int)) = false := by simp; omega
  have g5 : (c : Int) ≤ 64 := by omega
  have hki2 : Hid (0 ≤ (n : Int) ∧ (n : Int) ≤ 1000) := Lib.hid (by omega)
  clear hs hc hc2
  clear hn
  go_enter Try.func4, Try.ntmps4
  go_wp2_with (first
    | (go_at_call 10; (with_reducible refine (alive_any _).mono ?_); rintro e w1 ⟨rfl, o1⟩)
    | (go_at_call 11; (with_reducible refine (nw.out _).mono ?_); rintro e w2 ⟨rfl, m2, o2⟩))
  have O2 := Lib.hid o2
  have O1 := Lib.hid o1
  have b1 := Lib.hid o1.size
  rw [← fillN_zero] at m2
  have M2 := Lib.hid m2
  clear o1 o2 m2
  generalize w1.heap.size = B1 at *
  go_loopw [8] (fun s3 wr => ∃ k : Nat, k ≤ n ∧ s3 = .int .i64 (k : Int) ∧ Hid (MemAt wr (B1 + 1) B1 (fillN n k) (k : Int)) ∧ Hid (Only (Blk (B1 + 1) B1) w2 wr))
    (fun s3 _ => n - (intOf s3).toNat)
  case atStart => exact ⟨0, Nat.zero_le _, rfl, M2, Lib.hid (Only.refl _ _)⟩
  case round =>
    obtain ⟨k, hk, rfl, hM, hO⟩ := hrel
    have ln := Lib.hid (len_any hM.out)
    rw [fillN_length] at ln
    by_cases hkn : k < n
    · have hki : (k : Int) < (n : Int) := by omega
      have st := Lib.hid (store_yes hM.out k 99 (by rw [fillN_length]; exact hkn) (by omega) (by omega))
      rw [fillN_set] at st
      clear hk hkn
      go_wp2_with (first
        | (go_at_call 24; (with_reducible refine (ln.out).mono ?_); rintro e w3 ⟨rfl, rfl⟩)
        | (go_at_call 25; (with_reducible refine (st.out).mono ?_); rintro e w3 ⟨rfl, m3, o3⟩))
      have M3 := Lib.hid m3
      have O3 := Lib.hid o3
      clear m3 o3
      go_roundw
      case rel => exact ⟨k + 1, by omega, by go_num, M3, Lib.hid (hO.out.trans O3.out)⟩
      case measure => simp [intOf]; omega
    · obtain rfl : k = n := by omega
      have hki : ¬ ((k : Int) < (k : Int)) := by omega
      clear hk hkn
      go_wp2_with (first
        | (go_at_call 24; (with_reducible refine (ln.out).mono ?_); rintro e w3 ⟨rfl, rfl⟩)
        | (go_at_call 12; (with_reducible refine (mk.out _ _ _ _ hM.out hki2.out).mono ?_); rintro e w4 ⟨gq, rfl, z4, R4, o4⟩)
        | (go_at_call 12; (with_reducible refine (mn.out _).mono ?_); rintro e w6 ⟨rfl, p6⟩)
        | (go_at_call 26; (with_reducible refine (sz.out _).mono ?_); rintro e w7 ⟨rfl, rfl⟩)
        | (go_at_call 13; (with_reducible refine (rn.out _).mono ?_); rintro e w8 ⟨rfl, r8, o8⟩))
      have R8 := Lib.hid r8
      have hs6 := p6.size
      have O8 := Lib.hid (p6.trans o8)
      have s8 := o8.size
      rw [← fillN_zero] at R8
      clear r8 o8
      have M8 := Lib.hid (R4.mem.keep O8.out (fun h => h) (fun h => h))
      have O9 := Lib.hid (((O1.out.trans O2.out).next (hO.out.trans o4) (fun i hi hl => by have := b1.out; rcases hi with e | e <;> omega)).trans O8.out)
      have L4 := Lib.hid (And.intro (Nat.lt_of_lt_of_le R4.mem.lt_hb hs6) (Nat.lt_of_lt_of_le R4.mem.lt_rb hs6))
      clear R4 o4 z4 p6 hs6
      generalize w6.heap.size = B2 at *
      clear s8 hO hM ln O8
      have J := Lib.hid (And.intro M8.out O9.out)
      clear M8 O9
      go_loopw [15] (fun s3 ws => ∃ i : Nat, i ≤ k ∧ s3 = .int .i64 (i : Int) ∧ Hid (RefAt ws (B2 + 1) B2 (fillN k i) 0) ∧ Hid (Only (Blk (B2 + 1) B2) w8 ws))
        (fun s3 _ => k - (intOf s3).toNat)
      case atStart => exact ⟨0, Nat.zero_le _, rfl, R8, Lib.hid (Only.refl _ _)⟩
      case round =>
        obtain ⟨i, hi, rfl, hR, hP⟩ := hrel
        have c0 := hR.out.c0
        rw [fillN_length] at c0
        by_cases hik : i < k
        · have hii : (i : Int) < (k : Int) := by omega
          have ci := hR.out.ci i (by rw [fillN_length]; exact hik)
          have fi := hR.out.fi i
          obtain ⟨x, hx⟩ : ∃ x, (fillN k i).getD i 0 = x := ⟨_, rfl⟩
          rw [hx] at ci
          have R9 := Lib.hid (hR.out.store i 99)
          rw [fillN_set] at R9
          have P9 := Lib.hid (hP.out.setCell (p := ⟨B2, i, none⟩) (Blk.r (B2 + 1) B2) (.int .u64 99))
          clear hi hik hx
          go_wp2
          go_roundw
          case rel => exact ⟨i + 1, by omega, by go_num, R9, P9⟩
          case measure => simp [intOf]; omega
        · obtain rfl : i = k := by omega
          have hii : ¬ ((i : Int) < (i : Int)) := by omega
          clear hi hik
          have K1 := Lib.hid (J.out.1.keep hP.out (fun h => by have := L4.out.1; rcases h with e | e <;> omega) (fun h => by have := L4.out.2; rcases h with e | e <;> omega))
          have K2 := Lib.hid (J.out.2.next hP.out (fun q hq hl => by have := b1.out; have := L4.out.1; rcases hq with e | e <;> omega))

          go_wp2_with (go_at_call 14; (with_reducible refine (ly.out _ _ _ _ hR.out).mono ?_); rintro e w9 ⟨rfl, r9, o9⟩)
          have H9 := Lib.hid r9
          have K3 := Lib.hid (K1.out.keep o9 (fun h => by have := L4.out.1; rcases h with e | e <;> omega) (fun h => by have := L4.out.2; rcases h with e | e <;> omega))
          have K4 := Lib.hid (K2.out.next o9 (fun q hq hl => by have := b1.out; have := L4.out.1; rcases hq with e | e <;> omega))
          clear c0 r9 o9
          have c0 := H9.out.c0
          rw [layL_length, fillN_length] at c0
          have hlen : Hid ((layL (fillN i i) b c).length = i) := Lib.hid (by rw [layL_length, fillN_length])
          have al := Lib.hid (fun n => all_any (K3.out.drewN n) (by rw [hlen.out]; omega))
          have sm := Lib.hid (fun (w : World) (ra rc : Nat) h1 h2 => same_yes w ra rc (layL (fillN i i) b c) h1 h2 (by rw [hlen.out]; omega))
          rw [hlen.out] at al sm
          go_wp2
          go_region_held3 (fun w' => w'.cell? ⟨B2 + 1, 0, none⟩ = some (.slice (some ⟨B2, 0, none⟩) i i))
            (first | exact c0 | exact k0 | exact j0 | go_keep)
            (first
              | (go_at_call 23; refine (al.out _).mono ?_; rintro e w5 ⟨rfl, h5, z5, o5⟩; have q5 := (H9.out.drewN _).keep o5 (fun h => h) (fun h => h); have k0 := q5.c0; rw [hlen.out] at k0)
              | (go_at_call 22; refine (sm.out _ _ _ h5 q5.row).mono ?_; rintro e w6 ⟨rfl, o6⟩; have q6 := q5.keep o6 (fun h => h) (fun h => h); have j0 := q6.c0; rw [hlen.out] at j0))
          go_wp2
          go_ret
          exact ⟨rfl, (((K4.out.drewN _).trans o5).trans o6).below (Nat.le_refl _) (fun _ h => h.elim)⟩

theorem makes_much (ct base sl : Int) (h : 1000 < ct) (w : World) :
    Calls Try.prog 4 #[.int .i64 ct, .int .i64 base, .int .i64 sl] w fun e w' => e = .returned (.bool true) ∧ Below w.heap.size w w' := by
  go_enter Try.func4, Try.ntmps4
  go_wp2_with (go_at_call 10; (with_reducible refine (alive_any _).mono ?_); rintro e w1 ⟨rfl, o1⟩)
  go_ret
  exact ⟨rfl, o1.below (Nat.le_refl _) (fun _ h => h.elim)⟩

theorem makes_all (ct base sl : Int) (w : World) :
    Calls Try.prog 4 #[.int .i64 ct, .int .i64 base, .int .i64 sl] w fun e w' => e = .returned (.bool true) ∧ Below w.heap.size w w' := by
  by_cases h : ct ≤ 1000
  · by_cases h1 : sl < 1
    · exact makes_lo ct base sl _ h rfl h1 w
    by_cases h2 : 64 < sl
    · exact makes_hi ct base sl _ h rfl h2 w
    obtain ⟨c, rfl⟩ := Int.eq_ofNat_of_zero_le (show 0 ≤ sl by omega)
    by_cases h3 : base < 0
    · exact makes_neg ct base c _ h rfl (by omega) (by omega) h3 w
    by_cases h4 : ((count ct : Nat) : Int) - (2 + 2 * (c : Int)) < base
    · exact makes_far ct base c _ h rfl (by omega) (by omega) ⟨h3, h4⟩ w
    obtain ⟨b, rfl⟩ := Int.eq_ofNat_of_zero_le (show 0 ≤ base by omega)
    exact makes_ok ct b c _ h rfl (by omega) (by omega) (by omega) w
  · exact makes_much ct base sl (by omega) w
end Go.Proofs.Ytpnpbgcndlfobaa
