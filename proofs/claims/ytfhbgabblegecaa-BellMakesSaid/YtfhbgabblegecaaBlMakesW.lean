/- BellMakes answers true for all numbers, and turns nothing that there was: the walk. -/
import Derived.Test.YtfhbgabblegecaaBlX
import Derived.Deep.RegionHeld3
namespace Go.Proofs.Ytfhbgabblegecaa.Bl
open Go.RowKit

/-- n cells, the first k of which hold 99. -/
def fillN (n k : Nat) : List Int := (List.range n).map fun i => if i < k then 99 else 0
theorem fillN_length (n k : Nat) : (fillN n k).length = n := by simp [fillN]
theorem fillN_zero (n : Nat) : fillN n 0 = zeros n := by
  apply List.ext_getElem <;> simp [fillN, zeros]
theorem fillN_set (n k : Nat) : (fillN n k).set k 99 = fillN n (k + 1) := by
  apply List.ext_getElem
  · simp [fillN]
  · intro i h1 h2
    simp only [fillN, List.getElem_set, List.getElem_map, List.getElem_range]
    by_cases e : k = i
    · subst e; simp
    · simp only [e, if_false]
      by_cases h : i < k
      · rw [if_pos h, if_pos (by omega)]
      · rw [if_neg h, if_neg (by omega)]
/-- The same, but for those of a bell of c from b on, which hold 0. -/
def fillB (n b c k : Nat) : List Int := (List.range n).map fun i => if i < k ∧ ¬ (b ≤ i ∧ i < b + c) then 99 else 0
theorem fillB_length (n b c k : Nat) : (fillB n b c k).length = n := by simp [fillB]
theorem fillB_zero (n b c : Nat) : fillB n b c 0 = zeros n := by
  apply List.ext_getElem <;> simp [fillB, zeros]
theorem fillB_out (n b c k : Nat) (h : ¬ (b ≤ k ∧ k < b + c)) : (fillB n b c k).set k 99 = fillB n b c (k + 1) := by
  apply List.ext_getElem
  · simp [fillB]
  · intro i h1 h2
    simp only [fillB, List.getElem_set, List.getElem_map, List.getElem_range]
    by_cases e : k = i
    · subst e; rw [if_pos rfl, if_pos ⟨by omega, h⟩]
    · rw [if_neg e]
      by_cases hh : i < k ∧ ¬ (b ≤ i ∧ i < b + c)
      · rw [if_pos hh, if_pos ⟨by omega, hh.2⟩]
      · rw [if_neg hh, if_neg (fun x => hh ⟨by omega, x.2⟩)]
theorem fillB_in (n b c k : Nat) (h : b ≤ k ∧ k < b + c) : ((fillB n b c k).set k 99).set k 0 = fillB n b c (k + 1) := by
  apply List.ext_getElem
  · simp [fillB]
  · intro i h1 h2
    simp only [fillB, List.getElem_set, List.getElem_map, List.getElem_range]
    by_cases e : k = i
    · subst e; rw [if_pos rfl, if_neg (fun x => x.2 h)]
    · rw [if_neg e, if_neg e]
      by_cases hh : i < k ∧ ¬ (b ≤ i ∧ i < b + c)
      · rw [if_pos hh, if_pos ⟨by omega, hh.2⟩]
      · rw [if_neg hh, if_neg (fun x => hh ⟨by omega, x.2⟩)]
theorem layL_fill (n b k : Nat) (h : b + k ≤ n) : layL (fillN n n) b k = fillB n b k n := by
  induction k with
  | zero =>
    show fillN n n = _
    apply List.ext_getElem
    · simp [fillN, fillB]
    · intro i h1 h2
      have hi : i < n := by simpa [fillN] using h1
      simp only [fillN, fillB, List.getElem_map, List.getElem_range]
      rw [if_pos (by omega), if_pos (by omega)]
  | succ k ih =>
    rw [layL, ih (by omega)]
    apply List.ext_getElem
    · simp [fillB]
    · intro i h1 h2
      have hi : i < n := by simpa [fillB] using h2
      simp only [fillB, List.getElem_set, List.getElem_map, List.getElem_range]
      by_cases e : b + k = i
      · subst e; rw [if_pos rfl, if_neg (by omega)]
      · rw [if_neg e]
        by_cases hh : b ≤ i ∧ i < b + k
        · rw [if_neg (by omega), if_neg (by omega)]
        · rw [if_pos (by omega), if_pos (by omega)]

set_option maxRecDepth 100000 in
set_option maxHeartbeats 8000000 in
theorem makes_lo (ct base : Int) (wk : Int) (n : Nat) (hs : wk < 1) (hct : ct ≤ 1000) (hn : count ct = n) (w : World) :
    Calls Try.prog 4 #[.int .i64 ct, .int .i64 base, .int .i64 wk] w fun e w' => e = .returned (.bool true) ∧ Below w.heap.size w w' := by
  have nw := Lib.hid (fun w => new_any ct w)
  have rn := Lib.hid (fun w => rnew_any ct w)
  rw [hn] at nw rn
  have hle : (n : Int) ≤ 1000 := by unfold count at hn; omega
  have hn' := Lib.hid hn
  have mn := Lib.hid (fun w => make_nil w base wk)
  have sz := Lib.hid (fun w => size_no w wk (by omega))
  have g1 : decide (1 ≤ wk) = false := by simp; omega
  have hs' := Lib.hid hs
  clear hs
  clear hn
  go_enter Try.func4, Try.ntmps4
  go_wp2_with (first
    | (go_at_call 13; (with_reducible refine (alive_any _).mono ?_); rintro e w1 ⟨rfl, o1⟩)
    | (go_at_call 14; (with_reducible refine (nw.out _).mono ?_); rintro e w2 ⟨rfl, m2, o2⟩))
  have O2 := Lib.hid o2
  have O1 := Lib.hid o1
  have b1 := Lib.hid o1.size
  rw [← fillN_zero] at m2
  have M2 := Lib.hid m2
  clear o1 o2 m2
  generalize w1.heap.size = B1 at *
  go_loopw [8] (fun s3 wr => ∃ k : Nat, k ≤ n ∧ s3 = .int .i64 (k : Int) ∧ Hid (MemAt wr (B1 + 1) B1 (fillN n k) (k : Int)) ∧ Hid (Only (Blk (B1 + 1) B1) w2 wr))
    (fun s3 _ => n - (intOf s3).toNat)
  case atStart => exact ⟨0, Nat.zero_le _, rfl, M2, Lib.hid (Only.refl _ _)⟩
  case round =>
    obtain ⟨k, hk, rfl, hM, hO⟩ := hrel
    have ln := Lib.hid (len_any hM.out)
    rw [fillN_length] at ln
    by_cases hkn : k < n
    · have hki : (k : Int) < (n : Int) := by omega
      have st := Lib.hid (store_yes hM.out k 99 (by rw [fillN_length]; exact hkn) (by omega) (by omega))
      rw [fillN_set] at st
      clear hk hkn
      go_wp2_with (first
        | (go_at_call 26; (with_reducible refine (ln.out).mono ?_); rintro e w3 ⟨rfl, rfl⟩)
        | (go_at_call 27; (with_reducible refine (st.out).mono ?_); rintro e w3 ⟨rfl, m3, o3⟩))
      have M3 := Lib.hid m3
      have O3 := Lib.hid o3
      clear m3 o3
      go_roundw
      case rel => exact ⟨k + 1, by omega, by go_num, M3, Lib.hid (hO.out.trans O3.out)⟩
      case measure => simp [intOf]; omega
    · obtain rfl : k = n := by omega
      have hki : ¬ ((k : Int) < (k : Int)) := by omega
      have mk := Lib.hid (make_bad wr (B1 + 1) base wk (.inl hs'.out))
      clear hk hkn
      go_wp2_with (first
        | (go_at_call 26; (with_reducible refine (ln.out).mono ?_); rintro e w3 ⟨rfl, rfl⟩)
        | (go_at_call 15; (with_reducible refine (mk.out).mono ?_); rintro e w5 ⟨rfl, o5'⟩; have m5 := hM.out.keep o5' (fun h => h) (fun h => h); have o5 := o5'.nilTo (Blk (B1 + 1) B1))
        | (go_at_call 15; (with_reducible refine (mn.out _).mono ?_); rintro e w6 ⟨rfl, o6⟩)
        | (go_at_call 28; (with_reducible refine (sz.out _).mono ?_); rintro e w7 ⟨rfl, rfl⟩)
        | (go_at_call 16; (with_reducible refine (rn.out _).mono ?_); rintro e w8 ⟨rfl, r8, o8⟩))
      have K6 := m5.keep o6 (fun h => h) (fun h => h)
      have R8 := Lib.hid r8
      rw [← fillN_zero] at R8
      have M8 := Lib.hid (K6.keep o8 (fun h => h) (fun h => h))
      have O9 := Lib.hid (((((O1.out.trans O2.out).then hO.out (fun i hi hl => by have := b1.out; rcases hi with e | e <;> omega)).then o5 (fun i hi hl => by have := b1.out; rcases hi with e | e <;> omega)).trans o6).trans o8)
      have L4 := Lib.hid (And.intro K6.lt_hb K6.lt_rb)
      generalize w6.heap.size = B2 at *
      clear r8 o8 o5 o6 m5 K6 mk mn rn nw sz hO hM ln
      have J := Lib.hid (And.intro M8.out O9.out)
      clear M8 O9
      go_loopw [15] (fun s3 ws => ∃ i : Nat, i ≤ k ∧ s3 = .int .i64 (i : Int) ∧ Hid (RefAt ws (B2 + 1) B2 (fillN k i) 0) ∧ Hid (Only (Blk (B2 + 1) B2) w8 ws))
        (fun s3 _ => k - (intOf s3).toNat)
      case atStart => exact ⟨0, Nat.zero_le _, rfl, R8, Lib.hid (Only.refl _ _)⟩
      case round =>
        obtain ⟨i, hi, rfl, hR, hP⟩ := hrel
        have c0 := hR.out.c0
        rw [fillN_length] at c0
        by_cases hik : i < k
        · have hii : (i : Int) < (k : Int) := by omega
          have ci := hR.out.ci i (by rw [fillN_length]; exact hik)
          have fi := hR.out.fi i
          obtain ⟨x, hx⟩ : ∃ x, (fillN k i).getD i 0 = x := ⟨_, rfl⟩
          rw [hx] at ci
          have R9 := Lib.hid (hR.out.store i 99)
          rw [fillN_set] at R9
          have P9 := Lib.hid (hP.out.setCell (p := ⟨B2, i, none⟩) (Blk.r (B2 + 1) B2) (.int .u64 99))
          clear hi hik hx
          go_wp2
          go_roundw
          case rel => exact ⟨i + 1, by omega, by go_num, R9, P9⟩
          case measure => simp [intOf]; omega
        · obtain rfl : i = k := by omega
          have hii : ¬ ((i : Int) < (i : Int)) := by omega
          clear hi hik
          have K1 := Lib.hid (J.out.1.keep hP.out (fun h => by have := L4.out.1; rcases h with e | e <;> omega) (fun h => by have := L4.out.2; rcases h with e | e <;> omega))
          have K2 := Lib.hid (J.out.2.then hP.out (fun q hq hl => by have := b1.out; have := L4.out.1; have := O1.out.size; rcases hq with e | e <;> omega))
          have hlen : Hid ((fillN i i).length = i) := Lib.hid (by rw [fillN_length])

          have al := Lib.hid (fun n => all_any (K1.out.drewN n) (by rw [hlen.out]; omega))
          have sm := Lib.hid (fun (w : World) (ra rc : Nat) h1 h2 => same_yes w ra rc (fillN i i) h1 h2 (by rw [hlen.out]; omega))
          rw [hlen.out] at al sm
          go_wp2
          go_region_held3 (fun w' => w'.cell? ⟨B2 + 1, 0, none⟩ = some (.slice (some ⟨B2, 0, none⟩) i i))
            (first | exact c0 | exact k0 | exact j0 | go_keep)
            (first
              | (go_at_call 25; refine (al.out _).mono ?_; rintro e w5 ⟨rfl, h5, z5, o5⟩; have q5 := (hR.out.drewN _).keep o5 (fun h => h) (fun h => h); have k0 := q5.c0; rw [hlen.out] at k0)
              | (go_at_call 24; refine (sm.out _ _ _ h5 q5.row).mono ?_; rintro e w6 ⟨rfl, o6⟩; have q6 := q5.keep o6 (fun h => h) (fun h => h); have j0 := q6.c0; rw [hlen.out] at j0))
          go_wp2
          go_ret
          exact ⟨rfl, (((K2.out.drewN _).trans o5).trans o6).below (Nat.le_refl _) (fun _ h => h.elim)⟩

set_option maxRecDepth 100000 in
set_option maxHeartbeats 8000000 in
theorem makes_hi (ct base : Int) (wk : Int) (n : Nat) (hs : 8 < wk) (hct : ct ≤ 1000) (hn : count ct = n) (w : World) :
    Calls Try.prog 4 #[.int .i64 ct, .int .i64 base, .int .i64 wk] w fun e w' => e = .returned (.bool true) ∧ Below w.heap.size w w' := by
  have nw := Lib.hid (fun w => new_any ct w)
  have rn := Lib.hid (fun w => rnew_any ct w)
  rw [hn] at nw rn
  have hle : (n : Int) ≤ 1000 := by unfold count at hn; omega
  have hn' := Lib.hid hn
  have mn := Lib.hid (fun w => make_nil w base wk)
  have sz := Lib.hid (fun w => size_no w wk (by omega))
  have g1 : decide (1 ≤ wk) = true := by simp; omega
  have g2 : decide (wk ≤ 8) = false := by simp; omega
  have hs' := Lib.hid hs
  clear hs
  clear hn
  go_enter Try.func4, Try.ntmps4
  go_wp2_with (first
    | (go_at_call 13; (with_reducible refine (alive_any _).mono ?_); rintro e w1 ⟨rfl, o1⟩)
    | (go_at_call 14; (with_reducible refine (nw.out _).mono ?_); rintro e w2 ⟨rfl, m2, o2⟩))
  have O2 := Lib.hid o2
  have O1 := Lib.hid o1
  have b1 := Lib.hid o1.size
  rw [← fillN_zero] at m2
  have M2 := Lib.hid m2
  clear o1 o2 m2
  generalize w1.heap.size = B1 at *
  go_loopw [8] (fun s3 wr => ∃ k : Nat, k ≤ n ∧ s3 = .int .i64 (k : Int) ∧ Hid (MemAt wr (B1 + 1) B1 (fillN n k) (k : Int)) ∧ Hid (Only (Blk (B1 + 1) B1) w2 wr))
    (fun s3 _ => n - (intOf s3).toNat)
  case atStart => exact ⟨0, Nat.zero_le _, rfl, M2, Lib.hid (Only.refl _ _)⟩
  case round =>
    obtain ⟨k, hk, rfl, hM, hO⟩ := hrel
    have ln := Lib.hid (len_any hM.out)
    rw [fillN_length] at ln
    by_cases hkn : k < n
    · have hki : (k : Int) < (n : Int) := by omega
      have st := Lib.hid (store_yes hM.out k 99 (by rw [fillN_length]; exact hkn) (by omega) (by omega))
      rw [fillN_set] at st
      clear hk hkn
      go_wp2_with (first
        | (go_at_call 26; (with_reducible refine (ln.out).mono ?_); rintro e w3 ⟨rfl, rfl⟩)
        | (go_at_call 27; (with_reducible refine (st.out).mono ?_); rintro e w3 ⟨rfl, m3, o3⟩))
      have M3 := Lib.hid m3
      have O3 := Lib.hid o3
      clear m3 o3
      go_roundw
      case rel => exact ⟨k + 1, by omega, by go_num, M3, Lib.hid (hO.out.trans O3.out)⟩
      case measure => simp [intOf]; omega
    · obtain rfl : k = n := by omega
      have hki : ¬ ((k : Int) < (k : Int)) := by omega
      have mk := Lib.hid (make_bad wr (B1 + 1) base wk (.inr hs'.out))
      clear hk hkn
      go_wp2_with (first
        | (go_at_call 26; (with_reducible refine (ln.out).mono ?_); rintro e w3 ⟨rfl, rfl⟩)
        | (go_at_call 15; (with_reducible refine (mk.out).mono ?_); rintro e w5 ⟨rfl, o5'⟩; have m5 := hM.out.keep o5' (fun h => h) (fun h => h); have o5 := o5'.nilTo (Blk (B1 + 1) B1))
        | (go_at_call 15; (with_reducible refine (mn.out _).mono ?_); rintro e w6 ⟨rfl, o6⟩)
        | (go_at_call 28; (with_reducible refine (sz.out _).mono ?_); rintro e w7 ⟨rfl, rfl⟩)
        | (go_at_call 16; (with_reducible refine (rn.out _).mono ?_); rintro e w8 ⟨rfl, r8, o8⟩))
      have K6 := m5.keep o6 (fun h => h) (fun h => h)
      have R8 := Lib.hid r8
      rw [← fillN_zero] at R8
      have M8 := Lib.hid (K6.keep o8 (fun h => h) (fun h => h))
      have O9 := Lib.hid (((((O1.out.trans O2.out).then hO.out (fun i hi hl => by have := b1.out; rcases hi with e | e <;> omega)).then o5 (fun i hi hl => by have := b1.out; rcases hi with e | e <;> omega)).trans o6).trans o8)
      have L4 := Lib.hid (And.intro K6.lt_hb K6.lt_rb)
      generalize w6.heap.size = B2 at *
      clear r8 o8 o5 o6 m5 K6 mk mn rn nw sz hO hM ln
      have J := Lib.hid (And.intro M8.out O9.out)
      clear M8 O9
      go_loopw [15] (fun s3 ws => ∃ i : Nat, i ≤ k ∧ s3 = .int .i64 (i : Int) ∧ Hid (RefAt ws (B2 + 1) B2 (fillN k i) 0) ∧ Hid (Only (Blk (B2 + 1) B2) w8 ws))
        (fun s3 _ => k - (intOf s3).toNat)
      case atStart => exact ⟨0, Nat.zero_le _, rfl, R8, Lib.hid (Only.refl _ _)⟩
      case round =>
        obtain ⟨i, hi, rfl, hR, hP⟩ := hrel
        have c0 := hR.out.c0
        rw [fillN_length] at c0
        by_cases hik : i < k
        · have hii : (i : Int) < (k : Int) := by omega
          have ci := hR.out.ci i (by rw [fillN_length]; exact hik)
          have fi := hR.out.fi i
          obtain ⟨x, hx⟩ : ∃ x, (fillN k i).getD i 0 = x := ⟨_, rfl⟩
          rw [hx] at ci
          have R9 := Lib.hid (hR.out.store i 99)
          rw [fillN_set] at R9
          have P9 := Lib.hid (hP.out.setCell (p := ⟨B2, i, none⟩) (Blk.r (B2 + 1) B2) (.int .u64 99))
          clear hi hik hx
          go_wp2
          go_roundw
          case rel => exact ⟨i + 1, by omega, by go_num, R9, P9⟩
          case measure => simp [intOf]; omega
        · obtain rfl : i = k := by omega
          have hii : ¬ ((i : Int) < (i : Int)) := by omega
          clear hi hik
          have K1 := Lib.hid (J.out.1.keep hP.out (fun h => by have := L4.out.1; rcases h with e | e <;> omega) (fun h => by have := L4.out.2; rcases h with e | e <;> omega))
          have K2 := Lib.hid (J.out.2.then hP.out (fun q hq hl => by have := b1.out; have := L4.out.1; have := O1.out.size; rcases hq with e | e <;> omega))
          have hlen : Hid ((fillN i i).length = i) := Lib.hid (by rw [fillN_length])

          have al := Lib.hid (fun n => all_any (K1.out.drewN n) (by rw [hlen.out]; omega))
          have sm := Lib.hid (fun (w : World) (ra rc : Nat) h1 h2 => same_yes w ra rc (fillN i i) h1 h2 (by rw [hlen.out]; omega))
          rw [hlen.out] at al sm
          go_wp2
          go_region_held3 (fun w' => w'.cell? ⟨B2 + 1, 0, none⟩ = some (.slice (some ⟨B2, 0, none⟩) i i))
            (first | exact c0 | exact k0 | exact j0 | go_keep)
            (first
              | (go_at_call 25; refine (al.out _).mono ?_; rintro e w5 ⟨rfl, h5, z5, o5⟩; have q5 := (hR.out.drewN _).keep o5 (fun h => h) (fun h => h); have k0 := q5.c0; rw [hlen.out] at k0)
              | (go_at_call 24; refine (sm.out _ _ _ h5 q5.row).mono ?_; rintro e w6 ⟨rfl, o6⟩; have q6 := q5.keep o6 (fun h => h) (fun h => h); have j0 := q6.c0; rw [hlen.out] at j0))
          go_wp2
          go_ret
          exact ⟨rfl, (((K2.out.drewN _).trans o5).trans o6).below (Nat.le_refl _) (fun _ h => h.elim)⟩

set_option maxRecDepth 100000 in
set_option maxHeartbeats 8000000 in
theorem makes_neg (ct base : Int) (c n : Nat) (hc : 0 < c) (hc2 : c ≤ 8) (hs : base < 0) (hct : ct ≤ 1000) (hn : count ct = n) (w : World) :
    Calls Try.prog 4 #[.int .i64 ct, .int .i64 base, .int .i64 (c : Int)] w fun e w' => e = .returned (.bool true) ∧ Below w.heap.size w w' := by
  have nw := Lib.hid (fun w => new_any ct w)
  have rn := Lib.hid (fun w => rnew_any ct w)
  rw [hn] at nw rn
  have hle : (n : Int) ≤ 1000 := by unfold count at hn; omega
  have hn' := Lib.hid hn
  have mn := Lib.hid (fun w => make_nil w base (c : Int))
  have sz := Lib.hid (fun w => size_yes w c hc hc2)
  have g1 : decide (1 ≤ (c : Int)) = true := by simp; omega
  have g2 : decide ((c : Int) ≤ 8) = true := by simp; omega
  have g3 : ((c : Int) == 0) = false := by simp; omega
  have g5 : (c : Int) ≤ 8 := by omega
  have g7 : 0 < c := hc
  have g4 : decide (base < 0) = true := by simp; omega
  have g6 : decide (0 ≤ base) = false := by simp; omega
  have hs' := Lib.hid (And.intro hc (And.intro hc2 hs))
  clear hs hc hc2
  clear hn
  go_enter Try.func4, Try.ntmps4
  go_wp2_with (first
    | (go_at_call 13; (with_reducible refine (alive_any _).mono ?_); rintro e w1 ⟨rfl, o1⟩)
    | (go_at_call 14; (with_reducible refine (nw.out _).mono ?_); rintro e w2 ⟨rfl, m2, o2⟩))
  have O2 := Lib.hid o2
  have O1 := Lib.hid o1
  have b1 := Lib.hid o1.size
  rw [← fillN_zero] at m2
  have M2 := Lib.hid m2
  clear o1 o2 m2
  generalize w1.heap.size = B1 at *
  go_loopw [8] (fun s3 wr => ∃ k : Nat, k ≤ n ∧ s3 = .int .i64 (k : Int) ∧ Hid (MemAt wr (B1 + 1) B1 (fillN n k) (k : Int)) ∧ Hid (Only (Blk (B1 + 1) B1) w2 wr))
    (fun s3 _ => n - (intOf s3).toNat)
  case atStart => exact ⟨0, Nat.zero_le _, rfl, M2, Lib.hid (Only.refl _ _)⟩
  case round =>
    obtain ⟨k, hk, rfl, hM, hO⟩ := hrel
    have ln := Lib.hid (len_any hM.out)
    rw [fillN_length] at ln
    by_cases hkn : k < n
    · have hki : (k : Int) < (n : Int) := by omega
      have st := Lib.hid (store_yes hM.out k 99 (by rw [fillN_length]; exact hkn) (by omega) (by omega))
      rw [fillN_set] at st
      clear hk hkn
      go_wp2_with (first
        | (go_at_call 26; (with_reducible refine (ln.out).mono ?_); rintro e w3 ⟨rfl, rfl⟩)
        | (go_at_call 27; (with_reducible refine (st.out).mono ?_); rintro e w3 ⟨rfl, m3, o3⟩))
      have M3 := Lib.hid m3
      have O3 := Lib.hid o3
      clear m3 o3
      go_roundw
      case rel => exact ⟨k + 1, by omega, by go_num, M3, Lib.hid (hO.out.trans O3.out)⟩
      case measure => simp [intOf]; omega
    · obtain rfl : k = n := by omega
      have hki : ¬ ((k : Int) < (k : Int)) := by omega
      have mk := Lib.hid (make_no hM.out base hs'.out.1 hs'.out.2.1 (by rw [fillN_length]; omega) (.inl hs'.out.2.2))
      clear hk hkn
      go_wp2_with (first
        | (go_at_call 26; (with_reducible refine (ln.out).mono ?_); rintro e w3 ⟨rfl, rfl⟩)
        | (go_at_call 15; (with_reducible refine (mk.out).mono ?_); rintro e w5 ⟨rfl, o5'⟩; have m5 := hM.out.keep o5' (fun h => h) (fun h => h); have o5 := o5'.nilTo (Blk (B1 + 1) B1))
        | (go_at_call 15; (with_reducible refine (mn.out _).mono ?_); rintro e w6 ⟨rfl, o6⟩)
        | (go_at_call 28; (with_reducible refine (sz.out _).mono ?_); rintro e w7 ⟨rfl, rfl⟩)
        | (go_at_call 16; (with_reducible refine (rn.out _).mono ?_); rintro e w8 ⟨rfl, r8, o8⟩))
      have K6 := m5.keep o6 (fun h => h) (fun h => h)
      have R8 := Lib.hid r8
      rw [← fillN_zero] at R8
      have M8 := Lib.hid (K6.keep o8 (fun h => h) (fun h => h))
      have O9 := Lib.hid (((((O1.out.trans O2.out).then hO.out (fun i hi hl => by have := b1.out; rcases hi with e | e <;> omega)).then o5 (fun i hi hl => by have := b1.out; rcases hi with e | e <;> omega)).trans o6).trans o8)
      have L4 := Lib.hid (And.intro K6.lt_hb K6.lt_rb)
      generalize w6.heap.size = B2 at *
      clear r8 o8 o5 o6 m5 K6 mk mn rn nw sz hO hM ln
      have J := Lib.hid (And.intro M8.out O9.out)
      clear M8 O9
      go_loopw [15] (fun s3 ws => ∃ i : Nat, i ≤ k ∧ s3 = .int .i64 (i : Int) ∧ Hid (RefAt ws (B2 + 1) B2 (fillN k i) 0) ∧ Hid (Only (Blk (B2 + 1) B2) w8 ws))
        (fun s3 _ => k - (intOf s3).toNat)
      case atStart => exact ⟨0, Nat.zero_le _, rfl, R8, Lib.hid (Only.refl _ _)⟩
      case round =>
        obtain ⟨i, hi, rfl, hR, hP⟩ := hrel
        have c0 := hR.out.c0
        rw [fillN_length] at c0
        by_cases hik : i < k
        · have hii : (i : Int) < (k : Int) := by omega
          have ci := hR.out.ci i (by rw [fillN_length]; exact hik)
          have fi := hR.out.fi i
          obtain ⟨x, hx⟩ : ∃ x, (fillN k i).getD i 0 = x := ⟨_, rfl⟩
          rw [hx] at ci
          have R9 := Lib.hid (hR.out.store i 99)
          rw [fillN_set] at R9
          have P9 := Lib.hid (hP.out.setCell (p := ⟨B2, i, none⟩) (Blk.r (B2 + 1) B2) (.int .u64 99))
          clear hi hik hx
          go_wp2
          go_roundw
          case rel => exact ⟨i + 1, by omega, by go_num, R9, P9⟩
          case measure => simp [intOf]; omega
        · obtain rfl : i = k := by omega
          have hii : ¬ ((i : Int) < (i : Int)) := by omega
          clear hi hik
          have K1 := Lib.hid (J.out.1.keep hP.out (fun h => by have := L4.out.1; rcases h with e | e <;> omega) (fun h => by have := L4.out.2; rcases h with e | e <;> omega))
          have K2 := Lib.hid (J.out.2.then hP.out (fun q hq hl => by have := b1.out; have := L4.out.1; have := O1.out.size; rcases hq with e | e <;> omega))
          have hlen : Hid ((fillN i i).length = i) := Lib.hid (by rw [fillN_length])

          have al := Lib.hid (fun n => all_any (K1.out.drewN n) (by rw [hlen.out]; omega))
          have sm := Lib.hid (fun (w : World) (ra rc : Nat) h1 h2 => same_yes w ra rc (fillN i i) h1 h2 (by rw [hlen.out]; omega))
          rw [hlen.out] at al sm
          go_wp2
          go_region_held3 (fun w' => w'.cell? ⟨B2 + 1, 0, none⟩ = some (.slice (some ⟨B2, 0, none⟩) i i))
            (first | exact c0 | exact k0 | exact j0 | go_keep)
            (first
              | (go_at_call 25; refine (al.out _).mono ?_; rintro e w5 ⟨rfl, h5, z5, o5⟩; have q5 := (hR.out.drewN _).keep o5 (fun h => h) (fun h => h); have k0 := q5.c0; rw [hlen.out] at k0)
              | (go_at_call 24; refine (sm.out _ _ _ h5 q5.row).mono ?_; rintro e w6 ⟨rfl, o6⟩; have q6 := q5.keep o6 (fun h => h) (fun h => h); have j0 := q6.c0; rw [hlen.out] at j0))
          go_wp2
          go_ret
          exact ⟨rfl, (((K2.out.drewN _).trans o5).trans o6).below (Nat.le_refl _) (fun _ h => h.elim)⟩

set_option maxRecDepth 100000 in
set_option maxHeartbeats 8000000 in
theorem makes_far (ct base : Int) (c n : Nat) (hc : 0 < c) (hc2 : c ≤ 8) (hs : ¬ base < 0 ∧ (n : Int) - (c : Int) < base) (hct : ct ≤ 1000) (hn : count ct = n) (w : World) :
    Calls Try.prog 4 #[.int .i64 ct, .int .i64 base, .int .i64 (c : Int)] w fun e w' => e = .returned (.bool true) ∧ Below w.heap.size w w' := by
  have nw := Lib.hid (fun w => new_any ct w)
  have rn := Lib.hid (fun w => rnew_any ct w)
  rw [hn] at nw rn
  have hle : (n : Int) ≤ 1000 := by unfold count at hn; omega
  have hn' := Lib.hid hn
  have mn := Lib.hid (fun w => make_nil w base (c : Int))
  have sz := Lib.hid (fun w => size_yes w c hc hc2)
  have g1 : decide (1 ≤ (c : Int)) = true := by simp; omega
  have g2 : decide ((c : Int) ≤ 8) = true := by simp; omega
  have g3 : ((c : Int) == 0) = false := by simp; omega
  have g5 : (c : Int) ≤ 8 := by omega
  have g7 : 0 < c := hc
  have g4 : decide (base < 0) = false := by simp; omega
  have g6 : decide (0 ≤ base) = true := by simp; omega
  have g8 : decide ((n : Int) - (c : Int) < base) = true := by simp; omega
  have g9 : decide (base ≤ (n : Int) - (c : Int)) = false := by simp; omega
  have hs' := Lib.hid (And.intro hc (And.intro hc2 hs))
  clear hs hc hc2
  clear hn
  go_enter Try.func4, Try.ntmps4
  go_wp2_with (first
    | (go_at_call 13; (with_reducible refine (alive_any _).mono ?_); rintro e w1 ⟨rfl, o1⟩)
    | (go_at_call 14; (with_reducible refine (nw.out _).mono ?_); rintro e w2 ⟨rfl, m2, o2⟩))
  have O2 := Lib.hid o2
  have O1 := Lib.hid o1
  have b1 := Lib.hid o1.size
  rw [← fillN_zero] at m2
  have M2 := Lib.hid m2
  clear o1 o2 m2
  generalize w1.heap.size = B1 at *
  go_loopw [8] (fun s3 wr => ∃ k : Nat, k ≤ n ∧ s3 = .int .i64 (k : Int) ∧ Hid (MemAt wr (B1 + 1) B1 (fillN n k) (k : Int)) ∧ Hid (Only (Blk (B1 + 1) B1) w2 wr))
    (fun s3 _ => n - (intOf s3).toNat)
  case atStart => exact ⟨0, Nat.zero_le _, rfl, M2, Lib.hid (Only.refl _ _)⟩
  case round =>
    obtain ⟨k, hk, rfl, hM, hO⟩ := hrel
    have ln := Lib.hid (len_any hM.out)
    rw [fillN_length] at ln
    by_cases hkn : k < n
    · have hki : (k : Int) < (n : Int) := by omega
      have st := Lib.hid (store_yes hM.out k 99 (by rw [fillN_length]; exact hkn) (by omega) (by omega))
      rw [fillN_set] at st
      clear hk hkn
      go_wp2_with (first
        | (go_at_call 26; (with_reducible refine (ln.out).mono ?_); rintro e w3 ⟨rfl, rfl⟩)
        | (go_at_call 27; (with_reducible refine (st.out).mono ?_); rintro e w3 ⟨rfl, m3, o3⟩))
      have M3 := Lib.hid m3
      have O3 := Lib.hid o3
      clear m3 o3
      go_roundw
      case rel => exact ⟨k + 1, by omega, by go_num, M3, Lib.hid (hO.out.trans O3.out)⟩
      case measure => simp [intOf]; omega
    · obtain rfl : k = n := by omega
      have hki : ¬ ((k : Int) < (k : Int)) := by omega
      have mk := Lib.hid (make_no hM.out base hs'.out.1 hs'.out.2.1 (by rw [fillN_length]; omega) (.inr (by rw [fillN_length]; exact hs'.out.2.2.2)))
      clear hk hkn
      go_wp2_with (first
        | (go_at_call 26; (with_reducible refine (ln.out).mono ?_); rintro e w3 ⟨rfl, rfl⟩)
        | (go_at_call 15; (with_reducible refine (mk.out).mono ?_); rintro e w5 ⟨rfl, o5'⟩; have m5 := hM.out.keep o5' (fun h => h) (fun h => h); have o5 := o5'.nilTo (Blk (B1 + 1) B1))
        | (go_at_call 15; (with_reducible refine (mn.out _).mono ?_); rintro e w6 ⟨rfl, o6⟩)
        | (go_at_call 28; (with_reducible refine (sz.out _).mono ?_); rintro e w7 ⟨rfl, rfl⟩)
        | (go_at_call 16; (with_reducible refine (rn.out _).mono ?_); rintro e w8 ⟨rfl, r8, o8⟩))
      have K6 := m5.keep o6 (fun h => h) (fun h => h)
      have R8 := Lib.hid r8
      rw [← fillN_zero] at R8
      have M8 := Lib.hid (K6.keep o8 (fun h => h) (fun h => h))
      have O9 := Lib.hid (((((O1.out.trans O2.out).then hO.out (fun i hi hl => by have := b1.out; rcases hi with e | e <;> omega)).then o5 (fun i hi hl => by have := b1.out; rcases hi with e | e <;> omega)).trans o6).trans o8)
      have L4 := Lib.hid (And.intro K6.lt_hb K6.lt_rb)
      generalize w6.heap.size = B2 at *
      clear r8 o8 o5 o6 m5 K6 mk mn rn nw sz hO hM ln
      have J := Lib.hid (And.intro M8.out O9.out)
      clear M8 O9
      go_loopw [15] (fun s3 ws => ∃ i : Nat, i ≤ k ∧ s3 = .int .i64 (i : Int) ∧ Hid (RefAt ws (B2 + 1) B2 (fillN k i) 0) ∧ Hid (Only (Blk (B2 + 1) B2) w8 ws))
        (fun s3 _ => k - (intOf s3).toNat)
      case atStart => exact ⟨0, Nat.zero_le _, rfl, R8, Lib.hid (Only.refl _ _)⟩
      case round =>
        obtain ⟨i, hi, rfl, hR, hP⟩ := hrel
        have c0 := hR.out.c0
        rw [fillN_length] at c0
        by_cases hik : i < k
        · have hii : (i : Int) < (k : Int) := by omega
          have ci := hR.out.ci i (by rw [fillN_length]; exact hik)
          have fi := hR.out.fi i
          obtain ⟨x, hx⟩ : ∃ x, (fillN k i).getD i 0 = x := ⟨_, rfl⟩
          rw [hx] at ci
          have R9 := Lib.hid (hR.out.store i 99)
          rw [fillN_set] at R9
          have P9 := Lib.hid (hP.out.setCell (p := ⟨B2, i, none⟩) (Blk.r (B2 + 1) B2) (.int .u64 99))
          clear hi hik hx
          go_wp2
          go_roundw
          case rel => exact ⟨i + 1, by omega, by go_num, R9, P9⟩
          case measure => simp [intOf]; omega
        · obtain rfl : i = k := by omega
          have hii : ¬ ((i : Int) < (i : Int)) := by omega
          clear hi hik
          have K1 := Lib.hid (J.out.1.keep hP.out (fun h => by have := L4.out.1; rcases h with e | e <;> omega) (fun h => by have := L4.out.2; rcases h with e | e <;> omega))
          have K2 := Lib.hid (J.out.2.then hP.out (fun q hq hl => by have := b1.out; have := L4.out.1; have := O1.out.size; rcases hq with e | e <;> omega))
          have hlen : Hid ((fillN i i).length = i) := Lib.hid (by rw [fillN_length])

          have al := Lib.hid (fun n => all_any (K1.out.drewN n) (by rw [hlen.out]; omega))
          have sm := Lib.hid (fun (w : World) (ra rc : Nat) h1 h2 => same_yes w ra rc (fillN i i) h1 h2 (by rw [hlen.out]; omega))
          rw [hlen.out] at al sm
          go_wp2
          go_region_held3 (fun w' => w'.cell? ⟨B2 + 1, 0, none⟩ = some (.slice (some ⟨B2, 0, none⟩) i i))
            (first | exact c0 | exact k0 | exact j0 | go_keep)
            (first
              | (go_at_call 25; refine (al.out _).mono ?_; rintro e w5 ⟨rfl, h5, z5, o5⟩; have q5 := (hR.out.drewN _).keep o5 (fun h => h) (fun h => h); have k0 := q5.c0; rw [hlen.out] at k0)
              | (go_at_call 24; refine (sm.out _ _ _ h5 q5.row).mono ?_; rintro e w6 ⟨rfl, o6⟩; have q6 := q5.keep o6 (fun h => h) (fun h => h); have j0 := q6.c0; rw [hlen.out] at j0))
          go_wp2
          go_ret
          exact ⟨rfl, (((K2.out.drewN _).trans o5).trans o6).below (Nat.le_refl _) (fun _ h => h.elim)⟩

set_option maxRecDepth 100000 in
set_option maxHeartbeats 8000000 in
theorem makes_yes (ct base : Int) (b c n : Nat) (hc : 0 < c) (hc2 : c ≤ 8) (hb : base = (b : Int)) (hs : b + c ≤ n) (hct : ct ≤ 1000) (hn : count ct = n) (w : World) :
    Calls Try.prog 4 #[.int .i64 ct, .int .i64 base, .int .i64 (c : Int)] w fun e w' => e = .returned (.bool true) ∧ Below w.heap.size w w' := by
  have nw := Lib.hid (fun w => new_any ct w)
  have rn := Lib.hid (fun w => rnew_any ct w)
  rw [hn] at nw rn
  have hle : (n : Int) ≤ 1000 := by unfold count at hn; omega
  have hn' := Lib.hid hn
  have mn := Lib.hid (fun w => make_nil w base (c : Int))
  have sz := Lib.hid (fun w => size_yes w c hc hc2)
  have g1 : decide (1 ≤ (c : Int)) = true := by simp; omega
  have g2 : decide ((c : Int) ≤ 8) = true := by simp; omega
  have g3 : ((c : Int) == 0) = false := by simp; omega
  have g5 : (c : Int) ≤ 8 := by omega
  have g7 : 0 < c := hc
  subst hb
  have g4 : decide ((b : Int) < 0) = false := by simp
  have g6 : decide (0 ≤ (b : Int)) = true := by simp
  have g8 : decide ((n : Int) - (c : Int) < (b : Int)) = false := by simp; omega
  have g9 : decide ((b : Int) ≤ (n : Int) - (c : Int)) = true := by simp; omega
  have g10 : (b : Int) ≤ 1000 := by omega
  have hs' := Lib.hid (And.intro hc (And.intro hc2 hs))
  clear hs hc hc2
  clear hn
  go_enter Try.func4, Try.ntmps4
  go_wp2_with (first
    | (go_at_call 13; (with_reducible refine (alive_any _).mono ?_); rintro e w1 ⟨rfl, o1⟩)
    | (go_at_call 14; (with_reducible refine (nw.out _).mono ?_); rintro e w2 ⟨rfl, m2, o2⟩))
  have O2 := Lib.hid o2
  have O1 := Lib.hid o1
  have b1 := Lib.hid o1.size
  rw [← fillN_zero] at m2
  have M2 := Lib.hid m2
  clear o1 o2 m2
  generalize w1.heap.size = B1 at *
  go_loopw [8] (fun s3 wr => ∃ k : Nat, k ≤ n ∧ s3 = .int .i64 (k : Int) ∧ Hid (MemAt wr (B1 + 1) B1 (fillN n k) (k : Int)) ∧ Hid (Only (Blk (B1 + 1) B1) w2 wr))
    (fun s3 _ => n - (intOf s3).toNat)
  case atStart => exact ⟨0, Nat.zero_le _, rfl, M2, Lib.hid (Only.refl _ _)⟩
  case round =>
    obtain ⟨k, hk, rfl, hM, hO⟩ := hrel
    have ln := Lib.hid (len_any hM.out)
    rw [fillN_length] at ln
    by_cases hkn : k < n
    · have hki : (k : Int) < (n : Int) := by omega
      have st := Lib.hid (store_yes hM.out k 99 (by rw [fillN_length]; exact hkn) (by omega) (by omega))
      rw [fillN_set] at st
      clear hk hkn
      go_wp2_with (first
        | (go_at_call 26; (with_reducible refine (ln.out).mono ?_); rintro e w3 ⟨rfl, rfl⟩)
        | (go_at_call 27; (with_reducible refine (st.out).mono ?_); rintro e w3 ⟨rfl, m3, o3⟩))
      have M3 := Lib.hid m3
      have O3 := Lib.hid o3
      clear m3 o3
      go_roundw
      case rel => exact ⟨k + 1, by omega, by go_num, M3, Lib.hid (hO.out.trans O3.out)⟩
      case measure => simp [intOf]; omega
    · obtain rfl : k = n := by omega
      have hki : ¬ ((k : Int) < (k : Int)) := by omega
      have mk := Lib.hid ((make_yes (b := b) (n := c) hM.out (by omega) (by omega) hs'.out.1 hs'.out.2.1 (by omega) (by rw [fillN_length]; exact hs'.out.2.2) (by rw [fillN_length]; omega)))
      clear hk hkn
      go_wp2_with (first
        | (go_at_call 26; (with_reducible refine (ln.out).mono ?_); rintro e w3 ⟨rfl, rfl⟩)
        | (go_at_call 15; (with_reducible refine (mk.out).mono ?_); rintro e w5 ⟨g5x, rfl, z5, R5, o5⟩; have m5 := R5.mem)
        | (go_at_call 15; (with_reducible refine (mn.out _).mono ?_); rintro e w6 ⟨rfl, o6⟩)
        | (go_at_call 28; (with_reducible refine (sz.out _).mono ?_); rintro e w7 ⟨rfl, rfl⟩)
        | (go_at_call 16; (with_reducible refine (rn.out _).mono ?_); rintro e w8 ⟨rfl, r8, o8⟩))
      have K6 := m5.keep o6 (fun h => h) (fun h => h)
      have R8 := Lib.hid r8
      rw [← fillB_zero k b c] at R8
      have M8 := Lib.hid (K6.keep o8 (fun h => h) (fun h => h))
      have O9 := Lib.hid (((((O1.out.trans O2.out).then hO.out (fun i hi hl => by have := b1.out; rcases hi with e | e <;> omega)).then o5 (fun i hi hl => by have := b1.out; rcases hi with e | e <;> omega)).trans o6).trans o8)
      have L4 := Lib.hid (And.intro K6.lt_hb K6.lt_rb)
      generalize w6.heap.size = B2 at *
      clear r8 o8 o5 o6 m5 K6 mk mn rn nw sz hO hM ln
      have J := Lib.hid (And.intro M8.out O9.out)
      clear M8 O9
      go_loopw [15] (fun s3 ws => ∃ i : Nat, i ≤ k ∧ s3 = .int .i64 (i : Int) ∧ Hid (RefAt ws (B2 + 1) B2 (fillB k b c i) 0) ∧ Hid (Only (Blk (B2 + 1) B2) w8 ws))
        (fun s3 _ => k - (intOf s3).toNat)
      case atStart => exact ⟨0, Nat.zero_le _, rfl, R8, Lib.hid (Only.refl _ _)⟩
      case round =>
        obtain ⟨i, hi, rfl, hR, hP⟩ := hrel
        have c0 := hR.out.c0
        rw [fillB_length] at c0
        by_cases hik : i < k
        · have hii : (i : Int) < (k : Int) := by omega
          have ci := hR.out.ci i (by rw [fillB_length]; exact hik)
          have fi := hR.out.fi i
          obtain ⟨x, hx⟩ : ∃ x, (fillB k b c i).getD i 0 = x := ⟨_, rfl⟩
          rw [hx] at ci
          have sb := Lib.hid hs'.out
          by_cases h1 : b ≤ i
          · have i1 : b ≤ i := h1
            by_cases h2 : i < b + c
            · have i2 : (i : Int) < (b : Int) + (c : Int) := by omega
              have R9 := hR.out.store i 99
              have R10 := Lib.hid (R9.store i 0)
              rw [fillB_in k b c i ⟨h1, h2⟩] at R10
              have ci2 := R9.ci i (by rw [List.length_set, fillB_length]; exact hik)
              rw [getD_set_self _ _ _ (by rw [fillB_length]; exact hik)] at ci2
              have fi2 := R9.fi i
              have c02 := R9.c0
              rw [List.length_set, fillB_length] at c02
              have P9 := Lib.hid ((hP.out.setCell (p := ⟨B2, i, none⟩) (Blk.r (B2 + 1) B2) (.int .u64 99)).setCell (p := ⟨B2, i, none⟩) (Blk.r (B2 + 1) B2) (.int .u64 0))
              clear hi hik hx h1 h2 R9
              go_wp2
              go_roundw
              case rel => exact ⟨i + 1, by omega, by go_num, R10, P9⟩
              case measure => simp [intOf]; omega
            · have i2 : ¬ ((i : Int) < (b : Int) + (c : Int)) := by omega
              have R9 := hR.out.store i 99
              have c02 := R9.c0
              rw [List.length_set, fillB_length] at c02
              have R10 := Lib.hid R9
              rw [fillB_out k b c i (fun x => h2 x.2)] at R10
              have P9 := Lib.hid (hP.out.setCell (p := ⟨B2, i, none⟩) (Blk.r (B2 + 1) B2) (.int .u64 99))
              clear hi hik hx h1 h2 R9
              go_wp2
              go_roundw
              case rel => exact ⟨i + 1, by omega, by go_num, R10, P9⟩
              case measure => simp [intOf]; omega
          · have i1 : ¬ b ≤ i := h1
            have R9 := hR.out.store i 99
            have c02 := R9.c0
            rw [List.length_set, fillB_length] at c02
            have R10 := Lib.hid R9
            rw [fillB_out k b c i (fun x => h1 x.1)] at R10
            have P9 := Lib.hid (hP.out.setCell (p := ⟨B2, i, none⟩) (Blk.r (B2 + 1) B2) (.int .u64 99))
            clear hi hik hx h1 R9
            go_wp2
            go_roundw
            case rel => exact ⟨i + 1, by omega, by go_num, R10, P9⟩
            case measure => simp [intOf]; omega
        · obtain rfl : i = k := by omega
          have hii : ¬ ((i : Int) < (i : Int)) := by omega
          clear hi hik
          have K1 := Lib.hid (J.out.1.keep hP.out (fun h => by have := L4.out.1; rcases h with e | e <;> omega) (fun h => by have := L4.out.2; rcases h with e | e <;> omega))
          have K2 := Lib.hid (J.out.2.then hP.out (fun q hq hl => by have := b1.out; have := L4.out.1; have := O1.out.size; rcases hq with e | e <;> omega))
          have hlen : Hid ((fillB i b c i).length = i) := Lib.hid (by rw [fillB_length])
          rw [layL_fill i b c hs'.out.2.2] at K1
          have al := Lib.hid (fun n => all_any (K1.out.drewN n) (by rw [hlen.out]; omega))
          have sm := Lib.hid (fun (w : World) (ra rc : Nat) h1 h2 => same_yes w ra rc (fillB i b c i) h1 h2 (by rw [hlen.out]; omega))
          rw [hlen.out] at al sm
          go_wp2
          go_region_held3 (fun w' => w'.cell? ⟨B2 + 1, 0, none⟩ = some (.slice (some ⟨B2, 0, none⟩) i i))
            (first | exact c0 | exact k0 | exact j0 | go_keep)
            (first
              | (go_at_call 25; refine (al.out _).mono ?_; rintro e w5 ⟨rfl, h5, z5, o5⟩; have q5 := (hR.out.drewN _).keep o5 (fun h => h) (fun h => h); have k0 := q5.c0; rw [hlen.out] at k0)
              | (go_at_call 24; refine (sm.out _ _ _ h5 q5.row).mono ?_; rintro e w6 ⟨rfl, o6⟩; have q6 := q5.keep o6 (fun h => h) (fun h => h); have j0 := q6.c0; rw [hlen.out] at j0))
          go_wp2
          go_ret
          exact ⟨rfl, (((K2.out.drewN _).trans o5).trans o6).below (Nat.le_refl _) (fun _ h => h.elim)⟩


set_option maxHeartbeats 1000000 in
theorem makes_much (ct base wk : Int) (hct : 1000 < ct) (w : World) :
    Calls Try.prog 4 #[.int .i64 ct, .int .i64 base, .int .i64 wk] w fun e w' => e = .returned (.bool true) ∧ Below w.heap.size w w' := by
  go_enter Try.func4, Try.ntmps4
  go_wp2_with (go_at_call 13; (with_reducible refine (alive_any _).mono ?_); rintro e w1 ⟨rfl, o1⟩)
  go_ret
  exact ⟨rfl, o1.below (Nat.le_refl _) (fun _ h => h.elim)⟩
theorem makes_all (ct base wk : Int) (w : World) :
    Calls Try.prog 4 #[.int .i64 ct, .int .i64 base, .int .i64 wk] w fun e w' => e = .returned (.bool true) ∧ Below w.heap.size w w' := by
  by_cases h0 : ct ≤ 1000
  · by_cases h1 : wk < 1
    · exact makes_lo ct base wk _ h1 h0 rfl w
    · by_cases h2 : 8 < wk
      · exact makes_hi ct base wk _ h2 h0 rfl w
      · obtain ⟨c, rfl⟩ := Int.eq_ofNat_of_zero_le (show 0 ≤ wk by omega)
        by_cases h3 : base < 0
        · exact makes_neg ct base c _ (by omega) (by omega) h3 h0 rfl w
        · by_cases h4 : ((count ct : Nat) : Int) - (c : Int) < base
          · exact makes_far ct base c _ (by omega) (by omega) ⟨h3, h4⟩ h0 rfl w
          · obtain ⟨b, rfl⟩ := Int.eq_ofNat_of_zero_le (show 0 ≤ base by omega)
            exact makes_yes ct b b c _ (by omega) (by omega) rfl (by omega) h0 rfl w
  · exact makes_much ct base wk (by omega) w
end Go.Proofs.Ytfhbgabblegecaa.Bl
