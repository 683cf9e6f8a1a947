/- PostMakes: the walk. -/
import Derived.Test.YtmkcmncbiancgaaPoT
import Derived.Test.YtmkcmncbiancgaaPoP
import Derived.Deep.RegionHeld3
namespace Go.Proofs.Ytmkcmncbiancgaa.Po
open Go.RowKit Go.Proofs.Ytmkcmncbiancgaa

/-- n cells, the first k of which hold 99. -/
def fillN (n k : Nat) : List Int := (List.range n).map fun i => if i < k then 99 else 0
theorem fillN_length (n k : Nat) : (fillN n k).length = n := by simp [fillN]
theorem fillN_zero (n : Nat) : fillN n 0 = zeros n := by
  apply List.ext_getElem <;> simp [fillN, zeros]
theorem fillN_set (n k : Nat) : (fillN n k).set k 99 = fillN n (k + 1) := by
  apply List.ext_getElem
  · simp [fillN]
  · intro i h1 h2
    simp only [fillN, List.getElem_set, List.getElem_map, List.getElem_range]
    by_cases e : k = i
    · subst e; simp
    · simp only [e, if_false]
      by_cases h : i < k
      · rw [if_pos h, if_pos (by omega)]
      · rw [if_neg h, if_neg (by omega)]
theorem fillN_beyond (n k : Nat) (h : n ≤ k) : fillN n k = fillN n n := by
  apply List.ext_getElem
  · simp [fillN]
  · intro i h1 h2
    have : i < n := by simpa [fillN] using h1
    simp only [fillN, List.getElem_map, List.getElem_range]
    rw [if_pos (by omega), if_pos (by omega)]

set_option maxRecDepth 100000 in
set_option maxHeartbeats 8000000 in
theorem makes_lo (ct base sl no : Int) (n : Nat) (hct : ct ≤ 1000) (hn : count ct = n) (hs : sl < 1) (w : World) :
    Calls Try.prog 3 #[.int .i64 ct, .int .i64 base, .int .i64 sl, .int .i64 no] w fun e w' => e = .returned (.bool true) ∧ Below w.heap.size w w' := by
  have nw := Lib.hid (fun w => _root_.Go.Proofs.Ytmkcmncbiancgaa.new_any ct w)
  have rn := Lib.hid (fun w => _root_.Go.Proofs.Ytmkcmncbiancgaa.rnew_any ct w)
  rw [hn] at nw rn
  have hle : (n : Int) ≤ 1000 := by unfold count at hn; omega
  have hn' := Lib.hid hn
  have mk := Lib.hid (fun (w : World) (hb rb : Nat) (t : Int) (_ : MemAt w hb rb (fillN n n) t) => pmake_bad w hb base sl no (.inl (.inl hs)))
  have mn := Lib.hid (fun w => pmake_nil w base sl no)
  have sz := Lib.hid (fun w => psize_no w sl no (.inl (.inl hs)))
  have g1 : decide (1 ≤ sl) = false := by simp; omega
  clear hs
  clear hn
  go_enter Try.func3, Try.ntmps3
  go_wp2_with (first
    | (go_at_call 8; (with_reducible refine (alive_any _).mono ?_); rintro e w1 ⟨rfl, o1⟩)
    | (go_at_call 9; (with_reducible refine (nw.out _).mono ?_); rintro e w2 ⟨rfl, m2, o2⟩))
  have O2 := Lib.hid o2
  have O1 := Lib.hid o1
  have b1 := Lib.hid o1.size
  rw [← fillN_zero] at m2
  have M2 := Lib.hid m2
  clear o1 o2 m2
  generalize w1.heap.size = B1 at *
  go_loopw [10] (fun s3 wr => ∃ k : Nat, k ≤ n ∧ s3 = .int .i64 (k : Int) ∧ Hid (MemAt wr (B1 + 1) B1 (fillN n k) (k : Int)) ∧ Hid (Only (Blk (B1 + 1) B1) w2 wr))
    (fun s3 _ => n - (intOf s3).toNat)
  case atStart => exact ⟨0, Nat.zero_le _, rfl, M2, Lib.hid (Only.refl _ _)⟩
  case round =>
    obtain ⟨k, hk, rfl, hM, hO⟩ := hrel
    have ln := Lib.hid (len_any hM.out)
    rw [fillN_length] at ln
    by_cases hkn : k < n
    · have hki : (k : Int) < (n : Int) := by omega
      have st := Lib.hid (store_yes hM.out k 99 (by rw [fillN_length]; exact hkn) (by omega) (by omega))
      rw [fillN_set] at st
      clear hk hkn
      go_wp2_with (first
        | (go_at_call 10; (with_reducible refine (ln.out).mono ?_); rintro e w3 ⟨rfl, rfl⟩)
        | (go_at_call 11; (with_reducible refine (st.out).mono ?_); rintro e w3 ⟨rfl, m3, o3⟩))
      have M3 := Lib.hid m3
      have O3 := Lib.hid o3
      clear m3 o3
      go_roundw
      case rel => exact ⟨k + 1, by omega, by go_num, M3, Lib.hid (hO.out.trans O3.out)⟩
      case measure => simp [intOf]; omega
    · obtain rfl : k = n := by omega
      have hki : ¬ ((k : Int) < (k : Int)) := by omega
      clear hk hkn
      go_wp2_with (first
        | (go_at_call 10; (with_reducible refine (ln.out).mono ?_); rintro e w3 ⟨rfl, rfl⟩)
        | (go_at_call 12; (with_reducible refine (mk.out _ _ _ _ hM.out).mono ?_); rintro e w5 ⟨rfl, p5⟩)
        | (go_at_call 12; (with_reducible refine (mn.out _).mono ?_); rintro e w6 ⟨rfl, p6⟩)
        | (go_at_call 13; (with_reducible refine (sz.out _).mono ?_); rintro e w7 ⟨rfl, rfl⟩)
        | (go_at_call 14; (with_reducible refine (rn.out _).mono ?_); rintro e w8 ⟨rfl, r8, o8⟩))
      have R8 := Lib.hid r8
      have hs6 := (p5.trans p6).size
      have O8 := Lib.hid ((p5.trans p6).trans o8)
      have s8 := o8.size
      rw [← fillN_zero] at R8
      clear r8 o8
      have M8 := Lib.hid (hM.out.keep O8.out (fun h => h) (fun h => h))
      have O9 := Lib.hid (((O1.out.trans O2.out).then hO.out (fun i hi hl => by have := b1.out; rcases hi with e | e <;> omega)).trans O8.out)
      have L4 := Lib.hid (And.intro (Nat.lt_of_lt_of_le hM.out.lt_hb hs6) (Nat.lt_of_lt_of_le hM.out.lt_rb hs6))
      clear p5 p6 hs6
      generalize w6.heap.size = B2 at *
      clear s8 hO hM ln O8
      have J := Lib.hid (And.intro M8.out O9.out)
      clear M8 O9
      go_loopw [17] (fun s3 ws => ∃ i : Nat, i ≤ k ∧ s3 = .int .i64 (i : Int) ∧ Hid (RefAt ws (B2 + 1) B2 (fillN k i) 0) ∧ Hid (Only (Blk (B2 + 1) B2) w8 ws))
        (fun s3 _ => k - (intOf s3).toNat)
      case atStart => exact ⟨0, Nat.zero_le _, rfl, R8, Lib.hid (Only.refl _ _)⟩
      case round =>
        obtain ⟨i, hi, rfl, hR, hP⟩ := hrel
        have c0 := hR.out.c0
        rw [fillN_length] at c0
        by_cases hik : i < k
        · have hii : (i : Int) < (k : Int) := by omega
          have ci := hR.out.ci i (by rw [fillN_length]; exact hik)
          have fi := hR.out.fi i
          obtain ⟨x, hx⟩ : ∃ x, (fillN k i).getD i 0 = x := ⟨_, rfl⟩
          rw [hx] at ci
          have R9 := Lib.hid (hR.out.store i 99)
          rw [fillN_set] at R9
          have P9 := Lib.hid (hP.out.setCell (p := ⟨B2, i, none⟩) (Blk.r (B2 + 1) B2) (.int .u64 99))
          clear hi hik hx
          go_wp2
          go_roundw
          case rel => exact ⟨i + 1, by omega, by go_num, R9, P9⟩
          case measure => simp [intOf]; omega
        · obtain rfl : i = k := by omega
          have hii : ¬ ((i : Int) < (i : Int)) := by omega
          clear hi hik
          have K1 := Lib.hid (J.out.1.keep hP.out (fun h => by have := L4.out.1; rcases h with e | e <;> omega) (fun h => by have := L4.out.2; rcases h with e | e <;> omega))
          have K2 := Lib.hid (J.out.2.then hP.out (fun q hq hl => by have := b1.out; have := L4.out.1; rcases hq with e | e <;> omega))

          have hlen : Hid ((fillN i i).length = i) := Lib.hid (by rw [fillN_length])
          have al := Lib.hid (fun n => all_any (K1.out.drewN n) (by rw [hlen.out]; omega))
          have sm := Lib.hid (fun (w : World) (ra rc : Nat) h1 h2 => same_yes w ra rc (fillN i i) h1 h2 (by rw [hlen.out]; omega))
          rw [hlen.out] at al sm
          go_wp2
          go_region_held3 (fun w' => w'.cell? ⟨B2 + 1, 0, none⟩ = some (.slice (some ⟨B2, 0, none⟩) i i))
            (first | exact c0 | exact k0 | exact j0 | go_keep)
            (first
              | (go_at_call 16; refine (al.out _).mono ?_; rintro e w5 ⟨rfl, h5, z5, o5⟩; have q5 := (hR.out.drewN _).keep o5 (fun h => h) (fun h => h); have k0 := q5.c0; rw [hlen.out] at k0)
              | (go_at_call 15; refine (sm.out _ _ _ h5 q5.row).mono ?_; rintro e w6 ⟨rfl, o6⟩; have q6 := q5.keep o6 (fun h => h) (fun h => h); have j0 := q6.c0; rw [hlen.out] at j0))
          go_wp2
          go_ret
          exact ⟨rfl, (((K2.out.drewN _).trans o5).trans o6).below (Nat.le_refl _) (fun _ h => h.elim)⟩
set_option maxRecDepth 100000 in
set_option maxHeartbeats 8000000 in
theorem makes_hi (ct base sl no : Int) (n : Nat) (hct : ct ≤ 1000) (hn : count ct = n) (hs : 64 < sl) (w : World) :
    Calls Try.prog 3 #[.int .i64 ct, .int .i64 base, .int .i64 sl, .int .i64 no] w fun e w' => e = .returned (.bool true) ∧ Below w.heap.size w w' := by
  have nw := Lib.hid (fun w => _root_.Go.Proofs.Ytmkcmncbiancgaa.new_any ct w)
  have rn := Lib.hid (fun w => _root_.Go.Proofs.Ytmkcmncbiancgaa.rnew_any ct w)
  rw [hn] at nw rn
  have hle : (n : Int) ≤ 1000 := by unfold count at hn; omega
  have hn' := Lib.hid hn
  have mk := Lib.hid (fun (w : World) (hb rb : Nat) (t : Int) (_ : MemAt w hb rb (fillN n n) t) => pmake_bad w hb base sl no (.inl (.inr hs)))
  have mn := Lib.hid (fun w => pmake_nil w base sl no)
  have sz := Lib.hid (fun w => psize_no w sl no (.inl (.inr hs)))
  have g1 : decide (1 ≤ sl) = true := by simp; omega
  have g2 : decide (sl ≤ 64) = false := by simp; omega
  clear hs
  clear hn
  go_enter Try.func3, Try.ntmps3
  go_wp2_with (first
    | (go_at_call 8; (with_reducible refine (alive_any _).mono ?_); rintro e w1 ⟨rfl, o1⟩)
    | (go_at_call 9; (with_reducible refine (nw.out _).mono ?_); rintro e w2 ⟨rfl, m2, o2⟩))
  have O2 := Lib.hid o2
  have O1 := Lib.hid o1
  have b1 := Lib.hid o1.size
  rw [← fillN_zero] at m2
  have M2 := Lib.hid m2
  clear o1 o2 m2
  generalize w1.heap.size = B1 at *
  go_loopw [10] (fun s3 wr => ∃ k : Nat, k ≤ n ∧ s3 = .int .i64 (k : Int) ∧ Hid (MemAt wr (B1 + 1) B1 (fillN n k) (k : Int)) ∧ Hid (Only (Blk (B1 + 1) B1) w2 wr))
    (fun s3 _ => n - (intOf s3).toNat)
  case atStart => exact ⟨0, Nat.zero_le _, rfl, M2, Lib.hid (Only.refl _ _)⟩
  case round =>
    obtain ⟨k, hk, rfl, hM, hO⟩ := hrel
    have ln := Lib.hid (len_any hM.out)
    rw [fillN_length] at ln
    by_cases hkn : k < n
    · have hki : (k : Int) < (n : Int) := by omega
      have st := Lib.hid (store_yes hM.out k 99 (by rw [fillN_length]; exact hkn) (by omega) (by omega))
      rw [fillN_set] at st
      clear hk hkn
      go_wp2_with (first
        | (go_at_call 10; (with_reducible refine (ln.out).mono ?_); rintro e w3 ⟨rfl, rfl⟩)
        | (go_at_call 11; (with_reducible refine (st.out).mono ?_); rintro e w3 ⟨rfl, m3, o3⟩))
      have M3 := Lib.hid m3
      have O3 := Lib.hid o3
      clear m3 o3
      go_roundw
      case rel => exact ⟨k + 1, by omega, by go_num, M3, Lib.hid (hO.out.trans O3.out)⟩
      case measure => simp [intOf]; omega
    · obtain rfl : k = n := by omega
      have hki : ¬ ((k : Int) < (k : Int)) := by omega
      clear hk hkn
      go_wp2_with (first
        | (go_at_call 10; (with_reducible refine (ln.out).mono ?_); rintro e w3 ⟨rfl, rfl⟩)
        | (go_at_call 12; (with_reducible refine (mk.out _ _ _ _ hM.out).mono ?_); rintro e w5 ⟨rfl, p5⟩)
        | (go_at_call 12; (with_reducible refine (mn.out _).mono ?_); rintro e w6 ⟨rfl, p6⟩)
        | (go_at_call 13; (with_reducible refine (sz.out _).mono ?_); rintro e w7 ⟨rfl, rfl⟩)
        | (go_at_call 14; (with_reducible refine (rn.out _).mono ?_); rintro e w8 ⟨rfl, r8, o8⟩))
      have R8 := Lib.hid r8
      have hs6 := (p5.trans p6).size
      have O8 := Lib.hid ((p5.trans p6).trans o8)
      have s8 := o8.size
      rw [← fillN_zero] at R8
      clear r8 o8
      have M8 := Lib.hid (hM.out.keep O8.out (fun h => h) (fun h => h))
      have O9 := Lib.hid (((O1.out.trans O2.out).then hO.out (fun i hi hl => by have := b1.out; rcases hi with e | e <;> omega)).trans O8.out)
      have L4 := Lib.hid (And.intro (Nat.lt_of_lt_of_le hM.out.lt_hb hs6) (Nat.lt_of_lt_of_le hM.out.lt_rb hs6))
      clear p5 p6 hs6
      generalize w6.heap.size = B2 at *
      clear s8 hO hM ln O8
      have J := Lib.hid (And.intro M8.out O9.out)
      clear M8 O9
      go_loopw [17] (fun s3 ws => ∃ i : Nat, i ≤ k ∧ s3 = .int .i64 (i : Int) ∧ Hid (RefAt ws (B2 + 1) B2 (fillN k i) 0) ∧ Hid (Only (Blk (B2 + 1) B2) w8 ws))
        (fun s3 _ => k - (intOf s3).toNat)
      case atStart => exact ⟨0, Nat.zero_le _, rfl, R8, Lib.hid (Only.refl _ _)⟩
      case round =>
        obtain ⟨i, hi, rfl, hR, hP⟩ := hrel
        have c0 := hR.out.c0
        rw [fillN_length] at c0
        by_cases hik : i < k
        · have hii : (i : Int) < (k : Int) := by omega
          have ci := hR.out.ci i (by rw [fillN_length]; exact hik)
          have fi := hR.out.fi i
          obtain ⟨x, hx⟩ : ∃ x, (fillN k i).getD i 0 = x := ⟨_, rfl⟩
          rw [hx] at ci
          have R9 := Lib.hid (hR.out.store i 99)
          rw [fillN_set] at R9
          have P9 := Lib.hid (hP.out.setCell (p := ⟨B2, i, none⟩) (Blk.r (B2 + 1) B2) (.int .u64 99))
          clear hi hik hx
          go_wp2
          go_roundw
          case rel => exact ⟨i + 1, by omega, by go_num, R9, P9⟩
          case measure => simp [intOf]; omega
        · obtain rfl : i = k := by omega
          have hii : ¬ ((i : Int) < (i : Int)) := by omega
          clear hi hik
          have K1 := Lib.hid (J.out.1.keep hP.out (fun h => by have := L4.out.1; rcases h with e | e <;> omega) (fun h => by have := L4.out.2; rcases h with e | e <;> omega))
          have K2 := Lib.hid (J.out.2.then hP.out (fun q hq hl => by have := b1.out; have := L4.out.1; rcases hq with e | e <;> omega))

          have hlen : Hid ((fillN i i).length = i) := Lib.hid (by rw [fillN_length])
          have al := Lib.hid (fun n => all_any (K1.out.drewN n) (by rw [hlen.out]; omega))
          have sm := Lib.hid (fun (w : World) (ra rc : Nat) h1 h2 => same_yes w ra rc (fillN i i) h1 h2 (by rw [hlen.out]; omega))
          rw [hlen.out] at al sm
          go_wp2
          go_region_held3 (fun w' => w'.cell? ⟨B2 + 1, 0, none⟩ = some (.slice (some ⟨B2, 0, none⟩) i i))
            (first | exact c0 | exact k0 | exact j0 | go_keep)
            (first
              | (go_at_call 16; refine (al.out _).mono ?_; rintro e w5 ⟨rfl, h5, z5, o5⟩; have q5 := (hR.out.drewN _).keep o5 (fun h => h) (fun h => h); have k0 := q5.c0; rw [hlen.out] at k0)
              | (go_at_call 15; refine (sm.out _ _ _ h5 q5.row).mono ?_; rintro e w6 ⟨rfl, o6⟩; have q6 := q5.keep o6 (fun h => h) (fun h => h); have j0 := q6.c0; rw [hlen.out] at j0))
          go_wp2
          go_ret
          exact ⟨rfl, (((K2.out.drewN _).trans o5).trans o6).below (Nat.le_refl _) (fun _ h => h.elim)⟩
set_option maxRecDepth 100000 in
set_option maxHeartbeats 8000000 in
theorem makes_nlo (ct base sl no : Int) (n : Nat) (hct : ct ≤ 1000) (hn : count ct = n) (h1 : 1 ≤ sl) (h2 : sl ≤ 64) (hs : no < 1) (w : World) :
    Calls Try.prog 3 #[.int .i64 ct, .int .i64 base, .int .i64 sl, .int .i64 no] w fun e w' => e = .returned (.bool true) ∧ Below w.heap.size w w' := by
  have nw := Lib.hid (fun w => _root_.Go.Proofs.Ytmkcmncbiancgaa.new_any ct w)
  have rn := Lib.hid (fun w => _root_.Go.Proofs.Ytmkcmncbiancgaa.rnew_any ct w)
  rw [hn] at nw rn
  have hle : (n : Int) ≤ 1000 := by unfold count at hn; omega
  have hn' := Lib.hid hn
  have mk := Lib.hid (fun (w : World) (hb rb : Nat) (t : Int) (_ : MemAt w hb rb (fillN n n) t) => pmake_bad w hb base sl no (.inr (.inl hs)))
  have mn := Lib.hid (fun w => pmake_nil w base sl no)
  have sz := Lib.hid (fun w => psize_no w sl no (.inr (.inl hs)))
  have g1 : decide (1 ≤ sl) = true := by simp; omega
  have g2 : decide (sl ≤ 64) = true := by simp; omega
  have g7 : decide (1 ≤ no) = false := by simp; omega
  clear hs h1 h2
  clear hn
  go_enter Try.func3, Try.ntmps3
  go_wp2_with (first
    | (go_at_call 8; (with_reducible refine (alive_any _).mono ?_); rintro e w1 ⟨rfl, o1⟩)
    | (go_at_call 9; (with_reducible refine (nw.out _).mono ?_); rintro e w2 ⟨rfl, m2, o2⟩))
  have O2 := Lib.hid o2
  have O1 := Lib.hid o1
  have b1 := Lib.hid o1.size
  rw [← fillN_zero] at m2
  have M2 := Lib.hid m2
  clear o1 o2 m2
  generalize w1.heap.size = B1 at *
  go_loopw [10] (fun s3 wr => ∃ k : Nat, k ≤ n ∧ s3 = .int .i64 (k : Int) ∧ Hid (MemAt wr (B1 + 1) B1 (fillN n k) (k : Int)) ∧ Hid (Only (Blk (B1 + 1) B1) w2 wr))
    (fun s3 _ => n - (intOf s3).toNat)
  case atStart => exact ⟨0, Nat.zero_le _, rfl, M2, Lib.hid (Only.refl _ _)⟩
  case round =>
    obtain ⟨k, hk, rfl, hM, hO⟩ := hrel
    have ln := Lib.hid (len_any hM.out)
    rw [fillN_length] at ln
    by_cases hkn : k < n
    · have hki : (k : Int) < (n : Int) := by omega
      have st := Lib.hid (store_yes hM.out k 99 (by rw [fillN_length]; exact hkn) (by omega) (by omega))
      rw [fillN_set] at st
      clear hk hkn
      go_wp2_with (first
        | (go_at_call 10; (with_reducible refine (ln.out).mono ?_); rintro e w3 ⟨rfl, rfl⟩)
        | (go_at_call 11; (with_reducible refine (st.out).mono ?_); rintro e w3 ⟨rfl, m3, o3⟩))
      have M3 := Lib.hid m3
      have O3 := Lib.hid o3
      clear m3 o3
      go_roundw
      case rel => exact ⟨k + 1, by omega, by go_num, M3, Lib.hid (hO.out.trans O3.out)⟩
      case measure => simp [intOf]; omega
    · obtain rfl : k = n := by omega
      have hki : ¬ ((k : Int) < (k : Int)) := by omega
      clear hk hkn
      go_wp2_with (first
        | (go_at_call 10; (with_reducible refine (ln.out).mono ?_); rintro e w3 ⟨rfl, rfl⟩)
        | (go_at_call 12; (with_reducible refine (mk.out _ _ _ _ hM.out).mono ?_); rintro e w5 ⟨rfl, p5⟩)
        | (go_at_call 12; (with_reducible refine (mn.out _).mono ?_); rintro e w6 ⟨rfl, p6⟩)
        | (go_at_call 13; (with_reducible refine (sz.out _).mono ?_); rintro e w7 ⟨rfl, rfl⟩)
        | (go_at_call 14; (with_reducible refine (rn.out _).mono ?_); rintro e w8 ⟨rfl, r8, o8⟩))
      have R8 := Lib.hid r8
      have hs6 := (p5.trans p6).size
      have O8 := Lib.hid ((p5.trans p6).trans o8)
      have s8 := o8.size
      rw [← fillN_zero] at R8
      clear r8 o8
      have M8 := Lib.hid (hM.out.keep O8.out (fun h => h) (fun h => h))
      have O9 := Lib.hid (((O1.out.trans O2.out).then hO.out (fun i hi hl => by have := b1.out; rcases hi with e | e <;> omega)).trans O8.out)
      have L4 := Lib.hid (And.intro (Nat.lt_of_lt_of_le hM.out.lt_hb hs6) (Nat.lt_of_lt_of_le hM.out.lt_rb hs6))
      clear p5 p6 hs6
      generalize w6.heap.size = B2 at *
      clear s8 hO hM ln O8
      have J := Lib.hid (And.intro M8.out O9.out)
      clear M8 O9
      go_loopw [17] (fun s3 ws => ∃ i : Nat, i ≤ k ∧ s3 = .int .i64 (i : Int) ∧ Hid (RefAt ws (B2 + 1) B2 (fillN k i) 0) ∧ Hid (Only (Blk (B2 + 1) B2) w8 ws))
        (fun s3 _ => k - (intOf s3).toNat)
      case atStart => exact ⟨0, Nat.zero_le _, rfl, R8, Lib.hid (Only.refl _ _)⟩
      case round =>
        obtain ⟨i, hi, rfl, hR, hP⟩ := hrel
        have c0 := hR.out.c0
        rw [fillN_length] at c0
        by_cases hik : i < k
        · have hii : (i : Int) < (k : Int) := by omega
          have ci := hR.out.ci i (by rw [fillN_length]; exact hik)
          have fi := hR.out.fi i
          obtain ⟨x, hx⟩ : ∃ x, (fillN k i).getD i 0 = x := ⟨_, rfl⟩
          rw [hx] at ci
          have R9 := Lib.hid (hR.out.store i 99)
          rw [fillN_set] at R9
          have P9 := Lib.hid (hP.out.setCell (p := ⟨B2, i, none⟩) (Blk.r (B2 + 1) B2) (.int .u64 99))
          clear hi hik hx
          go_wp2
          go_roundw
          case rel => exact ⟨i + 1, by omega, by go_num, R9, P9⟩
          case measure => simp [intOf]; omega
        · obtain rfl : i = k := by omega
          have hii : ¬ ((i : Int) < (i : Int)) := by omega
          clear hi hik
          have K1 := Lib.hid (J.out.1.keep hP.out (fun h => by have := L4.out.1; rcases h with e | e <;> omega) (fun h => by have := L4.out.2; rcases h with e | e <;> omega))
          have K2 := Lib.hid (J.out.2.then hP.out (fun q hq hl => by have := b1.out; have := L4.out.1; rcases hq with e | e <;> omega))

          have hlen : Hid ((fillN i i).length = i) := Lib.hid (by rw [fillN_length])
          have al := Lib.hid (fun n => all_any (K1.out.drewN n) (by rw [hlen.out]; omega))
          have sm := Lib.hid (fun (w : World) (ra rc : Nat) h1 h2 => same_yes w ra rc (fillN i i) h1 h2 (by rw [hlen.out]; omega))
          rw [hlen.out] at al sm
          go_wp2
          go_region_held3 (fun w' => w'.cell? ⟨B2 + 1, 0, none⟩ = some (.slice (some ⟨B2, 0, none⟩) i i))
            (first | exact c0 | exact k0 | exact j0 | go_keep)
            (first
              | (go_at_call 16; refine (al.out _).mono ?_; rintro e w5 ⟨rfl, h5, z5, o5⟩; have q5 := (hR.out.drewN _).keep o5 (fun h => h) (fun h => h); have k0 := q5.c0; rw [hlen.out] at k0)
              | (go_at_call 15; refine (sm.out _ _ _ h5 q5.row).mono ?_; rintro e w6 ⟨rfl, o6⟩; have q6 := q5.keep o6 (fun h => h) (fun h => h); have j0 := q6.c0; rw [hlen.out] at j0))
          go_wp2
          go_ret
          exact ⟨rfl, (((K2.out.drewN _).trans o5).trans o6).below (Nat.le_refl _) (fun _ h => h.elim)⟩
set_option maxRecDepth 100000 in
set_option maxHeartbeats 8000000 in
theorem makes_nhi (ct base sl no : Int) (n : Nat) (hct : ct ≤ 1000) (hn : count ct = n) (h1 : 1 ≤ sl) (h2 : sl ≤ 64) (hs : 64 < no) (w : World) :
    Calls Try.prog 3 #[.int .i64 ct, .int .i64 base, .int .i64 sl, .int .i64 no] w fun e w' => e = .returned (.bool true) ∧ Below w.heap.size w w' := by
  have nw := Lib.hid (fun w => _root_.Go.Proofs.Ytmkcmncbiancgaa.new_any ct w)
  have rn := Lib.hid (fun w => _root_.Go.Proofs.Ytmkcmncbiancgaa.rnew_any ct w)
  rw [hn] at nw rn
  have hle : (n : Int) ≤ 1000 := by unfold count at hn; omega
  have hn' := Lib.hid hn
  have mk := Lib.hid (fun (w : World) (hb rb : Nat) (t : Int) (_ : MemAt w hb rb (fillN n n) t) => pmake_bad w hb base sl no (.inr (.inr hs)))
  have mn := Lib.hid (fun w => pmake_nil w base sl no)
  have sz := Lib.hid (fun w => psize_no w sl no (.inr (.inr hs)))
  have g1 : decide (1 ≤ sl) = true := by simp; omega
  have g2 : decide (sl ≤ 64) = true := by simp; omega
  have g7 : decide (1 ≤ no) = true := by simp; omega
  have g8 : decide (no ≤ 64) = false := by simp; omega
  clear hs h1 h2
  clear hn
  go_enter Try.func3, Try.ntmps3
  go_wp2_with (first
    | (go_at_call 8; (with_reducible refine (alive_any _).mono ?_); rintro e w1 ⟨rfl, o1⟩)
    | (go_at_call 9; (with_reducible refine (nw.out _).mono ?_); rintro e w2 ⟨rfl, m2, o2⟩))
  have O2 := Lib.hid o2
  have O1 := Lib.hid o1
  have b1 := Lib.hid o1.size
  rw [← fillN_zero] at m2
  have M2 := Lib.hid m2
  clear o1 o2 m2
  generalize w1.heap.size = B1 at *
  go_loopw [10] (fun s3 wr => ∃ k : Nat, k ≤ n ∧ s3 = .int .i64 (k : Int) ∧ Hid (MemAt wr (B1 + 1) B1 (fillN n k) (k : Int)) ∧ Hid (Only (Blk (B1 + 1) B1) w2 wr))
    (fun s3 _ => n - (intOf s3).toNat)
  case atStart => exact ⟨0, Nat.zero_le _, rfl, M2, Lib.hid (Only.refl _ _)⟩
  case round =>
    obtain ⟨k, hk, rfl, hM, hO⟩ := hrel
    have ln := Lib.hid (len_any hM.out)
    rw [fillN_length] at ln
    by_cases hkn : k < n
    · have hki : (k : Int) < (n : Int) := by omega
      have st := Lib.hid (store_yes hM.out k 99 (by rw [fillN_length]; exact hkn) (by omega) (by omega))
      rw [fillN_set] at st
      clear hk hkn
      go_wp2_with (first
        | (go_at_call 10; (with_reducible refine (ln.out).mono ?_); rintro e w3 ⟨rfl, rfl⟩)
        | (go_at_call 11; (with_reducible refine (st.out).mono ?_); rintro e w3 ⟨rfl, m3, o3⟩))
      have M3 := Lib.hid m3
      have O3 := Lib.hid o3
      clear m3 o3
      go_roundw
      case rel => exact ⟨k + 1, by omega, by go_num, M3, Lib.hid (hO.out.trans O3.out)⟩
      case measure => simp [intOf]; omega
    · obtain rfl : k = n := by omega
      have hki : ¬ ((k : Int) < (k : Int)) := by omega
      clear hk hkn
      go_wp2_with (first
        | (go_at_call 10; (with_reducible refine (ln.out).mono ?_); rintro e w3 ⟨rfl, rfl⟩)
        | (go_at_call 12; (with_reducible refine (mk.out _ _ _ _ hM.out).mono ?_); rintro e w5 ⟨rfl, p5⟩)
        | (go_at_call 12; (with_reducible refine (mn.out _).mono ?_); rintro e w6 ⟨rfl, p6⟩)
        | (go_at_call 13; (with_reducible refine (sz.out _).mono ?_); rintro e w7 ⟨rfl, rfl⟩)
        | (go_at_call 14; (with_reducible refine (rn.out _).mono ?_); rintro e w8 ⟨rfl, r8, o8⟩))
      have R8 := Lib.hid r8
      have hs6 := (p5.trans p6).size
      have O8 := Lib.hid ((p5.trans p6).trans o8)
      have s8 := o8.size
      rw [← fillN_zero] at R8
      clear r8 o8
      have M8 := Lib.hid (hM.out.keep O8.out (fun h => h) (fun h => h))
      have O9 := Lib.hid (((O1.out.trans O2.out).then hO.out (fun i hi hl => by have := b1.out; rcases hi with e | e <;> omega)).trans O8.out)
      have L4 := Lib.hid (And.intro (Nat.lt_of_lt_of_le hM.out.lt_hb hs6) (Nat.lt_of_lt_of_le hM.out.lt_rb hs6))
      clear p5 p6 hs6
      generalize w6.heap.size = B2 at *
      clear s8 hO hM ln O8
      have J := Lib.hid (And.intro M8.out O9.out)
      clear M8 O9
      go_loopw [17] (fun s3 ws => ∃ i : Nat, i ≤ k ∧ s3 = .int .i64 (i : Int) ∧ Hid (RefAt ws (B2 + 1) B2 (fillN k i) 0) ∧ Hid (Only (Blk (B2 + 1) B2) w8 ws))
        (fun s3 _ => k - (intOf s3).toNat)
      case atStart => exact ⟨0, Nat.zero_le _, rfl, R8, Lib.hid (Only.refl _ _)⟩
      case round =>
        obtain ⟨i, hi, rfl, hR, hP⟩ := hrel
        have c0 := hR.out.c0
        rw [fillN_length] at c0
        by_cases hik : i < k
        · have hii : (i : Int) < (k : Int) := by omega
          have ci := hR.out.ci i (by rw [fillN_length]; exact hik)
          have fi := hR.out.fi i
          obtain ⟨x, hx⟩ : ∃ x, (fillN k i).getD i 0 = x := ⟨_, rfl⟩
          rw [hx] at ci
          have R9 := Lib.hid (hR.out.store i 99)
          rw [fillN_set] at R9
          have P9 := Lib.hid (hP.out.setCell (p := ⟨B2, i, none⟩) (Blk.r (B2 + 1) B2) (.int .u64 99))
          clear hi hik hx
          go_wp2
          go_roundw
          case rel => exact ⟨i + 1, by omega, by go_num, R9, P9⟩
          case measure => simp [intOf]; omega
        · obtain rfl : i = k := by omega
          have hii : ¬ ((i : Int) < (i : Int)) := by omega
          clear hi hik
          have K1 := Lib.hid (J.out.1.keep hP.out (fun h => by have := L4.out.1; rcases h with e | e <;> omega) (fun h => by have := L4.out.2; rcases h with e | e <;> omega))
          have K2 := Lib.hid (J.out.2.then hP.out (fun q hq hl => by have := b1.out; have := L4.out.1; rcases hq with e | e <;> omega))

          have hlen : Hid ((fillN i i).length = i) := Lib.hid (by rw [fillN_length])
          have al := Lib.hid (fun n => all_any (K1.out.drewN n) (by rw [hlen.out]; omega))
          have sm := Lib.hid (fun (w : World) (ra rc : Nat) h1 h2 => same_yes w ra rc (fillN i i) h1 h2 (by rw [hlen.out]; omega))
          rw [hlen.out] at al sm
          go_wp2
          go_region_held3 (fun w' => w'.cell? ⟨B2 + 1, 0, none⟩ = some (.slice (some ⟨B2, 0, none⟩) i i))
            (first | exact c0 | exact k0 | exact j0 | go_keep)
            (first
              | (go_at_call 16; refine (al.out _).mono ?_; rintro e w5 ⟨rfl, h5, z5, o5⟩; have q5 := (hR.out.drewN _).keep o5 (fun h => h) (fun h => h); have k0 := q5.c0; rw [hlen.out] at k0)
              | (go_at_call 15; refine (sm.out _ _ _ h5 q5.row).mono ?_; rintro e w6 ⟨rfl, o6⟩; have q6 := q5.keep o6 (fun h => h) (fun h => h); have j0 := q6.c0; rw [hlen.out] at j0))
          go_wp2
          go_ret
          exact ⟨rfl, (((K2.out.drewN _).trans o5).trans o6).below (Nat.le_refl _) (fun _ h => h.elim)⟩
set_option maxRecDepth 100000 in
set_option maxHeartbeats 8000000 in
theorem makes_neg (ct base : Int) (c d n : Nat) (hct : ct ≤ 1000) (hn : count ct = n) (hc : 0 < c) (hc2 : c ≤ 64) (hd : 0 < d) (hd2 : d ≤ 64) (hs : base < 0) (w : World) :
    Calls Try.prog 3 #[.int .i64 ct, .int .i64 base, .int .i64 (c : Int), .int .i64 (d : Int)] w fun e w' => e = .returned (.bool true) ∧ Below w.heap.size w w' := by
  have nw := Lib.hid (fun w => _root_.Go.Proofs.Ytmkcmncbiancgaa.new_any ct w)
  have rn := Lib.hid (fun w => _root_.Go.Proofs.Ytmkcmncbiancgaa.rnew_any ct w)
  rw [hn] at nw rn
  have hle : (n : Int) ≤ 1000 := by unfold count at hn; omega
  have hn' := Lib.hid hn
  have mk := Lib.hid (fun (w : World) (hb rb : Nat) (t : Int) (h : MemAt w hb rb (fillN n n) t) => pmake_no (c := c) (d := d) h base hc hc2 hd hd2 (by rw [fillN_length]; omega) (by rw [fillN_length]; omega))
  have mn := Lib.hid (fun w => pmake_nil w base (c : Int) (d : Int))
  have sz := Lib.hid (fun w => psize_yes w c d hc hc2 hd hd2)
  have g1 : decide (1 ≤ (c : Int)) = true := by simp; omega
  have g2 : decide ((c : Int) ≤ 64) = true := by simp; omega
  have g7 : decide (1 ≤ (d : Int)) = true := by simp; omega
  have g8 : decide ((d : Int) ≤ 64) = true := by simp; omega
  have e1 : IntKind.i64.wrap (6 + 2 * (c : Int)) = 6 + 2 * (c : Int) := by rw [IntKind.wrap_i64]; omega
  have e2 : IntKind.i64.wrap (6 + 2 * (c : Int) + 2 * (d : Int)) = 6 + 2 * (c : Int) + 2 * (d : Int) := by rw [IntKind.wrap_i64]; omega
  have e3 : IntKind.i64.wrap (2 * (c : Int)) = 2 * (c : Int) := by rw [IntKind.wrap_i64]; omega
  have e4 : IntKind.i64.wrap (2 * (d : Int)) = 2 * (d : Int) := by rw [IntKind.wrap_i64]; omega
  have e5 : IntKind.i64.wrap ((n : Int) - (6 + 2 * (c : Int) + 2 * (d : Int))) = (n : Int) - (6 + 2 * (c : Int) + 2 * (d : Int)) := by rw [IntKind.wrap_i64]; omega
  have g9 : (d : Int) ≤ 64 := by omega
  have g3 : ((6 + 2 * (c : Int) + 2 * (d : Int)) == 0) = false := by simp; omega
  have g4 : decide (base < 0) = true := by simp; omega
  have g5 : (c : Int) ≤ 64 := by omega
  clear hs hc hc2 hd hd2
  clear hn
  go_enter Try.func3, Try.ntmps3
  go_wp2_with (first
    | (go_at_call 8; (with_reducible refine (alive_any _).mono ?_); rintro e w1 ⟨rfl, o1⟩)
    | (go_at_call 9; (with_reducible refine (nw.out _).mono ?_); rintro e w2 ⟨rfl, m2, o2⟩))
  have O2 := Lib.hid o2
  have O1 := Lib.hid o1
  have b1 := Lib.hid o1.size
  rw [← fillN_zero] at m2
  have M2 := Lib.hid m2
  clear o1 o2 m2
  generalize w1.heap.size = B1 at *
  go_loopw [10] (fun s3 wr => ∃ k : Nat, k ≤ n ∧ s3 = .int .i64 (k : Int) ∧ Hid (MemAt wr (B1 + 1) B1 (fillN n k) (k : Int)) ∧ Hid (Only (Blk (B1 + 1) B1) w2 wr))
    (fun s3 _ => n - (intOf s3).toNat)
  case atStart => exact ⟨0, Nat.zero_le _, rfl, M2, Lib.hid (Only.refl _ _)⟩
  case round =>
    obtain ⟨k, hk, rfl, hM, hO⟩ := hrel
    have ln := Lib.hid (len_any hM.out)
    rw [fillN_length] at ln
    by_cases hkn : k < n
    · have hki : (k : Int) < (n : Int) := by omega
      have st := Lib.hid (store_yes hM.out k 99 (by rw [fillN_length]; exact hkn) (by omega) (by omega))
      rw [fillN_set] at st
      clear hk hkn
      go_wp2_with (first
        | (go_at_call 10; (with_reducible refine (ln.out).mono ?_); rintro e w3 ⟨rfl, rfl⟩)
        | (go_at_call 11; (with_reducible refine (st.out).mono ?_); rintro e w3 ⟨rfl, m3, o3⟩))
      have M3 := Lib.hid m3
      have O3 := Lib.hid o3
      clear m3 o3
      go_roundw
      case rel => exact ⟨k + 1, by omega, by go_num, M3, Lib.hid (hO.out.trans O3.out)⟩
      case measure => simp [intOf]; omega
    · obtain rfl : k = n := by omega
      have hki : ¬ ((k : Int) < (k : Int)) := by omega
      clear hk hkn
      go_wp2_with (first
        | (go_at_call 10; (with_reducible refine (ln.out).mono ?_); rintro e w3 ⟨rfl, rfl⟩)
        | (go_at_call 12; (with_reducible refine (mk.out _ _ _ _ hM.out).mono ?_); rintro e w5 ⟨rfl, p5⟩)
        | (go_at_call 12; (with_reducible refine (mn.out _).mono ?_); rintro e w6 ⟨rfl, p6⟩)
        | (go_at_call 13; (with_reducible refine (sz.out _).mono ?_); rintro e w7 ⟨rfl, rfl⟩)
        | (go_at_call 14; (with_reducible refine (rn.out _).mono ?_); rintro e w8 ⟨rfl, r8, o8⟩))
      have R8 := Lib.hid r8
      have hs6 := (p5.trans p6).size
      have O8 := Lib.hid ((p5.trans p6).trans o8)
      have s8 := o8.size
      rw [← fillN_zero] at R8
      clear r8 o8
      have M8 := Lib.hid (hM.out.keep O8.out (fun h => h) (fun h => h))
      have O9 := Lib.hid (((O1.out.trans O2.out).then hO.out (fun i hi hl => by have := b1.out; rcases hi with e | e <;> omega)).trans O8.out)
      have L4 := Lib.hid (And.intro (Nat.lt_of_lt_of_le hM.out.lt_hb hs6) (Nat.lt_of_lt_of_le hM.out.lt_rb hs6))
      clear p5 p6 hs6
      generalize w6.heap.size = B2 at *
      clear s8 hO hM ln O8
      have J := Lib.hid (And.intro M8.out O9.out)
      clear M8 O9
      go_loopw [17] (fun s3 ws => ∃ i : Nat, i ≤ k ∧ s3 = .int .i64 (i : Int) ∧ Hid (RefAt ws (B2 + 1) B2 (fillN k i) 0) ∧ Hid (Only (Blk (B2 + 1) B2) w8 ws))
        (fun s3 _ => k - (intOf s3).toNat)
      case atStart => exact ⟨0, Nat.zero_le _, rfl, R8, Lib.hid (Only.refl _ _)⟩
      case round =>
        obtain ⟨i, hi, rfl, hR, hP⟩ := hrel
        have c0 := hR.out.c0
        rw [fillN_length] at c0
        by_cases hik : i < k
        · have hii : (i : Int) < (k : Int) := by omega
          have ci := hR.out.ci i (by rw [fillN_length]; exact hik)
          have fi := hR.out.fi i
          obtain ⟨x, hx⟩ : ∃ x, (fillN k i).getD i 0 = x := ⟨_, rfl⟩
          rw [hx] at ci
          have R9 := Lib.hid (hR.out.store i 99)
          rw [fillN_set] at R9
          have P9 := Lib.hid (hP.out.setCell (p := ⟨B2, i, none⟩) (Blk.r (B2 + 1) B2) (.int .u64 99))
          clear hi hik hx
          go_wp2
          go_roundw
          case rel => exact ⟨i + 1, by omega, by go_num, R9, P9⟩
          case measure => simp [intOf]; omega
        · obtain rfl : i = k := by omega
          have hii : ¬ ((i : Int) < (i : Int)) := by omega
          clear hi hik
          have K1 := Lib.hid (J.out.1.keep hP.out (fun h => by have := L4.out.1; rcases h with e | e <;> omega) (fun h => by have := L4.out.2; rcases h with e | e <;> omega))
          have K2 := Lib.hid (J.out.2.then hP.out (fun q hq hl => by have := b1.out; have := L4.out.1; rcases hq with e | e <;> omega))

          have hlen : Hid ((fillN i i).length = i) := Lib.hid (by rw [fillN_length])
          have al := Lib.hid (fun n => all_any (K1.out.drewN n) (by rw [hlen.out]; omega))
          have sm := Lib.hid (fun (w : World) (ra rc : Nat) h1 h2 => same_yes w ra rc (fillN i i) h1 h2 (by rw [hlen.out]; omega))
          rw [hlen.out] at al sm
          go_wp2
          go_region_held3 (fun w' => w'.cell? ⟨B2 + 1, 0, none⟩ = some (.slice (some ⟨B2, 0, none⟩) i i))
            (first | exact c0 | exact k0 | exact j0 | go_keep)
            (first
              | (go_at_call 16; refine (al.out _).mono ?_; rintro e w5 ⟨rfl, h5, z5, o5⟩; have q5 := (hR.out.drewN _).keep o5 (fun h => h) (fun h => h); have k0 := q5.c0; rw [hlen.out] at k0)
              | (go_at_call 15; refine (sm.out _ _ _ h5 q5.row).mono ?_; rintro e w6 ⟨rfl, o6⟩; have q6 := q5.keep o6 (fun h => h) (fun h => h); have j0 := q6.c0; rw [hlen.out] at j0))
          go_wp2
          go_ret
          exact ⟨rfl, (((K2.out.drewN _).trans o5).trans o6).below (Nat.le_refl _) (fun _ h => h.elim)⟩
set_option maxRecDepth 100000 in
set_option maxHeartbeats 8000000 in
theorem makes_far (ct base : Int) (c d n : Nat) (hct : ct ≤ 1000) (hn : count ct = n) (hc : 0 < c) (hc2 : c ≤ 64) (hd : 0 < d) (hd2 : d ≤ 64) (hs : ¬ base < 0 ∧ (n : Int) - (6 + 2 * (c : Int) + 2 * (d : Int)) < base) (w : World) :
    Calls Try.prog 3 #[.int .i64 ct, .int .i64 base, .int .i64 (c : Int), .int .i64 (d : Int)] w fun e w' => e = .returned (.bool true) ∧ Below w.heap.size w w' := by
  have nw := Lib.hid (fun w => _root_.Go.Proofs.Ytmkcmncbiancgaa.new_any ct w)
  have rn := Lib.hid (fun w => _root_.Go.Proofs.Ytmkcmncbiancgaa.rnew_any ct w)
  rw [hn] at nw rn
  have hle : (n : Int) ≤ 1000 := by unfold count at hn; omega
  have hn' := Lib.hid hn
  have mk := Lib.hid (fun (w : World) (hb rb : Nat) (t : Int) (h : MemAt w hb rb (fillN n n) t) => pmake_no (c := c) (d := d) h base hc hc2 hd hd2 (by rw [fillN_length]; omega) (by rw [fillN_length]; omega))
  have mn := Lib.hid (fun w => pmake_nil w base (c : Int) (d : Int))
  have sz := Lib.hid (fun w => psize_yes w c d hc hc2 hd hd2)
  have g1 : decide (1 ≤ (c : Int)) = true := by simp; omega
  have g2 : decide ((c : Int) ≤ 64) = true := by simp; omega
  have g7 : decide (1 ≤ (d : Int)) = true := by simp; omega
  have g8 : decide ((d : Int) ≤ 64) = true := by simp; omega
  have e1 : IntKind.i64.wrap (6 + 2 * (c : Int)) = 6 + 2 * (c : Int) := by rw [IntKind.wrap_i64]; omega
  have e2 : IntKind.i64.wrap (6 + 2 * (c : Int) + 2 * (d : Int)) = 6 + 2 * (c : Int) + 2 * (d : Int) := by rw [IntKind.wrap_i64]; omega
  have e3 : IntKind.i64.wrap (2 * (c : Int)) = 2 * (c : Int) := by rw [IntKind.wrap_i64]; omega
  have e4 : IntKind.i64.wrap (2 * (d : Int)) = 2 * (d : Int) := by rw [IntKind.wrap_i64]; omega
  have e5 : IntKind.i64.wrap ((n : Int) - (6 + 2 * (c : Int) + 2 * (d : Int))) = (n : Int) - (6 + 2 * (c : Int) + 2 * (d : Int)) := by rw [IntKind.wrap_i64]; omega
  have g9 : (d : Int) ≤ 64 := by omega
  have g3 : ((6 + 2 * (c : Int) + 2 * (d : Int)) == 0) = false := by simp; omega
  have g4 : decide (base < 0) = false := by simp; omega
  have g6 : decide ((n : Int) - (6 + 2 * (c : Int) + 2 * (d : Int)) < base) = true := by simp; omega
  have g5 : (c : Int) ≤ 64 := by omega
  clear hs hc hc2 hd hd2
  clear hn
  go_enter Try.func3, Try.ntmps3
  go_wp2_with (first
    | (go_at_call 8; (with_reducible refine (alive_any _).mono ?_); rintro e w1 ⟨rfl, o1⟩)
    | (go_at_call 9; (with_reducible refine (nw.out _).mono ?_); rintro e w2 ⟨rfl, m2, o2⟩))
  have O2 := Lib.hid o2
  have O1 := Lib.hid o1
  have b1 := Lib.hid o1.size
  rw [← fillN_zero] at m2
  have M2 := Lib.hid m2
  clear o1 o2 m2
  generalize w1.heap.size = B1 at *
  go_loopw [10] (fun s3 wr => ∃ k : Nat, k ≤ n ∧ s3 = .int .i64 (k : Int) ∧ Hid (MemAt wr (B1 + 1) B1 (fillN n k) (k : Int)) ∧ Hid (Only (Blk (B1 + 1) B1) w2 wr))
    (fun s3 _ => n - (intOf s3).toNat)
  case atStart => exact ⟨0, Nat.zero_le _, rfl, M2, Lib.hid (Only.refl _ _)⟩
  case round =>
    obtain ⟨k, hk, rfl, hM, hO⟩ := hrel
    have ln := Lib.hid (len_any hM.out)
    rw [fillN_length] at ln
    by_cases hkn : k < n
    · have hki : (k : Int) < (n : Int) := by omega
      have st := Lib.hid (store_yes hM.out k 99 (by rw [fillN_length]; exact hkn) (by omega) (by omega))
      rw [fillN_set] at st
      clear hk hkn
      go_wp2_with (first
        | (go_at_call 10; (with_reducible refine (ln.out).mono ?_); rintro e w3 ⟨rfl, rfl⟩)
        | (go_at_call 11; (with_reducible refine (st.out).mono ?_); rintro e w3 ⟨rfl, m3, o3⟩))
      have M3 := Lib.hid m3
      have O3 := Lib.hid o3
      clear m3 o3
      go_roundw
      case rel => exact ⟨k + 1, by omega, by go_num, M3, Lib.hid (hO.out.trans O3.out)⟩
      case measure => simp [intOf]; omega
    · obtain rfl : k = n := by omega
      have hki : ¬ ((k : Int) < (k : Int)) := by omega
      clear hk hkn
      go_wp2_with (first
        | (go_at_call 10; (with_reducible refine (ln.out).mono ?_); rintro e w3 ⟨rfl, rfl⟩)
        | (go_at_call 12; (with_reducible refine (mk.out _ _ _ _ hM.out).mono ?_); rintro e w5 ⟨rfl, p5⟩)
        | (go_at_call 12; (with_reducible refine (mn.out _).mono ?_); rintro e w6 ⟨rfl, p6⟩)
        | (go_at_call 13; (with_reducible refine (sz.out _).mono ?_); rintro e w7 ⟨rfl, rfl⟩)
        | (go_at_call 14; (with_reducible refine (rn.out _).mono ?_); rintro e w8 ⟨rfl, r8, o8⟩))
      have R8 := Lib.hid r8
      have hs6 := (p5.trans p6).size
      have O8 := Lib.hid ((p5.trans p6).trans o8)
      have s8 := o8.size
      rw [← fillN_zero] at R8
      clear r8 o8
      have M8 := Lib.hid (hM.out.keep O8.out (fun h => h) (fun h => h))
      have O9 := Lib.hid (((O1.out.trans O2.out).then hO.out (fun i hi hl => by have := b1.out; rcases hi with e | e <;> omega)).trans O8.out)
      have L4 := Lib.hid (And.intro (Nat.lt_of_lt_of_le hM.out.lt_hb hs6) (Nat.lt_of_lt_of_le hM.out.lt_rb hs6))
      clear p5 p6 hs6
      generalize w6.heap.size = B2 at *
      clear s8 hO hM ln O8
      have J := Lib.hid (And.intro M8.out O9.out)
      clear M8 O9
      go_loopw [17] (fun s3 ws => ∃ i : Nat, i ≤ k ∧ s3 = .int .i64 (i : Int) ∧ Hid (RefAt ws (B2 + 1) B2 (fillN k i) 0) ∧ Hid (Only (Blk (B2 + 1) B2) w8 ws))
        (fun s3 _ => k - (intOf s3).toNat)
      case atStart => exact ⟨0, Nat.zero_le _, rfl, R8, Lib.hid (Only.refl _ _)⟩
      case round =>
        obtain ⟨i, hi, rfl, hR, hP⟩ := hrel
        have c0 := hR.out.c0
        rw [fillN_length] at c0
        by_cases hik : i < k
        · have hii : (i : Int) < (k : Int) := by omega
          have ci := hR.out.ci i (by rw [fillN_length]; exact hik)
          have fi := hR.out.fi i
          obtain ⟨x, hx⟩ : ∃ x, (fillN k i).getD i 0 = x := ⟨_, rfl⟩
          rw [hx] at ci
          have R9 := Lib.hid (hR.out.store i 99)
          rw [fillN_set] at R9
          have P9 := Lib.hid (hP.out.setCell (p := ⟨B2, i, none⟩) (Blk.r (B2 + 1) B2) (.int .u64 99))
          clear hi hik hx
          go_wp2
          go_roundw
          case rel => exact ⟨i + 1, by omega, by go_num, R9, P9⟩
          case measure => simp [intOf]; omega
        · obtain rfl : i = k := by omega
          have hii : ¬ ((i : Int) < (i : Int)) := by omega
          clear hi hik
          have K1 := Lib.hid (J.out.1.keep hP.out (fun h => by have := L4.out.1; rcases h with e | e <;> omega) (fun h => by have := L4.out.2; rcases h with e | e <;> omega))
          have K2 := Lib.hid (J.out.2.then hP.out (fun q hq hl => by have := b1.out; have := L4.out.1; rcases hq with e | e <;> omega))

          have hlen : Hid ((fillN i i).length = i) := Lib.hid (by rw [fillN_length])
          have al := Lib.hid (fun n => all_any (K1.out.drewN n) (by rw [hlen.out]; omega))
          have sm := Lib.hid (fun (w : World) (ra rc : Nat) h1 h2 => same_yes w ra rc (fillN i i) h1 h2 (by rw [hlen.out]; omega))
          rw [hlen.out] at al sm
          go_wp2
          go_region_held3 (fun w' => w'.cell? ⟨B2 + 1, 0, none⟩ = some (.slice (some ⟨B2, 0, none⟩) i i))
            (first | exact c0 | exact k0 | exact j0 | go_keep)
            (first
              | (go_at_call 16; refine (al.out _).mono ?_; rintro e w5 ⟨rfl, h5, z5, o5⟩; have q5 := (hR.out.drewN _).keep o5 (fun h => h) (fun h => h); have k0 := q5.c0; rw [hlen.out] at k0)
              | (go_at_call 15; refine (sm.out _ _ _ h5 q5.row).mono ?_; rintro e w6 ⟨rfl, o6⟩; have q6 := q5.keep o6 (fun h => h) (fun h => h); have j0 := q6.c0; rw [hlen.out] at j0))
          go_wp2
          go_ret
          exact ⟨rfl, (((K2.out.drewN _).trans o5).trans o6).below (Nat.le_refl _) (fun _ h => h.elim)⟩
set_option maxRecDepth 100000 in
set_option maxHeartbeats 8000000 in
theorem makes_ok (ct : Int) (b c d n : Nat) (hct : ct ≤ 1000) (hn : count ct = n) (hc : 0 < c) (hc2 : c ≤ 64) (hd : 0 < d) (hd2 : d ≤ 64) (hs : b + 6 + 2 * c + 2 * d ≤ n) (w : World) :
    Calls Try.prog 3 #[.int .i64 ct, .int .i64 (b : Int), .int .i64 (c : Int), .int .i64 (d : Int)] w fun e w' => e = .returned (.bool true) ∧ Below w.heap.size w w' := by
  have nw := Lib.hid (fun w => _root_.Go.Proofs.Ytmkcmncbiancgaa.new_any ct w)
  have rn := Lib.hid (fun w => _root_.Go.Proofs.Ytmkcmncbiancgaa.rnew_any ct w)
  rw [hn] at nw rn
  have hle : (n : Int) ≤ 1000 := by unfold count at hn; omega
  have hn' := Lib.hid hn
  have mk := Lib.hid (fun (w : World) (hb rb : Nat) (t : Int) (h : MemAt w hb rb (fillN n n) t) (ht : 0 ≤ t ∧ t ≤ 1000) => pmake_yes (b := b) (c := c) (d := d) h ht.1 (by omega) hc hc2 hd hd2 (by rw [fillN_length]; omega) (by rw [fillN_length]; omega))
  have mn := Lib.hid (fun w => pmake_nil w (b : Int) (c : Int) (d : Int))
  have sz := Lib.hid (fun w => psize_yes w c d hc hc2 hd hd2)
  have ly := Lib.hid (fun (w : World) (hb rb : Nat) (t : Int) (h : RefAt w hb rb (fillN n n) t) => play_any h b c d (by omega) hc2 hd2 (by rw [fillN_length]; omega))
  have g1 : decide (1 ≤ (c : Int)) = true := by simp; omega
  have g2 : decide ((c : Int) ≤ 64) = true := by simp; omega
  have g7 : decide (1 ≤ (d : Int)) = true := by simp; omega
  have g8 : decide ((d : Int) ≤ 64) = true := by simp; omega
  have e1 : IntKind.i64.wrap (6 + 2 * (c : Int)) = 6 + 2 * (c : Int) := by rw [IntKind.wrap_i64]; omega
  have e2 : IntKind.i64.wrap (6 + 2 * (c : Int) + 2 * (d : Int)) = 6 + 2 * (c : Int) + 2 * (d : Int) := by rw [IntKind.wrap_i64]; omega
  have e3 : IntKind.i64.wrap (2 * (c : Int)) = 2 * (c : Int) := by rw [IntKind.wrap_i64]; omega
  have e4 : IntKind.i64.wrap (2 * (d : Int)) = 2 * (d : Int) := by rw [IntKind.wrap_i64]; omega
  have e5 : IntKind.i64.wrap ((n : Int) - (6 + 2 * (c : Int) + 2 * (d : Int))) = (n : Int) - (6 + 2 * (c : Int) + 2 * (d : Int)) := by rw [IntKind.wrap_i64]; omega
  have g9 : (d : Int) ≤ 64 := by omega
  have g3 : ((6 + 2 * (c : Int) + 2 * (d : Int)) == 0) = false := by simp; omega
  have g4 : decide ((b : Int) < 0) = false := by simp
  have g6 : decide ((n : Int) - (6 + 2 * (c : Int) + 2 * (d : Int)) < (b : Int)) = false := by simp; omega
  have g5 : (c : Int) ≤ 64 := by omega
  have hki2 : Hid (0 ≤ (n : Int) ∧ (n : Int) ≤ 1000) := Lib.hid (by omega)
  clear hs hc hc2 hd hd2
  clear hn
  go_enter Try.func3, Try.ntmps3
  go_wp2_with (first
    | (go_at_call 8; (with_reducible refine (alive_any _).mono ?_); rintro e w1 ⟨rfl, o1⟩)
    | (go_at_call 9; (with_reducible refine (nw.out _).mono ?_); rintro e w2 ⟨rfl, m2, o2⟩))
  have O2 := Lib.hid o2
  have O1 := Lib.hid o1
  have b1 := Lib.hid o1.size
  rw [← fillN_zero] at m2
  have M2 := Lib.hid m2
  clear o1 o2 m2
  generalize w1.heap.size = B1 at *
  go_loopw [10] (fun s3 wr => ∃ k : Nat, k ≤ n ∧ s3 = .int .i64 (k : Int) ∧ Hid (MemAt wr (B1 + 1) B1 (fillN n k) (k : Int)) ∧ Hid (Only (Blk (B1 + 1) B1) w2 wr))
    (fun s3 _ => n - (intOf s3).toNat)
  case atStart => exact ⟨0, Nat.zero_le _, rfl, M2, Lib.hid (Only.refl _ _)⟩
  case round =>
    obtain ⟨k, hk, rfl, hM, hO⟩ := hrel
    have ln := Lib.hid (len_any hM.out)
    rw [fillN_length] at ln
    by_cases hkn : k < n
    · have hki : (k : Int) < (n : Int) := by omega
      have st := Lib.hid (store_yes hM.out k 99 (by rw [fillN_length]; exact hkn) (by omega) (by omega))
      rw [fillN_set] at st
      clear hk hkn
      go_wp2_with (first
        | (go_at_call 10; (with_reducible refine (ln.out).mono ?_); rintro e w3 ⟨rfl, rfl⟩)
        | (go_at_call 11; (with_reducible refine (st.out).mono ?_); rintro e w3 ⟨rfl, m3, o3⟩))
      have M3 := Lib.hid m3
      have O3 := Lib.hid o3
      clear m3 o3
      go_roundw
      case rel => exact ⟨k + 1, by omega, by go_num, M3, Lib.hid (hO.out.trans O3.out)⟩
      case measure => simp [intOf]; omega
    · obtain rfl : k = n := by omega
      have hki : ¬ ((k : Int) < (k : Int)) := by omega
      clear hk hkn
      go_wp2_with (first
        | (go_at_call 10; (with_reducible refine (ln.out).mono ?_); rintro e w3 ⟨rfl, rfl⟩)
        | (go_at_call 12; (with_reducible refine (mk.out _ _ _ _ hM.out hki2.out).mono ?_); rintro e w4 ⟨gq, gm, gn, rfl, hq4⟩; obtain ⟨R4, z4, o4⟩ := hq4.out; clear hq4)
        | (go_at_call 12; (with_reducible refine (mn.out _).mono ?_); rintro e w6 ⟨rfl, p6⟩)
        | (go_at_call 13; (with_reducible refine (sz.out _).mono ?_); rintro e w7 ⟨rfl, rfl⟩)
        | (go_at_call 14; (with_reducible refine (rn.out _).mono ?_); rintro e w8 ⟨rfl, r8, o8⟩))
      have R8 := Lib.hid r8
      have hs6 := p6.size
      have O8 := Lib.hid (p6.trans o8)
      have s8 := o8.size
      rw [← fillN_zero] at R8
      clear r8 o8
      have M8 : Hid (MemAt w8 (B1 + 1) B1 _ _) := Lib.hid (R4.mem.keep O8.out (fun h => h) (fun h => h))
      have O9 := Lib.hid (((O1.out.trans O2.out).then (hO.out.trans o4) (fun i hi hl => by have := b1.out; rcases hi with e | e <;> omega)).trans O8.out)
      have L4 := Lib.hid (show B1 + 1 < w6.heap.size ∧ B1 < w6.heap.size from And.intro (Nat.lt_of_lt_of_le R4.mem.lt_hb hs6) (Nat.lt_of_lt_of_le R4.mem.lt_rb hs6))
      clear R4 o4 z4 p6 hs6
      generalize w6.heap.size = B2 at *
      clear s8 hO hM ln O8
      have J := Lib.hid (And.intro M8.out O9.out)
      clear M8 O9
      go_loopw [17] (fun s3 ws => ∃ i : Nat, i ≤ k ∧ s3 = .int .i64 (i : Int) ∧ Hid (RefAt ws (B2 + 1) B2 (fillN k i) 0) ∧ Hid (Only (Blk (B2 + 1) B2) w8 ws))
        (fun s3 _ => k - (intOf s3).toNat)
      case atStart => exact ⟨0, Nat.zero_le _, rfl, R8, Lib.hid (Only.refl _ _)⟩
      case round =>
        obtain ⟨i, hi, rfl, hR, hP⟩ := hrel
        have c0 := hR.out.c0
        rw [fillN_length] at c0
        by_cases hik : i < k
        · have hii : (i : Int) < (k : Int) := by omega
          have ci := hR.out.ci i (by rw [fillN_length]; exact hik)
          have fi := hR.out.fi i
          obtain ⟨x, hx⟩ : ∃ x, (fillN k i).getD i 0 = x := ⟨_, rfl⟩
          rw [hx] at ci
          have R9 := Lib.hid (hR.out.store i 99)
          rw [fillN_set] at R9
          have P9 := Lib.hid (hP.out.setCell (p := ⟨B2, i, none⟩) (Blk.r (B2 + 1) B2) (.int .u64 99))
          clear hi hik hx
          go_wp2
          go_roundw
          case rel => exact ⟨i + 1, by omega, by go_num, R9, P9⟩
          case measure => simp [intOf]; omega
        · obtain rfl : i = k := by omega
          have hii : ¬ ((i : Int) < (i : Int)) := by omega
          clear hi hik
          have K1 := Lib.hid (J.out.1.keep hP.out (fun h => by have := L4.out.1; rcases h with e | e <;> omega) (fun h => by have := L4.out.2; rcases h with e | e <;> omega))
          have K2 := Lib.hid (J.out.2.then hP.out (fun q hq hl => by have := b1.out; have := L4.out.1; rcases hq with e | e <;> omega))

          go_wp2_with (go_at_call 17; (with_reducible refine (ly.out _ _ _ _ hR.out).mono ?_); rintro e w9 ⟨rfl, r9, o9⟩)
          have H9 := Lib.hid r9
          have K3 := Lib.hid (K1.out.keep o9 (fun h => by have := L4.out.1; rcases h with e | e <;> omega) (fun h => by have := L4.out.2; rcases h with e | e <;> omega))
          have K4 := Lib.hid (K2.out.then o9 (fun q hq hl => by have := b1.out; have := L4.out.1; rcases hq with e | e <;> omega))
          clear c0 r9 o9
          have c0 := H9.out.c0
          rw [playL_length, fillN_length] at c0
          have hlen : Hid ((playL (fillN i i) b c d).length = i) := Lib.hid (by rw [playL_length, fillN_length])
          have al := Lib.hid (fun n => all_any (K3.out.drewN n) (by rw [hlen.out]; omega))
          have sm := Lib.hid (fun (w : World) (ra rc : Nat) h1 h2 => same_yes w ra rc (playL (fillN i i) b c d) h1 h2 (by rw [hlen.out]; omega))
          rw [hlen.out] at al sm
          go_wp2
          go_region_held3 (fun w' => w'.cell? ⟨B2 + 1, 0, none⟩ = some (.slice (some ⟨B2, 0, none⟩) i i))
            (first | exact c0 | exact k0 | exact j0 | go_keep)
            (first
              | (go_at_call 16; refine (al.out _).mono ?_; rintro e w5 ⟨rfl, h5, z5, o5⟩; have q5 := (H9.out.drewN _).keep o5 (fun h => h) (fun h => h); have k0 := q5.c0; rw [hlen.out] at k0)
              | (go_at_call 15; refine (sm.out _ _ _ h5 q5.row).mono ?_; rintro e w6 ⟨rfl, o6⟩; have q6 := q5.keep o6 (fun h => h) (fun h => h); have j0 := q6.c0; rw [hlen.out] at j0))
          go_wp2
          go_ret
          exact ⟨rfl, (((K4.out.drewN _).trans o5).trans o6).below (Nat.le_refl _) (fun _ h => h.elim)⟩

theorem makes_much (ct base sl no : Int) (h : 1000 < ct) (w : World) :
    Calls Try.prog 3 #[.int .i64 ct, .int .i64 base, .int .i64 sl, .int .i64 no] w fun e w' => e = .returned (.bool true) ∧ Below w.heap.size w w' := by
  go_enter Try.func3, Try.ntmps3
  go_wp2_with (go_at_call 8; (with_reducible refine (alive_any _).mono ?_); rintro e w1 ⟨rfl, o1⟩)
  go_ret
  exact ⟨rfl, o1.below (Nat.le_refl _) (fun _ h => h.elim)⟩

theorem makes_all (ct base sl no : Int) (w : World) :
    Calls Try.prog 3 #[.int .i64 ct, .int .i64 base, .int .i64 sl, .int .i64 no] w fun e w' => e = .returned (.bool true) ∧ Below w.heap.size w w' := by
  by_cases h : ct ≤ 1000
  · by_cases h1 : sl < 1
    · exact makes_lo ct base sl no _ h rfl h1 w
    by_cases h2 : 64 < sl
    · exact makes_hi ct base sl no _ h rfl h2 w
    by_cases h5 : no < 1
    · exact makes_nlo ct base sl no _ h rfl (by omega) (by omega) h5 w
    by_cases h6 : 64 < no
    · exact makes_nhi ct base sl no _ h rfl (by omega) (by omega) h6 w
    obtain ⟨c, rfl⟩ := Int.eq_ofNat_of_zero_le (show 0 ≤ sl by omega)
    obtain ⟨d, rfl⟩ := Int.eq_ofNat_of_zero_le (show 0 ≤ no by omega)
    by_cases h3 : base < 0
    · exact makes_neg ct base c d _ h rfl (by omega) (by omega) (by omega) (by omega) h3 w
    by_cases h4 : ((count ct : Nat) : Int) - (6 + 2 * (c : Int) + 2 * (d : Int)) < base
    · exact makes_far ct base c d _ h rfl (by omega) (by omega) (by omega) (by omega) ⟨h3, h4⟩ w
    obtain ⟨b, rfl⟩ := Int.eq_ofNat_of_zero_le (show 0 ≤ base by omega)
    exact makes_ok ct b c d _ h rfl (by omega) (by omega) (by omega) (by omega) (by omega) w
  · exact makes_much ct base sl no (by omega) w
end Go.Proofs.Ytmkcmncbiancgaa.Po
