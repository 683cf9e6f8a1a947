/- mercy: tickOf, cmp.Less, slices.BinarySearch, sort.Search. -/
import Derived.Test.YteafdhpnkgebnaaMeB
import Derived.Shelf.Abstract
set_option linter.unusedSimpArgs false
set_option linter.unusedVariables false
namespace Go.Proofs.Yteafdhpnkgebnaa.Me
open Go.RowKit Go.Proofs.Yteafdhpnkgebnaa

theorem tick_any (now : Int) (w : World) : Calls Try.prog 20 #[.int .i64 now] w fun e w' => e = .returned (.int .i64 (tick now)) ∧ w = w' := by
  go_enter Try.func20, Try.ntmps20
  go_wp2
  go_ret
  exact ⟨rfl, rfl⟩
theorem nan_any (x : Int) (w : World) : Calls Try.prog 30 #[.int .i64 x] w fun e w' => e = .returned (.bool false) ∧ w = w' := by
  go_enter Try.func30, Try.ntmps30
  go_wp2
  go_ret
  exact ⟨rfl, rfl⟩
theorem nan2_any (x : Int) (w : World) : Calls Try.prog 27 #[.int .i64 x] w fun e w' => e = .returned (.bool false) ∧ w = w' := by
  go_enter Try.func27, Try.ntmps27
  go_wp2
  go_ret
  exact ⟨rfl, rfl⟩
theorem less_any (x y : Int) (w : World) : Calls Try.prog 26 #[.int .i64 x, .int .i64 y] w fun e w' => e = .returned (.bool (decide (x < y))) ∧ w = w' := by
  go_enter Try.func26, Try.ntmps26
  go_wp2_with (go_at_call 30; (with_reducible refine (nan_any _ _).mono ?_); rintro e w' ⟨rfl, rfl⟩)
  go_ret
  exact ⟨rfl, rfl⟩

/-- What a search knows. -/
structure BI (L : List Int) (n lo hi : Nat) (t : Int) : Prop where
  a : ∀ k, k < lo → L.getD k 0 < t
  b : ∀ k, hi ≤ k → k < n → ¬ L.getD k 0 < t
theorem BI.start (L : List Int) (n : Nat) (t : Int) : BI L n 0 n t := ⟨fun k hk => absurd hk (Nat.not_lt_zero _), fun k h1 h2 => by omega⟩
theorem BI.up {L : List Int} {n lo hi : Nat} {t : Int} (h : BI L n lo hi t) (up : Up L) (hn : L.length = n) (m : Nat) (hm : m < n) (h1 : L.getD m 0 < t) : BI L n (m + 1) hi t := ⟨fun k hk => by
  have := up.low (j := k) (k := m) (by omega) (by omega); omega, h.b⟩
theorem BI.down {L : List Int} {n lo hi : Nat} {t : Int} (h : BI L n lo hi t) (up : Up L) (hn : L.length = n) (m : Nat) (h1 : ¬ L.getD m 0 < t) : BI L n lo m t := ⟨h.a, fun k hk hkn => by
  have := up.low (j := m) (k := k) hk (by omega); omega⟩
theorem BI.done {L : List Int} {n hi : Nat} {t : Int} (h : BI L n hi hi t) (hn : L.length = n) (hin : hi ≤ n) : Parts L hi (fun x => x < t) := ⟨by omega, h.a, fun k h1 h2 => h.b k h1 (by omega)⟩
structure SI (p : Nat → Bool) (n lo hi : Nat) : Prop where
  a : ∀ k, k < lo → p k = false
  b : ∀ k, hi ≤ k → k < n → p k = true

/-- The cells of a row, each at its index. -/
def IIn (w : World) (a : Option Addr) (L : List Int) : Prop := ∀ j, j < L.length → ∃ g, a = some ⟨g, 0, none⟩ ∧ g < w.heap.size ∧ w.cell? ⟨g, j, none⟩ = some (.int .i64 (L.getD j 0))
theorem iin_of {w : World} {a : Option Addr} {n c : Nat} {L : List Int} (h : w.ownsRow 0 2 1 (.slice a n c) L.length (iv L)) : IIn w a L := by
  intro j hj
  rcases h.2 with ⟨_, h0⟩ | ⟨g, c, cur, hv, _, hg, _⟩
  · omega
  · simp only [Value.slice.injEq] at hv
    obtain ⟨rfl, _, rfl⟩ := hv
    obtain rfl : n = L.length := by assumption
    refine ⟨g, rfl, lt_of_block hg, ?_⟩
    rw [h.cellAt _ (by omega)]
    exact iv_get L j hj

set_option maxHeartbeats 1000000 in
set_option maxRecDepth 100000 in
theorem bs_any {w : World} {a : Option Addr} {n c : Nat} {L : List Int} (hi : IIn w a L) (hn : L.length = n) (up : Up L) (few : n ≤ 65536) (t : Int) :
    Calls Try.prog 21 #[.slice a n c, .int .i64 t] w fun e w' => Hid (∃ (i : Nat) (b : Bool), e = .returned (.tuple #[.int .i64 (i : Int), .bool b]) ∧ Parts L i (fun x => x < t)) ∧ w = w' := by
  have HI := Lib.hid hi
  have HN := Lib.hid hn
  have HU := Lib.hid up
  have few' : (n : Int) ≤ 65536 := by omega
  have HL := Lib.hid (fun x w => less_any x t w)
  clear hi hn up
  go_enter Try.func21, Try.ntmps21
  go_wp2
  go_loopw [7, 8] (fun s7 s8 wr => ∃ (lo hi : Nat), s7 = .int .i64 (lo : Int) ∧ s8 = .int .i64 (hi : Int) ∧ lo ≤ hi ∧ hi ≤ n ∧ Hid (BI L n lo hi t) ∧ w = wr)
    (fun s7 s8 _ => (intOf s8).toNat - (intOf s7).toNat)
  case atStart => exact ⟨0, n, rfl, rfl, Nat.zero_le _, Nat.le_refl _, Lib.hid (BI.start _ _ _), rfl⟩
  case round =>
    obtain ⟨lo, hi, rfl, rfl, hlh, hin, I, rfl⟩ := hrel
    by_cases hlt : lo < hi
    · obtain ⟨g, rfl, hg1, x0⟩ := HI.out ((lo + hi) / 2) (by rw [HN.out]; omega)
      have hr := Lib.hid (rfl : L.getD ((lo + hi) / 2) 0 = L.getD ((lo + hi) / 2) 0)
      obtain ⟨r, hr⟩ : ∃ r, r = L.getD ((lo + hi) / 2) 0 := ⟨_, rfl⟩
      rw [← hr] at x0
      have hr' := Lib.hid hr
      clear hr
      have cc := HL.out r
      by_cases hyx : r < t
      · rw [decide_eq_true hyx] at cc
        have cc' := Lib.hid cc
        have hy := Lib.hid hyx
        clear cc hyx
        go_wp2_with (go_at_call 26; (with_reducible refine (cc'.out _).mono ?_); rintro e w' ⟨rfl, rfl⟩)
        go_roundw
        case rel => exact ⟨(lo + hi) / 2 + 1, hi, by go_num, rfl, by omega, hin, Lib.hid (I.out.up HU.out HN.out _ (by omega) (by rw [← hr'.out]; exact hy.out)), trivial⟩
        case measure => simp [intOf]; omega
      · rw [decide_eq_false hyx] at cc
        have cc' := Lib.hid cc
        have hy := Lib.hid (Int.not_lt.1 hyx)
        clear cc hyx
        go_wp2_with (go_at_call 26; (with_reducible refine (cc'.out _).mono ?_); rintro e w' ⟨rfl, rfl⟩)
        go_roundw
        case rel => exact ⟨lo, (lo + hi) / 2, rfl, by go_num, by omega, by omega, Lib.hid (I.out.down HU.out HN.out _ (by rw [← hr'.out]; exact Int.not_lt.2 hy.out)), trivial⟩
        case measure => simp [intOf]; omega
    · obtain rfl : hi = lo := by omega
      have hP := Lib.hid (I.out.done HN.out hin)
      clear hlt
      by_cases hh : hi < n
      · obtain ⟨g, rfl, hg1, x0⟩ := HI.out hi (by rw [HN.out]; omega)
        obtain ⟨r, hr⟩ : ∃ r, r = L.getD hi 0 := ⟨_, rfl⟩
        rw [← hr] at x0
        clear hr
        have c1 := Lib.hid (fun w => nan2_any r w)
        have c2 := Lib.hid (fun w => nan2_any t w)
        by_cases hrt : r = t
        · go_wp2_with (first
            | (go_at_call 27; (with_reducible refine (c1.out _).mono ?_); rintro e w' ⟨rfl, rfl⟩)
            | (go_at_call 27; (with_reducible refine (c2.out _).mono ?_); rintro e w' ⟨rfl, rfl⟩))
          go_ret2
          exact ⟨Lib.hid ⟨_, _, rfl, hP.out⟩, rfl⟩
        · go_wp2_with (first
            | (go_at_call 27; (with_reducible refine (c1.out _).mono ?_); rintro e w' ⟨rfl, rfl⟩)
            | (go_at_call 27; (with_reducible refine (c2.out _).mono ?_); rintro e w' ⟨rfl, rfl⟩))
          go_ret2
          exact ⟨Lib.hid ⟨_, _, rfl, hP.out⟩, rfl⟩
      · obtain rfl : hi = n := by omega
        go_wp2
        go_ret2
        exact ⟨Lib.hid ⟨_, _, rfl, hP.out⟩, rfl⟩

/-- sort.Search, over whatever function that parts the numbers below n. -/
theorem search_any {w : World} {n : Nat} (few : n ≤ 65536) {g : FuncId} {cs cb : Array Value} (p : Nat → Bool) (mono : ∀ j k, j ≤ k → k < n → p j = true → p k = true)
    (eg : ∀ args w, (callFunc g args).run Try.prog w = .ok (.enter g args) w) (hf : ∀ (i : Nat) w', i < n → Only Nil w w' → Calls Try.prog g (cs ++ #[.int .i64 (i : Int)] ++ cb) w' fun e w'' => e = .returned (.bool (p i)) ∧ Only Nil w' w'') :
    Calls Try.prog 18 #[.int .i64 (n : Int), .func (.func g) cs cb] w fun e w' => Hid (∃ (i : Nat), e = .returned (.int .i64 (i : Int)) ∧ i ≤ n ∧ SI p n i i) ∧ Only Nil w w' := by
  have HF := Lib.hid hf
  have HM := Lib.hid mono
  have few' : (n : Int) ≤ 65536 := by omega
  clear hf mono
  go_enter Try.func18, Try.ntmps18
  go_wp2
  go_loopw [5, 6] (fun s5 s6 wr => ∃ (lo hi : Nat), s5 = .int .i64 (lo : Int) ∧ s6 = .int .i64 (hi : Int) ∧ lo ≤ hi ∧ hi ≤ n ∧ Hid (SI p n lo hi) ∧ Hid (Only Nil w wr))
    (fun s5 s6 _ => (intOf s6).toNat - (intOf s5).toNat)
  case atStart => exact ⟨0, n, rfl, rfl, Nat.zero_le _, Nat.le_refl _, Lib.hid ⟨fun k hk => absurd hk (Nat.not_lt_zero _), fun k h1 h2 => by omega⟩, Lib.hid (Only.refl _ _)⟩
  case round =>
    obtain ⟨lo, hi, rfl, rfl, hlh, hin, I, hO⟩ := hrel
    by_cases hlt : lo < hi
    · have cc := HF.out ((lo + hi) / 2) wr (by omega) hO.out
      cases hp : p ((lo + hi) / 2) with
      | false =>
        rw [hp] at cc
        have cc' := Lib.hid cc
        have hp' := Lib.hid hp
        clear cc hp
        go_wp2_with (go_at_fn g; refine cc'.out.mono ?_; rintro e w' ⟨rfl, o'⟩)
        go_roundw
        case rel => exact ⟨(lo + hi) / 2 + 1, hi, by go_num, rfl, by omega, hin, Lib.hid ⟨fun k hk => by
            cases hk2 : p k with
            | false => rfl
            | true => have := HM.out k ((lo + hi) / 2) (by omega) (by omega) hk2; rw [hp'.out] at this; exact absurd this (by decide), I.out.b⟩, Lib.hid (hO.out.trans o')⟩
        case measure => simp [intOf]; omega
      | true =>
        rw [hp] at cc
        have cc' := Lib.hid cc
        have hp' := Lib.hid hp
        clear cc hp
        go_wp2_with (go_at_fn g; refine cc'.out.mono ?_; rintro e w' ⟨rfl, o'⟩)
        go_roundw
        case rel => exact ⟨lo, (lo + hi) / 2, rfl, by go_num, by omega, by omega, Lib.hid ⟨I.out.a, fun k hk hkn => HM.out _ k hk hkn hp'.out⟩, Lib.hid (hO.out.trans o')⟩
        case measure => simp [intOf]; omega
    · obtain rfl : hi = lo := by omega
      clear hlt
      go_wp2
      go_ret
      exact ⟨Lib.hid ⟨_, rfl, hin, I.out⟩, hO.out⟩
end Go.Proofs.Yteafdhpnkgebnaa.Me
