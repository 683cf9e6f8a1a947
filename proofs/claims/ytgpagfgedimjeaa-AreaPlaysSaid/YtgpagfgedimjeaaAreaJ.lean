/- Give, by contracts: the search for a region by its first cell; slices.Delete. -/
import Derived.Test.YtgpagfgedimjeaaAreaI
namespace Go.Proofs.Ytgpagfgedimjeaa
open Go.RowKit

theorem nan_any (x : Int) (w : World) : Calls Try.prog 31 #[.int .i64 x] w fun e w' => e = .returned (.bool false) ∧ w = w' := by
  go_enter Try.func31, Try.ntmps31
  go_wp2
  go_ret
  exact ⟨rfl, rfl⟩

def sign (x y : Int) : Int := if x < y then -1 else if y < x then 1 else 0

theorem compare_any (x y : Int) (w : World) : Calls Try.prog 26 #[.int .i64 x, .int .i64 y] w fun e w' => e = .returned (.int .i64 (sign x y)) ∧ w = w' := by
  by_cases h1 : x < y
  · rw [show sign x y = -1 by simp [sign, h1]]
    go_enter Try.func26, Try.ntmps26
    go_wp2_with (go_at_call 31; (with_reducible refine (nan_any _ _).mono ?_); rintro e w' ⟨rfl, rfl⟩)
    go_ret
    exact ⟨rfl, rfl⟩
  by_cases h2 : y < x
  · rw [show sign x y = 1 by simp [sign, h1, h2]]
    go_enter Try.func26, Try.ntmps26
    go_wp2_with (go_at_call 31; (with_reducible refine (nan_any _ _).mono ?_); rintro e w' ⟨rfl, rfl⟩)
    go_ret
    exact ⟨rfl, rfl⟩
  · rw [show sign x y = 0 by simp [sign, h1, h2]]
    go_enter Try.func26, Try.ntmps26
    go_wp2_with (go_at_call 31; (with_reducible refine (nan_any _ _).mono ?_); rintro e w' ⟨rfl, rfl⟩)
    go_ret
    exact ⟨rfl, rfl⟩

theorem byBase_any (b l : Nat) (x : Int) (w : World) : Calls Try.prog 25 #[.agg #[.int .i64 (b : Int), .int .i64 (l : Int)], .int .i64 x] w fun e w' => e = .returned (.int .i64 (sign (b : Int) x)) ∧ Only Nil w w' := by
  have fin := Lib.hid ((Only.refl Nil w).alloc (.cells #[.int .i64 (b : Int), .int .i64 (l : Int)] 47))
  go_enter Try.func25, Try.ntmps25
  go_wp2_with (go_at_call 26; (with_reducible refine (compare_any _ _ _).mono ?_); rintro e w' ⟨rfl, rfl⟩)
  go_ret
  exact ⟨rfl, fin.out⟩

set_option maxHeartbeats 2000000 in
theorem search_any {w : World} {a : Option Addr} {cap n : Nat} {L : List Reg} (rg : RegsIn w a L) (hok : Ok n L) (lle : L.length ≤ 65536) (x : Int) :
    Calls Try.prog 24 #[.slice a L.length cap, .int .i64 x, .func (.func 25) #[] #[]] w fun e w' =>
      ∃ p, p ≤ L.length ∧ e = .returned (.tuple #[.int .i64 (p : Int), .bool (decide (p < L.length ∧ ((regAt L p).1 : Int) = x))]) ∧ (∀ t, t < p → ((regAt L t).1 : Int) < x) ∧ (∀ t, p ≤ t → t < L.length → x ≤ ((regAt L t).1 : Int)) ∧ Only Nil w w' := by
  have rg' := Lib.hid rg
  have hlt' := Lib.hid hok.lt
  clear rg hok
  generalize hlen : L.length = len at lle hlt' ⊢
  have hlen' := Lib.hid hlen
  clear hlen
  have lle' : (len : Int) ≤ 65536 := by omega
  have eg : ∀ args w, (callFunc 25 args).run Try.prog w = .ok (.enter 25 args) w := enters_of Try.func25 (by kernel_rfl) rfl
  go_enter Try.func24, Try.ntmps24
  go_wp2
  go_loopw [9, 10] (fun s9 s10 wr => ∃ (lo hi : Nat), s9 = .int .i64 (lo : Int) ∧ s10 = .int .i64 (hi : Int) ∧ lo ≤ hi ∧ hi ≤ len ∧ Hid ((∀ t, t < lo → ((regAt L t).1 : Int) < x) ∧ (∀ t, hi ≤ t → t < len → x ≤ ((regAt L t).1 : Int))) ∧ Hid (Only Nil w wr))
    (fun s9 s10 _ => (intOf s10).toNat - (intOf s9).toNat)
  case atStart => exact ⟨0, len, rfl, rfl, Nat.zero_le _, Nat.le_refl _, Lib.hid ⟨fun t ht => absurd ht (Nat.not_lt_zero _), fun t h1 h2 => by omega⟩, Lib.hid (Only.refl _ _)⟩
  case round =>
    obtain ⟨lo, hi, rfl, rfl, hlh, hin, I, ho⟩ := hrel
    have rg2 := Lib.hid (rg'.out.keep ho.out (fun _ _ _ h => h.elim))
    by_cases hlt : lo < hi
    · obtain ⟨g, rfl, hg1, hg2⟩ := rg2.out ((lo + hi) / 2) (by rw [hlen'.out]; omega)
      obtain ⟨x0, x1⟩ := hg2 ((lo + hi) / 2) (by rw [hlen'.out]; omega)
      have hy := Lib.hid (rfl : regAt L ((lo + hi) / 2) = regAt L ((lo + hi) / 2))
      clear hg2
      generalize hr : regAt L ((lo + hi) / 2) = r at x0 x1
      have hr' := Lib.hid hr
      clear hr hy
      obtain ⟨rb, rl⟩ := r
      simp only at x0 x1
      by_cases hyx : (rb : Int) < x
      · have cc := fun w => byBase_any rb rl x w
        rw [show sign (rb : Int) x = -1 by simp [sign, hyx]] at cc
        have cc' := Lib.hid cc
        clear cc
        go_wp2_with (go_at_fn 25; refine (cc'.out _).mono ?_; rintro e w' ⟨rfl, o'⟩)
        go_roundw
        case rel => exact ⟨(lo + hi) / 2 + 1, hi, by go_num, rfl, by omega, hin, Lib.hid ⟨fun t ht => by
            have hb : ((regAt L ((lo + hi) / 2)).1 : Int) < x := by rw [hr'.out]; exact hyx
            by_cases e : t = (lo + hi) / 2
            · rw [e]; exact hb
            · have := hlt'.out t ((lo + hi) / 2) (by omega) (by omega); omega, I.out.2⟩, Lib.hid (ho.out.trans o')⟩
        case measure => simp [intOf]; omega
      · have cc := fun w => byBase_any rb rl x w
        have hs : ¬ sign (rb : Int) x < 0 := by simp only [sign, hyx, if_false]; split <;> omega
        have cc' := Lib.hid cc
        clear cc
        generalize sign (rb : Int) x = sg at cc' hs
        go_wp2_with (go_at_fn 25; refine (cc'.out _).mono ?_; rintro e w' ⟨rfl, o'⟩)
        go_roundw
        case rel => exact ⟨lo, (lo + hi) / 2, rfl, by go_num, by omega, by omega, Lib.hid ⟨I.out.1, fun t ht htn => by
            have hb : x ≤ ((regAt L ((lo + hi) / 2)).1 : Int) := by rw [hr'.out]; show x ≤ (rb : Int); omega
            by_cases e : t = (lo + hi) / 2
            · rw [e]; exact hb
            · have := hlt'.out ((lo + hi) / 2) t (by omega) htn; omega⟩, Lib.hid (ho.out.trans o')⟩
        case measure => simp [intOf]; omega
    · obtain rfl : hi = lo := by omega
      by_cases hn : hi < len
      · obtain ⟨g, rfl, hg1, hg2⟩ := rg2.out hi (by rw [hlen'.out]; omega)
        obtain ⟨x0, x1⟩ := hg2 hi (by rw [hlen'.out]; omega)
        clear hg2
        generalize hr : regAt L hi = r at x0 x1
        have hr' := Lib.hid hr
        clear hr
        obtain ⟨rb, rl⟩ := r
        simp only at x0 x1
        have cc := fun w => byBase_any rb rl x w
        by_cases hyx : (rb : Int) = x
        · rw [show sign (rb : Int) x = 0 by simp [sign, hyx]] at cc
          have cc' := Lib.hid cc
          have hyx' := Lib.hid hyx
          clear cc hyx
          go_wp2_with (go_at_fn 25; refine (cc'.out _).mono ?_; rintro e w' ⟨rfl, o'⟩)
          go_ret2
          exact ⟨hi, hin, by rw [hr'.out]; simp [hn, hyx'.out], I.out.1, I.out.2, ho.out.trans o'⟩
        · have hs : ¬ sign (rb : Int) x = 0 := by simp only [sign]; split <;> (try split) <;> omega
          have cc' := Lib.hid cc
          have hyx' := Lib.hid hyx
          clear cc hyx
          generalize sign (rb : Int) x = sg at cc' hs
          go_wp2_with (go_at_fn 25; refine (cc'.out _).mono ?_; rintro e w' ⟨rfl, o'⟩)
          go_ret2
          exact ⟨hi, hin, by rw [hr'.out]; simp [hn, hyx'.out, hs], I.out.1, I.out.2, ho.out.trans o'⟩
      · have hn' : ¬ (hi : Int) < (len : Int) := by omega
        go_wp2
        go_ret2
        exact ⟨hi, hin, by simp [hn], I.out.1, I.out.2, ho.out⟩
end Go.Proofs.Ytgpagfgedimjeaa
