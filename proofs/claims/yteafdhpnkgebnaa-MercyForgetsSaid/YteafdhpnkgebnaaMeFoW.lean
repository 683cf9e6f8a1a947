/- mercy: MercyForgets' walk. -/
import Derived.Test.YteafdhpnkgebnaaMeI
set_option linter.unusedSimpArgs false
set_option linter.unusedVariables false
namespace Go.Proofs.Yteafdhpnkgebnaa.Me
open Go.RowKit Go.Proofs.Yteafdhpnkgebnaa

theorem below_ofF {w w' : World} (o : Only Nil w w') : Below w.heap.size w w' := o.below (Nat.le_refl _) (fun _ h => h.elim)
/-- One child was given i restarts at one tick. -/
def fr (c t : Int) (i : Nat) : Int → List Int := setV (fun _ => []) c (List.replicate i t)
theorem fr_zero (c t : Int) : fr c t 0 = fun _ => [] := by
  funext d
  unfold fr setV
  split <;> rfl
theorem gt_rep (i : Nat) {t T : Int} (h : T < t) : gt (List.replicate i t) T = i := by
  rw [gt_all (fun x hx => by rw [List.eq_of_mem_replicate hx]; exact h)]; simp
theorem fr_left {n i : Nat} {win c now : Int} (hw : 1 ≤ win) : left n win (fr c (tick now) i c) now = n - i := by
  unfold left fr
  rw [setV_same, gt_rep i (by omega)]
theorem fr_ask {n i : Nat} {win c now : Int} (hw : 1 ≤ win) (hi : i < n) : asked n win (fr c (tick now) i) c now = fr c (tick now) (i + 1) := by
  unfold asked
  rw [fr_left hw, if_pos (by omega)]
  unfold fr
  funext d
  by_cases e : d = c
  · subst e; rw [setV_same, setV_same, setV_same]; exact (List.replicate_succ' ..).symm
  · rw [setV_other _ _ e, setV_other _ _ e, setV_other _ _ e]
theorem fr_full {n : Nat} {win c now : Int} (hw : 1 ≤ win) : asked n win (fr c (tick now) n) c now = fr c (tick now) n := by
  unfold asked
  rw [fr_left hw, if_neg (by omega)]

set_option maxRecDepth 100000 in
set_option maxHeartbeats 8000000 in
theorem forgets_all (a0 a1 c o now : Int) (hc : (Lit.int .i64 c).wf = true) (ho : (Lit.int .i64 o).wf = true) (W : World) :
    Calls Try.prog 7 #[.int .i64 a0, .int .i64 a1, .int .i64 c, .int .i64 o, .int .i64 now] W fun e w' => e = .returned (.bool true) ∧ Below W.heap.size W w' := by
  have HA := Lib.hid (alive_any W)
  have HN := Lib.hid (fun w1 (o1 : Only Nil W w1) => st_new W w1 Nil (fun q h => h.elim) o1 a0 a1)
  have hk := kn_eq a0
  have hw := kw_in a1
  have hk100 := kn_le a0
  go_enter Try.func7, Try.ntmps7
  go_upto_region 5 with (first
    | (go_at_call 8; (with_reducible refine HA.out.mono ?_); rintro e w1 ⟨rfl, o1⟩; have O1 := Lib.hid o1; clear o1 HA)
    | (go_at_call 9; (with_reducible refine (HN.out _ O1.out).mono ?_); rintro e w2 ⟨rfl, h, _⟩; have k2 := Lib.hid h; clear h HN O1))
  rw [show max 0 (min a0 100) = ((kn a0 : Nat) : Int) from by omega]
  generalize kn a0 = n at *
  generalize kw a1 = win at *
  generalize w1.heap.size + 1 = H at *
  have hw1 := Lib.hid hw.1
  have nle : (n : Int) ≤ 100 := by omega
  have HN100 := Lib.hid hk100
  have HC := Lib.hid hc
  have HO := Lib.hid ho
  clear hk hw hk100 hc ho
  go_wp2
  go_loopw [13] (fun s13 wr => ∃ (i : Nat), i ≤ n ∧ s13 = .int .i64 (i : Int) ∧ Hid (St W Nil wr H n i win (fr c (tick now) i)))
    (fun s13 _ => n - (intOf s13).toNat)
  case atStart => exact ⟨0, Nat.zero_le _, rfl, Lib.hid (by rw [fr_zero]; exact k2.out)⟩
  case round =>
    obtain ⟨i, hi, rfl, K⟩ := hrel
    by_cases hin : i < n
    · have L1 := Lib.hid ((st_left K.out c HC.out now).mono (fun e w' (h : e = .returned (.int .i64 (left n win (fr c (tick now) i c) now : Nat)) ∧ _) => show e = .returned (.int .i64 ((n : Int) - (i : Int))) ∧ St W Nil w' H n i win (fr c (tick now) i) from ⟨by rw [h.1, fr_left hw1.out]; congr 2; omega, h.2.1⟩))
      have L2 := Lib.hid (fun w2 (h : St W Nil w2 H n i win (fr c (tick now) i)) => (st_ask h (by have := HN100.out; omega) c HC.out now).mono (fun e w' (h : e = .returned (.bool (decide (0 < left n win (fr c (tick now) i c) now))) ∧ _) => show e = .returned (.bool true) ∧ St W Nil w' H n (i + 1) win (fr c (tick now) (i + 1)) from ⟨by rw [h.1, fr_left hw1.out, decide_eq_true (by omega)], by rw [← fr_ask hw1.out hin]; exact h.2.1⟩))
      have hin' : (i : Int) < (n : Int) := by omega
      clear K
      go_wp2_with (first
        | (go_at_call 11; (with_reducible refine L1.out.mono ?_); rintro e w3 ⟨rfl, h⟩; have k3 := Lib.hid h; clear h L1)
        | (go_at_call 14; (with_reducible refine (L2.out _ k3.out).mono ?_); rintro e w4 ⟨rfl, h⟩; have k4 := Lib.hid h; clear h L2))
      go_roundw
      case rel => exact ⟨i + 1, by omega, by go_num, k4⟩
      case measure => simp [intOf]; omega
    · obtain rfl : i = n := by omega
      have hk1 : ¬ (i : Int) < (i : Int) := by omega
      obtain ⟨A, hA⟩ : ∃ A, A = fr c (tick now) i := ⟨_, rfl⟩
      have hl0 := Lib.hid (show left i win (A c) now = 0 from by rw [hA, fr_left hw1.out]; omega)
      have has := Lib.hid (show asked i win A c now = A from by rw [hA, fr_full hw1.out])
      rw [← hA] at K
      have HAe := Lib.hid hA
      clear hA hin
      have L1 := Lib.hid ((st_ask K.out (by have := HN100.out; omega) c HC.out now).mono (fun e w' (h : e = .returned (.bool (decide (0 < left i win (A c) now))) ∧ _) => show e = .returned (.bool false) ∧ St W Nil w' H i (i + 1) win A from ⟨by rw [h.1, hl0.out]; rfl, by have := h.2.1; rw [has.out] at this; exact this⟩))
      have L2 := Lib.hid (fun w2 (h : St W Nil w2 H i (i + 1) win A) => (st_left h c HC.out now).mono (fun e w' (h : e = .returned (.int .i64 (left i win (A c) now : Nat)) ∧ _) => show e = .returned (.int .i64 0) ∧ St W Nil w' H i (i + 1) win A from ⟨by rw [h.1, hl0.out]; rfl, h.2.1⟩))
      obtain ⟨l, hl⟩ : ∃ l, l = left i win (A o) now := ⟨_, rfl⟩
      have hle := Lib.hid (show l ≤ 100 from by have := HN100.out; unfold left at hl; omega)
      have L3 := Lib.hid (fun w2 (h : St W Nil w2 H i (i + 1) win A) => (st_left h o HO.out now).mono (fun e w' (h : e = .returned (.int .i64 (left i win (A o) now : Nat)) ∧ _) => show e = .returned (.int .i64 (l : Int)) ∧ St W Nil w' H i (i + 1) win A from ⟨by rw [h.1, hl], h.2.1⟩))
      have L4 := Lib.hid (fun w2 (h : St W Nil w2 H i (i + 1) win A) => (st_forget h c HC.out).mono (fun e w' h => show e = .returned (.tuple #[]) ∧ St W Nil w' H i (i + 1) win (setV A c []) from ⟨h.1, h.2.1⟩))
      have L5 := Lib.hid (fun w2 (h : St W Nil w2 H i (i + 1) win (setV A c [])) => (st_left h c HC.out now).mono (fun e w' (h : e = .returned (.int .i64 (left i win (setV A c [] c) now : Nat)) ∧ _) => show e = .returned (.int .i64 (i : Int)) ∧ St W Nil w' H i (i + 1) win (setV A c []) from ⟨by rw [h.1, setV_same]; rfl, h.2.1⟩))
      have L6 := Lib.hid (fun (hne : o ≠ c) w2 (h : St W Nil w2 H i (i + 1) win (setV A c [])) => (st_left h o HO.out now).mono (fun e w' (h : e = .returned (.int .i64 (left i win (setV A c [] o) now : Nat)) ∧ _) => show e = .returned (.int .i64 (l : Int)) ∧ St W Nil w' H i (i + 1) win (setV A c []) from ⟨by rw [h.1, setV_other _ _ hne, hl], h.2.1⟩))
      have L7 := Lib.hid (fun (hp : 0 < i) w2 (h : St W Nil w2 H i (i + 1) win (setV A c [])) => (st_ask h (by have := HN100.out; omega) c HC.out now).mono (fun e w' (h : e = .returned (.bool (decide (0 < left i win (setV A c [] c) now))) ∧ _) => show e = .returned (.bool true) ∧ Only Nil W w' from ⟨by rw [h.1, setV_same]; unfold left; rw [gt_nil, decide_eq_true (by omega)], h.2.1.only⟩))
      have hl100 : (l : Int) ≤ 100 := by have := hle.out; omega
      clear hl K
      go_upto_region 14 with (first
        | (go_at_call 14; (with_reducible refine L1.out.mono ?_); rintro e w3 ⟨rfl, h⟩; have k3 := Lib.hid h; clear h L1)
        | (go_at_call 11; (with_reducible refine (L2.out _ k3.out).mono ?_); rintro e w4 ⟨rfl, h⟩; have k4 := Lib.hid h; clear h L2)
        | (go_at_call 11; (with_reducible refine (L3.out _ k4.out).mono ?_); rintro e w5 ⟨rfl, h⟩; have k5 := Lib.hid h; clear h L3)
        | (go_at_call 12; (with_reducible refine (L4.out _ k5.out).mono ?_); rintro e w6 ⟨rfl, h⟩; have k6 := Lib.hid h; clear h L4))
      by_cases hoc : o = c
      · subst hoc
        go_upto_region 16 with (go_at_call 11; (with_reducible refine (L5.out _ k6.out).mono ?_); rintro e w7 ⟨rfl, h⟩; have k7 := Lib.hid h; clear h L5)
        rcases Nat.eq_zero_or_pos i with h0 | h0
        · subst h0
          go_wp2
          go_ret
          exact ⟨rfl, below_ofF k7.out.only⟩
        · have h1 : ((i : Int) == 0) = false := by simp; omega
          have L8 := Lib.hid (L7.out h0)
          go_wp2_with (go_at_call 14; (with_reducible refine (L8.out _ k7.out).mono ?_); rintro e w8 ⟨rfl, o8⟩)
          go_ret
          exact ⟨rfl, below_ofF o8⟩
      · have hoc2 : (o != c) = true := by simp [hoc]
        have L9 := Lib.hid (L6.out hoc)
        go_upto_region 16 with (first
          | (go_at_call 11; (with_reducible refine (L5.out _ k6.out).mono ?_); rintro e w7 ⟨rfl, h⟩; have k7 := Lib.hid h; clear h L5)
          | (go_at_call 11; (with_reducible refine (L9.out _ k7.out).mono ?_); rintro e w8 ⟨rfl, h⟩; have k8 := Lib.hid h; clear h L9))
        rcases Nat.eq_zero_or_pos i with h0 | h0
        · subst h0
          go_wp2
          go_ret
          exact ⟨rfl, below_ofF k8.out.only⟩
        · have h1 : ((i : Int) == 0) = false := by simp; omega
          have L8 := Lib.hid (L7.out h0)
          go_wp2_with (go_at_call 14; (with_reducible refine (L8.out _ k8.out).mono ?_); rintro e w9 ⟨rfl, o9⟩)
          go_ret
          exact ⟨rfl, below_ofF o9⟩
end Go.Proofs.Yteafdhpnkgebnaa.Me
