/- BellOthers answers true for all numbers and every row of bools, and turns nothing that there was: the walk. -/
import Derived.Test.YtfhbgabblegecaaBlY
namespace Go.Proofs.Ytfhbgabblegecaa.Bl
open Go.RowKit

theorem peek_yes {w : World} {hb rb : Nat} {L : List Int} {t : Int} (h : MemAt w hb rb L t) (i : Nat) (hi : i < L.length) :
    Calls Try.prog 30 #[.pointer (some ⟨hb, 0, none⟩), .int .i64 i] w fun e w' => e = .returned (.int .u64 (L.getD i 0)) ∧ w = w' := by
  have c0 := h.c0
  have ci := h.ci i hi
  have h0 : (0 : Int) ≤ (i : Int) := by omega
  have h1 : (i : Int) < (L.length : Int) := by omega
  generalize L.getD i 0 = x at ci ⊢
  go_enter Try.func30, Try.ntmps30
  go_wp2_with (go_at_call 51; refine (has_yes h i hi).mono ?_; rintro e w' ⟨rfl, rfl⟩)
  go_ret
  exact ⟨rfl, rfl⟩

def Kd.num : Kd → Int
  | .sleep => 1
  | .up => 2
  | .poll => 3
/-- What is left when an operation of one worker is over: the cells, its outcome, its steps. -/
def finL (q : Kd) (n : Nat) (v : Int) (L : List Int) : List Int := if 0 ≤ v ∧ v < (n : Int) then (doAcc L (q.acc 0 v.toNat)).1 else L
def finO (q : Kd) (n : Nat) (v : Int) (L : List Int) : Nat := if 0 ≤ v ∧ v < (n : Int) then q.out (L.getD v.toNat 0) else 4
def finN (n : Nat) (v : Int) : Nat := if 0 ≤ v ∧ v < (n : Int) then 1 else 0
theorem run_bgn (q : Kd) (n : Nat) (v : Int) (x : Nat) (L : List Int) : Runs 0 n (finN n v) L (bgn q n v x) (finL q n v L) (.over (finO q n v L) (-1)) := by
  unfold finN finL finO bgn
  by_cases h : 0 ≤ v ∧ v < (n : Int)
  · simp only [if_pos h]
    have e1 : stepS 0 n L (.one q v.toNat x (x + 1)) = .over (q.out (L.getD v.toNat 0)) (-1) := by
      cases q <;> simp only [stepS, acc, Kd.acc, doAcc, res, Kd.out, Nat.zero_add]
    refine Runs.step rfl ?_
    rw [e1]
    exact Runs.over rfl
  · simp only [if_neg h]
    exact Runs.over rfl
theorem finL_length (q : Kd) (n : Nat) (v : Int) (L : List Int) : (finL q n v L).length = L.length := by
  unfold finL; split
  · exact doAcc_length _ _
  · rfl
theorem finL_other (q : Kd) (n : Nat) (v : Int) (L : List Int) (i : Nat) (h : ¬ ((i : Int) = v)) : (finL q n v L).getD i 0 = L.getD i 0 := by
  unfold finL; split
  · rename_i hv
    have hne : v.toNat ≠ i := by omega
    cases q <;> simp [Kd.acc, doAcc, hne]
  · rfl
theorem finL_poll (n : Nat) (v : Int) (L : List Int) : finL .poll n v L = L := by unfold finL; split <;> rfl
theorem finN_le (n : Nat) (v : Int) : finN n v ≤ 1 := by unfold finN; split <;> omega

set_option maxHeartbeats 2000000 in
theorem begun_kd {w0 w : World} {rg hb rb b c : Nat} {L : List Int} {t : Int} (q : Kd) (h : Lw w0 w rg hb rb b c L t) (v : Int) :
    Calls Try.prog 18 #[.pointer (some ⟨rg, 0, none⟩), .int .i64 q.num, .int .i64 v] w fun e w' => e = .returned (.pointer (some ⟨w.heap.size + 2, 0, none⟩)) ∧ Lw w0 w' rg hb rb b c L t ∧ Op1 w0 w' (w.heap.size + 2) rg hb rb c (bgn q c v w.heap.size) ∧ Only Nil w w' ∧ w.heap.size + 2 < w'.heap.size := by
  have s1 := Lib.hid (h.sleep v)
  have s2 := Lib.hid (h.up v)
  have s3 := Lib.hid (h.poll v)
  clear h
  cases q <;> simp only [Kd.num]
  · go_enter Try.func18, Try.ntmps18
    go_wp2_with (go_at_call 34; refine (s1.out).mono ?_; rintro e w1 ⟨rfl, h1⟩)
    go_ret
    exact ⟨rfl, h1⟩
  · go_enter Try.func18, Try.ntmps18
    go_wp2_with (go_at_call 47; refine (s2.out).mono ?_; rintro e w1 ⟨rfl, h1⟩)
    go_ret
    exact ⟨rfl, h1⟩
  · go_enter Try.func18, Try.ntmps18
    go_wp2_with (go_at_call 37; refine (s3.out).mono ?_; rintro e w1 ⟨rfl, h1⟩)
    go_ret
    exact ⟨rfl, h1⟩

set_option maxRecDepth 100000 in
set_option maxHeartbeats 16000000 in
theorem others_walk (q : Kd) (k j v : Int) (a : Option Addr) (cap : Nat) (A : List Bool) (n : Nat) (w : World) (hc : 1 ≤ n ∧ n ≤ 8) (e1 : 1 + k % 8 = (n : Int)) (e2 : 1 + j % 3 = q.num) (hk : 0 ≤ k ∧ k < 256) (hj : 0 ≤ j ∧ j < 256) (hA : RowBo w a A) (hr : A.length * 1 ≤ 140737488351232) :
    Calls Try.prog 7 #[.int .u8 k, .slice a A.length cap, .int .u8 j, .int .i64 v] w fun e w' => e = .returned (.bool true) ∧ Below w.heap.size w w' := by
  have md := Lib.hid (fun w1 (o : Only Nil w w1) => made_any w1 n (by omega) (by omega) a A cap (hA.later (o.below (Nat.le_refl _) (fun _ h => h.elim))) (by omega))
  have al := Lib.hid (fun (w1 w2 : World) (rg B : Nat) (t : Int) (h : Lw w1 w2 rg (B + 1) B 0 n (napL n A n) t) => all_any h.rng.mem (by rw [napL_length]; omega))
  simp only [napL_length] at al
  have bg := Lib.hid (fun (w1 w2 : World) (rg B : Nat) (t : Int) (h : Lw w1 w2 rg (B + 1) B 0 n (napL n A n) t) => begun_kd q h v)
  rw [← e2] at bg
  obtain ⟨x1, x2⟩ := hk
  obtain ⟨y1, y2⟩ := hj
  have c8 := Lib.hid hc
  have e2' := Lib.hid e2
  generalize hL : napL n A n = L at al bg
  have hlen : L.length = n + 1 := by rw [← hL, napL_length]
  have hlen' := Lib.hid hlen
  simp only [hL] at md
  have dn := Lib.hid (fun (w1 w2 : World) (ob rg B x : Nat) (t : Int) (h : Lw w1 w2 rg (B + 1) B 0 n L t) (p : Op1 w1 w2 ob rg (B + 1) B n (bgn q n v x)) (ht : t ≤ 100) => h.done p (run_bgn q n v x L) (by have := finN_le n v; omega) (by have := finN_le n v; omega))
  simp only [OS.o, OS.x] at dn
  clear hc hL hlen e2 hr hA
  go_enter Try.func7, Try.ntmps7
  go_wp2_with (first
    | (go_at_call 13; (with_reducible refine (alive_any _).mono ?_); rintro e w1 ⟨rfl, o1⟩)
    | (go_at_call 29; (with_reducible refine (md.out _ o1).mono ?_); rintro e w2 ⟨rg, rfl, l2x⟩; obtain ⟨t, l2, ht⟩ := l2x.out)
    | (go_at_call 25; (with_reducible refine (al.out _ _ _ _ _ l2).mono ?_); rintro e w3 ⟨rfl, hb3, z3, o3⟩; have l3 := l2.nil o3)
    | (go_at_call 18; (with_reducible refine (bg.out _ _ _ _ _ l3).mono ?_); rintro e w4 ⟨rfl, l4, q4, o4, z4⟩)
    | (go_at_call 36; (with_reducible refine (dn.out _ _ _ _ _ _ _ l4 q4 ht).mono ?_); rintro e w5 ⟨rfl, l5, q5, o5⟩))
  have hb5 : w5.heap[w2.heap.size]? = some (.cells (u64s L) 40 (0, 0)) := by
    have b4 := (o4.block w2.heap.size z3 (fun h => h)).trans hb3
    refine (o5.block w2.heap.size (by have := lt_of_block b4; omega) (fun hh => ?_)).trans b4
    have := l2.rng.mem.lt_hb; have := l2.rng.mem.lt_rb
    rcases hh with (e | e) | e <;> omega
  have ht' := Lib.hid ht
  clear ht
  have L5 := Lib.hid l5
  have B5 := Lib.hid hb5
  have ow := Lib.hid o1
  clear o1 l2 l2x o3 hb3 z3 l3 l4 q4 o4 z4 l5 q5 o5 hb5 md al bg dn
  generalize w2.heap.size = wb at *
  generalize w1.heap.size = B at *
  go_loopw [16] (fun s16 wr => ∃ i : Nat, i ≤ n ∧ s16 = .int .i64 (i : Int) ∧ Hid (∃ t, t ≤ 200 ∧ Lw w1 wr rg (B + 1) B 0 n (finL q n v L) t) ∧ Hid (wr.heap[wb]? = some (.cells (u64s L) 40 (0, 0))))
    (fun s16 _ => n - (intOf s16).toNat)
  case atStart => exact ⟨0, Nat.zero_le _, rfl, Lib.hid ⟨_, by have := finN_le n v; have := ht'.out; omega, L5.out⟩, B5⟩
  case round =>
    obtain ⟨i, hi, rfl, hh, hB⟩ := hrel
    by_cases hin : i < n
    · have hii : (i : Int) < (n : Int) := by omega
      have n8 := c8.out.2
      have hi9 : (i : Int) < 8 := by omega
      have hi2 := Lib.hid hin
      clear hin hi
      by_cases hiv : (i : Int) = v
      · subst hiv
        obtain ⟨t2, ht2, hL2⟩ := hh.out
        have hL2' := Lib.hid hL2
        have ht2' := Lib.hid ht2
        clear n8 hL2 ht2 hh
        go_wp2
        go_quiet (fail)
        go_wp2
        go_roundw
        case rel => exact ⟨i + 1, by have := hi2.out; omega, by go_num, Lib.hid ⟨t2, ht2'.out, hL2'.out.nil ((Only.refl Nil _).drewN _)⟩, hB⟩
        case measure => have := hi2.out; simp [intOf]; omega
      · obtain ⟨t2, ht2, hL2⟩ := hh.out
        have pk := Lib.hid (fun m => peek_yes (hL2.rng.mem.drewN m) i (by rw [finL_length, hlen'.out]; have := hi2.out; omega))
        rw [finL_other q n v L i hiv] at pk
        have wc := cell_u64s hB.out i (by rw [hlen'.out]; have := hi2.out; omega)
        have hiv2 : ((i : Int) != v) = true := by simpa using hiv
        have hi3 : (i : Int) < (n : Int) + 1 := by omega
        have hL2' := Lib.hid hL2
        have ht2' := Lib.hid ht2
        clear hL2 hiv n8 ht2 hh
        generalize L.getD i 0 = x at *
        go_wp2
        go_quiet ((go_at_call 30; exact quiet_same (pk.out _)))
        go_wp2
        go_roundw
        case rel => exact ⟨i + 1, by have := hi2.out; omega, by go_num, Lib.hid ⟨t2, ht2'.out, hL2'.out.nil ((Only.refl Nil _).drewN _)⟩, hB⟩
        case measure => have := hi2.out; simp [intOf]; omega
    · obtain rfl : i = n := by omega
      obtain ⟨t2, ht2, hL2⟩ := hh.out
      have po := Lib.hid (hL2.poll v)
      have dn := Lib.hid (fun (w2 : World) (ob x : Nat) (h : Lw w1 w2 rg (B + 1) B 0 i (finL q i v L) t2) (p : Op1 w1 w2 ob rg (B + 1) B i (bgn .poll i v x)) => h.done p (run_bgn .poll i v x _) (by have := finN_le i v; omega) (by have := finN_le i v; omega))
      simp only [OS.o, OS.x] at dn
      have c8' := c8.out
      by_cases hv : 0 ≤ v ∧ v < (i : Int)
      · obtain ⟨v0, v1⟩ := hv
        have hO : finO q i v L = q.out (L.getD v.toNat 0) := if_pos ⟨v0, v1⟩
        have hO2 : finO .poll i v L = Kd.out (L.getD v.toNat 0) .poll := if_pos ⟨v0, v1⟩
        have v2 : ¬ (v < 0) := by omega
        have v3 : ¬ ((i : Int) ≤ v) := by omega
        cases q with
        | sleep =>
          rw [hO]
          generalize finO .poll i v (finL .sleep i v L) = z at dn
          simp only [Kd.num, Kd.out] at *
          clear hin hi hh hL2 ht2 v0 v1 c8' hO hO2 hB
          go_wp2_with (first
            | (go_at_call 37; (with_reducible refine (po.out).mono ?_); rintro e w8 ⟨rfl, l8, q8, o8, z8⟩)
            | (go_at_call 36; (with_reducible refine (dn.out _ _ _ l8 q8).mono ?_); rintro e w9 ⟨rfl, l9, _, o9⟩))
          go_ret
          exact ⟨rfl, (ow.out.trans l9.only).below (Nat.le_refl _) (fun _ h => h.elim)⟩
        | up =>
          rw [hO]
          generalize finO .poll i v (finL .up i v L) = z at dn
          simp only [Kd.num, Kd.out] at *
          clear hin hi hh hL2 ht2 v0 v1 c8' hO hO2 hB
          go_wp2_with (first
            | (go_at_call 37; (with_reducible refine (po.out).mono ?_); rintro e w8 ⟨rfl, l8, q8, o8, z8⟩)
            | (go_at_call 36; (with_reducible refine (dn.out _ _ _ l8 q8).mono ?_); rintro e w9 ⟨rfl, l9, _, o9⟩))
          go_ret
          exact ⟨rfl, (ow.out.trans l9.only).below (Nat.le_refl _) (fun _ h => h.elim)⟩
        | poll =>
          rw [finL_poll, hO2] at dn
          rw [finL_poll] at po hL2
          rw [hO2]
          have e3 : 1 + j % 3 = 3 := e2'.out
          have zz : Kd.out (L.getD v.toNat 0) .poll = 1 ∨ Kd.out (L.getD v.toNat 0) .poll = 4 := by unfold Kd.out; simp only; split <;> simp
          generalize Kd.out (L.getD v.toNat 0) .poll = z at *
          clear hin hi hh hL2 ht2 v0 v1 c8' hO hO2 hB e2'
          rcases zz with rfl | rfl
          · go_wp2_with (first
              | (go_at_call 37; (with_reducible refine (po.out).mono ?_); rintro e w8 ⟨rfl, l8, q8, o8, z8⟩)
              | (go_at_call 36; (with_reducible refine (dn.out _ _ _ l8 q8).mono ?_); rintro e w9 ⟨rfl, l9, _, o9⟩))
            go_ret
            exact ⟨rfl, (ow.out.trans l9.only).below (Nat.le_refl _) (fun _ h => h.elim)⟩
          · go_wp2_with (first
              | (go_at_call 37; (with_reducible refine (po.out).mono ?_); rintro e w8 ⟨rfl, l8, q8, o8, z8⟩)
              | (go_at_call 36; (with_reducible refine (dn.out _ _ _ l8 q8).mono ?_); rintro e w9 ⟨rfl, l9, _, o9⟩))
            go_ret
            exact ⟨rfl, (ow.out.trans l9.only).below (Nat.le_refl _) (fun _ h => h.elim)⟩
      · have hO : finO q i v L = 4 := if_neg hv
        rw [hO]
        have fin := Lib.hid ((ow.out.trans hL2.only).below (Nat.le_refl _) (fun _ h => h.elim))
        clear hin hi hh hL2 ht2 c8' hO hB po dn
        by_cases v2 : v < 0
        · clear hv
          go_wp2
          go_ret
          exact ⟨rfl, fin.out⟩
        · have v3 : (i : Int) ≤ v := by omega
          clear hv
          go_wp2
          go_ret
          exact ⟨rfl, fin.out⟩

theorem others_all (k j v : Int) (a : Option Addr) (cap : Nat) (A : List Bool) (w : World) (hk : 0 ≤ k ∧ k < 256) (hj : 0 ≤ j ∧ j < 256) (hA : RowBo w a A) (hr : A.length * 1 ≤ 140737488351232) :
    Calls Try.prog 7 #[.int .u8 k, .slice a A.length cap, .int .u8 j, .int .i64 v] w fun e w' => e = .returned (.bool true) ∧ Below w.heap.size w w' := by
  obtain ⟨n, hn⟩ := Int.eq_ofNat_of_zero_le (show 0 ≤ 1 + k % 8 by omega)
  by_cases h1 : j % 3 = 0
  · exact others_walk .sleep k j v a cap A n w (by omega) hn (by rw [h1]; rfl) hk hj hA hr
  · by_cases h2 : j % 3 = 1
    · exact others_walk .up k j v a cap A n w (by omega) hn (by rw [h2]; rfl) hk hj hA hr
    · have h3 : j % 3 = 2 := by omega
      exact others_walk .poll k j v a cap A n w (by omega) hn (by rw [h3]; rfl) hk hj hA hr
end Go.Proofs.Ytfhbgabblegecaa.Bl
