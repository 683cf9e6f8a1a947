/- StashRoom: the walk. -/
import Derived.Test.YtdhfmocjhcgicaaStI
namespace Go.Proofs.Ytdhfmocjhcgicaa.St
open Go.RowKit Go.Proofs.Ytdhfmocjhcgicaa

theorem er_less {n : Nat} {A : List Int} (h : A.length < n) (id : Int) : er n A = 0 ∧ nx n A id = A ++ [id] := by
  rcases er_cases n A id with ⟨h1, h2, h3⟩ | ⟨h1, h2, h3⟩
  · omega
  · exact ⟨h2, h3⟩
theorem er_full {n : Nat} {A : List Int} (h : A.length = n) (id : Int) : er n A = 4 ∧ nx n A id = A := by
  rcases er_cases n A id with ⟨h1, h2, h3⟩ | ⟨h1, h2, h3⟩
  · exact ⟨h2, h3⟩
  · omega

set_option maxRecDepth 100000 in
set_option maxHeartbeats 4000000 in
theorem room_all (r : Int) (id : Int) (w : World) :
    Calls Try.prog 6 #[.int .i64 r, .int .u64 id] w fun e w' => e = .returned (.bool true) ∧ Below w.heap.size w w' := by
  have hrm := rm_eq r
  have hk64 := rm_le r
  have ek : max 0 (min r 64) = (rm r : Int) := by omega
  have nw := Lib.hid (fun w1 (o : Only Nil w w1) => mine_new w w1 o r)
  generalize rm r = k at *
  clear hrm
  have k64 : (k : Int) ≤ 64 := by omega
  go_enter Try.func6, Try.ntmps6
  go_wp2_with (first
    | (go_at_call 8; (with_reducible refine (alive_any _).mono ?_); rintro e w1 ⟨rfl, h⟩; have o1 := Lib.hid h; clear h)
    | (go_at_call 9; (with_reducible refine (nw.out _ o1.out).mono ?_); rintro e w2 ⟨rfl, h⟩; have k2 := Lib.hid h; clear h; generalize w1.heap.size = hb at *))
  go_loopw [7, 8] (fun s7 _ wr => ∃ (q : Nat), 1 ≤ q ∧ q ≤ 4 ∧ s7 = .int .i64 (q : Int) ∧ Hid (Mine w wr hb k [] (List.replicate ((q - 1) * k) id)))
    (fun s7 _ _ => 4 - (intOf s7).toNat)
  case atStart => exact ⟨1, by omega, by omega, rfl, by simpa using k2⟩
  case round =>
    obtain ⟨q, hq1, hq4, rfl, hm⟩ := hrel
    by_cases hq : q ≤ 3
    · have hq3 : (q : Int) ≤ 3 := by omega
      have hqs := Lib.hid (And.intro hq1 hq)
      have m0 : Hid (Mine w wr hb k (List.replicate 0 id) (List.replicate ((q - 1) * k) id)) := hm
      clear hq1 hq4 hm
      go_wp2_with fail
      go_loopw [8] (fun s8 wi => ∃ (i : Nat), i ≤ k ∧ s8 = .int .i64 (i : Int) ∧ Hid (Mine w wi hb k (List.replicate i id) (List.replicate ((q - 1) * k) id)))
        (fun s8 _ => k - (intOf s8).toNat)
      case atStart => exact ⟨0, by omega, rfl, m0⟩
      case round =>
        obtain ⟨i, hi, rfl, hmi⟩ := hrel
        by_cases hik : i < k
        · have hiki : (i : Int) < (k : Int) := by omega
          obtain ⟨e1, e2⟩ := er_less (n := k) (A := List.replicate i id) (by simpa using hik) id
          have st := mine_stash hmi.out id
          rw [e1, e2, ← List.replicate_succ'] at st
          have st' := Lib.hid st
          have his := Lib.hid hik
          clear st e1 e2 hik hi
          go_wp2_with (go_at_call 12; (with_reducible refine st'.out.mono ?_); rintro e w3 ⟨rfl, h⟩; have k3 := Lib.hid h; clear h)
          go_roundw
          case rel => exact ⟨i + 1, his.out, by go_num, k3⟩
          case measure => have := his.out; simp [intOf]; omega
        · obtain rfl : i = k := by omega
          have hk0 : ¬ (i : Int) < (i : Int) := by omega
          obtain ⟨e1, e2⟩ := er_full (n := i) (A := List.replicate i id) (by simp) id
          have st := mine_stash hmi.out id
          rw [e1, e2] at st
          have st' := Lib.hid st
          obtain ⟨m, hmm⟩ : ∃ m, m = q * i := ⟨_, rfl⟩
          have e3 : List.replicate i id ++ List.replicate ((q - 1) * i) id = List.replicate m id := by
            rw [List.replicate_append_replicate, hmm]
            congr 1
            have := hqs.out.1
            obtain ⟨p, rfl⟩ : ∃ p, q = p + 1 := ⟨q - 1, by omega⟩
            rw [Nat.add_sub_cancel, Nat.succ_mul]; omega
          have bound : m ≤ 192 := by rw [hmm]; exact Nat.mul_le_mul hqs.out.2 hk64
          have hc : (q : Int) * (i : Int) = (m : Int) := by rw [hmm]; push_cast; rfl
          have hw : IntKind.i64.wrap ((q : Int) * (i : Int)) = (m : Int) := by rw [hc, IntKind.wrap_i64]; omega
          have qb : (q - 1) * i ≤ 50000 := Nat.le_trans (Nat.mul_le_mul (show q - 1 ≤ 2 by have := hqs.out.2; omega) hk64) (by omega)
          have un := Lib.hid (fun (w1 : World) (h : Mine w w1 hb i (List.replicate i id) (List.replicate ((q - 1) * i) id)) => show Calls Try.prog 13 #[.pointer (some ⟨hb, 0, none⟩)] w1 fun e w' => e = .returned (.int .i64 (i : Int)) ∧ Mine w w' hb i [] (List.replicate m id) from by
            have := mine_unstash h (by simpa using qb)
            rw [List.length_replicate, e3] at this
            exact this)
          have fr := Lib.hid (fun (w1 : World) (h : Mine w w1 hb i [] (List.replicate m id)) => show Calls Try.prog 21 #[.pointer (some ⟨hb, 0, none⟩)] w1 fun e w' => ∃ a' c', e = .returned (.slice a' m c') ∧ Hid (RowB w1.heap.size w' (.slice a' m c') (List.replicate m id) ∧ Only Nil w1 w') from by
            have := mine_front h (by simp; omega)
            rw [List.length_replicate] at this
            exact this)
          have hmm' := Lib.hid hmm
          clear st e1 e2 e3 hmm qb hi hik bound hc
          go_wp2_with (first
            | (go_at_call 12; (with_reducible refine st'.out.mono ?_); rintro e w3 ⟨rfl, h⟩; have k3 := Lib.hid h; clear h)
            | (go_at_call 13; (with_reducible refine (un.out _ k3.out).mono ?_); rintro e w4 ⟨rfl, h⟩; have k4 := Lib.hid h; clear h)
            | (go_at_call 21; (with_reducible refine (fr.out _ k4.out).mono ?_); rintro e w5 ⟨a5, c5, rfl, h⟩; have k5 := Lib.hid (k4.out.nil h.out.2); clear h))
          refine ⟨?rel, ?measure⟩
          case rel => exact ⟨q + 1, by omega, by have := hqs.out; omega, by go_num, by rw [Nat.add_sub_cancel, ← hmm'.out]; exact k5⟩
          case measure => have := hqs.out; simp [intOf]; omega
    · obtain rfl : q = 4 := by omega
      obtain ⟨m, hmm⟩ : ∃ m, m = 3 * k := ⟨_, rfl⟩
      have hw : IntKind.i64.wrap (3 * (k : Int)) = (m : Int) := by rw [IntKind.wrap_i64]; omega
      have cl := Lib.hid (show Calls Try.prog 18 #[.pointer (some ⟨hb, 0, none⟩)] wr fun e w' => ∃ a' c', e = .returned (.slice a' m c') ∧ Hid (Mine w w' hb k [] []) from by
        refine (mine_clear hm.out (by simp; omega)).mono ?_
        rintro e w' ⟨a', c', rfl, hk⟩
        exact ⟨a', c', by simp [hmm], Lib.hid hk.out.2⟩)
      clear hmm hm hq1 hq4
      go_wp2_with (go_at_call 18; (with_reducible refine cl.out.mono ?_); rintro e w3 ⟨a3, c3, rfl, k3⟩)
      go_ret
      exact ⟨by simp, k3.out.only.below (Nat.le_refl _) (fun _ h => h.elim)⟩
end Go.Proofs.Ytdhfmocjhcgicaa.St
