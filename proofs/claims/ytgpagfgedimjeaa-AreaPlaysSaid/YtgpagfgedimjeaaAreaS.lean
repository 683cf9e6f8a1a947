/- The document's own area: Take, Give. -/
import Derived.Test.YtgpagfgedimjeaaAreaR
namespace Go.Proofs.Ytgpagfgedimjeaa
open Go.RowKit

section
variable {w : World} {qb : Nat} {a : Option Addr} {cap : Nat} {O : List Int}

theorem rtake_arg (_h : RefAt w qb a cap O) (k : Int) (hk : k < 1) :
    Calls Try.prog 14 #[.pointer (some ⟨qb, 0, none⟩), .int .i64 k] w fun e w' => e = .returned (.tuple #[.int .i64 0, .int .i64 1]) ∧ w = w' := by
  clear _h
  go_enter Try.func14, Try.ntmps14
  go_wp2
  go_ret2
  exact ⟨rfl, rfl⟩

set_option maxHeartbeats 1000000 in
theorem rtake_no (h : RefAt w qb a cap O) (hO : O.length ≤ 65536) (k : Int) (hk : 1 ≤ k) (hno : ∀ c, c < O.length → ¬ Room O c k) :
    Calls Try.prog 14 #[.pointer (some ⟨qb, 0, none⟩), .int .i64 k] w fun e w' => e = .returned (.tuple #[.int .i64 0, .int .i64 4]) ∧ w = w' := by
  have c0 := h.c0
  have rr := Lib.hid (fun c (hc : c < O.length) => rroom_any h hO c (Nat.le_of_lt hc) k hk false ⟨fun e => by simp at e, fun e => absurd e (hno c hc)⟩)
  have hk' : ¬ k < 1 := by omega
  clear h hno
  generalize O.length = len at *
  have l1 : (len : Int) ≤ 65536 := by omega
  go_enter Try.func14, Try.ntmps14
  go_wp2
  go_loopw [6] (fun s6 wr => ∃ (b : Nat), b ≤ len ∧ s6 = .int .i64 (b : Int) ∧ wr = w)
    (fun s6 _ => len - (intOf s6).toNat)
  case atStart => exact ⟨0, Nat.zero_le _, rfl, rfl⟩
  case round =>
    obtain ⟨b, hb, rfl, rfl⟩ := hrel
    by_cases hlt : b < len
    · go_wp2_with (go_at_call 30; (with_reducible refine (rr.out b hlt).mono ?_); rintro e w5 ⟨rfl, rfl⟩)
      go_roundw
      case rel => exact ⟨b + 1, by omega, by go_num, by first | rfl | trivial⟩
      case measure => simp [intOf]; omega
    · obtain rfl : b = len := by omega
      have hk0 : ¬ (b : Int) < (b : Int) := by omega
      go_wp2
      go_ret2
      exact ⟨rfl, rfl⟩

set_option maxHeartbeats 2000000 in
theorem rtake_yes (h : RefAt w qb a cap O) (hO : O.length ≤ 65536) (k : Nat) (hk : 1 ≤ k) (b0 : Nat) (hr : Room O b0 k) (hno : ∀ c, c < b0 → ¬ Room O c k) :
    Calls Try.prog 14 #[.pointer (some ⟨qb, 0, none⟩), .int .i64 (k : Int)] w fun e w' =>
      e = .returned (.tuple #[.int .i64 (b0 : Int), .int .i64 0]) ∧ RefAt w' qb a cap (fillO O b0 k (b0 : Int)) ∧ Only (Own qb a) w w' := by
  have hr1 := hr.1
  have c0 := h.c0
  have rr := Lib.hid (fun c (hc : c < b0) => rroom_any h hO c (by omega) k (by omega) false ⟨fun e => by simp at e, fun e => absurd e (hno c hc)⟩)
  have ry := Lib.hid (rroom_any h hO b0 (by omega) k (by omega) true ⟨fun _ => hr, fun _ => rfl⟩)
  have hk' : ¬ (k : Int) < 1 := by omega
  have h' := Lib.hid (show RefAt w qb a cap (fillO O b0 0 (b0 : Int)) by rw [fillO_zero]; exact h)
  have fs := Lib.hid (fun i (hi : b0 + i < O.length) => fillO_set O b0 i (b0 : Int) hi)
  have fl := Lib.hid (fun i => length_fillO O b0 i (b0 : Int))
  clear h hno hr
  generalize hlen : O.length = len at *
  clear hlen
  have l1 : (len : Int) ≤ 65536 := by omega
  have l2 : (b0 : Int) + (k : Int) ≤ (len : Int) := by omega
  go_enter Try.func14, Try.ntmps14
  go_wp2
  go_loopw [6] (fun s6 wr => ∃ (b : Nat), b ≤ b0 ∧ s6 = .int .i64 (b : Int) ∧ w = wr)
    (fun s6 _ => len - (intOf s6).toNat)
  case atStart => exact ⟨0, Nat.zero_le _, rfl, rfl⟩
  case round =>
    obtain ⟨b, hb, rfl, rfl⟩ := hrel
    have hbl : b < len := by omega
    by_cases hlt : b < b0
    · go_wp2_with (go_at_call 30; (with_reducible refine (rr.out b hlt).mono ?_); rintro e w5 ⟨rfl, rfl⟩)
      go_roundw
      case rel => exact ⟨b + 1, by omega, by go_num, by first | rfl | trivial⟩
      case measure => simp [intOf]; omega
    · obtain rfl : b = b0 := by omega
      go_wp2_with (go_at_call 30; (with_reducible refine (ry.out).mono ?_); rintro e w5 ⟨rfl, rfl⟩)
      have h2 := Lib.hid h'.out
      clear ry rr h' hk'
      go_loopw [7] (fun s7 wx => ∃ (i : Nat), i ≤ k ∧ s7 = .int .i64 (i : Int) ∧ Hid (RefAt wx qb a cap (fillO O b i (b : Int))) ∧ Hid (Only (Own qb a) w wx))
        (fun s7 _ => k - (intOf s7).toNat)
      case atStart => exact ⟨0, Nat.zero_le _, rfl, h2, Lib.hid (Only.refl _ _)⟩
      case round =>
        obtain ⟨i, hi, rfl, hA, ho⟩ := hrel
        by_cases hik : i < k
        · have d0 := hA.out.c0
          rw [fl.out] at d0
          obtain ⟨g, rfl, hg1, hg2⟩ := hA.out.ints (b + i) (by rw [fl.out]; omega)
          have x0 := hg2 (b + i) (by rw [fl.out]; omega)
          have f0 := hA.out.fro (b + i)
          have st := Lib.hid (hA.out.store (b + i) (b : Int))
          rw [fs.out i (by omega)] at st
          clear hg2
          generalize (fillO O b i (b : Int)).getD (b + i) 0 = x at x0
          have hbi : (b : Int) + (i : Int) < (len : Int) := by omega
          have hbi' : b + i < len := by omega
          have htn : ((b : Int) + (i : Int)).toNat = b + i := by omega
          go_wp2
          go_roundw
          case rel => exact ⟨i + 1, by omega, by go_num, Lib.hid st.out.1, Lib.hid (ho.out.trans st.out.2)⟩
          case measure => simp [intOf]; omega
        · obtain rfl : i = k := by omega
          have hk0 : ¬ (i : Int) < (i : Int) := by omega
          go_wp2
          go_ret2
          exact ⟨rfl, hA.out, ho.out⟩

theorem rgive_no (h : RefAt w qb a cap O) (x : Int) (hno : ∀ c : Nat, c < O.length → (c : Int) = x → O.getD c 0 ≠ x) :
    Calls Try.prog 12 #[.pointer (some ⟨qb, 0, none⟩), .int .i64 x] w fun e w' => e = .returned (.int .i64 2) ∧ w = w' := by
  have c0 := h.c0
  have ii := Lib.hid h.ints
  have hno' := Lib.hid hno
  clear h hno
  by_cases h1 : x < 0
  · have d1 : decide (x < 0) = true := decide_eq_true h1
    go_enter Try.func12, Try.ntmps12
    go_wp2
    go_ret
    exact ⟨rfl, rfl⟩
  by_cases h2 : (O.length : Int) ≤ x
  · have h3 : ¬ x < (O.length : Int) := by omega
    go_enter Try.func12, Try.ntmps12
    go_wp2
    go_ret
    exact ⟨rfl, rfl⟩
  · obtain ⟨c, rfl⟩ : ∃ c : Nat, x = (c : Int) := ⟨x.toNat, by omega⟩
    have hc : c < O.length := by omega
    obtain ⟨g, rfl, hg1, hg2⟩ := ii.out c hc
    have x0 := hg2 c hc
    have hne := hno'.out c hc rfl
    clear hg2
    have hc' : (c : Int) < (O.length : Int) := by omega
    have hc2 : ¬ (O.length : Int) ≤ (c : Int) := by omega
    generalize O.getD c 0 = y at x0 hne
    have hb : (y != (c : Int)) = true := by simpa using hne
    go_enter Try.func12, Try.ntmps12
    go_wp2
    go_ret
    exact ⟨rfl, rfl⟩

set_option maxHeartbeats 2000000 in
theorem rgive_yes (h : RefAt w qb a cap O) (hO : O.length ≤ 65536) (b k : Nat) (hk : 1 ≤ k) (hbk : b + k ≤ O.length) (hin : ∀ i, i < k → O.getD (b + i) 0 = (b : Int)) (hout : b + k < O.length → O.getD (b + k) 0 ≠ (b : Int)) :
    Calls Try.prog 12 #[.pointer (some ⟨qb, 0, none⟩), .int .i64 (b : Int)] w fun e w' =>
      e = .returned (.int .i64 0) ∧ RefAt w' qb a cap (fillO O b k (-1)) ∧ Only (Own qb a) w w' := by
  have c0 := h.c0
  have h' := Lib.hid (show RefAt w qb a cap (fillO O b 0 (-1)) by rw [fillO_zero]; exact h)
  have fs := Lib.hid (fun i (hi : b + i < O.length) => fillO_set O b i (-1) hi)
  have fl := Lib.hid (fun i => length_fillO O b i (-1))
  have fg := Lib.hid (fun i c (hc : c < O.length) => getD_fillO O b i (-1) c hc)
  obtain ⟨g, rfl, hg1, hg2⟩ := h.ints b (by omega)
  have x0 := hg2 b (by omega)
  rw [show O.getD b 0 = (b : Int) from hin 0 (by omega)] at x0
  have hin' := Lib.hid hin
  have hout' := Lib.hid hout
  clear h hin hout hg2
  generalize O.length = len at *
  have l1 : (len : Int) ≤ 65536 := by omega
  have l2 : (b : Int) < (len : Int) := by omega
  have l3 : ¬ (len : Int) ≤ (b : Int) := by omega
  have l4 : ¬ (b : Int) < 0 := by omega
  go_enter Try.func12, Try.ntmps12
  go_wp2
  go_loopw [5] (fun s5 wr => ∃ (i : Nat), i ≤ k ∧ s5 = .int .i64 ((b : Int) + (i : Int)) ∧ Hid (RefAt wr qb (some ⟨g, 0, none⟩) cap (fillO O b i (-1))) ∧ Hid (Only (Own qb (some ⟨g, 0, none⟩)) w wr))
    (fun s5 _ => len - (intOf s5).toNat)
  case atStart => exact ⟨0, Nat.zero_le _, by simp, h', Lib.hid (Only.refl _ _)⟩
  case round =>
    obtain ⟨i, hi, rfl, hA, ho⟩ := hrel
    clear x0 c0
    have d0 := hA.out.c0
    rw [fl.out] at d0
    have hbi0 : (0 : Int) ≤ (b : Int) + (i : Int) := by omega
    have htn : ((b : Int) + (i : Int)).toNat = b + i := by omega
    by_cases hik : i < k
    · obtain ⟨g', hg0, hg1, hg2⟩ := hA.out.ints (b + i) (by rw [fl.out]; omega)
      simp only [Option.some.injEq, Addr.mk.injEq, and_true] at hg0
      subst hg0
      have x0 := hg2 (b + i) (by rw [fl.out]; omega)
      rw [fg.out i (b + i) (by omega), if_neg (by omega), hin'.out i hik] at x0
      have f0 := hA.out.fro (b + i)
      have st := Lib.hid (hA.out.store (b + i) (-1))
      rw [fs.out i (by omega)] at st
      clear hg2
      have hbi : (b : Int) + (i : Int) < (len : Int) := by omega
      have hbi' : b + i < len := by omega
      go_wp2
      go_roundw
      case rel => exact ⟨i + 1, by omega, by go_num, Lib.hid st.out.1, Lib.hid (ho.out.trans st.out.2)⟩
      case measure => simp [intOf]; omega
    · obtain rfl : i = k := by omega
      by_cases hbl : b + i < len
      · obtain ⟨g', hg0, hg1, hg2⟩ := hA.out.ints (b + i) (by rw [fl.out]; omega)
        simp only [Option.some.injEq, Addr.mk.injEq, and_true] at hg0
        subst hg0
        have x0 := hg2 (b + i) (by rw [fl.out]; omega)
        rw [fg.out i (b + i) (by omega), if_neg (by omega)] at x0
        have hne := hout'.out hbl
        clear hg2
        generalize O.getD (b + i) 0 = y at x0 hne
        have hbi : (b : Int) + (i : Int) < (len : Int) := by omega
        have hb2 : (y == (b : Int)) = false := by simpa using hne
        go_wp2
        go_ret
        exact ⟨rfl, hA.out, ho.out⟩
      · have hbi : ¬ (b : Int) + (i : Int) < (len : Int) := by omega
        go_wp2
        go_ret
        exact ⟨rfl, hA.out, ho.out⟩
end
end Go.Proofs.Ytgpagfgedimjeaa
