/- PostHeld: the walk. -/
import Derived.Test.YtmkcmncbiancgaaPoHeA
namespace Go.Proofs.Ytmkcmncbiancgaa.Po
open Go.RowKit Go.Proofs.Ytmkcmncbiancgaa
set_option maxRecDepth 100000 in
set_option maxHeartbeats 8000000 in
theorem held_all (a0 a1 : Int) (a2 : Bool) (h0 : 0 ≤ a0 ∧ a0 < 256) (w : World) :
    Calls Try.prog 5 #[.int .u8 a0, .int .u64 a1, .bool a2] w fun e w' => e = .returned (.bool true) ∧ Below w.heap.size w w' := by
  obtain ⟨n, hn⟩ : ∃ n : Nat, (n : Int) = a0 % 8 := ⟨(a0 % 8).toNat, by omega⟩
  have hn8 : n < 8 := by omega
  have e0 : IntKind.i64.wrap a0 = a0 := by rw [IntKind.wrap_i64]; omega
  have e1 : Int.tmod a0 8 = (n : Int) := by rw [hn]; exact Int.tmod_eq_emod_of_nonneg h0.1
  have al := Lib.hid (alive_any w)
  have md := Lib.hid (fun w1 => made_any w1 8 4 (by decide) (by decide) (by decide) (by decide))
  simp only [mdA, show ((8 : Nat) : Int) = 8 from rfl, show ((4 : Nat) : Int) = 4 from rfl] at md
  have nn : Hid (n < 8) := Lib.hid hn8
  have gn : (n : Int) ≤ 7 := by omega
  clear h0 hn hn8
  go_enter Try.func5, Try.ntmps5
  go_wp2_with (first
    | (go_at_call 8; refine (al.out).mono ?_; rintro e w1 ⟨rfl, o1⟩)
    | (go_at_call 18; refine (md.out _).mono ?_; rintro e w2 ⟨bx, mg, ng, rfl, h0⟩; have s0 := Lib.hid (h0.out.settle true (hd_set bx mg ng (w1.heap.size + 1) w1.heap.size) (by decide) (by decide) 1100 (by decide) (o := 4) (x := 0) (m := 3) rfl rfl rfl))
    | (go_at_call 24; (with_reducible refine (s0.out).mono ?_); rintro e y0 ⟨ob0, rfl, d0⟩)
    | (go_at_call 23; (with_reducible refine (d0.out).mono ?_); rintro e x1 ⟨rfl, h1⟩))
  have h1' : Hid (Lw w1 x1 ⟨bx, mg, ng, w1.heap.size + 1, w1.heap.size, 0, 8, 4⟩ (hdL ⟨bx, mg, ng, w1.heap.size + 1, w1.heap.size, 0, 8, 4⟩ 0) 1100) := h1
  have o1' := Lib.hid o1
  clear s0 d0 h0 h1 al md o1
  go_loopw [13] (fun s13 wr => ∃ i : Nat, i ≤ n ∧ s13 = .int .i64 (i : Int) ∧ Hid (Lw w1 wr ⟨bx, mg, ng, w1.heap.size + 1, w1.heap.size, 0, 8, 4⟩ (hdL ⟨bx, mg, ng, w1.heap.size + 1, w1.heap.size, 0, 8, 4⟩ i) (1100 + 100 * (i : Int))))
    (fun s13 _ => n - (intOf s13).toNat)
  case atStart => exact ⟨0, Nat.zero_le _, rfl, Lib.hid (by simpa using h1'.out)⟩
  case round =>
    obtain ⟨i, hi, rfl, hh⟩ := hrel
    have uw : IntKind.u64.wrap (i : Int) = (i : Int) := by rw [IntKind.wrap_u64]; omega
    by_cases hlt : i < n
    · have hl2 : (i : Int) < (n : Int) := by omega
      have tl := Lib.hid (hh.out.tell (i : Int) (hd_tell bx mg ng (w1.heap.size + 1) w1.heap.size i (by have := nn.out; omega)) (by decide) (by omega) (1100 + 100 * ((i + 1 : Nat) : Int)) (by omega) (o := 1) (x := 0) (m := 6) rfl rfl rfl)
      clear hh hlt
      go_wp2_with (first
        | (go_at_call 25; (with_reducible refine (tl.out).mono ?_); rintro e y1 ⟨ob1, rfl, d1⟩)
        | (go_at_call 23; (with_reducible refine (d1.out).mono ?_); rintro e x2 ⟨rfl, h2⟩))
      go_roundw
      case rel => exact ⟨i + 1, by omega, by go_num, h2⟩
      case measure => simp [intOf]; omega
    · obtain rfl : i = n := by omega
      have hl2 : ¬ ((i : Int) < (i : Int)) := by omega
      obtain ⟨r1, r2, r3, r4, r5, r6, r7, r8⟩ := hd_all bx mg ng (w1.heap.size + 1) w1.heap.size a1 i nn.out
      have p1 := Lib.hid (hh.out.push a1 r1 (by decide) (by omega) 2000 (by omega) (o := 7) (x := 0) (m := 7) rfl rfl rfl)
      have p2 := Lib.hid (fun w2 (H : Lw w1 w2 ⟨bx, mg, ng, w1.heap.size + 1, w1.heap.size, 0, 8, 4⟩ (hdP ⟨bx, mg, ng, w1.heap.size + 1, w1.heap.size, 0, 8, 4⟩ i a1) 2000) => H.push a1 r2 (by decide) (by decide) 2100 (by decide) (o := 1) (x := 0) (m := 6) rfl rfl rfl)
      have p3 := Lib.hid (fun w2 (H : Lw w1 w2 ⟨bx, mg, ng, w1.heap.size + 1, w1.heap.size, 0, 8, 4⟩ (hdQ ⟨bx, mg, ng, w1.heap.size + 1, w1.heap.size, 0, 8, 4⟩ i a1) 2100) => H.peek 1 r3)
      have p4 := Lib.hid (fun w2 (H : Lw w1 w2 ⟨bx, mg, ng, w1.heap.size + 1, w1.heap.size, 0, 8, 4⟩ (hdQ ⟨bx, mg, ng, w1.heap.size + 1, w1.heap.size, 0, 8, 4⟩ i a1) 2100) => H.begin r4 (by decide) (by decide) 2200 (by decide) (o := 1) (x := 0) (m := 1) rfl rfl rfl)
      have p5 := Lib.hid (fun w2 (H : Lw w1 w2 ⟨bx, mg, ng, w1.heap.size + 1, w1.heap.size, 0, 8, 4⟩ (hdB ⟨bx, mg, ng, w1.heap.size + 1, w1.heap.size, 0, 8, 4⟩ i a1) 2200) => H.note r5 (by decide) (by decide) 2300 (by decide) (o := 1) (x := a1) (m := 5) rfl rfl rfl)
      have p6 := Lib.hid (fun w2 (H : Lw w1 w2 ⟨bx, mg, ng, w1.heap.size + 1, w1.heap.size, 0, 8, 4⟩ (hdN ⟨bx, mg, ng, w1.heap.size + 1, w1.heap.size, 0, 8, 4⟩ i a1) 2300) => H.settle true r6 (by decide) (by decide) 2400 (by decide) (o := 8) (x := 0) (m := 4) rfl rfl rfl)
      have p7 := Lib.hid (fun w2 (H : Lw w1 w2 ⟨bx, mg, ng, w1.heap.size + 1, w1.heap.size, 0, 8, 4⟩ (hdN ⟨bx, mg, ng, w1.heap.size + 1, w1.heap.size, 0, 8, 4⟩ i a1) 2300) => H.note r7 (by decide) (by decide) 2400 (by decide) (o := 1) (x := a1) (m := 5) rfl rfl rfl)
      have hm : (if i = 0 then 5 else 6) < 100 := by split <;> decide
      have p8 := Lib.hid (fun w2 (H : Lw w1 w2 ⟨bx, mg, ng, w1.heap.size + 1, w1.heap.size, 0, 8, 4⟩ (hdM ⟨bx, mg, ng, w1.heap.size + 1, w1.heap.size, 0, 8, 4⟩ i a1) 2400) => H.settle false r8 hm (by decide) 2500 (by split <;> decide) (o := if i = 0 then 4 else 8) (x := 0) (m := ((if i = 0 then 5 else 6 : Nat) : Int)) (by split <;> rfl) rfl rfl)
      clear r1 r2 r3 r4 r5 r6 r7 r8 hm hh uw hi hlt
      cases a2 with
      | true =>
        go_wp2_with (first
        | (go_at_call 26; (with_reducible refine (p1.out).mono ?_); rintro e y2 ⟨ob2, rfl, d2⟩)
        | (go_at_call 23; (with_reducible refine (d2.out).mono ?_); rintro e x2 ⟨rfl, h2⟩)
        | (go_at_call 26; (with_reducible refine (p2.out _ h2.out).mono ?_); rintro e y3 ⟨ob3, rfl, d3⟩)
        | (go_at_call 23; (with_reducible refine (d3.out).mono ?_); rintro e x3 ⟨rfl, h3⟩)
        | (go_at_call 27; (with_reducible refine (p4.out _ h3.out).mono ?_); rintro e y4 ⟨ob4, rfl, d4⟩)
        | (go_at_call 23; (with_reducible refine (d4.out).mono ?_); rintro e x4 ⟨rfl, h4⟩)
        | (go_at_call 28; (with_reducible refine (p5.out _ h4.out).mono ?_); rintro e y5 ⟨ob5, rfl, d5⟩)
        | (go_at_call 23; (with_reducible refine (d5.out).mono ?_); rintro e x5 ⟨rfl, h5⟩)
        | (go_at_call 24; (with_reducible refine (p6.out _ h5.out).mono ?_); rintro e y6 ⟨ob6, rfl, d6⟩)
        | (go_at_call 23; (with_reducible refine (d6.out).mono ?_); rintro e x6 ⟨rfl, h6⟩)
        | (go_at_call 22; (with_reducible refine (p3.out _ h3.out).mono ?_); rintro e z3 ⟨rfl, rfl⟩))
        go_ret
        exact ⟨rfl, (o1'.out.trans h6.out.only).below (Nat.le_refl _) (fun _ h => h.elim)⟩
      | false =>
        by_cases hz : i = 0
        · have hz2 : (i : Int) = 0 := by omega
          simp only [if_pos hz] at p8
          go_wp2_with (first
        | (go_at_call 26; (with_reducible refine (p1.out).mono ?_); rintro e y2 ⟨ob2, rfl, d2⟩)
        | (go_at_call 23; (with_reducible refine (d2.out).mono ?_); rintro e x2 ⟨rfl, h2⟩)
        | (go_at_call 26; (with_reducible refine (p2.out _ h2.out).mono ?_); rintro e y3 ⟨ob3, rfl, d3⟩)
        | (go_at_call 23; (with_reducible refine (d3.out).mono ?_); rintro e x3 ⟨rfl, h3⟩)
        | (go_at_call 27; (with_reducible refine (p4.out _ h3.out).mono ?_); rintro e y4 ⟨ob4, rfl, d4⟩)
        | (go_at_call 23; (with_reducible refine (d4.out).mono ?_); rintro e x4 ⟨rfl, h4⟩)
        | (go_at_call 28; (with_reducible refine (p5.out _ h4.out).mono ?_); rintro e y5 ⟨ob5, rfl, d5⟩)
        | (go_at_call 23; (with_reducible refine (d5.out).mono ?_); rintro e x5 ⟨rfl, h5⟩)
        | (go_at_call 28; (with_reducible refine (p7.out _ h5.out).mono ?_); rintro e y6 ⟨ob6, rfl, d6⟩)
        | (go_at_call 23; (with_reducible refine (d6.out).mono ?_); rintro e x6 ⟨rfl, h6⟩)
        | (go_at_call 24; (with_reducible refine (p8.out _ h6.out).mono ?_); rintro e y7 ⟨ob7, rfl, d7⟩)
        | (go_at_call 23; (with_reducible refine (d7.out).mono ?_); rintro e x7 ⟨rfl, h7⟩)
        | (go_at_call 22; (with_reducible refine (p3.out _ h3.out).mono ?_); rintro e z3 ⟨rfl, rfl⟩))
          go_ret
          exact ⟨rfl, (o1'.out.trans h7.out.only).below (Nat.le_refl _) (fun _ h => h.elim)⟩
        · have hz2 : ¬ ((i : Int) = 0) := by omega
          have hz3 : (0 : Int) < (i : Int) := by omega
          simp only [if_neg hz] at p8
          go_wp2_with (first
        | (go_at_call 26; (with_reducible refine (p1.out).mono ?_); rintro e y2 ⟨ob2, rfl, d2⟩)
        | (go_at_call 23; (with_reducible refine (d2.out).mono ?_); rintro e x2 ⟨rfl, h2⟩)
        | (go_at_call 26; (with_reducible refine (p2.out _ h2.out).mono ?_); rintro e y3 ⟨ob3, rfl, d3⟩)
        | (go_at_call 23; (with_reducible refine (d3.out).mono ?_); rintro e x3 ⟨rfl, h3⟩)
        | (go_at_call 27; (with_reducible refine (p4.out _ h3.out).mono ?_); rintro e y4 ⟨ob4, rfl, d4⟩)
        | (go_at_call 23; (with_reducible refine (d4.out).mono ?_); rintro e x4 ⟨rfl, h4⟩)
        | (go_at_call 28; (with_reducible refine (p5.out _ h4.out).mono ?_); rintro e y5 ⟨ob5, rfl, d5⟩)
        | (go_at_call 23; (with_reducible refine (d5.out).mono ?_); rintro e x5 ⟨rfl, h5⟩)
        | (go_at_call 28; (with_reducible refine (p7.out _ h5.out).mono ?_); rintro e y6 ⟨ob6, rfl, d6⟩)
        | (go_at_call 23; (with_reducible refine (d6.out).mono ?_); rintro e x6 ⟨rfl, h6⟩)
        | (go_at_call 24; (with_reducible refine (p8.out _ h6.out).mono ?_); rintro e y7 ⟨ob7, rfl, d7⟩)
        | (go_at_call 23; (with_reducible refine (d7.out).mono ?_); rintro e x7 ⟨rfl, h7⟩)
        | (go_at_call 22; (with_reducible refine (p3.out _ h3.out).mono ?_); rintro e z3 ⟨rfl, rfl⟩))
          go_ret
          exact ⟨rfl, (o1'.out.trans h7.out.only).below (Nat.le_refl _) (fun _ h => h.elim)⟩
end Go.Proofs.Ytmkcmncbiancgaa.Po
