/- DeadSums: the walk. -/
import Derived.Test.YtpkphmemeapdfaaDdH
import Derived.StillTailTactics
namespace Go.Proofs.Ytpkphmemeapdfaa.Dd
open Go.RowKit Go.Proofs.Ytpkphmemeapdfaa

/-- The counts of the first j reasons, together. -/
def pt (L : List Lr) : Nat → Nat
  | 0 => 0
  | j + 1 => pt L j + cnt L ((j : Int) + 1)
theorem pt_five {L : List Lr} (h : ∀ t ∈ L, right t.why = true) : pt L 5 = L.length := by
  rw [← cnt_all L h]
  simp [pt]
theorem pt_le (L : List Lr) : ∀ j, pt L j ≤ j * L.length
  | 0 => by simp [pt]
  | j + 1 => by
    have := pt_le L j
    have := cnt_le L ((j : Int) + 1)
    simp only [pt]
    rw [Nat.succ_mul]; omega

set_option maxRecDepth 100000 in
set_option maxHeartbeats 8000000 in
theorem sums_all (r : Int) (a : Option Addr) (cap : Nat) (X : List Lr) (w : World) (hX : LIn w a X) (hr : X.length * 24 ≤ 140737488351232) :
    Calls Try.prog 4 #[.int .i64 r, .slice a X.length cap] w fun e w' => e = .returned (.bool true) ∧ Below w.heap.size w w' := by
  have hX' := Lib.hid hX
  clear hX
  generalize hlen : X.length = len at hr ⊢
  have hlen' := Lib.hid hlen
  clear hlen
  have len8 : (len : Int) * 24 ≤ 140737488351232 := by omega
  have nw := Lib.hid (fun w1 (o : Only Nil w w1) => mine_new w w1 o r)
  clear hr
  go_enter Try.func4, Try.ntmps4
  go_wp2_with (first
    | (go_at_call 7; (with_reducible refine (alive_any _).mono ?_); rintro e w1 ⟨rfl, h⟩; have o1 := Lib.hid h; clear h)
    | (go_at_call 8; (with_reducible refine (nw.out _ o1.out).mono ?_); rintro e w2 ⟨rfl, h⟩; have k2 := Lib.hid h; clear h; generalize w1.heap.size + 1 = hb at *))
  generalize kn r = k at *
  go_loopw [6, 7] (fun s6 s7 wr => ∃ (i n : Nat) (L : List Lr), i ≤ len ∧ i ≤ 1000 ∧ n ≤ i ∧ s6 = .int .i64 (n : Int) ∧ s7 = .int .i64 (i : Int) ∧ Hid (L.length = n) ∧ Hid (Mine w wr hb k L))
    (fun _ s7 _ => 1000 - (intOf s7).toNat)
  case atStart => exact ⟨0, 0, [], Nat.zero_le _, Nat.zero_le _, Nat.le_refl _, rfl, rfl, Lib.hid rfl, k2⟩
  case round =>
    obtain ⟨i, n, L, hil, hi1, hni, rfl, rfl, hn, hm⟩ := hrel
    by_cases hin : i < len ∧ i < 1000
    · have hli : (i : Int) < (len : Int) := by omega
      have hl3 : (i : Int) < 1000 := by omega
      obtain ⟨bS, off, rfl, hb1, hb2⟩ := hX'.out i (by rw [hlen'.out]; exact hin.1)
      obtain ⟨x5, x6, x7⟩ := hb2 i (by rw [hlen'.out]; exact hin.1)
      clear hb2
      generalize X.getD i default = t at x5 x6 x7
      have owr : Only Nil w wr := hm.out.only
      have y5 : wr.cell? ⟨bS, off + i * 3, none⟩ = some (.int .u64 t.id) := (World.cell?_of_block (a := ⟨bS, off + i * 3, none⟩) (owr.block bS hb1 (fun z => z))).trans x5
      have y6 : wr.cell? ⟨bS, off + i * 3 + 1, none⟩ = some (.int .i64 t.dst) := (World.cell?_of_block (a := ⟨bS, off + i * 3 + 1, none⟩) (owr.block bS hb1 (fun z => z))).trans x6
      have y7 : wr.cell? ⟨bS, off + i * 3 + 2, none⟩ = some (.int .i64 t.why) := (World.cell?_of_block (a := ⟨bS, off + i * 3 + 2, none⟩) (owr.block bS hb1 (fun z => z))).trans x7
      have pu := Lib.hid (fun w1 (o : Only Nil wr w1) => mine_put (hm.out.nil o) t (by have := hn.out; omega))
      obtain ⟨L', hL'⟩ : ∃ L', L' = nx L t := ⟨_, rfl⟩
      obtain ⟨ev, hev⟩ : ∃ ev, ev = er t := ⟨_, rfl⟩
      have hee : Hid ((ev = 0 ∧ L'.length = n + 1) ∨ (ev = 1 ∧ L'.length = n)) := Lib.hid (by
        rw [hL', hev, nx_len, hn.out]
        unfold er
        cases right t.why
        · exact .inr ⟨rfl, rfl⟩
        · exact .inl ⟨rfl, rfl⟩)
      have nums := Lib.hid (And.intro hin hni)
      rw [← hL', ← hev] at pu
      clear x5 x6 x7 hb1 hin hil hi1 hni owr hL' hev
      go_wp2_with fail
      go_still_tail 16, (by kernel_rfl)
      change wpList _ _ _ _ _ wr.drew
      go_wp2_with (go_at_call 9; (with_reducible refine (pu.out _ (Only.refl Nil wr).drew).mono ?_); rintro e w3 ⟨rfl, h⟩; have k3 := Lib.hid h; clear h)
      have good := Lib.hid k3.out.good
      have cn := Lib.hid (fun (j : Nat) (hj : j < 5) => show Calls Try.prog 11 #[.pointer (some ⟨hb, 0, none⟩), .int .i64 ((j : Int) + 1)] w3 fun e w' => e = .returned (.int .i64 (cnt L' ((j : Int) + 1) : Nat)) ∧ w3 = w' from mine_count k3.out _ (wf_small (by omega) (by omega)))
      clear y5 y6 y7 pu hm
      go_loopw [9, 10] (fun s9 s10 wz => ∃ j : Nat, j ≤ 5 ∧ s9 = .int .i64 (pt L' j : Nat) ∧ s10 = .int .i64 ((j : Int) + 1) ∧ w3 = wz)
        (fun _ s10 _ => 6 - (intOf s10).toNat)
      case atStart => exact ⟨0, Nat.zero_le _, rfl, rfl, rfl⟩
      case round =>
        obtain ⟨j, hj, rfl, rfl, rfl⟩ := hrel
        by_cases hj5 : j < 5
        · have cj := Lib.hid (cn.out j hj5)
          have hb1 := Lib.hid (pt_le L' j)
          have hb2 := Lib.hid (cnt_le L' ((j : Int) + 1))
          have e1 := Lib.hid (show pt L' (j + 1) = pt L' j + cnt L' ((j : Int) + 1) from rfl)
          have hLl := Lib.hid (show L'.length ≤ 1000 by have := hee.out; have := nums.out; omega)
          have p0 : ((pt L' j : Nat) : Int) ≤ 5000 := by have := hb1.out; have := hLl.out; have : j * L'.length ≤ 5 * 1000 := Nat.mul_le_mul hj (by omega); omega
          have p1 : ((cnt L' ((j : Int) + 1) : Nat) : Int) ≤ 1000 := by have := hb2.out; have := hLl.out; omega
          have hjj : (j : Int) < 5 := by omega
          generalize pt L' j = pj at *
          generalize cnt L' ((j : Int) + 1) = cj' at *
          go_wp2_with (go_at_call 11; (with_reducible refine cj.out.mono ?_); rintro e w' ⟨rfl, rfl⟩)
          go_roundw
          case rel => exact ⟨j + 1, by omega, by rw [e1.out]; go_num, by go_num, trivial⟩
          case measure => simp [intOf]; omega
        · obtain rfl : j = 5 := by omega
          have e5 := Lib.hid (pt_five good.out)
          have hL1 := Lib.hid (show L'.length ≤ 65000 by have := hee.out; have := nums.out; omega)
          have tt := Lib.hid (fun w1 (h : Mine w w1 hb k L') => mine_total h hL1.out)
          clear cn hj hj5
          generalize hq5 : pt L' 5 = p5 at *
          have e5' := Lib.hid (show p5 = L'.length from e5.out)
          clear hq5 e5
          obtain ⟨n', hn'⟩ : ∃ n', n' = L'.length := ⟨_, rfl⟩
          obtain rfl : p5 = n' := e5'.out.trans hn'.symm
          rw [← hn'] at hee tt
          have hn2 := Lib.hid hn'
          clear hn' e5'
          have hi3 : (i : Int) ≤ 1000 := by omega
          have hnn : (n : Int) ≤ 1000 := by have := nums.out; omega
          obtain ⟨rfl, rfl⟩ | ⟨rfl, rfl⟩ := hee.out
          · go_wp2_with (first
              | (go_at_call 16; (with_reducible refine (tt.out _ k3.out).mono ?_); rintro e w4 ⟨rfl, h, _⟩; have k4 := Lib.hid h; clear h k3)
              | (go_at_call 16; (with_reducible refine (tt.out _ k4.out).mono ?_); rintro e w5 ⟨rfl, h, _⟩; have k5 := Lib.hid h; clear h k4)
              | (go_at_call 16; (with_reducible refine (tt.out _ k5.out).mono ?_); rintro e w6 ⟨rfl, h, _⟩; have k6 := Lib.hid h; clear h k5))
            go_roundw
            case rel => exact ⟨i + 1, n + 1, L', by have := nums.out; omega, by have := nums.out; omega, by have := nums.out; omega, by go_num, by go_num, Lib.hid hn2.out.symm, k6⟩
            case measure => simp [intOf]; omega
          · go_wp2_with (first
              | (go_at_call 16; (with_reducible refine (tt.out _ k3.out).mono ?_); rintro e w4 ⟨rfl, h, _⟩; have k4 := Lib.hid h; clear h k3)
              | (go_at_call 16; (with_reducible refine (tt.out _ k4.out).mono ?_); rintro e w5 ⟨rfl, h, _⟩; have k5 := Lib.hid h; clear h k4)
              | (go_at_call 16; (with_reducible refine (tt.out _ k5.out).mono ?_); rintro e w6 ⟨rfl, h, _⟩; have k6 := Lib.hid h; clear h k5)
              | (go_at_call 16; (with_reducible refine (tt.out _ k6.out).mono ?_); rintro e w7 ⟨rfl, h, _⟩; have k7 := Lib.hid h; clear h k6))
            go_roundw
            case rel => exact ⟨i + 1, p5, L', by have := nums.out; omega, by have := nums.out; omega, by have := nums.out; omega, by go_num, by go_num, Lib.hid hn2.out.symm, k7⟩
            case measure => simp [intOf]; omega
    · have tt := Lib.hid (mine_total hm.out (by have := hn.out; omega))
      rw [hn.out] at tt
      have nums := Lib.hid (And.intro hin (And.intro hi1 hni))
      have hcase : i = len ∨ (i < len ∧ i = 1000) := by omega
      clear hin hi1 hni hn
      obtain rfl | ⟨hlt, rfl⟩ := hcase
      · have hk : ¬ (i : Int) < (i : Int) := by omega
        go_wp2_with (go_at_call 16; (with_reducible refine tt.out.mono ?_); rintro e w4 ⟨rfl, h, _⟩; have k4 := Lib.hid h; clear h)
        go_ret
        exact ⟨rfl, k4.out.only.below (Nat.le_refl _) (fun _ h => h.elim)⟩
      · have hk : (1000 : Int) < (len : Int) := by omega
        go_wp2_with (go_at_call 16; (with_reducible refine tt.out.mono ?_); rintro e w4 ⟨rfl, h, _⟩; have k4 := Lib.hid h; clear h)
        go_ret
        exact ⟨rfl, k4.out.only.below (Nat.le_refl _) (fun _ h => h.elim)⟩
end Go.Proofs.Ytpkphmemeapdfaa.Dd
