/- DeadLast: the walk. -/
import Derived.Test.YtpkphmemeapdfaaDdH
import Derived.StillTailTactics
namespace Go.Proofs.Ytpkphmemeapdfaa.Dd
open Go.RowKit Go.Proofs.Ytpkphmemeapdfaa

theorem kept_last {k : Nat} {L : List Lr} {t : Lr} {m : Nat} (hm : (kept k (L ++ [t])).length = m + 1) : (kept k (L ++ [t])).getD m default = t := by
  have hl := kept_length k (L ++ [t])
  rw [hm, List.length_append, List.length_singleton] at hl
  unfold kept
  rw [List.length_append, List.length_singleton]
  have e : L.length + 1 - k + m = L.length := by omega
  simp [List.getD_eq_getElem?_getD, List.getElem?_drop, e]

/-- What the law reads of the last ones. -/
theorem last_facts (k : Nat) (L : List Lr) (t : Lr) (er0 : Int) (he : er0 = er t) : (kept k (nx L t)).length = min k (nx L t).length ∧ (er0 = 1 ∨ (er0 = 0 ∧ ∀ m, (kept k (nx L t)).length = m + 1 → (kept k (nx L t)).getD m default = t)) := by
  refine ⟨kept_length _ _, ?_⟩
  subst he
  unfold er nx
  cases right t.why
  · exact .inl rfl
  · exact .inr ⟨rfl, fun m hm => kept_last hm⟩

theorem row3 {w : World} {R : Nat} {M : List Lr} (h : w.heap[R]? = some (.cells (lrs M).toArray 29 (0, 0))) (j : Nat) (hj : j < M.length) :
    w.cell? ⟨R, j * 3, none⟩ = some (.int .u64 (M.getD j default).id) ∧ w.cell? ⟨R, j * 3 + 1, none⟩ = some (.int .i64 (M.getD j default).dst) ∧ w.cell? ⟨R, j * 3 + 2, none⟩ = some (.int .i64 (M.getD j default).why) := by
  obtain ⟨a, b, c⟩ := lrs_get M j hj
  refine ⟨?_, ?_, ?_⟩ <;> rw [cell_of_row w R _ _ _ _ h, List.getElem?_toArray] <;> assumption

set_option maxRecDepth 100000 in
set_option maxHeartbeats 8000000 in
theorem last_all (r : Int) (a : Option Addr) (cap : Nat) (X : List Lr) (t0 : Lr) (w : World) (hX : LIn w a X) (hr : X.length * 24 ≤ 140737488351232) :
    Calls Try.prog 5 #[.int .i64 r, .slice a X.length cap, .agg #[.int .u64 t0.id, .int .i64 t0.dst, .int .i64 t0.why]] w fun e w' => e = .returned (.bool true) ∧ Below w.heap.size w w' := by
  have hX' := Lib.hid hX
  clear hX
  generalize hlen : X.length = len at hr ⊢
  have hlen' := Lib.hid hlen
  clear hlen
  have len8 : (len : Int) * 24 ≤ 140737488351232 := by omega
  have bx := Lib.hid (heap_new w (.cells #[.int .u64 t0.id, .int .i64 t0.dst, .int .i64 t0.why] 29))
  have ox := Lib.hid ((Only.refl Nil w).alloc (.cells #[.int .u64 t0.id, .int .i64 t0.dst, .int .i64 t0.why] 29))
  obtain ⟨wb, hwb⟩ : ∃ wb, wb = w.alloc (.cells #[.int .u64 t0.id, .int .i64 t0.dst, .int .i64 t0.why] 29) := ⟨_, rfl⟩
  rw [← hwb] at bx ox
  have hXb := Lib.hid (hX'.out.nil ox.out)
  have nw := Lib.hid (fun w1 (o : Only Nil wb w1) => mine_new wb w1 o r)
  clear hr hX'
  have hX' := hXb
  clear hXb
  go_enter Try.func5, Try.ntmps5
  go_wp2_with fail
  rw [← hwb]
  clear hwb
  obtain ⟨bb, hbb⟩ : ∃ bb, bb = w.heap.size := ⟨_, rfl⟩
  rw [← hbb] at bx ⊢
  clear hbb
  go_wp2_with (first
    | (go_at_call 7; (with_reducible refine (alive_any _).mono ?_); rintro e w1 ⟨rfl, h⟩; have o1 := Lib.hid h; clear h)
    | (go_at_call 8; (with_reducible refine (nw.out _ o1.out).mono ?_); rintro e w2 ⟨rfl, h⟩; have k2 := Lib.hid h; clear h; generalize w1.heap.size + 1 = hb at *))
  generalize hk0 : kn r = k at *
  have hk0' := Lib.hid hk0
  clear hk0
  go_loopw [8] (fun s6 wr => ∃ (i : Nat) (L : List Lr), i ≤ len ∧ i ≤ 1000 ∧ s6 = .int .i64 (i : Int) ∧ Hid (L.length ≤ i) ∧ Hid (Mine wb wr hb k L))
    (fun s6 _ => 1000 - (intOf s6).toNat)
  case atStart => exact ⟨0, [], Nat.zero_le _, Nat.zero_le _, rfl, Lib.hid (Nat.le_refl 0), k2⟩
  case round =>
    obtain ⟨i, L, hil, hi1, rfl, hn, hm⟩ := hrel
    by_cases hin : i < len ∧ i < 1000
    · have hli : (i : Int) < (len : Int) := by omega
      have hl3 : (i : Int) < 1000 := by omega
      obtain ⟨bS, off, rfl, hb1, hb2⟩ := hX'.out i (by rw [hlen'.out]; exact hin.1)
      obtain ⟨x5, x6, x7⟩ := hb2 i (by rw [hlen'.out]; exact hin.1)
      clear hb2
      generalize X.getD i default = t at x5 x6 x7
      have owr : Only Nil wb wr := hm.out.only
      have y5 : wr.cell? ⟨bS, off + i * 3, none⟩ = some (.int .u64 t.id) := (World.cell?_of_block (a := ⟨bS, off + i * 3, none⟩) (owr.block bS hb1 (fun z => z))).trans x5
      have y6 : wr.cell? ⟨bS, off + i * 3 + 1, none⟩ = some (.int .i64 t.dst) := (World.cell?_of_block (a := ⟨bS, off + i * 3 + 1, none⟩) (owr.block bS hb1 (fun z => z))).trans x6
      have y7 : wr.cell? ⟨bS, off + i * 3 + 2, none⟩ = some (.int .i64 t.why) := (World.cell?_of_block (a := ⟨bS, off + i * 3 + 2, none⟩) (owr.block bS hb1 (fun z => z))).trans x7
      have pu := Lib.hid (fun w1 (o : Only Nil wr w1) => mine_put (hm.out.nil o) t (by have := hn.out; omega))
      have nums := Lib.hid (And.intro hin (Nat.le_trans (nx_le L t) (Nat.succ_le_succ hn.out)))
      clear x5 x6 x7 hb1 hin hil hi1 owr hn
      go_wp2_with fail
      go_still_tail 16, (by kernel_rfl)
      change wpList _ _ _ _ _ wr.drew
      go_wp2_with (go_at_call 9; (with_reducible refine (pu.out _ (Only.refl Nil wr).drew).mono ?_); rintro e w3 ⟨rfl, h⟩; have k3 := Lib.hid h; clear h)
      go_roundw
      case rel => exact ⟨i + 1, _, by have := nums.out; omega, by have := nums.out; omega, by go_num, Lib.hid nums.out.2, k3⟩
      case measure => simp [intOf]; omega
    · have hL := Lib.hid (show L.length ≤ 1000 by have := hn.out; omega)
      have hcase : i = len ∨ (i < len ∧ i = 1000) := by omega
      clear hin hi1 hil hn
      obtain ⟨hmin, hev⟩ := last_facts k L t0 _ rfl
      have pu := Lib.hid (mine_put hm.out t0 (by have := hL.out; omega))
      have b0 := (hm.out.only.block bb (lt_of_block bx.out) (fun h => h)).trans bx.out
      have e0 : wr.cell? ⟨bb, 0, none⟩ = some (.int .u64 t0.id) := by simp [World.cell?, b0]
      have e1 : wr.cell? ⟨bb, 1, none⟩ = some (.int .i64 t0.dst) := by simp [World.cell?, b0]
      have e2 : wr.cell? ⟨bb, 2, none⟩ = some (.int .i64 t0.why) := by simp [World.cell?, b0]
      clear b0
      have hL1 := Lib.hid (show (nx L t0).length ≤ 1001 by have := nx_le L t0; have := hL.out; omega)
      generalize hev0 : er t0 = ev at *
      generalize nx L t0 = L1 at *
      have k64 := hm.out.few
      have rc := Lib.hid (fun w1 (h : Mine wb w1 hb k L1) => mine_recent h)
      have tt := Lib.hid (fun w1 (h : Mine wb w1 hb k L1) => mine_total h (by have := hL1.out; omega))
      generalize hM : kept k L1 = M at *
      generalize hMl : M.length = m at *
      have hM' := Lib.hid hMl
      generalize hn1 : L1.length = n1 at *
      have n1k := hL1.out
      have ek : max 0 (min r 64) = (k : Int) := by rw [← hk0'.out, kn_eq]; omega
      have em : min (n1 : Int) (k : Int) = (m : Int) := by omega
      have c1 : decide ((k : Int) < (m : Int)) = false := decide_eq_false (by omega)
      have c1' : decide (k < m) = false := decide_eq_false (by omega)
      have c2 : decide ((n1 : Int) < (m : Int)) = false := decide_eq_false (by omega)
      have c2' : decide (n1 < m) = false := decide_eq_false (by omega)
      have m64 : (m : Int) ≤ 64 := by omega
      have hev' := Lib.hid hev
      clear hev hev0 hM hMl hn1 hmin hm
      have hev := hev'
      clear hev'
      obtain rfl | ⟨hlt, rfl⟩ := hcase
      · have hk : ¬ (i : Int) < (i : Int) := by omega
        go_wp2_with (first
          | (go_at_call 9; (with_reducible refine pu.out.mono ?_); rintro e w4 ⟨rfl, h⟩; have k4 := Lib.hid h; clear h)
          | (go_at_call 14; (with_reducible refine (rc.out _ k4.out).mono ?_); rintro e w5 ⟨rfl, h5, h, o5⟩; have k5 := Lib.hid h; have r5 := Lib.hid h5; clear h h5 o5)
          | (go_at_call 16; (with_reducible refine (tt.out _ k5.out).mono ?_); rintro e w6 ⟨rfl, h, o6⟩; have k6 := Lib.hid h; have r6 := Lib.hid ((o6.block _ (lt_of_block r5.out) (fun h => h)).trans r5.out); clear h o6)
          | (go_at_call 16; (with_reducible refine (tt.out _ k6.out).mono ?_); rintro e w7 ⟨rfl, h, o7⟩; have k7 := Lib.hid h; have r7 := Lib.hid ((o7.block _ (lt_of_block r6.out) (fun h => h)).trans r6.out); clear h o7))
        have b7 := (k7.out.only.block bb (lt_of_block bx.out) (fun h => h)).trans bx.out
        have f0 : w7.cell? ⟨bb, 0, none⟩ = some (.int .u64 t0.id) := by simp [World.cell?, b7]
        have f1 : w7.cell? ⟨bb, 1, none⟩ = some (.int .i64 t0.dst) := by simp [World.cell?, b7]
        have f2 : w7.cell? ⟨bb, 2, none⟩ = some (.int .i64 t0.why) := by simp [World.cell?, b7]
        clear b7 e0 e1 e2
        generalize w4.heap.size = R at *
        have fin := Lib.hid (show Below w.heap.size w w7 from (ox.out.trans k7.out.only).below (Nat.le_refl _) (fun _ h => h.elim))
        obtain rfl | ⟨rfl, hla⟩ := hev.out
        · go_quiet (fail)
          go_wp2
          go_ret
          exact ⟨rfl, fin.out.trans ⟨rfl, rfl, rfl, Nat.le_refl _, fun _ _ => rfl⟩⟩
        · obtain rfl | ⟨p, rfl⟩ : m = 0 ∨ ∃ p, m = p + 1 := by cases m with | zero => exact .inl rfl | succ p => exact .inr ⟨p, rfl⟩
          · go_quiet (fail)
            go_wp2
            go_ret
            exact ⟨rfl, fin.out.trans ⟨rfl, rfl, rfl, Nat.le_refl _, fun _ _ => rfl⟩⟩
          · have hl := hla p rfl
            obtain ⟨g0, g1, g2⟩ := row3 r7.out p (by rw [hM'.out]; omega)
            rw [hl] at g0 g1 g2
            have hlt7 := lt_of_block r7.out
            have hp64 : (p : Int) < 64 := by omega
            have hw1 : IntKind.i64.wrap ((p : Int) + 1 - 1) = (p : Int) := by rw [IntKind.wrap_i64]; omega
            have hz1 : (((p : Int) + 1) == 0) = false := by rw [beq_eq_false_iff_ne]; omega
            have hw2 : IntKind.i64.wrap (p : Int) = (p : Int) := by rw [IntKind.wrap_i64]; omega
            clear hl hla
            go_quiet (fail)
            go_wp2
            go_ret
            exact ⟨rfl, fin.out.trans ⟨rfl, rfl, rfl, Nat.le_refl _, fun _ _ => rfl⟩⟩
      · have hk : (1000 : Int) < (len : Int) := by omega
        go_wp2_with (first
          | (go_at_call 9; (with_reducible refine pu.out.mono ?_); rintro e w4 ⟨rfl, h⟩; have k4 := Lib.hid h; clear h)
          | (go_at_call 14; (with_reducible refine (rc.out _ k4.out).mono ?_); rintro e w5 ⟨rfl, h5, h, o5⟩; have k5 := Lib.hid h; have r5 := Lib.hid h5; clear h h5 o5)
          | (go_at_call 16; (with_reducible refine (tt.out _ k5.out).mono ?_); rintro e w6 ⟨rfl, h, o6⟩; have k6 := Lib.hid h; have r6 := Lib.hid ((o6.block _ (lt_of_block r5.out) (fun h => h)).trans r5.out); clear h o6)
          | (go_at_call 16; (with_reducible refine (tt.out _ k6.out).mono ?_); rintro e w7 ⟨rfl, h, o7⟩; have k7 := Lib.hid h; have r7 := Lib.hid ((o7.block _ (lt_of_block r6.out) (fun h => h)).trans r6.out); clear h o7))
        have b7 := (k7.out.only.block bb (lt_of_block bx.out) (fun h => h)).trans bx.out
        have f0 : w7.cell? ⟨bb, 0, none⟩ = some (.int .u64 t0.id) := by simp [World.cell?, b7]
        have f1 : w7.cell? ⟨bb, 1, none⟩ = some (.int .i64 t0.dst) := by simp [World.cell?, b7]
        have f2 : w7.cell? ⟨bb, 2, none⟩ = some (.int .i64 t0.why) := by simp [World.cell?, b7]
        clear b7 e0 e1 e2
        generalize w4.heap.size = R at *
        have fin := Lib.hid (show Below w.heap.size w w7 from (ox.out.trans k7.out.only).below (Nat.le_refl _) (fun _ h => h.elim))
        obtain rfl | ⟨rfl, hla⟩ := hev.out
        · go_quiet (fail)
          go_wp2
          go_ret
          exact ⟨rfl, fin.out.trans ⟨rfl, rfl, rfl, Nat.le_refl _, fun _ _ => rfl⟩⟩
        · obtain rfl | ⟨p, rfl⟩ : m = 0 ∨ ∃ p, m = p + 1 := by cases m with | zero => exact .inl rfl | succ p => exact .inr ⟨p, rfl⟩
          · go_quiet (fail)
            go_wp2
            go_ret
            exact ⟨rfl, fin.out.trans ⟨rfl, rfl, rfl, Nat.le_refl _, fun _ _ => rfl⟩⟩
          · have hl := hla p rfl
            obtain ⟨g0, g1, g2⟩ := row3 r7.out p (by rw [hM'.out]; omega)
            rw [hl] at g0 g1 g2
            have hlt7 := lt_of_block r7.out
            have hp64 : (p : Int) < 64 := by omega
            have hw1 : IntKind.i64.wrap ((p : Int) + 1 - 1) = (p : Int) := by rw [IntKind.wrap_i64]; omega
            have hz1 : (((p : Int) + 1) == 0) = false := by rw [beq_eq_false_iff_ne]; omega
            have hw2 : IntKind.i64.wrap (p : Int) = (p : Int) := by rw [IntKind.wrap_i64]; omega
            clear hl hla
            go_quiet (fail)
            go_wp2
            go_ret
            exact ⟨rfl, fin.out.trans ⟨rfl, rfl, rfl, Nat.le_refl _, fun _ _ => rfl⟩⟩
end Go.Proofs.Ytpkphmemeapdfaa.Dd
