/- DeadKept: the walk. -/
import Derived.Test.YtpkphmemeapdfaaDdLaW
namespace Go.Proofs.Ytpkphmemeapdfaa.Dd
open Go.RowKit Go.Proofs.Ytpkphmemeapdfaa

theorem row_own {w : World} {g n : Nat} {Y : List Value} (h : w.heap[g]? = some (.cells Y.toArray 29 (0, 0))) (hY : Y.length = n * 3) (hn : n ≤ 65536) :
    w.ownsRow 0 29 3 (.slice (some ⟨g, 0, none⟩) n n) n Y :=
  ⟨hY, .inr ⟨g, n, _, rfl, Nat.zero_le _, h, Nat.le_refl _, by unfold maxLen; omega, by simpa using hY, List.take_of_length_le (Nat.le_of_eq hY)⟩⟩
theorem rowY {w : World} {g : Nat} {Y : List Value} {t : TypeId} (h : w.heap[g]? = some (.cells Y.toArray t (0, 0))) (j : Nat) (hj : j < Y.length) : w.cell? ⟨g, j, none⟩ = some (Y.getD j (.int .i64 0)) := by
  rw [cell_of_row w g j _ _ _ h, List.getElem?_toArray, List.getElem?_eq_getElem hj]
  simp [hj]

theorem Mine.keepNew {T : Nat → Prop} {w0 w w' : World} {hb k : Nat} {L : List Lr} (h : Mine w0 w hb k L) (o : Only T w w') (hT : ∀ q, T q → w.heap.size ≤ q) : Mine w0 w' hb k L := by
  obtain ⟨S, mb, D, v, h1, h2, h3⟩ := h
  exact ⟨S, mb, D, v, h1.keep o (fun q hq ht => by have := h1.lt q hq; have := hT q ht; omega), h2, h3.then o (fun q hq hlt => by have := hT q hq; have := h3.size; omega)⟩

set_option maxRecDepth 100000 in
set_option maxHeartbeats 8000000 in
/-- What the law does behind its letters. -/
theorem kept_all (r : Int) (a : Option Addr) (cap : Nat) (X : List Lr) (w : World) (hX : LIn w a X) (hr : X.length * 24 ≤ 140737488351232) :
    Calls Try.prog 6 #[.int .i64 r, .slice a X.length cap] w fun e w' => e = .returned (.bool true) ∧ Below w.heap.size w w' := by
  have hX' := Lib.hid hX
  clear hX
  generalize hlen : X.length = len at hr ⊢
  have hlen' := Lib.hid hlen
  clear hlen
  have len8 : (len : Int) * 24 ≤ 140737488351232 := by omega
  have nw := Lib.hid (fun w1 (o : Only Nil w w1) => mine_new w w1 o r)
  clear hr
  go_enter Try.func6, Try.ntmps6
  go_wp2_with (first
    | (go_at_call 7; (with_reducible refine (alive_any _).mono ?_); rintro e w1 ⟨rfl, h⟩; have o1 := Lib.hid h; clear h)
    | (go_at_call 8; (with_reducible refine (nw.out _ o1.out).mono ?_); rintro e w2 ⟨rfl, h⟩; have k2 := Lib.hid h; clear h; generalize w1.heap.size + 1 = hb at *))
  generalize hk0 : kn r = k at *
  have hk0' := Lib.hid hk0
  clear hk0
  go_loopw [6] (fun s6 wr => ∃ (i : Nat) (L : List Lr), i ≤ len ∧ i ≤ 1000 ∧ s6 = .int .i64 (i : Int) ∧ Hid (L.length ≤ i) ∧ Hid (Mine w wr hb k L))
    (fun s6 _ => 1000 - (intOf s6).toNat)
  case atStart => exact ⟨0, [], Nat.zero_le _, Nat.zero_le _, rfl, Lib.hid (Nat.le_refl 0), k2⟩
  case round =>
    obtain ⟨i, L, hil, hi1, rfl, hn, hm⟩ := hrel
    by_cases hin : i < len ∧ i < 1000
    · have hli : (i : Int) < (len : Int) := by omega
      have hl3 : (i : Int) < 1000 := by omega
      obtain ⟨bS, off, rfl, hb1, hb2⟩ := hX'.out i (by rw [hlen'.out]; exact hin.1)
      obtain ⟨x5, x6, x7⟩ := hb2 i (by rw [hlen'.out]; exact hin.1)
      clear hb2
      generalize X.getD i default = t at x5 x6 x7
      have owr : Only Nil w wr := hm.out.only
      have y5 : wr.cell? ⟨bS, off + i * 3, none⟩ = some (.int .u64 t.id) := (World.cell?_of_block (a := ⟨bS, off + i * 3, none⟩) (owr.block bS hb1 (fun z => z))).trans x5
      have y6 : wr.cell? ⟨bS, off + i * 3 + 1, none⟩ = some (.int .i64 t.dst) := (World.cell?_of_block (a := ⟨bS, off + i * 3 + 1, none⟩) (owr.block bS hb1 (fun z => z))).trans x6
      have y7 : wr.cell? ⟨bS, off + i * 3 + 2, none⟩ = some (.int .i64 t.why) := (World.cell?_of_block (a := ⟨bS, off + i * 3 + 2, none⟩) (owr.block bS hb1 (fun z => z))).trans x7
      have pu := Lib.hid (fun w1 (o : Only Nil wr w1) => mine_put (hm.out.nil o) t (by have := hn.out; omega))
      have nums := Lib.hid (And.intro hin (Nat.le_trans (nx_le L t) (Nat.succ_le_succ hn.out)))
      clear x5 x6 x7 hb1 hin hil hi1 owr hn
      go_wp2_with fail
      go_still_tail 16, (by kernel_rfl)
      change wpList _ _ _ _ _ wr.drew
      go_wp2_with (go_at_call 9; (with_reducible refine (pu.out _ (Only.refl Nil wr).drew).mono ?_); rintro e w3 ⟨rfl, h⟩; have k3 := Lib.hid h; clear h)
      go_roundw
      case rel => exact ⟨i + 1, _, by have := nums.out; omega, by have := nums.out; omega, by go_num, Lib.hid nums.out.2, k3⟩
      case measure => simp [intOf]; omega
    · have hL := Lib.hid (show L.length ≤ 1000 by have := hn.out; omega)
      have hcase : i = len ∨ (i < len ∧ i = 1000) := by omega
      clear hin hi1 hil hn
      have rc := Lib.hid (fun w1 (h : Mine w w1 hb k L) => mine_recent h)
      have m64' := Lib.hid (show (kept k L).length ≤ 64 from Nat.le_trans (kept_le k L) hm.out.few)
      generalize hM : kept k L = M at *
      generalize hMl : M.length = m at *
      have hMl' := Lib.hid hMl
      have m64 : (m : Int) ≤ 64 := by have := m64'.out; omega
      have sw := Lib.hid (hm.out.only.size)
      have mk := Lib.hid (fun w1 (o : Only (fun q => q = wr.heap.size) wr w1) => hm.out.keepNew o (fun q hq => by omega))
      have ml := Lib.hid (lrs_length M)
      clear hM hMl hL
      generalize wr = wq at *
      obtain rfl | ⟨hlt, rfl⟩ := hcase
      · have hk : ¬ (i : Int) < (i : Int) := by omega
        go_wp2_with (first
          | (go_at_call 14; (with_reducible refine (rc.out _ hm.out).mono ?_); rintro e w4 ⟨rfl, h4, h, o4⟩; have k4 := Lib.hid h; have r4 := Lib.hid h4; have q4 := Lib.hid o4; clear h h4 o4 hm)
          | (go_at_call 14; (with_reducible refine (rc.out _ k4.out).mono ?_); rintro e w5 ⟨rfl, h5, h, o5⟩; have r5 := Lib.hid h5; have q5 := Lib.hid o5; clear h h5 k4 o5))
        have ra := Lib.hid ((q5.out.block _ (lt_of_block r4.out) (fun h => h)).trans r4.out)
        have hne := Lib.hid (show w4.heap.size ≠ wq.heap.size by have := lt_of_block r4.out; omega)
        have o45 := Lib.hid ((q4.out.trans q5.out).nilTo (fun q => q = wq.heap.size))
        obtain ⟨Ra, hRa⟩ : ∃ Ra, Ra = wq.heap.size := ⟨_, rfl⟩
        rw [← hRa] at ra hne o45 mk r4 ⊢
        have hRa' := Lib.hid (show w.heap.size ≤ Ra by rw [hRa]; exact sw.out)
        clear r4 q4 q5 hRa sw
        generalize w4.heap.size = Rb at *
        go_loopw [9] (fun s9 wx => ∃ (j : Nat) (Y : List Value), j ≤ m ∧ s9 = .int .i64 (j : Int) ∧ Hid (wx.heap[Ra]? = some (.cells Y.toArray 29 (0, 0))) ∧ Hid (Y.length = m * 3) ∧ Hid (Only (fun q => q = Ra) wq wx) ∧ Hid (Only (fun q => q = Ra) w5 wx))
          (fun s9 _ => m - (intOf s9).toNat)
        case atStart => exact ⟨0, lrs M, Nat.zero_le _, rfl, ra, Lib.hid (by rw [ml.out, hMl'.out]), o45, Lib.hid (Only.refl _ _)⟩
        case round =>
          obtain ⟨j, Y, hj, rfl, hY, hYl, ho, ho5⟩ := hrel
          by_cases hlt : j < m
          · have x0 : wr.cell? ⟨Ra, j * 3, none⟩ = some (Y.getD (j * 3) (.int .i64 0)) := rowY hY.out _ (by rw [hYl.out]; omega)
            have x1 : wr.cell? ⟨Ra, j * 3 + 1, none⟩ = some (Y.getD (j * 3 + 1) (.int .i64 0)) := rowY hY.out _ (by rw [hYl.out]; omega)
            have x2 : wr.cell? ⟨Ra, j * 3 + 2, none⟩ = some (Y.getD (j * 3 + 2) (.int .i64 0)) := rowY hY.out _ (by rw [hYl.out]; omega)
            have f0 : wr.frozen? ⟨Ra, j * 3, none⟩ = false := by simp only [World.frozen?, hY.out]; simp
            have f1 : wr.frozen? ⟨Ra, j * 3 + 1, none⟩ = false := by simp only [World.frozen?, hY.out]; simp
            have f2 : wr.frozen? ⟨Ra, j * 3 + 2, none⟩ = false := by simp only [World.frozen?, hY.out]; simp
            generalize Y.getD (j * 3) (.int .i64 0) = y0 at x0
            generalize Y.getD (j * 3 + 1) (.int .i64 0) = y1 at x1
            generalize Y.getD (j * 3 + 2) (.int .i64 0) = y2 at x2
            have hlt' : (j : Int) < (m : Int) := by omega
            go_wp2
            go_roundw
            case rel => exact ⟨j + 1, ((Y.set (j * 3) (.int .u64 3)).set (j * 3 + 1) (.int .i64 0)).set (j * 3 + 2) (.int .i64 0), by omega, by go_num,
              Lib.hid (by
                have e1 := heap_setCell_self (o := j * 3) (.int .u64 3) hY.out
                have e2 := heap_setCell_self (o := j * 3 + 1) (.int .i64 0) e1
                have e3 := heap_setCell_self (o := j * 3 + 2) (.int .i64 0) e2
                rw [e3]; simp), Lib.hid (by simpa using hYl.out), Lib.hid (((ho.out.setCell (p := ⟨Ra, j * 3, none⟩) rfl _).setCell (p := ⟨Ra, j * 3 + 1, none⟩) rfl _).setCell (p := ⟨Ra, j * 3 + 2, none⟩) rfl _), Lib.hid (((ho5.out.setCell (p := ⟨Ra, j * 3, none⟩) rfl _).setCell (p := ⟨Ra, j * 3 + 1, none⟩) rfl _).setCell (p := ⟨Ra, j * 3 + 2, none⟩) rfl _)⟩
            case measure => simp [intOf]; omega
          · obtain rfl : j = m := by omega
            have hown := Lib.hid (row_own hY.out hYl.out (by have := m64'.out; omega))
            obtain ⟨W0, hW0⟩ : ∃ W0, W0 = wr := ⟨_, rfl⟩
            rw [← hW0] at hY ho ho5 hown ⊢
            clear hW0
            obtain ⟨wA, hwA⟩ : ∃ wA, wA = W0.alloc (.cells #[.int .u64 4, .int .i64 0, .int .i64 0] 29) := ⟨_, rfl⟩
            have oA : Only Nil W0 wA := by rw [hwA]; exact (Only.refl Nil W0).alloc _
            have hbA : wA.heap[W0.heap.size]? = some (.cells #[.int .u64 4, .int .i64 0, .int .i64 0] 29 (0, 0)) := by rw [hwA]; exact heap_new W0 _
            obtain ⟨a7, c7, w7, hr7, ho7, hon7, _⟩ := run_append_end (P := Try.prog) (w := wA) (t := 22) (ty := 22) (e := 29) (size := 3) (bytes := 24) Try.underlying22 Try.infoLr rfl (own_keep hown.out oA (fun _ _ h => h)) ⟨W0.heap.size, 0, none⟩ [.int .u64 4, .int .i64 0, .int .i64 0] rfl (lr_oneCell ⟨4, 0, 0⟩)
              (fun j u hj => by
                rw [add_lit0, cell_of_row _ W0.heap.size _ _ _ _ hbA, Nat.zero_add]
                simpa using hj) (by have := m64'.out; omega) (by decide)
            rw [hwA] at hr7
            have hr7' := Lib.hid hr7
            have on7 : Only (fun q => q = Ra) W0 w7 := (oA.nilTo _).trans (hon7.mono (fun q hq => by obtain ⟨x, hx, e⟩ := hq; simp only [Option.some.injEq] at hx; rw [e, ← hx]))
            have m7 := Lib.hid (mk.out w7 (ho.out.trans on7))
            have rb7 := Lib.hid (((ho5.out.trans on7).block Rb (lt_of_block r5.out) hne.out).trans r5.out)
            clear hr7 hon7 on7 hwA oA hbA ho7 hown ho ho5 hYl hj hlt hY
            go_wp2_with (first
              | (at_builtin; refine Lib.wpList_append_run _ rfl (.tmp 57) (.tmp 59) 22 22 rfl _ _ rfl rfl _ _ hr7'.out ?_)
              | (go_at_call 14; (with_reducible refine (rc.out _ m7.out).mono ?_); rintro e w8 ⟨rfl, h8, h, o8⟩; have r8 := Lib.hid h8; have rb8 := Lib.hid ((o8.block _ (lt_of_block rb7.out) (fun h => h)).trans rb7.out); have k8 := Lib.hid h; clear h h8 o8))
            generalize w7.heap.size = Rc at *
            go_loopw [11] (fun s11 wx => ∃ i : Nat, i ≤ j ∧ s11 = .int .i64 (i : Int) ∧ Hid (Only Nil w8 wx))
              (fun s11 _ => j - (intOf s11).toNat)
            case atStart => exact ⟨0, Nat.zero_le _, rfl, Lib.hid (Only.refl _ _)⟩
            case round =>
              obtain ⟨i, hi, rfl, ho⟩ := hrel
              by_cases hlt : i < j
              · obtain ⟨b0, b1, b2⟩ := row3 ((ho.out.block _ (lt_of_block rb8.out) (fun h => h)).trans rb8.out) i (by rw [hMl'.out]; exact hlt)
                obtain ⟨c0, c1, c2⟩ := row3 ((ho.out.block _ (lt_of_block r8.out) (fun h => h)).trans r8.out) i (by rw [hMl'.out]; exact hlt)
                have hlt' : (i : Int) < (j : Int) := by omega
                generalize (M.getD i default).id = v0 at *
                generalize (M.getD i default).dst = v1 at *
                generalize (M.getD i default).why = v2 at *
                go_wp2_with fail
                go_quiet (fail)
                go_wp2
                go_roundw
                case rel => exact ⟨i + 1, by omega, by go_num, Lib.hid (ho.out.drewN nq)⟩
                case measure => simp [intOf]; omega
              · obtain rfl : i = j := by omega
                have hk0 : ¬ (i : Int) < (i : Int) := by omega
                go_wp2
                go_ret
                exact ⟨rfl, (k8.out.only.trans ho.out).below (Nat.le_refl _) (fun _ h => h.elim)⟩
      · have hk : (1000 : Int) < (len : Int) := by omega
        go_wp2_with (first
          | (go_at_call 14; (with_reducible refine (rc.out _ hm.out).mono ?_); rintro e w4 ⟨rfl, h4, h, o4⟩; have k4 := Lib.hid h; have r4 := Lib.hid h4; have q4 := Lib.hid o4; clear h h4 o4 hm)
          | (go_at_call 14; (with_reducible refine (rc.out _ k4.out).mono ?_); rintro e w5 ⟨rfl, h5, h, o5⟩; have r5 := Lib.hid h5; have q5 := Lib.hid o5; clear h h5 k4 o5))
        have ra := Lib.hid ((q5.out.block _ (lt_of_block r4.out) (fun h => h)).trans r4.out)
        have hne := Lib.hid (show w4.heap.size ≠ wq.heap.size by have := lt_of_block r4.out; omega)
        have o45 := Lib.hid ((q4.out.trans q5.out).nilTo (fun q => q = wq.heap.size))
        obtain ⟨Ra, hRa⟩ : ∃ Ra, Ra = wq.heap.size := ⟨_, rfl⟩
        rw [← hRa] at ra hne o45 mk r4 ⊢
        have hRa' := Lib.hid (show w.heap.size ≤ Ra by rw [hRa]; exact sw.out)
        clear r4 q4 q5 hRa sw
        generalize w4.heap.size = Rb at *
        go_loopw [9] (fun s9 wx => ∃ (j : Nat) (Y : List Value), j ≤ m ∧ s9 = .int .i64 (j : Int) ∧ Hid (wx.heap[Ra]? = some (.cells Y.toArray 29 (0, 0))) ∧ Hid (Y.length = m * 3) ∧ Hid (Only (fun q => q = Ra) wq wx) ∧ Hid (Only (fun q => q = Ra) w5 wx))
          (fun s9 _ => m - (intOf s9).toNat)
        case atStart => exact ⟨0, lrs M, Nat.zero_le _, rfl, ra, Lib.hid (by rw [ml.out, hMl'.out]), o45, Lib.hid (Only.refl _ _)⟩
        case round =>
          obtain ⟨j, Y, hj, rfl, hY, hYl, ho, ho5⟩ := hrel
          by_cases hlt : j < m
          · have x0 : wr.cell? ⟨Ra, j * 3, none⟩ = some (Y.getD (j * 3) (.int .i64 0)) := rowY hY.out _ (by rw [hYl.out]; omega)
            have x1 : wr.cell? ⟨Ra, j * 3 + 1, none⟩ = some (Y.getD (j * 3 + 1) (.int .i64 0)) := rowY hY.out _ (by rw [hYl.out]; omega)
            have x2 : wr.cell? ⟨Ra, j * 3 + 2, none⟩ = some (Y.getD (j * 3 + 2) (.int .i64 0)) := rowY hY.out _ (by rw [hYl.out]; omega)
            have f0 : wr.frozen? ⟨Ra, j * 3, none⟩ = false := by simp only [World.frozen?, hY.out]; simp
            have f1 : wr.frozen? ⟨Ra, j * 3 + 1, none⟩ = false := by simp only [World.frozen?, hY.out]; simp
            have f2 : wr.frozen? ⟨Ra, j * 3 + 2, none⟩ = false := by simp only [World.frozen?, hY.out]; simp
            generalize Y.getD (j * 3) (.int .i64 0) = y0 at x0
            generalize Y.getD (j * 3 + 1) (.int .i64 0) = y1 at x1
            generalize Y.getD (j * 3 + 2) (.int .i64 0) = y2 at x2
            have hlt' : (j : Int) < (m : Int) := by omega
            go_wp2
            go_roundw
            case rel => exact ⟨j + 1, ((Y.set (j * 3) (.int .u64 3)).set (j * 3 + 1) (.int .i64 0)).set (j * 3 + 2) (.int .i64 0), by omega, by go_num,
              Lib.hid (by
                have e1 := heap_setCell_self (o := j * 3) (.int .u64 3) hY.out
                have e2 := heap_setCell_self (o := j * 3 + 1) (.int .i64 0) e1
                have e3 := heap_setCell_self (o := j * 3 + 2) (.int .i64 0) e2
                rw [e3]; simp), Lib.hid (by simpa using hYl.out), Lib.hid (((ho.out.setCell (p := ⟨Ra, j * 3, none⟩) rfl _).setCell (p := ⟨Ra, j * 3 + 1, none⟩) rfl _).setCell (p := ⟨Ra, j * 3 + 2, none⟩) rfl _), Lib.hid (((ho5.out.setCell (p := ⟨Ra, j * 3, none⟩) rfl _).setCell (p := ⟨Ra, j * 3 + 1, none⟩) rfl _).setCell (p := ⟨Ra, j * 3 + 2, none⟩) rfl _)⟩
            case measure => simp [intOf]; omega
          · obtain rfl : j = m := by omega
            have hown := Lib.hid (row_own hY.out hYl.out (by have := m64'.out; omega))
            obtain ⟨W0, hW0⟩ : ∃ W0, W0 = wr := ⟨_, rfl⟩
            rw [← hW0] at hY ho ho5 hown ⊢
            clear hW0
            obtain ⟨wA, hwA⟩ : ∃ wA, wA = W0.alloc (.cells #[.int .u64 4, .int .i64 0, .int .i64 0] 29) := ⟨_, rfl⟩
            have oA : Only Nil W0 wA := by rw [hwA]; exact (Only.refl Nil W0).alloc _
            have hbA : wA.heap[W0.heap.size]? = some (.cells #[.int .u64 4, .int .i64 0, .int .i64 0] 29 (0, 0)) := by rw [hwA]; exact heap_new W0 _
            obtain ⟨a7, c7, w7, hr7, ho7, hon7, _⟩ := run_append_end (P := Try.prog) (w := wA) (t := 22) (ty := 22) (e := 29) (size := 3) (bytes := 24) Try.underlying22 Try.infoLr rfl (own_keep hown.out oA (fun _ _ h => h)) ⟨W0.heap.size, 0, none⟩ [.int .u64 4, .int .i64 0, .int .i64 0] rfl (lr_oneCell ⟨4, 0, 0⟩)
              (fun j u hj => by
                rw [add_lit0, cell_of_row _ W0.heap.size _ _ _ _ hbA, Nat.zero_add]
                simpa using hj) (by have := m64'.out; omega) (by decide)
            rw [hwA] at hr7
            have hr7' := Lib.hid hr7
            have on7 : Only (fun q => q = Ra) W0 w7 := (oA.nilTo _).trans (hon7.mono (fun q hq => by obtain ⟨x, hx, e⟩ := hq; simp only [Option.some.injEq] at hx; rw [e, ← hx]))
            have m7 := Lib.hid (mk.out w7 (ho.out.trans on7))
            have rb7 := Lib.hid (((ho5.out.trans on7).block Rb (lt_of_block r5.out) hne.out).trans r5.out)
            clear hr7 hon7 on7 hwA oA hbA ho7 hown ho ho5 hYl hj hlt hY
            go_wp2_with (first
              | (at_builtin; refine Lib.wpList_append_run _ rfl (.tmp 57) (.tmp 59) 22 22 rfl _ _ rfl rfl _ _ hr7'.out ?_)
              | (go_at_call 14; (with_reducible refine (rc.out _ m7.out).mono ?_); rintro e w8 ⟨rfl, h8, h, o8⟩; have r8 := Lib.hid h8; have rb8 := Lib.hid ((o8.block _ (lt_of_block rb7.out) (fun h => h)).trans rb7.out); have k8 := Lib.hid h; clear h h8 o8))
            generalize w7.heap.size = Rc at *
            go_loopw [11] (fun s11 wx => ∃ i : Nat, i ≤ j ∧ s11 = .int .i64 (i : Int) ∧ Hid (Only Nil w8 wx))
              (fun s11 _ => j - (intOf s11).toNat)
            case atStart => exact ⟨0, Nat.zero_le _, rfl, Lib.hid (Only.refl _ _)⟩
            case round =>
              obtain ⟨i, hi, rfl, ho⟩ := hrel
              by_cases hlt : i < j
              · obtain ⟨b0, b1, b2⟩ := row3 ((ho.out.block _ (lt_of_block rb8.out) (fun h => h)).trans rb8.out) i (by rw [hMl'.out]; exact hlt)
                obtain ⟨c0, c1, c2⟩ := row3 ((ho.out.block _ (lt_of_block r8.out) (fun h => h)).trans r8.out) i (by rw [hMl'.out]; exact hlt)
                have hlt' : (i : Int) < (j : Int) := by omega
                generalize (M.getD i default).id = v0 at *
                generalize (M.getD i default).dst = v1 at *
                generalize (M.getD i default).why = v2 at *
                go_wp2_with fail
                go_quiet (fail)
                go_wp2
                go_roundw
                case rel => exact ⟨i + 1, by omega, by go_num, Lib.hid (ho.out.drewN nq)⟩
                case measure => simp [intOf]; omega
              · obtain rfl : i = j := by omega
                have hk0 : ¬ (i : Int) < (i : Int) := by omega
                go_wp2
                go_ret
                exact ⟨rfl, (k8.out.only.trans ho.out).below (Nat.le_refl _) (fun _ h => h.elim)⟩
end Go.Proofs.Ytpkphmemeapdfaa.Dd
