/- AreaKept answers true for every number and every script, and turns nothing that there was: the walk. -/
import Derived.Test.YtgpagfgedimjeaaAreaP
namespace Go.Proofs.Ytgpagfgedimjeaa
open Go.RowKit

theorem row_own {w : World} {g n : Nat} {Y : List Value} (h : w.heap[g]? = some (.cells Y.toArray 47 (0, 0))) (hY : Y.length = n * 2) (hn : n ≤ 65536) :
    w.ownsRow 0 47 2 (.slice (some ⟨g, 0, none⟩) n n) n Y :=
  ⟨hY, .inr ⟨g, n, _, rfl, Nat.zero_le _, h, Nat.le_refl _, by unfold maxLen; omega, by simpa using hY, List.take_of_length_le (Nat.le_of_eq hY)⟩⟩

theorem row_cell {w : World} {g : Nat} {Y : List Value} {t : TypeId} (h : w.heap[g]? = some (.cells Y.toArray t (0, 0))) (j : Nat) (hj : j < Y.length) : w.cell? ⟨g, j, none⟩ = some (Y.getD j (.int .i64 0)) := by
  rw [cell_of_row w g j _ _ _ h, List.getElem?_toArray, List.getElem?_eq_getElem hj]
  simp [hj]
theorem two_one (x y : Int) : ∀ u ∈ [Value.int .i64 x, Value.int .i64 y], u.oneCell' = true := by intro u hu; simp at hu; rcases hu with rfl | rfl <;> rfl

set_option maxRecDepth 100000 in
set_option maxHeartbeats 2000000 in
theorem kept_walk (n : Int) (a : Option Addr) (cap : Nat) (S : List OpN) (w : World) (hn : n ≤ 2000) (hS : OpsIn w a S) (hr : S.length * 16 ≤ 140737488351232) :
    Calls Try.prog 7 #[.int .i64 n, .slice a S.length cap] w fun e w' => e = .returned (.bool true) ∧ Below w.heap.size w w' := by
  have pl := Lib.hid (fun w1 (b : Below w.heap.size w w1) => play_any n a cap S w1 (hS.later b) hr)
  clear hS
  generalize S.length = len0 at hr pl ⊢
  go_enter Try.func7, Try.ntmps7
  go_wp2_with (first
    | (go_at_call 8; (with_reducible refine (alive_any _).mono ?_); rintro e w1 ⟨rfl, b1⟩)
    | (go_at_call 20; (with_reducible refine (pl.out _ b1).mono ?_); rintro e w2 ⟨rfl, h2, b2⟩; obtain ⟨a2, c2, L, m2⟩ := h2.out; clear h2)
    | (go_at_call 18; (with_reducible refine (flat_any m2.at_).mono ?_); rintro e w3 ⟨v3, rfl, h3, o3⟩; have m3 := m2.none o3)
    | (go_at_call 21; (with_reducible refine (regions_any m3.at_).mono ?_); rintro e w4 ⟨rfl, hl, o4⟩; have m4 := m3.none o4))
  have s1 := b1.size
  obtain ⟨a3, c3, rfl⟩ := own_slice_n h3.out
  have i3 : IntsIn w3 a3 (nums L) := by
    have := h3.out
    rw [regs_nums] at this
    exact own_ints this
  have l3 : ∀ b, a3 = some b → b.block < w3.heap.size := fun b e => by
    have := (h3.out.lt b.block (by rw [e]; rfl)).2
    exact this
  have i4 := Lib.hid (i3.keep o4 (fun _ _ _ h => h.elim))
  have b4 := Lib.hid (((b1.trans (b2.mono s1)).trans ((m2.under (o3.nilTo _)).mono s1)).trans ((m3.under (o4.nilTo _)).mono s1))
  have m4' := Lib.hid m4
  have own4 := Lib.hid (m3.at_.own_lt)
  have s3 : w1.heap.size ≤ w3.heap.size := m3.size
  have hl' := Lib.hid hl
  have l3' := Lib.hid l3
  have lle := m4.at_.len
  have rln := Lib.hid (regs_length L)
  have nln := Lib.hid (length_nums L)
  have fl := Lib.hid (fun (w : World) (hb : Nat) (a : Option Addr) (cap n : Nat) => flat_any (w := w) (hb := hb) (a := a) (cap := cap) (n := n) (L := L))
  clear m2 m3 m4 h3 i3 o3 o4 b2 l3 hl pl
  generalize w3.heap.size = lb at *
  generalize w1.heap.size = hb at *
  obtain ⟨R, hR⟩ : ∃ R, R = regs L := ⟨_, rfl⟩
  rw [← hR] at hl' rln
  obtain ⟨X, hX⟩ : ∃ X, X = nums L := ⟨_, rfl⟩
  rw [← hX] at i4 nln
  have hR' := Lib.hid hR
  have hX' := Lib.hid hX
  clear hR hX
  generalize hlen : L.length = len at *
  have hlen' := Lib.hid hlen
  clear hlen
  have lle' : (len : Int) ≤ 65536 := by omega
  go_loopw [8] (fun s8 wr => ∃ (j : Nat) (Y : List Value), j ≤ len ∧ s8 = .int .i64 (j : Int) ∧ Hid (wr.heap[lb]? = some (.cells Y.toArray 47 (0, 0))) ∧ Hid (Y.length = len * 2) ∧ Hid (Only (fun q => q = lb) w4 wr))
    (fun s8 _ => len - (intOf s8).toNat)
  case atStart => exact ⟨0, R, Nat.zero_le _, rfl, hl', rln, Lib.hid (Only.refl _ _)⟩
  case round =>
    obtain ⟨j, Y, hj, rfl, hY, hYl, ho⟩ := hrel
    by_cases hlt : j < len
    · have x0 : wr.cell? ⟨lb, j * 2, none⟩ = some (Y.getD (j * 2) (.int .i64 0)) := row_cell hY.out _ (by rw [hYl.out]; omega)
      have x1 : wr.cell? ⟨lb, j * 2 + 1, none⟩ = some (Y.getD (j * 2 + 1) (.int .i64 0)) := row_cell hY.out _ (by rw [hYl.out]; omega)
      have f0 : wr.frozen? ⟨lb, j * 2, none⟩ = false := by simp only [World.frozen?, hY.out]; simp
      have f1 : wr.frozen? ⟨lb, j * 2 + 1, none⟩ = false := by simp only [World.frozen?, hY.out]; simp
      generalize Y.getD (j * 2) (.int .i64 0) = y0 at x0
      generalize Y.getD (j * 2 + 1) (.int .i64 0) = y1 at x1
      go_wp2
      go_roundw
      case rel => exact ⟨j + 1, (Y.set (j * 2) (.int .i64 3)).set (j * 2 + 1) (.int .i64 9), by omega, by go_num,
        Lib.hid (by
          have e1 := heap_setCell_self (o := j * 2) (.int .i64 3) hY.out
          have e2 := heap_setCell_self (o := j * 2 + 1) (.int .i64 9) e1
          rw [e2]; simp), Lib.hid (by simpa using hYl.out), Lib.hid ((ho.out.setCell (p := ⟨lb, j * 2, none⟩) rfl _).setCell (p := ⟨lb, j * 2 + 1, none⟩) rfl _)⟩
      case measure => simp [intOf]; omega
    · obtain rfl : j = len := by omega
      have hk0 : ¬ (j : Int) < (j : Int) := by omega
      obtain ⟨i0, hi0, hz0, hz1, hz2⟩ := info_parts Try.infoReg
      have hu := Try.underlying44
      have hown := Lib.hid (row_own hY.out hYl.out (by omega))
      go_wp2_with (at_builtin; refine wpList_append_own _ rfl (.tmp 30) (.tmp 32) 44 rfl 0 47 i0 (.agg #[.int .i64 0, .int .i64 0]) 2 16 hu hi0 hz0 hz1 hz2 rfl (by decide) (.slice (some ⟨lb, 0, none⟩) j j) j Y rfl (hown.out.alloc _) ⟨wr.heap.size, 0, none⟩ 1 1 [.int .i64 1, .int .i64 0] rfl rfl (src_pair (heap_new wr (.cells #[.int .i64 1, .int .i64 0] 47))) (two_one _ _) (by unfold maxLen; omega) (by omega) (Nat.zero_le _) ?_)
      intro v7 w7 hv7 hg7 hn7
      clear hn7
      obtain ⟨a7, c7, rfl⟩ := own_slice_n hv7
      have o7 : Only (fun q => q = lb) w4 w7 := (ho.out.alloc _).trans ((Only.ofGrown hg7).mono (fun q hq => by simpa [Value.ownBlock] using hq))
      have m7 := m4'.out.keep o7 (fun q hq hw => by have := own4.out q hw; omega)
      have i7 := Lib.hid (i4.out.keep o7 (fun q b e hq => by have := l3'.out b e; omega))
      have b7 := Lib.hid (b4.out.trans (o7.below (Nat.le_trans s3 (Nat.le_of_lt (lt_of_block hl'.out))|> fun h => by have := b4.out.size; omega) (fun q hq => by omega)))
      clear hv7 hg7 o7
      have hq : Int.tdiv ((j : Int) * 2) 2 = (j : Int) := Int.mul_tdiv_cancel _ (by decide)
      have iy := Lib.hid (fun (w : World) (a1 a2 : Option Addr) (c1 c2 : Nat) (h1 : IntsIn w a1 X) (h2 : IntsIn w a2 X) => ints_yes w a1 a2 c1 c2 X h1 h2 (by rw [nln.out]; omega))
      rw [nln.out] at iy
      go_wp2_with (first
        | (go_at_call 18; (with_reducible refine (fl.out _ _ _ _ _ m7.at_).mono ?_); rintro e w8 ⟨v8, rfl, h8, o8⟩
           have i8 := Lib.hid (i7.out.keep o8 (fun _ _ _ h => h.elim))
           have m8 := Lib.hid (m7.none o8)
           have b8 := Lib.hid (b7.out.trans ((m7.under (o8.nilTo _)).mono s1))
           obtain ⟨a8, c8, rfl⟩ := own_slice_n h8.out
           have e8 : IntsIn w8 a8 X := (by
             have := h8.out
             rw [regs_nums, ← hX'.out] at this
             exact own_ints this)
           have e8' := Lib.hid e8
           clear e8 o8 h8)
        | (go_at_call 17; (with_reducible refine (iy.out _ _ _ _ _ e8'.out i8.out).mono ?_); rintro e w9 ⟨rfl, o9⟩))
      go_ret
      exact ⟨rfl, b8.out.trans ((m8.out.under (o9.nilTo _)).mono s1)⟩

theorem kept_much (n : Int) (a : Option Addr) (len cap : Nat) (w : World) (hn : 2000 < n) :
    Calls Try.prog 7 #[.int .i64 n, .slice a len cap] w fun e w' => e = .returned (.bool true) ∧ Below w.heap.size w w' := by
  go_enter Try.func7, Try.ntmps7
  go_wp2_with (go_at_call 8; (with_reducible refine (alive_any _).mono ?_); rintro e w1 ⟨rfl, b1⟩)
  go_ret
  exact ⟨rfl, b1⟩

theorem kept_all (n : Int) (a : Option Addr) (cap : Nat) (S : List OpN) (w : World) (hS : OpsIn w a S) (hr : S.length * 16 ≤ 140737488351232) :
    Calls Try.prog 7 #[.int .i64 n, .slice a S.length cap] w fun e w' => e = .returned (.bool true) ∧ Below w.heap.size w w' := by
  by_cases h : n ≤ 2000
  · exact kept_walk n a cap S w h hS hr
  · exact kept_much n a S.length cap w (by omega)
end Go.Proofs.Ytgpagfgedimjeaa
