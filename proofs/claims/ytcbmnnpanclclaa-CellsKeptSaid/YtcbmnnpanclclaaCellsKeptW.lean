/- CellsKept answers true for every slice of numbers, and turns nothing that there was: the walk. -/
import Derived.Test.YtcbmnnpanclclaaCellsE
namespace Go.Proofs.Ytcbmnnpanclclaa
open Go.RowKit

theorem ke_new (L : List Int) (hL : L.length ≤ 300) (w : World) : Calls Try.prog 10 #[.int .i64 L.length] w fun e w' =>
    e = .returned (.pointer (some ⟨w.heap.size + 1, 0, none⟩)) ∧ MemAt w' (w.heap.size + 1) w.heap.size (fill L 0) 0 ∧ Only Nil w w' := by
  have := new_any L.length w
  have e : count L.length = L.length := by unfold count; omega
  rw [e, ← fill_zero] at this
  exact this
theorem ke_store {w : World} {hb rb : Nat} {L : List Int} {k : Nat} (h : MemAt w hb rb (fill L k) k) (hk : k < L.length) (hl : L.length ≤ 300) :
    Calls Try.prog 15 #[.pointer (some ⟨hb, 0, none⟩), .int .i64 k, .int .u64 (L.getD k 0)] w fun e w' =>
      e = .returned (.int .i64 0) ∧ MemAt w' hb rb (fill L (k + 1)) ((k : Int) + 1) ∧ Only (Blk hb rb) w w' := by
  have := store_yes h k (L.getD k 0) (by rw [fill_length _ _ (by omega)]; exact hk) (by omega) (by omega)
  rwa [fill_set _ _ hk] at this

theorem own_u64s {w : World} {ab : Nat} {M : List Int} (h : w.heap[ab]? = some (.cells (u64s M) 32 (0, 0))) (hM : M.length ≤ 65536) :
    w.ownsRow 0 32 1 (.slice (some ⟨ab, 0, none⟩) M.length M.length) M.length (M.map (Value.int .u64)) := by
  refine ⟨by simp, .inr ⟨ab, M.length, u64s M, rfl, Nat.zero_le _, h, Nat.le_refl _, by unfold maxLen; omega, by simp [u64s_size], ?_⟩⟩
  simp only [u64s, Nat.mul_one]
  rw [List.take_of_length_le (by simp)]
theorem Only.ofGrown {w w' : World} {row : Option Nat} (h : w.grownBy w' row) : Only (fun k => some k = row) w w' := ⟨h.os, h.tape, h.output, h.size, h.block⟩
theorem own_slice {w : World} {e : TypeId} {v : Value} {n : Nat} {xs : List Value} (h : w.ownsRow 0 e 1 v (n + 1) xs) : ∃ g c, v = .slice (some ⟨g, 0, none⟩) (n + 1) c := by
  rcases h.2 with ⟨_, h⟩ | ⟨g, c, _, h, _⟩
  · omega
  · exact ⟨g, c, h⟩
theorem cell_u64s {w : World} {b : Nat} {M : List Int} (h : w.heap[b]? = some (.cells (u64s M) 32 (0, 0))) (i : Nat) (hi : i < M.length) : w.cell? ⟨b, i, none⟩ = some (.int .u64 (M.getD i 0)) := by
  have := u64s_get M i hi
  simp only [World.cell?, h]; simpa using this

set_option maxHeartbeats 400000 in
theorem kept_much (a : Option Addr) (cap : Nat) (L : List Int) (w : World) (hl : 300 < L.length) :
    Calls Try.prog 8 #[.slice a L.length cap] w fun e w' => e = .returned (.bool true) ∧ Below w.heap.size w w' := by
  generalize L.length = len at hl ⊢
  have hl' : (300 : Int) < (len : Int) := by omega
  clear hl
  go_enter Try.func8, Try.ntmps8
  go_wp2_with (go_at_call 9; (with_reducible refine (alive_any _).mono ?_); rintro e w1 ⟨rfl, o1⟩)
  go_ret
  exact ⟨rfl, o1.below (Nat.le_refl _) (fun _ h => h.elim)⟩

set_option maxHeartbeats 1000000 in
theorem kept_walk (a : Option Addr) (cap : Nat) (L : List Int) (w : World) (hL : RowIn w a L) (hl : L.length ≤ 300) :
    Calls Try.prog 8 #[.slice a L.length cap] w fun e w' => e = .returned (.bool true) ∧ Below w.heap.size w w' := by
  have hL' := Lib.hid hL
  clear hL
  have kn := Lib.hid (fun w => ke_new L hl w)
  have ks := Lib.hid (fun (w : World) (hb rb k : Nat) h hk => ke_store (w := w) (hb := hb) (rb := rb) (L := L) (k := k) h hk hl)
  have ka := Lib.hid (fun (w : World) (hb rb : Nat) (t : Int) h => all_any (w := w) (hb := hb) (rb := rb) (L := L) (t := t) h (by omega))
  have kp := Lib.hid (fun (w : World) (hb rb : Nat) (t : Int) h i hi => peek_yes (w := w) (hb := hb) (rb := rb) (L := L) (t := t) h i hi)
  have ff := Lib.hid (fill_full L)
  generalize hlen : L.length = len at hl kn ks ka kp ff ⊢
  have hlen' := Lib.hid hlen
  clear hlen
  have hl2 : (len : Int) ≤ 300 := by omega
  go_enter Try.func8, Try.ntmps8
  go_wp2_with (first
    | (go_at_call 9; (with_reducible refine (alive_any _).mono ?_); rintro e w1 ⟨rfl, p1⟩)
    | (go_at_call 10; (with_reducible refine (kn.out _).mono ?_); rintro e w2 ⟨rfl, h2, p2⟩))
  have b1 : Below w.heap.size w w1 := p1.below (Nat.le_refl _) (fun _ h => h.elim)
  have b2 : Below w.heap.size w w2 := b1.trans (p2.below b1.size (fun _ h => h.elim))
  have s1 := b1.size
  clear p1 p2 b1
  generalize w1.heap.size = rb at s1 h2 ⊢
  go_loopw [4] (fun i wr => ∃ (k : Nat), k ≤ len ∧ i = .int .i64 k ∧ MemAt wr (rb + 1) rb (fill L k) k ∧ Below w.heap.size w wr)
    (fun i _ => len - (intOf i).toNat)
  case atStart => exact ⟨0, Nat.zero_le _, rfl, h2, b2⟩
  case round =>
    obtain ⟨k, hk, rfl, hm, hbel⟩ := hrel
    clear b2 h2
    have hsz := hbel.size
    by_cases hlt : k < len
    · obtain ⟨b, off, rfl, hb1, hb2⟩ := hL'.out k (by rw [hlen'.out]; exact hlt)
      have hx : wr.cell? ⟨b, off + k, none⟩ = some (.int .u64 (L.getD k 0)) := (hbel.cell (p := ⟨b, off + k, none⟩) hb1).trans (hb2 k (by rw [hlen'.out]; exact hlt))
      have ks' := Lib.hid (ks.out wr _ _ k hm hlt)
      clear hb2
      generalize L.getD k 0 = x at hx ks'
      go_wp2_with (go_at_call 15; (with_reducible refine (ks'.out).mono ?_); rintro e w4 ⟨rfl, h4, o4⟩)
      go_roundw
      case rel => exact ⟨k + 1, by omega, by go_num, h4, hbel.trans (o4.under hsz (by omega) (by omega))⟩
      case measure => simp [intOf]; omega
    · obtain rfl : k = len := by omega
      rw [ff.out] at hm
      have hk0 : ¬ (k : Int) < (k : Int) := by omega
      go_wp2_with (first
        | (go_at_call 25; (with_reducible refine (ka.out _ _ _ _ hm).mono ?_); rintro e w4 ⟨rfl, h4, z4, o4⟩; have hm4 := hm.keep o4 (fun h => h) (fun h => h))
        | (go_at_call 25; (with_reducible refine (ka.out _ _ _ _ hm4).mono ?_); rintro e w5 ⟨rfl, h5, z5, o5⟩; have hm5 := hm4.keep o5 (fun h => h) (fun h => h)))
      have h4' : w5.heap[wr.heap.size]? = some (.cells (u64s L) 32 (0, 0)) := (o5.block _ z4 (fun h => h)).trans h4
      have b5 : Below w.heap.size w w5 := (hbel.trans (o4.below hsz (fun _ h => h.elim))).trans (o5.below (by omega) (fun _ h => h.elim))
      have r1 := hm.lt_hb
      have z4' : wr.heap.size ≠ w4.heap.size := by omega
      have z4'' : wr.heap.size < w5.heap.size := by omega
      clear h4 hm4 o4 o5 hm hbel
      generalize wr.heap.size = ab at *
      generalize w4.heap.size = bb at *
      go_loopw [7] (fun i wx => ∃ (j : Nat) (M : List Int), j ≤ k ∧ i = .int .i64 j ∧ M.length = k ∧ wx.heap[ab]? = some (.cells (u64s M) 32 (0, 0)) ∧ Only (fun q => q = ab) w5 wx)
        (fun i _ => k - (intOf i).toNat)
      case atStart => exact ⟨0, L, Nat.zero_le _, rfl, hlen'.out, h4', Only.refl _ _⟩
      case round =>
        obtain ⟨j, M, hj, rfl, hM, hab, ho⟩ := hrel
        have hM' := Lib.hid hM
        have hab' := Lib.hid hab
        clear hM hab h4'
        by_cases hjt : j < k
        · have hc : wr.cell? ⟨ab, j, none⟩ = some (.int .u64 (M.getD j 0)) := by
            have := u64s_get M j (by rw [hM'.out]; exact hjt)
            simp only [World.cell?, hab'.out]; simpa using this
          have hf : wr.frozen? ⟨ab, j, none⟩ = false := by simp only [World.frozen?, hab'.out]; simp
          go_wp2
          go_roundw
          case rel => exact ⟨j + 1, M.set j 77, by omega, by go_num, by simp [hM'.out], by rw [heap_setCell_self _ hab'.out, u64s_set], ho.setCell (p := ⟨ab, j, none⟩) rfl _⟩
          case measure => simp [intOf]; omega
        · obtain rfl : j = k := by omega
          have hown := own_u64s hab'.out (by rw [hM'.out]; omega)
          rw [hM'.out] at hown
          obtain ⟨i0, hi0, hz0, hz1, hz2⟩ := info_parts Try.infoU64
          have hown' := Lib.hid hown
          clear hown
          have ho' := Lib.hid ho
          clear ho
          have hul := Try.underlying29
          go_wp2_with (at_builtin; refine wpList_append_own _ rfl (.tmp 43) (.tmp 44) 29 rfl 0 32 i0 (.int .u64 0) 1 8 hul hi0 hz0 hz1 hz2 rfl (by decide) (.slice (some ⟨ab, 0, none⟩) j j) j (M.map (Value.int .u64)) rfl (hown'.out.alloc _) ⟨wr.heap.size, 0, none⟩ 1 1 [.int .u64 78] rfl rfl ?c1 ?c2 ?c3 ?c4 ?c5 ?_)
          case c1 => exact cell_one_new _ _ _
          case c2 => intro u hu; simp at hu; subst hu; rfl
          case c3 => unfold maxLen; omega
          case c4 => omega
          case c5 => omega
          intro v' w7 hv' hg7 hn7
          obtain ⟨g, cp, hv⟩ := own_slice hv'
          clear hn7 hv'
          have o7 : Only (fun q => q = ab) w5 w7 := (ho'.out.alloc _).trans ((Only.ofGrown hg7).mono (fun q hq => by simpa [Value.ownBlock] using hq))
          clear hg7
          have hm7 := hm5.keep o7 (by omega) (by omega)
          have h7 := (o7.block bb z5 (fun h => z4' h.symm)).trans h5
          have b7 : Below w.heap.size w w7 := b5.trans (o7.below b5.size (fun q hq => by omega))
          have o7' := Lib.hid o7
          clear o7 hm5 h5 b5
          rw [hv]
          clear hv
          go_wp2
          go_loopw [8] (fun i wz => ∃ (q : Nat), q ≤ j ∧ i = .int .i64 q ∧ Only Nil w7 wz)
            (fun i _ => j - (intOf i).toNat)
          case atStart => exact ⟨0, Nat.zero_le _, rfl, Only.refl _ _⟩
          case round =>
            obtain ⟨q, hq, rfl, ho8⟩ := hrel
            have hm8 := hm7.keep ho8 (fun h => h) (fun h => h)
            have h8 := (ho8.block bb (Nat.lt_of_lt_of_le z5 o7'.out.size) (fun h => h)).trans h7
            have b8 : Below w.heap.size w wr := b7.trans (ho8.below b7.size (fun _ h => h.elim))
            have ho8' := Lib.hid ho8
            clear hm7 h7 b7 ho8
            by_cases hqt : q < j
            · obtain ⟨b, off, rfl, hb1, hb2⟩ := hL'.out q (by rw [hlen'.out]; exact hqt)
              have hx : wr.cell? ⟨b, off + q, none⟩ = some (.int .u64 (L.getD q 0)) := (b8.cell (p := ⟨b, off + q, none⟩) hb1).trans (hb2 q (by rw [hlen'.out]; exact hqt))
              have hy : wr.cell? ⟨bb, q, none⟩ = some (.int .u64 (L.getD q 0)) := cell_u64s h8 q (by rw [hlen'.out]; exact hqt)
              have kq := Lib.hid (fun n => kp.out (wr.drewN n) _ _ _ (hm8.drewN n) q hqt)
              clear hb2 h8
              generalize L.getD q 0 = x at hx hy kq
              go_wp2
              go_quiet ((go_at_call 18; exact quiet_same (kq.out _)))
              go_wp2
              go_roundw
              case rel => exact ⟨q + 1, by omega, by go_num, ho8'.out.drewN _⟩
              case measure => simp [intOf]; omega
            · go_wp2_with (go_at_call 23; (with_reducible refine (touched_any hm8).mono ?_); rintro e w9 ⟨rfl, rfl⟩)
              go_ret
              exact ⟨rfl, b8⟩

theorem kept_all (a : Option Addr) (cap : Nat) (L : List Int) (w : World) (hL : RowIn w a L) :
    Calls Try.prog 8 #[.slice a L.length cap] w fun e w' => e = .returned (.bool true) ∧ Below w.heap.size w w' := by
  by_cases h : L.length ≤ 300
  · exact kept_walk a cap L w hL h
  · exact kept_much a cap L w (by omega)
end Go.Proofs.Ytcbmnnpanclclaa
