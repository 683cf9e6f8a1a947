/- WheelFull: the walk. -/
import Derived.Test.YtpmgmdlfnlmieaaWhR
import Derived.Test.YtpmgmdlfnlmieaaWhOtA
namespace Go.Proofs.Ytpmgmdlfnlmieaa.Wh
open Go.RowKit Go.Proofs.Ytpmgmdlfnlmieaa

/-- A row of timers, all due at d. -/
def All (d : Nat) (L : List Tm) : Prop := ∀ t ∈ L, t.due = d
theorem all_not {d n : Nat} {L : List Tm} (h : All d L) (hn : n ≠ d) : (L.filter fun t => t.due == n) = [] ∧ (L.filter fun t => !(t.due == n)) = L := by
  constructor
  · rw [List.filter_eq_nil_iff]; intro t ht; have := h t ht; simp; omega
  · rw [List.filter_eq_self]; intro t ht; have := h t ht; simp; omega
theorem all_now {d : Nat} {L : List Tm} (h : All d L) : (L.filter fun t => t.due == d) = L ∧ (L.filter fun t => !(t.due == d)) = [] := by
  constructor
  · rw [List.filter_eq_self]; intro t ht; have := h t ht; simp; omega
  · rw [List.filter_eq_nil_iff]; intro t ht; have := h t ht; simp; omega

set_option maxRecDepth 100000 in
set_option maxHeartbeats 8000000 in
theorem full_all (x : Int) (y : Nat) (hy : y < 256) (w : World) :
    Calls Try.prog 6 #[.int .i64 x, .int .u8 (y : Int)] w fun e w' => e = .returned (.bool true) ∧ Below w.heap.size w w' := by
  obtain ⟨d1, hd1, hmd⟩ := mod_any x 4095 (by decide) (by decide)
  have hmd' := Lib.hid (fun w => show Calls Try.prog 15 #[.int .i64 x, .int .i64 4095] w fun e w' => e = .returned (.int .i64 (d1 : Int)) ∧ w = w' from hmd w)
  obtain ⟨d, hd⟩ : ∃ d, d = d1 + 1 := ⟨_, rfl⟩
  have ed : 1 + (d1 : Int) = (d : Int) := by omega
  have hd4 : Hid (1 ≤ d ∧ d ≤ 4095) := Lib.hid (by omega)
  have hd1' : (d1 : Int) < 4095 := by omega
  obtain ⟨cc, hcc⟩ : ∃ cc, cc = y % 64 := ⟨_, rfl⟩
  have hc64 := Lib.hid (show cc < 64 by omega)
  have ec : (y : Int) % 64 = (cc : Int) := by omega
  have eu : IntKind.u64.wrap (y : Int) = (y : Int) := by rw [IntKind.wrap_u64]; omega
  have hy' : (y : Int) < 256 := by omega
  clear hmd hd hd1 hcc hy
  -- the lists
  obtain ⟨L, hL⟩ : ∃ L, L = LT 0 (fun _ => d) 64 := ⟨_, rfl⟩
  have hmem : (⟨cc, 0 + d, cc⟩ : Tm) ∈ L := by rw [hL]; unfold LT; exact List.mem_map.2 ⟨cc, by simp; exact hc64.out, rfl⟩
  have hlen : L.length = 64 := by rw [hL, LT_len]
  have hids : ∀ t ∈ L, t.id ≠ 64 := by rw [hL]; exact LT_id 0 (fun _ => d) 64
  have hall : All d L := by
    rw [hL]; intro t ht
    simp only [LT, List.mem_map, List.mem_range] at ht
    obtain ⟨i, _, rfl⟩ := ht
    simp
  have hcl : (L.map (·.id)).Nodup → (cut L cc).length = 63 := by
    intro hn
    have hi : cc < L.length := by rw [hlen]; exact hc64.out
    have e := erase_eq L cc ⟨cc, 0 + d, cc⟩ hn hi (by rw [hL]; have := hc64.out; simp [LT, this])
    rw [← e, List.length_eraseIdx, if_pos hi, hlen]
  obtain ⟨L', hL'⟩ : ∃ L', L' = cut L cc ++ [⟨64, 0 + d, 64⟩] := ⟨_, rfl⟩
  have hall' : All d L' := by
    rw [hL']; intro t ht
    rcases List.mem_append.1 ht with h | h
    · exact hall t ((cut_sub L cc).subset h)
    · simp at h; subst h; simp
  have hcno : ∀ t ∈ cut L cc, t.id ≠ cc := by
    intro t ht
    have := (List.mem_filter.1 ht).2
    simpa using this
  have hc64' : ∀ t ∈ cut L cc, t.id ≠ 64 := fun t ht => hids t ((cut_sub L cc).subset ht)
  have m1 := Lib.hid (fun w1 (o : Only Nil w w1) => mine_new w w1 o)
  have a1 := Lib.hid (fun w1 B (h : Mine w w1 B 0 64 L) => show Calls Try.prog 24 #[.pointer (some ⟨B, 0, none⟩), .int .u64 64] w1 fun e w' => e = .returned (.tuple #[.int .i64 0, .bool false]) ∧ Mine w w' B 0 64 L from mine_due_no h 64 hids)
  have a2 := Lib.hid (fun w1 B (h : Mine w w1 B 0 64 L) => show Calls Try.prog 12 #[.pointer (some ⟨B, 0, none⟩), .int .u64 64, .int .i64 (d : Int)] w1 fun e w' => e = .returned (.int .i64 4) ∧ Mine w w' B 0 64 L from mine_add_full h 64 hids hlen d (by have := hd4.out; omega) (by have := hd4.out; omega))
  have a3 := Lib.hid (fun w1 B (h : Mine w w1 B 0 64 L) => show Calls Try.prog 20 #[.pointer (some ⟨B, 0, none⟩)] w1 fun e w' => e = .returned (.int .i64 64) ∧ Mine w w' B 0 64 L from by have := mine_len h; rw [hlen] at this; exact this)
  have a4 := Lib.hid (fun w1 B (h : Mine w w1 B 0 64 L) => show Calls Try.prog 12 #[.pointer (some ⟨B, 0, none⟩), .int .u64 (cc : Int), .int .i64 (d : Int)] w1 fun e w' => e = .returned (.int .i64 3) ∧ Mine w w' B 0 64 L from mine_add_there h _ hmem d (by have := hd4.out; omega) (by have := hd4.out; omega))
  have a5 := Lib.hid (fun w1 B (h : Mine w w1 B 0 64 L) => show Calls Try.prog 14 #[.pointer (some ⟨B, 0, none⟩), .int .u64 (cc : Int)] w1 fun e w' => e = .returned (.bool true) ∧ Mine w w' B 0 64 (cut L cc) from mine_cut_yes h _ hmem)
  have a6 := Lib.hid (fun w1 B (h : Mine w w1 B 0 64 (cut L cc)) => mine_cut_no h cc hcno)
  have a7 := Lib.hid (fun w1 B (h : Mine w w1 B 0 64 L) => hcl h.good.apart)
  have a8 := Lib.hid (fun w1 B (hl : (cut L cc).length = 63) (h : Mine w w1 B 0 64 (cut L cc)) => show Calls Try.prog 12 #[.pointer (some ⟨B, 0, none⟩), .int .u64 64, .int .i64 (d : Int)] w1 fun e w' => e = .returned (.int .i64 0) ∧ Mine w w' B 0 65 L' from by
    rw [hL']; exact mine_add_ok h 64 d hc64' (by omega) hd4.out.1 hd4.out.2 (by decide) (by decide))
  have t1 := Lib.hid (fun w1 B i (h : Mine w w1 B i 65 L') (hi : i + 1 < d) => show Calls Try.prog 18 #[.pointer (some ⟨B, 0, none⟩)] w1 fun e w' => ∃ v, e = .returned v ∧ Hid (w'.ownsRow w1.heap.size 30 1 v 0 []) ∧ Mine w w' B (i + 1) 65 L' from by
    have := mine_tick h (by have := hd4.out; omega)
    rw [(all_not hall' (show i + 1 ≠ d by omega)).1, (all_not hall' (show i + 1 ≠ d by omega)).2] at this
    exact this)
  have t2 := Lib.hid (fun w1 B i (hl : (cut L cc).length = 63) (h : Mine w w1 B i 65 L') (hi : i + 1 = d) => show Calls Try.prog 18 #[.pointer (some ⟨B, 0, none⟩)] w1 fun e w' => ∃ v, e = .returned v ∧ Hid (w'.ownsRow w1.heap.size 30 1 v 64 (ids L')) ∧ Mine w w' B (i + 1) 65 [] from by
    have := mine_tick h (by have := hd4.out; omega)
    rw [hi, (all_now hall').1, (all_now hall').2] at this
    rw [hi]
    have hl' : L'.length = 64 := by rw [hL']; simp [hl]
    rw [hl'] at this
    exact this)
  rw [← ec] at a4 a5 a6
  have hL2 := Lib.hid hL
  clear ec
  clear hmem hlen hids hall hall' hcl hcno hc64' hL hL'
  go_enter Try.func6, Try.ntmps6
  go_wp2_with (first
    | (go_at_call 9; (with_reducible refine (alive_any _).mono ?_); rintro e w1 ⟨rfl, h⟩; have o1 := Lib.hid h; clear h)
    | (go_at_call 10; (with_reducible refine (m1.out _ o1.out).mono ?_); rintro e w2 ⟨rfl, h⟩; have k2 := Lib.hid h; clear h; generalize w1.heap.size = B at *)
    | (go_at_call 15; (with_reducible refine (hmd'.out _).mono ?_); rintro e w' ⟨rfl, rfl⟩))
  (try simp only [ed])
  clear ed
  go_loopw [7] (fun s7 wr => ∃ (j : Nat), j ≤ 64 ∧ s7 = .int .i64 (j : Int) ∧ Hid (Mine w wr B 0 j (LT 0 (fun _ => d) j)))
    (fun s7 _ => 64 - (intOf s7).toNat)
  case atStart => exact ⟨0, by omega, rfl, k2⟩
  case round =>
    obtain ⟨j, hj, rfl, hm⟩ := hrel
    by_cases hj64 : j < 64
    · have had := Lib.hid (mine_add_ok hm.out j d (LT_id 0 _ j) (by rw [LT_len]; exact hj64) hd4.out.1 hd4.out.2 (by omega) (by omega))
      rw [show LT 0 (fun _ => d) j ++ [⟨j, 0 + d, j⟩] = LT 0 (fun _ => d) (j + 1) from (LT_succ 0 (fun _ => d) j).symm] at had
      have hj64' : (j : Int) < 64 := by omega
      have ej : IntKind.u64.wrap (j : Int) = (j : Int) := by rw [IntKind.wrap_u64]; omega
      go_wp2_with (go_at_call 12; (with_reducible refine had.out.mono ?_); rintro e w3 ⟨rfl, h⟩; have k3 := Lib.hid h; clear h)
      go_roundw
      case rel => exact ⟨j + 1, by omega, by go_num, k3⟩
      case measure => simp [intOf]; omega
    · obtain rfl : j = 64 := by omega
      have k3 : Hid (Mine w wr B 0 64 L) := Lib.hid (by rw [hL2.out]; exact hm.out)
      have hl63 := Lib.hid (a7.out _ _ k3.out)
      clear hm hj hj64
      go_wp2_with (first
        | (go_at_call 24; (with_reducible refine (a1.out _ _ k3.out).mono ?_); rintro e w4 ⟨rfl, h⟩; have k4 := Lib.hid h; clear h)
        | (go_at_call 12; (with_reducible refine (a8.out _ _ hl63.out k9.out).mono ?_); rintro e w10 ⟨rfl, h⟩; have k10 := Lib.hid h; clear h)
        | (go_at_call 12; (with_reducible refine (a4.out _ _ k6.out).mono ?_); rintro e w7 ⟨rfl, h⟩; have k7 := Lib.hid h; clear h)
        | (go_at_call 12; (with_reducible refine (a2.out _ _ k4.out).mono ?_); rintro e w5 ⟨rfl, h⟩; have k5 := Lib.hid h; clear h)
        | (go_at_call 20; (with_reducible refine (a3.out _ _ k5.out).mono ?_); rintro e w6 ⟨rfl, h⟩; have k6 := Lib.hid h; clear h)
        | (go_at_call 14; (with_reducible refine (a6.out _ _ k8.out).mono ?_); rintro e w9 ⟨rfl, h⟩; have k9 := Lib.hid h; clear h)
        | (go_at_call 14; (with_reducible refine (a5.out _ _ k7.out).mono ?_); rintro e w8 ⟨rfl, h⟩; have k8 := Lib.hid h; clear h))
      go_loopw [11, 12] (fun s11 s12 wr => ∃ (i : Nat), s12 = .int .i64 (i : Int) ∧ ((i < d ∧ s11 = .int .i64 0 ∧ Hid (Mine w wr B i 65 L')) ∨ (i = d ∧ s11 = .int .i64 64 ∧ Hid (Mine w wr B d 65 []))))
        (fun _ s12 _ => d - (intOf s12).toNat)
      case atStart => exact ⟨0, rfl, .inl ⟨by have := hd4.out; omega, rfl, k10⟩⟩
      case round =>
        obtain ⟨i, rfl, ⟨hid, rfl, hm⟩ | ⟨rfl, rfl, hm⟩⟩ := hrel
        · have hid' : (i : Int) < (d : Int) := by omega
          have hi4 : (i : Int) < 4095 := by have := hd4.out; omega
          by_cases hlast : i + 1 = d
          · have tk := Lib.hid (t2.out _ _ i hl63.out hm.out hlast)
            have hla := Lib.hid hlast
            clear hlast hid
            go_wp2_with (go_at_call 18; (with_reducible refine tk.out.mono ?_); rintro e w11 ⟨v11, rfl, h11, h⟩; have k11 := Lib.hid h; clear h; obtain ⟨a11, c11, rfl⟩ := own_slice_n h11.out)
            go_roundw
            case rel => exact ⟨i + 1, by go_num, .inr ⟨hla.out, rfl, Lib.hid (by have := k11.out; rw [hla.out] at this; exact this)⟩⟩
            case measure => have := hla.out; simp [intOf]; omega
          · have tk := Lib.hid (t1.out _ _ i hm.out (by omega))
            have hla := Lib.hid (show i + 1 < d by omega)
            clear hlast hid
            go_wp2_with (go_at_call 18; (with_reducible refine tk.out.mono ?_); rintro e w11 ⟨v11, rfl, h11, h⟩; have k11 := Lib.hid h; clear h; obtain ⟨a11, c11, rfl⟩ := own_slice_n h11.out)
            go_roundw
            case rel => exact ⟨i + 1, by go_num, .inl ⟨hla.out, rfl, k11⟩⟩
            case measure => have := hla.out; simp [intOf]; omega
        · have hk1 : ¬ (i : Int) < (i : Int) := by omega
          have ln := Lib.hid (show Calls Try.prog 20 #[.pointer (some ⟨B, 0, none⟩)] wr fun e w' => e = .returned (.int .i64 0) ∧ Mine w w' B i 65 [] from mine_len hm.out)
          have la := Lib.hid (fun w1 (h : Mine w w1 B i 65 []) => show Calls Try.prog 12 #[.pointer (some ⟨B, 0, none⟩), .int .u64 64, .int .i64 1] w1 fun e w' => e = .returned (.int .i64 0) ∧ Mine w w' B i 66 [⟨64, i + 1, 65⟩] from
            mine_add_ok h 64 1 (by simp) (by simp) (by decide) (by decide) (by decide) (by decide))
          go_wp2_with (first
            | (go_at_call 20; (with_reducible refine ln.out.mono ?_); rintro e w12 ⟨rfl, h⟩; have k12 := Lib.hid h; clear h)
            | (go_at_call 12; (with_reducible refine (la.out _ k12.out).mono ?_); rintro e w13 ⟨rfl, h⟩; have k13 := Lib.hid h; clear h))
          go_ret
          exact ⟨rfl, k13.out.only.below (Nat.le_refl _) (fun _ h => h.elim)⟩

theorem full_row' (x y : Int) (w : World) (hy : 0 ≤ y ∧ y < 256) :
    Calls Try.prog 6 #[.int .i64 x, .int .u8 y] w fun e w' => e = .returned (.bool true) ∧ Below w.heap.size w w' := by
  obtain ⟨Y, rfl⟩ := Int.eq_ofNat_of_zero_le hy.1
  exact full_all x Y (by omega) w
end Go.Proofs.Ytpmgmdlfnlmieaa.Wh
