/- The document's own area: Regions, told as numbers. -/
import Derived.Test.YtgpagfgedimjeaaAreaT
namespace Go.Proofs.Ytgpagfgedimjeaa
open Go.RowKit

/-- Where a region begins. -/
theorem Ok.own_self {n : Nat} {L : List Reg} (ok : Ok n L) (c : Nat) : own L c = (c : Int) ↔ ∃ t, t < L.length ∧ (regAt L t).1 = c := by
  constructor
  · intro h
    obtain ⟨t, h1, _, h3⟩ := own_nonneg c (by rw [h]; omega)
    exact ⟨t, h1, by omega⟩
  · rintro ⟨t, h1, h2⟩
    have := ok.pos t h1
    rw [ok.own_in t c h1 (by unfold InR; omega), h2]
theorem Ok.own_past {n : Nat} {L : List Reg} (ok : Ok n L) (t : Nat) (ht : t < L.length) : own L ((regAt L t).1 + (regAt L t).2) ≠ ((regAt L t).1 : Int) := by
  intro h
  obtain ⟨u, h1, h2, h3⟩ := own_nonneg _ (by rw [h]; omega)
  have : t = u := ok.inj t u ht h1 (by omega)
  subst this
  unfold InR at h2
  omega

set_option maxRecDepth 100000 in
set_option maxHeartbeats 4000000 in
theorem rregions_any {w : World} {qb : Nat} {a : Option Addr} {cap n : Nat} {L : List Reg} (h : RefAt w qb a cap (cellsOf L n)) (ok : Ok n L) (nle : n ≤ 65536) :
    Calls Try.prog 19 #[.pointer (some ⟨qb, 0, none⟩)] w fun e w' =>
      ∃ v, e = .returned v ∧ Hid (w'.ownsRow w.heap.size 3 1 v (L.length * 2) (regs L)) ∧ Only Nil w w' := by
  have h' := Lib.hid h
  have ok' := Lib.hid ok
  have lle : L.length ≤ 65536 := Nat.le_trans ok.length_le nle
  have hcl := Lib.hid (length_cellsOf L n)
  have hcg := Lib.hid (fun c hc => getD_cellsOf L n c hc)
  have htk := Lib.hid (show ∀ k, k < L.length → regs (L.take (k + 1)) = regs (L.take k) ++ [.int .i64 ((regAt L k).1 : Int)] ++ [.int .i64 ((regAt L k).2 : Int)] from fun k hk => by
    rw [List.take_add_one, regAt_get L k hk, regs_append]; simp [regs_cons, regs_nil])
  have htf := Lib.hid (show regs (L.take L.length) = regs L by rw [List.take_length])
  clear h ok
  have l1 : (n : Int) ≤ 65536 := by omega
  obtain ⟨i0, hi0, hz0, hz1, hz2⟩ := info_parts Try.infoInt
  have hu := Try.underlying39
  go_enter Try.func19, Try.ntmps19
  go_wp2
  go_loopw [3, 4] (fun s3 s4 wr => ∃ (i t : Nat), i ≤ n ∧ t ≤ L.length ∧ s4 = .int .i64 (i : Int) ∧ Hid (∀ u, u < t → (regAt L u).1 < i) ∧ Hid (∀ u, t ≤ u → u < L.length → i ≤ (regAt L u).1) ∧
      Hid (wr.ownsRow w.heap.size 3 1 s3 (t * 2) (regs (L.take t))) ∧ Hid (Only Nil w wr))
    (fun _ s4 _ => n - (intOf s4).toNat)
  case atStart => exact ⟨0, 0, Nat.zero_le _, Nat.zero_le _, rfl, Lib.hid (fun u hu => by omega), Lib.hid (fun u _ _ => Nat.zero_le _), Lib.hid (World.ownsRow_nil _ _ _ _), Lib.hid (Only.refl _ _)⟩
  case round =>
    obtain ⟨i, t, hi, ht, rfl, hb, ha, hown, ho⟩ := hrel
    have hA := Lib.hid (h'.out.keep ho.out (fun _ h => h.elim))
    have d0 := hA.out.c0
    rw [hcl.out] at d0
    by_cases hlt : i < n
    · obtain ⟨g, rfl, hg1, hg2⟩ := hA.out.ints i (by rw [hcl.out]; exact hlt)
      have x0 := hg2 i (by rw [hcl.out]; exact hlt)
      rw [hcg.out i hlt] at x0
      clear hg2
      by_cases hown1 : own L i = (i : Int)
      · obtain ⟨u, hu1, hu2⟩ := (ok'.out.own_self i).1 hown1
        obtain rfl : u = t := by
          rcases Nat.lt_trichotomy u t with g | g | g
          · have := hb.out u g; omega
          · exact g
          · have := ha.out t (Nat.le_refl _) (by omega)
            have := ok'.out.lt t u g hu1
            omega
        rw [hown1] at x0
        have e1 := Lib.hid (htk.out u hu1)
        have rle := ok'.out.reg_le u hu1
        have rpos := ok'.out.pos u hu1
        have rin := Lib.hid (fun j (hj : j < (regAt L u).2) => ok'.out.own_in u ((regAt L u).1 + j) hu1 ⟨by omega, by omega⟩)
        have rpast := Lib.hid (ok'.out.own_past u hu1)
        have hb2 := Lib.hid (show ∀ q, q < u + 1 → (regAt L q).1 < i + 1 from fun q hq => by
          by_cases e : q = u
          · rw [e]; omega
          · have := hb.out q (by omega); omega)
        have ha2 := Lib.hid (show ∀ q, u + 1 ≤ q → q < L.length → i + 1 ≤ (regAt L q).1 from fun q h1 h2 => by
          have := ok'.out.lt u q h1 h2; omega)
        generalize hr : regAt L u = r at hu2 e1 rle rpos rin rpast
        obtain ⟨rb, rl⟩ := r
        simp only at hu2 rle rpos
        subst hu2
        clear hr
        obtain ⟨a3, c3, rfl⟩ := own_slice_n hown.out
        generalize wr = wo at *
        have hrlI : (rb : Int) + (rl : Int) ≤ (n : Int) := by omega
        go_wp2
        go_loopw [5] (fun s5 wr => ∃ (k : Nat), k ≤ rl ∧ s5 = .int .i64 (k : Int) ∧ wo = wr)
          (fun s5 _ => rl - (intOf s5).toNat)
        case atStart => exact ⟨0, Nat.zero_le _, rfl, rfl⟩
        case round =>
          obtain ⟨k, hk, rfl, rfl⟩ := hrel
          have htn : ((rb : Int) + (k : Int)).toNat = rb + k := by omega
          have hb0 : (0 : Int) ≤ (rb : Int) + (k : Int) := by omega
          by_cases hkl : k < rl
          · obtain ⟨g', hg0, hg1', hg2⟩ := hA.out.ints (rb + k) (by rw [hcl.out]; omega)
            simp only [Option.some.injEq, Addr.mk.injEq, and_true] at hg0
            subst hg0
            have y0 := hg2 (rb + k) (by rw [hcl.out]; omega)
            rw [hcg.out (rb + k) (by omega), rin.out k hkl] at y0
            clear hg2
            have hbi : (rb : Int) + (k : Int) < (n : Int) := by omega
            have hbi' : rb + k < n := by omega
            go_wp2
            go_roundw
            case rel => exact ⟨k + 1, by omega, by go_num, by first | rfl | trivial⟩
            case measure => simp [intOf]; omega
          · obtain rfl : k = rl := by omega
            have hkr : ¬ (k : Int) < (k : Int) := by omega
            by_cases hbl : rb + k < n
            · obtain ⟨g', hg0, hg1', hg2⟩ := hA.out.ints (rb + k) (by rw [hcl.out]; omega)
              simp only [Option.some.injEq, Addr.mk.injEq, and_true] at hg0
              subst hg0
              have y0 := hg2 (rb + k) (by rw [hcl.out]; omega)
              rw [hcg.out (rb + k) (by omega)] at y0
              have hne : own L (rb + k) ≠ (rb : Int) := rpast.out
              clear hg2
              generalize own L (rb + k) = y at y0 hne
              have hbi : (rb : Int) + (k : Int) < (n : Int) := by omega
              have hyb : (y == (rb : Int)) = false := by simpa using hne
              obtain ⟨R, hR⟩ : ∃ R, R = regs (L.take u) := ⟨_, rfl⟩
              have hown' := hown.out
              rw [← hR] at hown'
              have hown2 := Lib.hid hown'
              have e1' := e1.out
              rw [← hR] at e1'
              have e1'' := Lib.hid e1'
              clear hown' hR e1'
              have wsz := Lib.hid ho.out.size
              go_wp2_with (at_builtin; refine wpList_append_own _ rfl (.tmp 48) (.tmp 50) 39 rfl w.heap.size 3 i0 (.int .i64 0) 1 8 hu hi0 hz0 hz1 hz2 rfl (by decide) (.slice a3 (u * 2) c3) (u * 2) R rfl (hown2.out.alloc _) ⟨wo.heap.size, 0, none⟩ 1 1 [.int .i64 (rb : Int)] rfl rfl (src_one (heap_new wo (.cells #[.int .i64 (rb : Int)] 3))) (one_one _) (by unfold maxLen; omega) (by omega) (Nat.le_trans wsz.out (by simp)) ?_)
              intro v4 w4 hv4 hg4 hn4
              clear hn4
              have o4 := Lib.hid ((ho.out.alloc _).grow hg4 (hown2.out.alloc (.cells #[.int .i64 (rb : Int)] 3)) rfl (Nat.le_refl _))
              obtain ⟨a4, c4, rfl⟩ := own_slice_n hv4
              have hv4' := Lib.hid hv4
              have ho4 := Lib.hid o4.out.size
              clear hv4 hg4
              go_wp2_with (at_builtin; refine wpList_append_own _ rfl (.tmp 52) (.tmp 54) 39 rfl w.heap.size 3 i0 (.int .i64 0) 1 8 hu hi0 hz0 hz1 hz2 rfl (by decide) (.slice a4 (u * 2 + 1) c4) (u * 2 + 1) (R ++ [.int .i64 (rb : Int)]) rfl (hv4'.out.alloc _) ⟨w4.heap.size, 0, none⟩ 1 1 [.int .i64 (k : Int)] rfl rfl (src_one (heap_new w4 (.cells #[.int .i64 (k : Int)] 3))) (one_one _) (by unfold maxLen; omega) (by omega) (Nat.le_trans ho4.out (by simp)) ?_)
              intro v5 w5 hv5 hg5 hn5
              clear hn5
              have o5 := Lib.hid ((o4.out.alloc _).grow hg5 (hv4'.out.alloc (.cells #[.int .i64 (k : Int)] 3)) rfl (Nat.le_refl _))
              have hv5' := Lib.hid hv5
              clear hv5 hg5
              go_wp2
              go_roundw
              case rel => exact ⟨rb + 1, u + 1, by omega, by omega, by go_num, hb2, ha2, Lib.hid (by rw [e1''.out, show (u + 1) * 2 = u * 2 + 1 + 1 by omega, List.append_assoc]; exact hv5'.out), o5⟩
              case measure => simp [intOf]; omega
            · have hbi : ¬ (rb : Int) + (k : Int) < (n : Int) := by omega
              obtain ⟨R, hR⟩ : ∃ R, R = regs (L.take u) := ⟨_, rfl⟩
              have hown' := hown.out
              rw [← hR] at hown'
              have hown2 := Lib.hid hown'
              have e1' := e1.out
              rw [← hR] at e1'
              have e1'' := Lib.hid e1'
              clear hown' hR e1'
              have wsz := Lib.hid ho.out.size
              go_wp2_with (at_builtin; refine wpList_append_own _ rfl (.tmp 48) (.tmp 50) 39 rfl w.heap.size 3 i0 (.int .i64 0) 1 8 hu hi0 hz0 hz1 hz2 rfl (by decide) (.slice a3 (u * 2) c3) (u * 2) R rfl (hown2.out.alloc _) ⟨wo.heap.size, 0, none⟩ 1 1 [.int .i64 (rb : Int)] rfl rfl (src_one (heap_new wo (.cells #[.int .i64 (rb : Int)] 3))) (one_one _) (by unfold maxLen; omega) (by omega) (Nat.le_trans wsz.out (by simp)) ?_)
              intro v4 w4 hv4 hg4 hn4
              clear hn4
              have o4 := Lib.hid ((ho.out.alloc _).grow hg4 (hown2.out.alloc (.cells #[.int .i64 (rb : Int)] 3)) rfl (Nat.le_refl _))
              obtain ⟨a4, c4, rfl⟩ := own_slice_n hv4
              have hv4' := Lib.hid hv4
              have ho4 := Lib.hid o4.out.size
              clear hv4 hg4
              go_wp2_with (at_builtin; refine wpList_append_own _ rfl (.tmp 52) (.tmp 54) 39 rfl w.heap.size 3 i0 (.int .i64 0) 1 8 hu hi0 hz0 hz1 hz2 rfl (by decide) (.slice a4 (u * 2 + 1) c4) (u * 2 + 1) (R ++ [.int .i64 (rb : Int)]) rfl (hv4'.out.alloc _) ⟨w4.heap.size, 0, none⟩ 1 1 [.int .i64 (k : Int)] rfl rfl (src_one (heap_new w4 (.cells #[.int .i64 (k : Int)] 3))) (one_one _) (by unfold maxLen; omega) (by omega) (Nat.le_trans ho4.out (by simp)) ?_)
              intro v5 w5 hv5 hg5 hn5
              clear hn5
              have o5 := Lib.hid ((o4.out.alloc _).grow hg5 (hv4'.out.alloc (.cells #[.int .i64 (k : Int)] 3)) rfl (Nat.le_refl _))
              have hv5' := Lib.hid hv5
              clear hv5 hg5
              go_wp2
              go_roundw
              case rel => exact ⟨rb + 1, u + 1, by omega, by omega, by go_num, hb2, ha2, Lib.hid (by rw [e1''.out, show (u + 1) * 2 = u * 2 + 1 + 1 by omega, List.append_assoc]; exact hv5'.out), o5⟩
              case measure => simp [intOf]; omega
      · have ha2 := Lib.hid (show ∀ q, t ≤ q → q < L.length → i + 1 ≤ (regAt L q).1 from fun q h1 h2 => by
          have h3 := ha.out q h1 h2
          have h4 : (regAt L q).1 ≠ i := fun e => hown1 ((ok'.out.own_self i).2 ⟨q, h2, e⟩)
          omega)
        have hb2 := Lib.hid (show ∀ q, q < t → (regAt L q).1 < i + 1 from fun q hq => by have := hb.out q hq; omega)
        generalize own L i = y at x0 hown1
        have hyb : (y != (i : Int)) = true := by simpa using hown1
        go_wp2
        go_roundw
        case rel => exact ⟨i + 1, t, by omega, ht, by go_num, hb2, ha2, hown, ho⟩
        case measure => simp [intOf]; omega
    · obtain rfl : i = n := by omega
      have hk0 : ¬ (i : Int) < (i : Int) := by omega
      obtain rfl : t = L.length := by
        rcases Nat.lt_or_ge t L.length with g | g
        · have h1 := ha.out t (Nat.le_refl _) g
          have h2 := ok'.out.reg_le t g
          have h3 := ok'.out.pos t g
          omega
        · omega
      rw [htf.out] at hown
      go_wp2
      go_ret
      exact ⟨_, rfl, hown, ho.out⟩
end Go.Proofs.Ytgpagfgedimjeaa
