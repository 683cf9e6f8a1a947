/- AreaBack answers true for every number, every script and every turn, and turns nothing that there was: the walk. -/
import Derived.Test.YtgpagfgedimjeaaAreaApartW
namespace Go.Proofs.Ytgpagfgedimjeaa
open Go.RowKit

/-- Mod, as a number below len. -/
theorem mod_any (x : Int) (len : Nat) (h0 : 0 < len) (h1 : len ≤ 65536) :
    ∃ s : Nat, s < len ∧ ∀ w, Calls Try.prog 23 #[.int .i64 x, .int .i64 (len : Int)] w fun e w' => e = .returned (.int .i64 (s : Int)) ∧ w = w' := by
  have hb := Int.tmod_lt_of_pos x (show (0 : Int) < (len : Int) by omega)
  have hb2 : -(len : Int) < Int.tmod x len := by
    rcases Int.le_total 0 x with h | h
    · have := Int.tmod_nonneg (len : Int) h; omega
    · have h3 := Int.tmod_lt_of_pos (-x) (show (0 : Int) < (len : Int) by omega)
      rw [Int.neg_tmod] at h3
      omega
  have hne : ¬ ((len : Int) = 0) := by omega
  by_cases hk : Int.tmod x len < 0
  · refine ⟨(Int.tmod x len + len).toNat, by omega, fun w => ?_⟩
    rw [show (((Int.tmod x len + len).toNat : Nat) : Int) = Int.tmod x len + len by omega]
    generalize hm : Int.tmod x len = m at hb hb2 hk ⊢
    have l1 : (len : Int) ≤ 65536 := by omega
    go_enter Try.func23, Try.ntmps23
    go_wp2
    go_ret
    exact ⟨rfl, rfl⟩
  · refine ⟨(Int.tmod x len).toNat, by omega, fun w => ?_⟩
    rw [show (((Int.tmod x len).toNat : Nat) : Int) = Int.tmod x len by omega]
    generalize hm : Int.tmod x len = m at hb hb2 hk ⊢
    have l1 : (len : Int) ≤ 65536 := by omega
    go_enter Try.func23, Try.ntmps23
    go_wp2
    go_ret
    exact ⟨rfl, rfl⟩

/-- What is left of L when i regions were given back, from the s-th on and around. -/
def rest (L : List Reg) (s i : Nat) : List Reg := if s + i ≤ L.length then L.take s ++ L.drop (s + i) else (L.take s).drop (s + i - L.length)
theorem rest_zero (L : List Reg) (s : Nat) (hs : s ≤ L.length) : rest L s 0 = L := by simp [rest, hs]
theorem rest_all (L : List Reg) (s : Nat) : rest L s L.length = [] := by
  unfold rest
  by_cases h : s + L.length ≤ L.length
  · obtain rfl : s = 0 := by omega
    simp
  · rw [if_neg h]; simp
theorem rest_next (L : List Reg) (s i : Nat) (hs : s < L.length) (hi : i < L.length) :
    ∃ t, t < (rest L s i).length ∧ regAt (rest L s i) t = regAt L ((i + s) % L.length) ∧ del (rest L s i) t = rest L s (i + 1) := by
  by_cases h : s + i < L.length
  · have e : (i + s) % L.length = s + i := by rw [Nat.add_comm, Nat.mod_eq_of_lt h]
    have r1 : rest L s i = L.take s ++ L.drop (s + i) := by simp only [rest]; rw [if_pos (by omega)]
    have r2 : rest L s (i + 1) = L.take s ++ L.drop (s + i + 1) := by simp only [rest]; rw [if_pos (by omega)]; rfl
    have hl : (L.take s).length = s := by simp; omega
    refine ⟨s, by rw [r1]; simp; omega, ?_, ?_⟩
    · rw [r1, e, regAt_append_right _ _ _ (by omega), hl, regAt_drop, Nat.sub_self, Nat.add_zero]
    · rw [r1, r2, del, List.take_append_of_le_length (by omega), List.take_of_length_le (by omega), List.drop_append, hl]
      rw [List.drop_eq_nil_of_le (by omega), List.nil_append, List.drop_drop]
      congr 2
      omega
  · have e : (i + s) % L.length = s + i - L.length := by
      rw [Nat.mod_eq_sub_mod (by omega), Nat.mod_eq_of_lt (by omega)]; omega
    have r1 : rest L s i = (L.take s).drop (s + i - L.length) := by
      simp only [rest]
      by_cases g : s + i ≤ L.length
      · rw [if_pos g, show s + i = L.length by omega]; simp
      · rw [if_neg g]
    have r2 : rest L s (i + 1) = (L.take s).drop (s + i - L.length + 1) := by
      simp only [rest]; rw [if_neg (by omega)]; congr 1; omega
    refine ⟨0, by rw [r1]; simp; omega, ?_, ?_⟩
    · rw [r1, e, regAt_drop, Nat.add_zero, regAt_take _ _ _ (by omega)]
    · rw [r1, r2, del, List.take_zero, List.nil_append, List.drop_drop]
theorem gone_after {n : Nat} {M : List Reg} (ok : Ok n M) (t : Nat) (ht : t < M.length) : ∀ i, i < (del M t).length → ((regAt (del M t) i).1 : Int) ≠ ((regAt M t).1 : Int) := by
  intro i hi e
  rw [length_del _ _ ht] at hi
  by_cases h : i < t
  · rw [regAt_del_lt _ _ _ ht h] at e
    have := ok.inj i t (by omega) ht (by omega); omega
  · rw [regAt_del_ge _ _ _ ht (by omega)] at e
    have := ok.inj (i + 1) t (by omega) ht (by omega); omega

set_option maxRecDepth 100000 in
set_option maxHeartbeats 2000000 in
theorem back_walk (n : Int) (a : Option Addr) (cap : Nat) (S : List OpN) (from_ : Int) (w : World) (hn0 : 1 ≤ n) (hn : n ≤ 2000) (hS : OpsIn w a S) (hr : S.length * 16 ≤ 140737488351232) :
    Calls Try.prog 6 #[.int .i64 n, .slice a S.length cap, .int .i64 from_] w fun e w' => e = .returned (.bool true) ∧ Below w.heap.size w w' := by
  have pl := Lib.hid (fun w1 (b : Below w.heap.size w w1) => play_any n a cap S w1 (hS.later b) hr)
  obtain ⟨N, rfl⟩ : ∃ N : Nat, n = (N : Int) := ⟨n.toNat, by omega⟩
  have hc : count (N : Int) = N := by unfold count; omega
  rw [hc] at pl
  have hn0' : ¬ (N : Int) < 1 := by omega
  have hn' : ¬ 2000 < (N : Int) := by omega
  clear hS hc hn0 hn
  generalize S.length = len0 at hr pl ⊢
  go_enter Try.func6, Try.ntmps6
  go_wp2_with (first
    | (go_at_call 8; (with_reducible refine (alive_any _).mono ?_); rintro e w1 ⟨rfl, b1⟩)
    | (go_at_call 20; (with_reducible refine (pl.out _ b1).mono ?_); rintro e w2 ⟨rfl, h2, b2⟩; obtain ⟨a2, c2, L, m2⟩ := h2.out; clear h2)
    | (go_at_call 21; (with_reducible refine (regions_any m2.at_).mono ?_); rintro e w3 ⟨rfl, hl, o3⟩))
  have m3 := m2.none o3
  have s1 := b1.size
  have b3 := Lib.hid ((b1.trans (b2.mono s1)).trans ((m2.under (o3.nilTo _)).mono s1))
  have rg := Lib.hid (regs_block hl)
  have ok := Lib.hid m2.at_.ok
  have own3 := Lib.hid m2.at_.own_lt
  have lle := m2.at_.len
  have m3' := Lib.hid m3
  clear m2 b2 hl o3 pl m3
  generalize w2.heap.size = lb at *
  generalize w1.heap.size = hb at *
  obtain ⟨s, hs, hmod⟩ : ∃ s, s ≤ L.length ∧ Hid (0 < L.length → s < L.length ∧ ∀ w, Calls Try.prog 23 #[.int .i64 from_, .int .i64 (L.length : Int)] w fun e w' => e = .returned (.int .i64 (s : Int)) ∧ w = w') := by
    by_cases h : 0 < L.length
    · obtain ⟨s, h1, h2⟩ := mod_any from_ L.length h lle
      exact ⟨s, Nat.le_of_lt h1, Lib.hid fun _ => ⟨h1, h2⟩⟩
    · exact ⟨0, Nat.zero_le _, Lib.hid fun h' => absurd h' h⟩
  have rn := Lib.hid (fun i (h1 : s < L.length) h2 => rest_next L s i h1 h2)
  have rz := Lib.hid (rest_zero L s hs)
  have ra := Lib.hid (rest_all L s)
  generalize hlen : L.length = len at *
  have hlen' := Lib.hid hlen
  clear hlen
  have lle' : (len : Int) ≤ 65536 := by omega
  go_loopw [9] (fun s9 wr => ∃ (i : Nat), i ≤ len ∧ s9 = .int .i64 (i : Int) ∧ Hid (AreaAt wr hb a2 c2 N (rest L s i)) ∧ Hid (Only (Own hb a2) w3 wr))
    (fun s9 _ => len - (intOf s9).toNat)
  case atStart => exact ⟨0, Nat.zero_le _, rfl, Lib.hid (by rw [rz.out]; exact m3'.out.at_), Lib.hid (Only.refl _ _)⟩
  case round =>
    obtain ⟨i, hi, rfl, hA, ho⟩ := hrel
    by_cases hlt : i < len
    · obtain ⟨hs2, hmod2⟩ := hmod.out (by omega)
      have hmod2' := Lib.hid hmod2
      clear hmod2
      obtain ⟨t, ht, hr1, hr2⟩ := rn.out i hs2 hlt
      have hj : (i + s) % len < len := Nat.mod_lt _ (by omega)
      have hrem : Int.tmod ((i : Int) + (s : Int)) (len : Int) = (((i + s) % len : Nat) : Int) := by
        rw [show (i : Int) + (s : Int) = ((i + s : Nat) : Int) by omega]; rfl
      obtain ⟨g, hg0, hg1, hg2⟩ := (rg.out.keep ho.out (fun k b e h => by
        have := own3.out k h
        simp only [Option.some.injEq] at e
        rw [← e]; show k ≠ lb; omega)) ((i + s) % len) (by rw [hlen'.out]; exact hj)
      simp only [Option.some.injEq, Addr.mk.injEq, and_true] at hg0
      subst hg0
      obtain ⟨x0, x1⟩ := hg2 ((i + s) % len) (by rw [hlen'.out]; exact hj)
      have cg := fun (w : World) (h : AreaAt w hb a2 c2 N (rest L s i)) => give_yes h t ht
      have cn := fun (w : World) (h : AreaAt w hb a2 c2 N (del (rest L s i) t)) => give_no h ((regAt (rest L s i) t).1 : Int) (gone_after hA.out.ok t ht)
      rw [hr2] at cn
      simp only [hr2, hr1] at cg cn
      clear hg2 hg1 hr1 hr2 ht
      generalize (i + s) % len = j at *
      generalize hrg : regAt L j = r at x0 x1 cg cn
      have hrg := Lib.hid hrg
      obtain ⟨rb', rl⟩ := r
      simp only at x0 x1 cg cn
      have cg' := Lib.hid cg
      have cn' := Lib.hid cn
      clear cg cn
      have hj' : (j : Int) < (len : Int) := by omega
      have his : (i : Int) + (s : Int) ≤ 131072 := by omega
      have hne : ¬ ((len : Int) = 0) := by omega
      go_wp2_with (first
        | (go_at_call 23; (with_reducible refine (hmod2'.out _).mono ?_); rintro e w4 ⟨rfl, rfl⟩)
        | (go_at_call 11; (with_reducible refine (cg'.out _ hA.out).mono ?_); rintro e w5 ⟨rfl, h5, o5⟩
           have h5' := Lib.hid h5
           have o5' := Lib.hid (ho.out.trans o5)
           obtain ⟨g, hg0, hg1, hg2⟩ := (rg.out.keep o5'.out (fun k b e h => by
             have := own3.out k h
             simp only [Option.some.injEq] at e
             rw [← e]; show k ≠ lb; omega)) j (by rw [hlen'.out]; exact hj)
           simp only [Option.some.injEq, Addr.mk.injEq, and_true] at hg0
           subst hg0
           obtain ⟨y0, y1⟩ := hg2 j (by rw [hlen'.out]; exact hj)
           rw [hrg.out] at y0
           simp only at y0
           clear hg2 hg1 y1 h5 o5)
        | (go_at_call 11; (with_reducible refine (cn'.out _ h5'.out).mono ?_); rintro e w6 ⟨rfl, o6⟩))
      go_roundw
      case rel => exact ⟨i + 1, by omega, by go_num, Lib.hid (h5'.out.keep o6 (fun _ h => h.elim)), Lib.hid (o5'.out.trans (o6.nilTo _))⟩
      case measure => simp [intOf]; omega
    · obtain rfl : i = len := by omega
      have hk0 : ¬ (i : Int) < (i : Int) := by omega
      have m5 := Lib.hid (Mine.mk (B := hb) (by have := hA.out; rw [ra.out] at this; exact this) m3'.out.hb_ m3'.out.a_ : Mine hb wr hb a2 c2 N [])
      have b5 := Lib.hid (b3.out.trans ((m3'.out.under ho.out).mono s1))
      have nle := m5.out.at_.nle
      have fr := Lib.hid (m_free m5.out)
      have e0 : total [] = 0 := rfl
      rw [e0] at fr
      have t1 := Lib.hid (fun (w : World) (a : Option Addr) (cap : Nat) (h : Mine hb w hb a cap N []) => m_take h N (by omega) 0 (Nat.zero_le _) (by unfold Fits bnd endAt; simp) (fun j hj => by omega))
      have t2 := Lib.hid (fun (w : World) (a : Option Addr) (cap : Nat) (h : Mine hb w hb a cap N [(0, N)]) => m_full h 1 (by decide) (fun j hj => by
        have hj' : j = 0 ∨ j = 1 := by simp at hj; omega
        rcases hj' with rfl | rfl
        · unfold Fits bnd endAt; simp [regAt]
        · unfold Fits bnd endAt; simp [regAt]))
      have t3 := Lib.hid (fun (w : World) (a : Option Addr) (cap : Nat) (h : Mine hb w hb a cap N [(0, N)]) => m_free h)
      simp only [show ins [] 0 (endAt [] 0, N) = [(0, N)] from rfl, show ((endAt [] 0 : Nat) : Int) = 0 from rfl] at t1
      simp only [show total [(0, N)] = N by simp [total]] at t3
      go_wp2_with (first
        | (go_at_call 15; (with_reducible refine (fr.out).mono ?_); rintro e w6 ⟨rfl, m6, b6⟩)
        | (go_at_call 21; (with_reducible refine (regions_any m6.at_).mono ?_); rintro e w7 ⟨rfl, hl7, o7⟩; have m7 := m6.none o7; have b7 := m6.under (o7.nilTo _); clear hl7 o7)
        | (go_at_call 13; (with_reducible refine (t1.out _ _ _ m7).mono ?_); rintro e w8 ⟨a8, c8, rfl, m8, b8⟩)
        | (go_at_call 13; (with_reducible refine (t2.out _ _ _ m8).mono ?_); rintro e w9 ⟨rfl, m9, b9⟩)
        | (go_at_call 15; (with_reducible refine (t3.out _ _ _ m9).mono ?_); rintro e w10 ⟨rfl, m10, b10⟩))
      go_ret
      exact ⟨rfl, b5.out.trans (((((b6.trans b7).trans b8).trans b9).trans b10).mono s1)⟩

theorem back_much (n : Int) (a : Option Addr) (len cap : Nat) (from_ : Int) (w : World) (hn : ¬ (1 ≤ n ∧ n ≤ 2000)) :
    Calls Try.prog 6 #[.int .i64 n, .slice a len cap, .int .i64 from_] w fun e w' => e = .returned (.bool true) ∧ Below w.heap.size w w' := by
  by_cases h1 : n < 1
  · clear hn
    go_enter Try.func6, Try.ntmps6
    go_wp2_with (go_at_call 8; (with_reducible refine (alive_any _).mono ?_); rintro e w1 ⟨rfl, b1⟩)
    go_ret
    exact ⟨rfl, b1⟩
  · have h2 : 2000 < n := by omega
    clear hn
    go_enter Try.func6, Try.ntmps6
    go_wp2_with (go_at_call 8; (with_reducible refine (alive_any _).mono ?_); rintro e w1 ⟨rfl, b1⟩)
    go_ret
    exact ⟨rfl, b1⟩

theorem back_all (n : Int) (a : Option Addr) (cap : Nat) (S : List OpN) (from_ : Int) (w : World) (hS : OpsIn w a S) (hr : S.length * 16 ≤ 140737488351232) :
    Calls Try.prog 6 #[.int .i64 n, .slice a S.length cap, .int .i64 from_] w fun e w' => e = .returned (.bool true) ∧ Below w.heap.size w w' := by
  by_cases h : 1 ≤ n ∧ n ≤ 2000
  · exact back_walk n a cap S from_ w h.1 h.2 hS hr
  · exact back_much n a S.length cap from_ w h
end Go.Proofs.Ytgpagfgedimjeaa
