/- AreaFirst answers true for every number, every script and every number of cells, and turns nothing that there was: the walk. -/
import Derived.Test.YtgpagfgedimjeaaAreaApartW
namespace Go.Proofs.Ytgpagfgedimjeaa
open Go.RowKit

/-- Ahead of the first gap that fits, no k cells from c on are free. -/
theorem cover {n : Nat} {L : List Reg} (k : Int) : ∀ (i : Nat), i ≤ L.length → (∀ j, j < i → ¬ Fits L n k j) → ∀ c : Nat, c < endAt L i →
    ∃ t, t < L.length ∧ ((regAt L t).1 : Int) < (c : Int) + k ∧ (c : Int) < ((regAt L t).1 : Int) + ((regAt L t).2 : Int)
  | 0, _, _, c, hc => by simp [endAt] at hc
  | i + 1, hi, hno, c, hc => by
    by_cases h : c < endAt L i
    · exact cover k i (by omega) (fun j hj => hno j (by omega)) c h
    · have hf := hno i (by omega)
      unfold Fits at hf
      rw [bnd_lt (by omega)] at hf
      rw [endAt_succ] at hc
      exact ⟨i, by omega, by omega, by omega⟩

/-- A region ahead of the j-th covers one of the k cells from c on. -/
def Hit (L : List Reg) (k : Int) (c j : Nat) : Prop := ∃ t, t < j ∧ ((regAt L t).1 : Int) < (c : Int) + k ∧ (c : Int) < ((regAt L t).1 : Int) + ((regAt L t).2 : Int)
theorem Hit.mono {L : List Reg} {k : Int} {c j : Nat} (h : Hit L k c j) : Hit L k c (j + 1) := by
  obtain ⟨t, h1, h2⟩ := h
  exact ⟨t, by omega, h2⟩
theorem hit_step {L : List Reg} {k : Int} {c j : Nat} (h : ¬ Hit L k c j) : Hit L k c (j + 1) ↔ ((regAt L j).1 : Int) < (c : Int) + k ∧ (c : Int) < ((regAt L j).1 : Int) + ((regAt L j).2 : Int) := by
  constructor
  · rintro ⟨t, h1, h2⟩
    by_cases e : t = j
    · rw [e] at h2; exact h2
    · exact absurd ⟨t, by omega, h2⟩ h
  · intro h2; exact ⟨j, by omega, h2⟩


/-- Take, whatever it is asked: where it lies, up to where no room is ahead. -/
theorem take_first {B : Nat} {w : World} {hb : Nat} {a : Option Addr} {cap n : Nat} {L : List Reg} (h : Mine B w hb a cap n L) (k : Nat) (hk : 1 ≤ k) :
    ∃ x E Z : Int, ((E = 0 ∧ Z = x) ∨ (E = 4 ∧ Z = (n : Int) - (k : Int) + 1)) ∧ Z ≤ 65537 ∧ 0 ≤ x ∧ (∀ c : Nat, (c : Int) < Z → Hit L k c L.length) ∧
      Calls Try.prog 13 #[.pointer (some ⟨hb, 0, none⟩), .int .i64 (k : Int)] w fun e w' =>
        e = .returned (.tuple #[.int .i64 x, .int .i64 E]) ∧ Hid (∃ a' cap' L', Mine B w' hb a' cap' n L' ∧ (E = 4 → L'.length = L.length)) ∧ Hid (Only (Own hb a) w w') := by
  have nle := h.at_.nle
  rcases first_fit L n k with ⟨i, hi, hf, hno⟩ | hno
  · have := h.at_.ok.end_le i hi
    refine ⟨(endAt L i : Int), 0, (endAt L i : Int), .inl ⟨rfl, rfl⟩, by omega, by omega, fun c hc => cover k i hi hno c (by omega), ?_⟩
    refine (take_yes h.at_ k hk i hi hf hno).mono ?_
    rintro e w' ⟨a', cap', rfl, h', o, s⟩
    exact ⟨rfl, Lib.hid ⟨a', cap', _, h.next h' s, fun e => by omega⟩, Lib.hid o⟩
  · refine ⟨0, 4, (n : Int) - (k : Int) + 1, .inr ⟨rfl, rfl⟩, by omega, by omega, fun c hc => ?_, ?_⟩
    · have hf := hno L.length (Nat.le_refl _)
      unfold Fits at hf
      rw [bnd_end] at hf
      exact cover k L.length (Nat.le_refl _) (fun j hj => hno j (by omega)) c (by omega)
    · refine (take_full h.at_ k (by omega) hno).mono ?_
      rintro e w' ⟨rfl, o⟩
      exact ⟨rfl, Lib.hid ⟨a, cap, L, h.none o, fun _ => rfl⟩, Lib.hid (o.nilTo _)⟩

set_option maxRecDepth 100000 in
set_option maxHeartbeats 4000000 in
theorem first_walk (n : Int) (a : Option Addr) (cap : Nat) (S : List OpN) (k : Nat) (w : World) (hn : n ≤ 500) (hk1 : 1 ≤ k) (hk2 : k ≤ 500) (hS : OpsIn w a S) (hr : S.length * 16 ≤ 140737488351232) :
    Calls Try.prog 5 #[.int .i64 n, .slice a S.length cap, .int .i64 (k : Int)] w fun e w' => e = .returned (.bool true) ∧ Below w.heap.size w w' := by
  have pl := Lib.hid (fun w1 (b : Below w.heap.size w w1) => play_any n a cap S w1 (hS.later b) hr)
  have cn := Lib.hid (fun w => count_any n w)
  have hk1' : ¬ (k : Int) < 1 := by omega
  have hk2' : ¬ 500 < (k : Int) := by omega
  have hk3 : (k : Int) ≤ 500 := by omega
  clear hS
  generalize S.length = len0 at hr pl ⊢
  go_enter Try.func5, Try.ntmps5
  go_wp2_with (first
    | (go_at_call 8; (with_reducible refine (alive_any _).mono ?_); rintro e w1 ⟨rfl, b1⟩)
    | (go_at_call 20; (with_reducible refine (pl.out _ b1).mono ?_); rintro e w2 ⟨rfl, h2, b2⟩; obtain ⟨a2, c2, L, m2⟩ := h2.out; clear h2)
    | (go_at_call 21; (with_reducible refine (regions_any m2.at_).mono ?_); rintro e w3 ⟨rfl, hl, o3⟩))
  have m3 := m2.none o3
  have s1 := b1.size
  have b3 := Lib.hid ((b1.trans (b2.mono s1)).trans ((m2.under (o3.nilTo _)).mono s1))
  have rg := Lib.hid (regs_block hl)
  have own3 := Lib.hid m2.at_.own_lt
  have rle := Lib.hid m2.at_.ok.reg_le
  have lle := m2.at_.len
  have nle := m2.at_.nle
  have und := Lib.hid (fun (w : World) (o : Only (Own w1.heap.size a2) w3 w) => m3.under o)
  obtain ⟨x, E, Z, hE, hZ, hx0, hP, hT⟩ := take_first m3 k hk1
  have hT' := Lib.hid hT
  have hP' := Lib.hid hP
  clear m2 b2 hl o3 pl m3 hT hP
  generalize w2.heap.size = lb at *
  generalize w1.heap.size = hb at *
  generalize hc : count n = c at *
  clear hc
  generalize hlen : L.length = len at *
  have hlen' := Lib.hid hlen
  clear hlen
  have lle' : (len : Int) ≤ 65536 := by omega
  have nle' : (c : Int) ≤ 65536 := by omega
  have hE' := Lib.hid hE
  clear hE
  have hE2 : E = 0 ∨ E = 4 := by
    rcases hE'.out with ⟨h, _⟩ | ⟨h, _⟩
    · exact .inl h
    · exact .inr h
  rcases hE2 with rfl | rfl
  all_goals
    have hZ2 := hE'.out
    simp only [show ((0 : Int) = 4) = False from by simp, show ((4 : Int) = 0) = False from by simp, false_and, or_false, false_or, true_and] at hZ2
    have hZ3 := Lib.hid hZ2
    clear hE' hZ2
    go_wp2_with (first
      | (go_at_call 13; (with_reducible refine (hT'.out).mono ?_); rintro e w4 ⟨rfl, h4, o4⟩)
      | (go_at_call 22; (with_reducible refine (cn.out _).mono ?_); rintro e w5 ⟨rfl, rfl⟩))
    rw [← hZ3.out]
    have b4 := Lib.hid (b3.out.trans ((und.out _ o4.out).mono s1))
    have rg4 := Lib.hid (rg.out.keep o4.out (fun q b e h => by
      have := own3.out q h
      simp only [Option.some.injEq] at e
      rw [← e]; show q ≠ lb; omega))
    clear hT' und own3 rg b3 o4 b1 hx0
    go_loopw [12] (fun s12 wr => ∃ (i : Nat), s12 = .int .i64 (i : Int) ∧ (i = 0 ∨ (i : Int) ≤ Z) ∧ Hid (Only Nil w4 wr))
      (fun s12 _ => Z.toNat - (intOf s12).toNat)
    case atStart => exact ⟨0, rfl, .inl rfl, Lib.hid (Only.refl _ _)⟩
    case round =>
      obtain ⟨i, rfl, hi, ho⟩ := hrel
      by_cases hlt : (i : Int) < Z
      · have hPi := Lib.hid (hP'.out i hlt)
        generalize wr = wo at *
        go_wp2
        go_loopw [13, 14] (fun s13 s14 wr => ∃ (j : Nat) (hv : Bool), j ≤ len ∧ s14 = .int .i64 (j : Int) ∧ s13 = .bool hv ∧ Hid (hv = true ↔ Hit L (k : Int) i j) ∧ Hid (Only Nil w4 wr))
          (fun _ s14 _ => len - (intOf s14).toNat)
        case atStart => exact ⟨0, false, Nat.zero_le _, rfl, rfl, Lib.hid ⟨fun h => by simp at h, fun ⟨t, h, _⟩ => by omega⟩, ho⟩
        case round =>
          obtain ⟨j, hv, hj, rfl, rfl, hh, ho2⟩ := hrel
          by_cases hjl : j < len
          · obtain ⟨g, hg0, hg1, hg2⟩ := (rg4.out.keep ho2.out (fun _ _ _ h => h.elim)) j (by rw [hlen'.out]; exact hjl)
            simp only [Option.some.injEq, Addr.mk.injEq, and_true] at hg0
            subst hg0
            obtain ⟨x0, x1⟩ := hg2 j (by rw [hlen'.out]; exact hjl)
            have rl1 := rle.out j hjl
            cases hv
            · have hs := Lib.hid (hit_step (fun h => by have := hh.out.2 h; simp at this : ¬ Hit L (k : Int) i j))
              clear hg2 hg1
              generalize regAt L j = r at x0 x1 hs rl1
              obtain ⟨rb', rl⟩ := r
              simp only at x0 x1 rl1
              by_cases hA : (rb' : Int) < (i : Int) + (k : Int)
              · have dA : decide ((rb' : Int) < (i : Int) + (k : Int)) = true := decide_eq_true hA
                have hA' := Lib.hid hA
                clear hA
                go_wp2
                go_quiet (fail)
                go_wp2
                go_roundw
                case rel => exact ⟨j + 1, decide ((i : Int) < (rb' : Int) + (rl : Int)), by omega, by go_num, by simp, Lib.hid (by rw [hs.out]; simp [hA'.out]), Lib.hid (ho2.out.drewN _)⟩
                case measure => simp [intOf]; omega
              · have dA : decide ((rb' : Int) < (i : Int) + (k : Int)) = false := decide_eq_false hA
                have hA' := Lib.hid hA
                clear hA
                go_wp2
                go_quiet (fail)
                go_wp2
                go_roundw
                case rel => exact ⟨j + 1, false, by omega, by go_num, by simp, Lib.hid (by rw [hs.out]; simp; intro h; have := hA'.out; omega), Lib.hid (ho2.out.drewN _)⟩
                case measure => simp [intOf]; omega
            · clear hg2 hg1 x0 x1
              go_wp2
              go_quiet (fail)
              go_wp2
              go_roundw
              case rel => exact ⟨j + 1, true, by omega, by go_num, by simp, Lib.hid ⟨fun _ => (hh.out.1 (by first | rfl | trivial)).mono, fun _ => rfl⟩, Lib.hid (ho2.out.drewN _)⟩
              case measure => simp [intOf]; omega
          · obtain rfl : j = len := by omega
            have hk0 : ¬ (j : Int) < (j : Int) := by omega
            obtain rfl : hv = true := hh.out.2 hPi.out
            go_wp2
            go_roundw
            case rel => exact ⟨i + 1, by go_num, .inr (by omega), ho2⟩
            case measure => simp [intOf]; omega
      · obtain ⟨a5, c5, L5, m5, hl5⟩ := h4.out
        have m6 := Lib.hid (m5.none ho.out)
        have hl5' := Lib.hid hl5
        have b6 := Lib.hid (b4.out.trans ((m5.under (ho.out.nilTo _)).mono s1))
        clear m5 hl5 h4
        go_wp2_with (go_at_call 21; (with_reducible refine (regions_any m6.out.at_).mono ?_); rintro e w7 ⟨rfl, hl7, o7⟩; have b7 := m6.out.under (o7.nilTo _); have e7 : L5.length = len := (by first | exact hl5'.out rfl | exact hl5'.out | exact hl5'.out trivial); clear hl7 o7)
        go_ret
        first
          | exact ⟨rfl, b6.out⟩
          | exact ⟨rfl, b6.out.trans (b7.mono s1)⟩

theorem first_much (n : Int) (a : Option Addr) (len cap : Nat) (k : Int) (w : World) (hn : ¬ (n ≤ 500 ∧ 1 ≤ k ∧ k ≤ 500)) :
    Calls Try.prog 5 #[.int .i64 n, .slice a len cap, .int .i64 k] w fun e w' => e = .returned (.bool true) ∧ Below w.heap.size w w' := by
  by_cases h1 : 500 < n
  · clear hn
    go_enter Try.func5, Try.ntmps5
    go_wp2_with (go_at_call 8; (with_reducible refine (alive_any _).mono ?_); rintro e w1 ⟨rfl, b1⟩)
    go_ret
    exact ⟨rfl, b1⟩
  by_cases h2 : k < 1
  · clear hn
    go_enter Try.func5, Try.ntmps5
    go_wp2_with (go_at_call 8; (with_reducible refine (alive_any _).mono ?_); rintro e w1 ⟨rfl, b1⟩)
    go_ret
    exact ⟨rfl, b1⟩
  · have h3 : 500 < k := by omega
    clear hn
    go_enter Try.func5, Try.ntmps5
    go_wp2_with (go_at_call 8; (with_reducible refine (alive_any _).mono ?_); rintro e w1 ⟨rfl, b1⟩)
    go_ret
    exact ⟨rfl, b1⟩

theorem first_all (n : Int) (a : Option Addr) (cap : Nat) (S : List OpN) (k : Int) (w : World) (hS : OpsIn w a S) (hr : S.length * 16 ≤ 140737488351232) :
    Calls Try.prog 5 #[.int .i64 n, .slice a S.length cap, .int .i64 k] w fun e w' => e = .returned (.bool true) ∧ Below w.heap.size w w' := by
  by_cases h : n ≤ 500 ∧ 1 ≤ k ∧ k ≤ 500
  · obtain ⟨q, rfl⟩ : ∃ q : Nat, k = (q : Int) := ⟨k.toNat, by omega⟩
    exact first_walk n a cap S q w h.1 (by omega) (by omega) hS hr
  · exact first_much n a S.length cap k w h
end Go.Proofs.Ytgpagfgedimjeaa
