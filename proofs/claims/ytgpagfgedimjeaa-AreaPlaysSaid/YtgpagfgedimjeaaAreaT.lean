/- The document's own area: Free, Regions. -/
import Derived.Test.YtgpagfgedimjeaaAreaS
namespace Go.Proofs.Ytgpagfgedimjeaa
open Go.RowKit

/-- How many are below 0. -/
def negs (O : List Int) : Nat := (O.filter fun x => decide (x < 0)).length
theorem negs_succ (O : List Int) (i : Nat) (hi : i < O.length) : negs (O.take (i + 1)) = negs (O.take i) + if O.getD i 0 < 0 then 1 else 0 := by
  have e : O[i]? = some (O.getD i 0) := by simp [hi]
  simp only [negs, List.take_add_one, e, List.filter_append, List.length_append, Option.toList_some]
  generalize O.getD i 0 = x
  by_cases h : x < 0 <;> simp [h]
theorem negs_le (O : List Int) : negs O ≤ O.length := List.length_filter_le _ _

section
variable {n : Nat} {L : List Reg}
theorem seg_neg (m : Nat) : ∀ g : Nat, m + g ≤ n → (∀ c, m ≤ c → c < m + g → own L c < 0) → negs ((cellsOf L n).take (m + g)) = negs ((cellsOf L n).take m) + g
  | 0, _, _ => rfl
  | g + 1, h, hc => by
    have ih := seg_neg m g (by omega) (fun c h1 h2 => hc c h1 (by omega))
    rw [show m + (g + 1) = (m + g) + 1 by omega, negs_succ _ _ (by rw [length_cellsOf]; omega), ih, getD_cellsOf _ _ _ (by omega), if_pos (hc _ (by omega) (by omega))]
    omega
theorem seg_pos (m : Nat) : ∀ g : Nat, m + g ≤ n → (∀ c, m ≤ c → c < m + g → ¬ own L c < 0) → negs ((cellsOf L n).take (m + g)) = negs ((cellsOf L n).take m)
  | 0, _, _ => rfl
  | g + 1, h, hc => by
    have ih := seg_pos m g (by omega) (fun c h1 h2 => hc c h1 (by omega))
    rw [show m + (g + 1) = (m + g) + 1 by omega, negs_succ _ _ (by rw [length_cellsOf]; omega), ih, getD_cellsOf _ _ _ (by omega), if_neg (hc _ (by omega) (by omega))]
    omega
/-- Between the regions all is free. -/
theorem Ok.gap {n : Nat} {L : List Reg} (ok : Ok n L) (i c : Nat) (hi : i ≤ L.length) (h1 : endAt L i ≤ c) (h2 : i < L.length → c < (regAt L i).1) : own L c = -1 := by
  refine own_out c fun t ht h => ?_
  unfold InR at h
  by_cases g : t < i
  · have := ok.le i (t + 1) g hi
    rw [endAt_succ] at this
    omega
  · have := h2 (by omega)
    by_cases e : t = i
    · rw [e] at h; omega
    · have := ok.lt i t (by omega) ht; omega
theorem Ok.negs_end {n : Nat} {L : List Reg} (ok : Ok n L) : ∀ i, i ≤ L.length → negs ((cellsOf L n).take (endAt L i)) + total (L.take i) = endAt L i
  | 0, _ => by simp [endAt, negs, total]
  | i + 1, hi => by
    have ih := ok.negs_end i (by omega)
    have o := ok.ord i (by omega)
    have r := ok.reg_le i (by omega)
    have s1 := seg_neg (L := L) (n := n) (endAt L i) ((regAt L i).1 - endAt L i) (by omega) (fun c h1 h2 => by
      rw [ok.gap i c (by omega) h1 (fun _ => by omega)]; decide)
    have s2 := seg_pos (L := L) (n := n) (regAt L i).1 (regAt L i).2 (by omega) (fun c h1 h2 => by
      rw [ok.own_in i c (by omega) ⟨h1, h2⟩]; omega)
    rw [show endAt L i + ((regAt L i).1 - endAt L i) = (regAt L i).1 by omega] at s1
    rw [endAt_succ, s2, s1, total_take_succ _ _ (by omega)]
    omega
theorem Ok.negs_all {n : Nat} {L : List Reg} (ok : Ok n L) : (negs (cellsOf L n) : Int) = (n : Int) - (total L : Int) := by
  have h := ok.negs_end L.length (Nat.le_refl _)
  have f := ok.fin
  have s := seg_neg (L := L) (n := n) (endAt L L.length) (n - endAt L L.length) (by omega) (fun c h1 h2 => by
    rw [ok.gap L.length c (Nat.le_refl _) h1 (fun hh => by omega)]; decide)
  rw [show endAt L L.length + (n - endAt L L.length) = n by omega] at s
  rw [List.take_of_length_le (by rw [length_cellsOf]; exact Nat.le_refl _)] at s
  rw [List.take_length] at h
  omega
end

set_option maxHeartbeats 1000000 in
theorem rfree_any {w : World} {qb : Nat} {a : Option Addr} {cap : Nat} {O : List Int} (h : RefAt w qb a cap O) (hO : O.length ≤ 65536) :
    Calls Try.prog 16 #[.pointer (some ⟨qb, 0, none⟩)] w fun e w' => e = .returned (.int .i64 (negs O : Int)) ∧ w = w' := by
  have c0 := h.c0
  have ii := Lib.hid h.ints
  have ns := Lib.hid (negs_succ O)
  have nl := Lib.hid (fun i => Nat.le_trans (negs_le (O.take i)) (by simp; omega : (O.take i).length ≤ i))
  have nf := Lib.hid (show negs (O.take O.length) = negs O by rw [List.take_length])
  clear h
  generalize hlen : O.length = len at *
  have hlen' := Lib.hid hlen
  clear hlen
  have l1 : (len : Int) ≤ 65536 := by omega
  go_enter Try.func16, Try.ntmps16
  go_wp2
  go_loopw [3, 4] (fun s3 s4 wr => ∃ (i : Nat), i ≤ len ∧ s4 = .int .i64 (i : Int) ∧ s3 = .int .i64 (negs (O.take i) : Int) ∧ w = wr)
    (fun _ s4 _ => len - (intOf s4).toNat)
  case atStart => exact ⟨0, Nat.zero_le _, rfl, rfl, rfl⟩
  case round =>
    obtain ⟨i, hi, rfl, rfl, rfl⟩ := hrel
    by_cases hlt : i < len
    · obtain ⟨g, rfl, hg1, hg2⟩ := ii.out i (by rw [hlen'.out]; exact hlt)
      have x0 := hg2 i (by rw [hlen'.out]; exact hlt)
      have n1 := Lib.hid (ns.out i hlt)
      have n2 := nl.out i
      clear hg2
      generalize O.getD i 0 = x at x0 n1
      generalize negs (O.take i) = T at n1 n2 ⊢
      have hi' : (T : Int) ≤ 65536 := by omega
      by_cases hx : x < 0
      · have n3 := Lib.hid (n1.out)
        rw [if_pos hx] at n3
        go_wp2
        go_roundw
        case rel => exact ⟨i + 1, by omega, by go_num, by rw [n3.out]; go_num, by first | rfl | trivial⟩
        case measure => simp [intOf]; omega
      · have n3 := Lib.hid (n1.out)
        rw [if_neg hx] at n3
        go_wp2
        go_roundw
        case rel => exact ⟨i + 1, by omega, by go_num, by rw [n3.out]; rfl, by first | rfl | trivial⟩
        case measure => simp [intOf]; omega
    · obtain rfl : i = len := by omega
      have hk0 : ¬ (i : Int) < (i : Int) := by omega
      rw [nf.out]
      go_wp2
      go_ret
      exact ⟨rfl, rfl⟩
end Go.Proofs.Ytgpagfgedimjeaa
