/- lex: names, in plain words. -/
import Derived.Test.YtbicanlipgpioaaGreatDoorLxRfA
namespace Go.Proofs.YtbicanlipgpioaaGreatDoor.Lx
open Go.RowKit Go.Proofs.YtbicanlipgpioaaGreatDoor

/-- Is it a name? -/
def isNm : List UInt8 → Bool
  | [] => false
  | c :: r => isLe c && decide (r.length + 1 ≤ 16) && (c :: r).all isWd
theorem nm_c (c : UInt8) (r : List UInt8) : isNm (c :: r) = (isLe c && decide (r.length + 1 ≤ 16) && (c :: r).all isWd) := rfl
theorem nm_iff (c : UInt8) (r : List UInt8) : isNm (c :: r) = true ↔ isLe c = true ∧ r.length + 1 ≤ 16 ∧ (c :: r).all isWd = true := by
  rw [nm_c, Bool.and_eq_true, Bool.and_eq_true, decide_eq_true_eq, and_assoc]
theorem le_first {c : UInt8} (h : isLe c = true) (r : List UInt8) : sk false (c :: r) = c :: r := by
  rw [le_iff] at h
  refine sk_stays (not_of fun hb => ?_) (not_of fun hb => ?_)
  · rw [bl_iff] at hb; omega
  · rw [ha_iff] at hb; omega
theorem all_take {l : List UInt8} (h : l.all isWd = true) : l.takeWhile isWd = l := tw_self fun x hx => List.all_eq_true.1 h x hx
theorem whole_nm {l : List UInt8} (h : isNm l = true) : whole l = ([(⟨1, l, 0⟩, 0)], 0, 0) := by
  cases l with
  | nil => cases h
  | cons c r =>
    obtain ⟨h1, h2, h3⟩ := (nm_iff c r).1 h
    have ht : tok (c :: r) = (0, ⟨1, c :: r, 0⟩) := by
      rw [tok_c, if_pos h1, all_take h3, if_neg (by simp; omega)]
    unfold whole
    rw [if_neg (by simp; omega), LX_tok (le_first h1 r) (by rw [ht]), ht]
    have hd : (c :: r).drop (c :: r).length = [] := List.drop_length
    show ((⟨1, c :: r, 0⟩, _) :: (LX _ ((c :: r).drop (c :: r).length)).1, (LX _ ((c :: r).drop (c :: r).length)).2) = _
    rw [hd, LX_nil (l := []) rfl]
    simp
theorem whole_one_nm {l : List UInt8} {t : Tok} {q : Nat} (h0 : (whole l).2.1 = 0) (hX : (whole l).1 = [(t, q)]) (hk : t.k = 1) (hw : t.w = l) : isNm l = true := by
  by_cases hl : 16384 < l.length
  · have e : whole l = ([], 5, 0) := if_pos hl
    rw [e] at h0; cases h0
  · have e : whole l = LX l.length l := if_neg hl
    rw [e] at h0 hX
    cases hs : sk false l with
    | nil => rw [LX_nil hs] at hX; cases hX
    | cons c r =>
      have hsuf : (c :: r) <:+ l := hs ▸ sk_suffix false l
      by_cases ht0 : (tok (c :: r)).1 = 0
      · rw [LX_tok hs ht0] at hX
        have ht : (tok (c :: r)).2 = t := by
          have := (List.cons.inj hX).1
          exact (Prod.mk.inj this).1
        obtain ⟨hp, hpre⟩ := tok_pos ht0
        rw [ht, hw] at hpre
        have hlen : (c :: r).length = l.length := Nat.le_antisymm hsuf.length_le hpre.length_le
        have hl2 : c :: r = l := hsuf.eq_of_length hlen
        have htw : (tok (c :: r)).2.w = c :: r := by rw [ht, hw, hl2]
        have htk : (tok (c :: r)).2.k = 1 := by rw [ht, hk]
        rw [← hl2, nm_iff]
        rw [tok_c] at htw htk ht0
        by_cases h1 : isLe c = true
        · rw [if_pos h1] at htw htk ht0
          split at ht0
          · simp at ht0
          · rename_i h16
            rw [if_neg h16] at htw
            have htw' : (c :: r).takeWhile isWd = c :: r := htw
            refine ⟨h1, by rw [htw'] at h16; simp at h16; omega, ?_⟩
            rw [← htw']
            exact List.all_eq_true.2 tw_mem
        · exfalso
          rw [if_neg h1] at htk ht0
          by_cases h2 : isDi c = true
          · rw [if_pos h2] at htk ht0
            split at ht0
            · rename_i h3; rw [if_pos h3] at htk; cases htk
            · simp at ht0
          · rw [if_neg h2] at htk ht0
            split at ht0
            · rename_i h3; rw [if_pos h3] at htk; cases htk
            · simp at ht0
      · rw [LX_bad hs ht0] at hX; cases hX
theorem len_take {l : List UInt8} (h : ¬ l.all isWd = true) : (l.takeWhile isWd).length ≠ l.length := fun e => h (by
  have : l.takeWhile isWd = l := (List.takeWhile_prefix isWd).eq_of_length e
  rw [← this]
  exact List.all_eq_true.2 tw_mem)
end Go.Proofs.YtbicanlipgpioaaGreatDoor.Lx
