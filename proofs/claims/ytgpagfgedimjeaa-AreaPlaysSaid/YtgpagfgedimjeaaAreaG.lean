/- slices.Insert at regions, ahead of one: with room, and without. -/
import Derived.Test.YtgpagfgedimjeaaAreaF
namespace Go.Proofs.Ytgpagfgedimjeaa
open Go.RowKit

theorem splice_get {α : Type} (L : List α) (o : Nat) (cs : List α) (h : o + cs.length ≤ L.length) (j : Nat) :
    (splice L o cs)[j]? = if j < o then L[j]? else if j < o + cs.length then cs[j - o]? else L[j]? := by
  simp only [splice]
  by_cases h1 : j < o
  · rw [if_pos h1, List.getElem?_append_left (by simp; omega), List.getElem?_take, if_pos h1]
  · rw [if_neg h1, List.getElem?_append_right (by simp; omega)]
    have e : j - (L.take o).length = j - o := by simp; omega
    rw [e]
    by_cases h2 : j < o + cs.length
    · rw [if_pos h2, List.getElem?_append_left (by omega)]
    · rw [if_neg h2, List.getElem?_append_right (by omega), List.getElem?_drop]
      congr 1
      omega

/-- What stands behind the two copies of an insertion: the tail first, then the pair. -/
theorem ins_row (A V D Z : List Value) (p q : Nat) (hZ : p + 2 + q ≤ Z.length) (hA : Z.take p = A) (hV : V.length = 2) (hq : D.length = q) :
    (splice (splice Z (p + 2) D) p V).take (p + 2 + q) = A ++ (V ++ D) := by
  have hl : (splice Z (p + 2) D).length = Z.length := length_splice _ _ _ (by omega)
  have hAl : A.length = p := by rw [← hA]; simp; omega
  apply List.ext_getElem?
  intro j
  rw [List.getElem?_take, splice_get _ _ _ (by rw [hl]; omega), splice_get _ _ _ (by omega), hV, hq]
  by_cases c1 : j < p
  · rw [if_pos (by omega), if_pos c1, if_pos (by omega), List.getElem?_append_left (by omega), ← hA, List.getElem?_take, if_pos c1]
  · rw [List.getElem?_append_right (by omega), hAl]
    by_cases c2 : j < p + 2
    · rw [if_pos (by omega), if_neg c1, if_pos c2, List.getElem?_append_left (by omega)]
    · rw [List.getElem?_append_right (by omega), hV]
      by_cases c3 : j < p + 2 + q
      · rw [if_pos c3, if_neg c1, if_neg c2, if_neg c2, if_pos c3]
        congr 1
      · rw [if_neg c3, List.getElem?_eq_none (by omega)]

/-- .. and the pair first, then the tail. -/
theorem ins_row' (A V D Z : List Value) (p q : Nat) (hZ : p + 2 + q ≤ Z.length) (hA : Z.take p = A) (hV : V.length = 2) (hq : D.length = q) :
    (splice (splice Z p V) (p + 2) D).take (p + 2 + q) = A ++ (V ++ D) := by
  have hl : (splice Z p V).length = Z.length := length_splice _ _ _ (by omega)
  have hAl : A.length = p := by rw [← hA]; simp; omega
  apply List.ext_getElem?
  intro j
  rw [List.getElem?_take, splice_get _ _ _ (by rw [hl]; omega), splice_get _ _ _ (by omega), hV, hq]
  by_cases c1 : j < p
  · rw [if_pos (by omega), if_pos (by omega), if_pos c1, List.getElem?_append_left (by omega), ← hA, List.getElem?_take, if_pos c1]
  · rw [List.getElem?_append_right (by omega), hAl]
    by_cases c2 : j < p + 2
    · rw [if_pos (by omega), if_pos c2, if_neg c1, if_pos c2, List.getElem?_append_left (by omega)]
    · rw [List.getElem?_append_right (by omega), hV]
      by_cases c3 : j < p + 2 + q
      · rw [if_pos c3, if_neg c2, if_pos c3]
        congr 1
      · rw [if_neg c3, List.getElem?_eq_none (by omega)]

theorem regs_ins (L : List Reg) (i b k : Nat) : regs (ins L i (b, k)) = regs (L.take i) ++ ([.int .i64 (b : Int), .int .i64 (k : Int)] ++ regs (L.drop i)) := by
  simp [ins, regs_append, regs_cons]

theorem Try.overlaps_no (w : World) (g vb : Nat) (hne : vb ≠ g) (cur : Array Value) (b k : Int) (hv : w.heap[vb]? = some (.cells #[.int .i64 b, .int .i64 k] 47 (0, 0)))
    (hg : w.heap[g]? = some (.cells cur 47 (0, 0))) (hc : cur.size ≠ 0) (o lb cb : Nat) :
    (callFunc 34 #[.slice (some ⟨vb, 0, none⟩) 1 1, .slice (some ⟨g, o, none⟩) lb cb]).run Try.prog w = .ok (.value (.bool false)) w := by
  rw [run_callFunc_extern Try.func34 (by kernel_rfl) (by kernel_rfl) (by kernel_rfl) (e := Extern.SlicesOverlaps.overlaps #[44, 44] #[4]) (by kernel_rfl),
    Lib.run_overlaps_apart w 44 4 47 Try.underlying44 2 Try.sizeOf47 ⟨vb, 0, none⟩ ⟨g, o, none⟩ 1 1 lb cb hne 47 47 2 cur.size (by simp [World.shape?, hv]) (by simp [World.shape?, hg]) hc (by simp [World.frozen?, hv]) (by simp [World.frozen?, hv])]
  rfl

set_option maxHeartbeats 1000000 in
set_option maxRecDepth 100000 in
theorem insert_room {w : World} {g cap : Nat} {L : List Reg} (hown : w.ownsRow 0 47 2 (.slice (some ⟨g, 0, none⟩) L.length cap) L.length (regs L)) (vb b k : Nat)
    (hv : w.heap[vb]? = some (.cells #[.int .i64 (b : Int), .int .i64 (k : Int)] 47 (0, 0))) (hne : vb ≠ g) (lle : L.length ≤ 65536) (i : Nat) (hi : i < L.length) (hroom : L.length + 1 ≤ cap) :
    Calls Try.prog 29 #[.slice (some ⟨g, 0, none⟩) L.length cap, .int .i64 (i : Int), .slice (some ⟨vb, 0, none⟩) 1 1] w fun e w' =>
      e = .returned (.slice (some ⟨g, 0, none⟩) (L.length + 1) cap) ∧ w'.ownsRow 0 47 2 (.slice (some ⟨g, 0, none⟩) (L.length + 1) cap) (L.length + 1) (regs (ins L i (b, k))) ∧ Only (fun q => q = g) w w' := by
  obtain ⟨cur, hg, hmax, hcs, htake⟩ : ∃ cur : List Value, w.heap[g]? = some (.cells cur.toArray 47 (0, 0)) ∧ cap ≤ maxLen ∧ cur.length = cap * 2 ∧ cur.take (L.length * 2) = regs L := by
    rcases hown.2 with ⟨e, e2⟩ | ⟨g', c, cur, e, _, hg, hc, hm, hs, ht⟩
    · simp at e
    · simp only [Value.slice.injEq, Option.some.injEq, Addr.mk.injEq, and_true, true_and] at e
      obtain ⟨rfl, rfl⟩ := e
      exact ⟨cur.toList, by simpa using hg, hm, by simpa using hs, ht⟩
  have hov := Try.overlaps_no w g vb hne cur.toArray b k hv hg (by rw [List.size_toArray]; omega)
  have hD : ∀ j v, (regs (L.drop i))[j]? = some v → w.cell? ⟨g, i * 2 + j, none⟩ = some v := by
    intro j v hj
    rw [← regs_drop, List.getElem?_drop] at hj
    have hlt := (List.getElem?_eq_some_iff.1 hj).1
    rw [regs_length] at hlt
    rw [hown.cellAt _ hlt]; exact hj
  have hfinal : ∀ R : List Value, R = splice (splice cur (i * 2 + 2) (regs (L.drop i))) (i * 2) [.int .i64 (b : Int), .int .i64 (k : Int)] → R.length = cap * 2 ∧ R.take ((L.length + 1) * 2) = regs (ins L i (b, k)) := by
    rintro R rfl
    have hdl : (regs (L.drop i)).length = (L.length - i) * 2 := by rw [regs_length]; simp
    constructor
    · rw [length_splice _ _ _ (by rw [length_splice _ _ _ (by omega)]; simp; omega), length_splice _ _ _ (by omega), hcs]
    · rw [regs_ins, show (L.length + 1) * 2 = i * 2 + 2 + (L.length - i) * 2 by omega]
      refine ins_row _ _ _ _ _ _ (by omega) ?_ rfl hdl
      rw [← regs_take, ← htake, List.take_take, Nat.min_eq_left (by omega)]
  have fin := Lib.hid (And.intro hmax hfinal)
  have hg' := Lib.hid hg
  have hv' := Lib.hid hv
  have hD' := Lib.hid hD
  have hcs' := Lib.hid hcs
  have hil := Lib.hid (length_ins L i (b, k))
  have hdl : (regs (L.drop i)).length = (L.length - i) * 2 := by rw [regs_length]; simp
  have hdl' := Lib.hid hdl
  have h1D := Lib.hid (regs_one (L.drop i))
  clear hown hg hv hD hfinal hmax htake hcs hdl
  obtain ⟨D, hDe⟩ : ∃ D, D = regs (L.drop i) := ⟨_, rfl⟩
  obtain ⟨R', hR'⟩ : ∃ R', R' = regs (ins L i (b, k)) := ⟨_, rfl⟩
  rw [← hDe] at fin hD' hdl' h1D
  rw [← hR'] at fin ⊢
  have hRl : R'.length = (L.length + 1) * 2 := by rw [hR', regs_length, length_ins]
  have hRl' := Lib.hid hRl
  clear hDe hR' hRl hil
  generalize L.length = n at *
  have lle' : (n : Int) ≤ 65536 := by omega
  have hi' : (i : Int) < (n : Int) := by omega
  have hz2 : ¬ ((i : Int) = (n : Int)) := by omega
  have hb2 : ¬ (cap = i + 1) := by omega
  have hb4 : ¬ (cap = i) := by omega
  have htn : ((i : Int) + 1).toNat = i + 1 := by omega
  have hw1 : IntKind.i64.wrap ((i : Int) + 1) = (i : Int) + 1 := by rw [IntKind.wrap_i64]; omega
  have hb1 : (0 : Int) ≤ (i : Int) + 1 := by omega
  have hb3 : (i : Int) ≤ (n : Int) := by omega
  have hb5 : i ≤ n := by omega
  have hb6 : (i : Int) ≤ (n : Int) + 1 := by omega
  have hcap63 : (cap : Int) ≤ 9223372036854775807 := by have := fin.out.1; unfold maxLen at this; omega
  have hroom' : ¬ (cap : Int) < (n : Int) + 1 := by omega
  have hu := Try.underlying44
  go_enter Try.func29, Try.ntmps29
  go_wp2_with (simp only [hov])
  go_region_law (refine step_copy2 rfl (.tmp 73) (.tmp 76) 44 44 rfl 47 hu Try.sizeReg (some ⟨g, (i + 1) * 2, none⟩) (some ⟨g, i * 2, none⟩) (n + 1 - (i + 1)) (cap - (i + 1)) (n + 1 - i) (cap - i) (by simp [Act.eval, Act.put]) (by simp [Act.eval, Act.put]) g (i * 2 + 2) cur 47 hg'.out (n - i) (by simp only [Nat.min_def]; split <;> omega) D hdl'.out (fun _ => ⟨by rw [show (i + 1) * 2 = i * 2 + 2 by omega], _, rfl, fun j v hj => by rw [add_lit0]; exact hD'.out j v hj⟩) (by rw [hdl'.out, hcs'.out]; omega) h1D.out ?_; intro w4 hg4 ho4)
  have hv4 := Lib.hid ((ho4.out.block vb (lt_of_block hv'.out) hne).trans hv'.out)
  go_wp2_with (refine wpList_copy2 rfl (.tmp 80) (.tmp 81) 44 44 rfl 47 hu Try.sizeReg _ _ _ _ _ _ rfl rfl g (i * 2) (splice cur (i * 2 + 2) D) 47 ?hg 1 ?hm [.int .i64 (b : Int), .int .i64 (k : Int)] rfl (fun _ => ⟨rfl, _, rfl, src_pair hv4.out⟩) ?hfit ?h1 ?_)
  case hg => exact hg4.out
  case hm => simp only [Nat.min_def]; split <;> omega
  case hfit => rw [length_splice _ _ _ (by rw [hdl'.out, hcs'.out]; omega), hcs'.out]; simp; omega
  case h1 => intro u hu; simp at hu; rcases hu with rfl | rfl <;> rfl
  intro w5 hg5 ho5
  go_wp2
  go_ret
  obtain ⟨hm, hf⟩ := fin.out
  obtain ⟨f1, f2⟩ := hf _ rfl
  refine ⟨rfl, ⟨hRl'.out, .inr ⟨g, cap, _, rfl, Nat.zero_le _, hg5.out, hroom, hm, by simpa using f1, by simpa using f2⟩⟩, ?_⟩
  exact ((Only.refl (fun q => q = g) w).drew.trans ho4.out).trans ho5.out
end Go.Proofs.Ytgpagfgedimjeaa
