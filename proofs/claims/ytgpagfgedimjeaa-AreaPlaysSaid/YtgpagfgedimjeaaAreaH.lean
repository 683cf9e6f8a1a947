/- slices.Insert at regions, ahead of one, without room: a new row; and the three roads in one. -/
import Derived.Test.YtgpagfgedimjeaaAreaG
namespace Go.Proofs.Ytgpagfgedimjeaa
open Go.RowKit

theorem firstCells_regs {P : Program} {w : World} {g n cap : Nat} {L : List Reg} (hown : w.ownsRow 0 47 2 (.slice (some ⟨g, 0, none⟩) L.length cap) L.length (regs L)) (i : Nat) (hi : i ≤ L.length) :
    (Builtin.firstCells 2 i (.slice (some ⟨g, 0, none⟩) i n)).run P w.drew = .ok (regs (L.take i)).toArray w.drew :=
  run_firstCells_some w.drew 2 i ⟨g, 0, none⟩ i n (regs (L.take i)) (by rw [regs_length]; simp; omega) (fun j v hj => by
    rw [add_lit0, Nat.zero_add]
    have hlt := (List.getElem?_eq_some_iff.1 hj).1
    rw [regs_length] at hlt
    simp at hlt
    rw [← regs_take, List.getElem?_take, if_pos (by omega)] at hj
    show w.cell? _ = _
    rw [hown.cellAt _ (by omega)]; exact hj)

/-- The new row of an insertion without room: what stood ahead, then zeros. -/
theorem grow_row {w : World} {g : Nat} {L : List Reg} (hown : w.ownsRow 0 47 2 (.slice (some ⟨g, 0, none⟩) L.length L.length) L.length (regs L)) (lle : L.length ≤ 65536) (i : Nat) (hi : i < L.length) :
    ∃ (G : Nat) (Z : List Value) (W : World), (∀ ty, (Builtin.append_ #[44, 3] ty #[.slice (some ⟨g, 0, none⟩) i L.length, .int .i64 ((L.length : Int) + 1 - (i : Int))]).run Try.prog w = .ok (.slice (some ⟨w.heap.size, 0, none⟩) (L.length + 1) G) W) ∧
      W.heap[w.heap.size]? = some (.cells Z.toArray 47 (0, 0)) ∧ Only Nil w W ∧ L.length + 1 ≤ G ∧ G ≤ maxLen ∧ Z.length = G * 2 ∧ Z.take (i * 2) = regs (L.take i) := by
  obtain ⟨i0, hi0, hz0, hz1, hz2⟩ := info_parts Try.infoReg
  have hold : (Builtin.firstCells i0.size i (.slice (some ⟨g, 0, none⟩) i L.length)).run Try.prog w.drew = .ok (regs (L.take i)).toArray w.drew := by rw [hz1]; exact firstCells_regs hown i (by omega)
  have hik : i + (L.length + 1 - i) = L.length + 1 := by omega
  have hrz : ∀ ty, _ := fun ty => Lib.run_append_grow_zeros (P := Try.prog) w 44 3 ty 47 i0 _ .i64 .i64 Try.underlying44 Try.underlying3 hi0 hz0 (some ⟨g, 0, none⟩) i L.length (regs (L.take i)) hold (L.length + 1 - i) (by omega) (by omega) (by omega) (by omega) (by rw [hz2]; omega) (by rw [hz2, hik]; exact growslice_fits (by omega) (by omega))
  rw [hik] at hrz
  have hG := grownCap_ge w (L.length + 1) L.length 47
  have hM : grownCap w (L.length + 1) L.length 47 ≤ maxLen := grownCap_le_maxLen w _ _ _ (by unfold maxLen; omega)
  generalize grownCap w (L.length + 1) L.length 47 = G at hrz hG hM
  have e2 : (regs (L.take i)).length = i * 2 := by rw [regs_length]; simp; omega
  have e : ∀ q, (Builtin.zeroCells (Value.agg #[.int .i64 0, .int .i64 0]).cells q).size = q * 2 := fun q => size_zeroCells _ _
  obtain ⟨Y, hY⟩ : ∃ Y : Array Value, Y = (regs (L.take i)).toArray ++ Builtin.zeroCells (Value.agg #[.int .i64 0, .int .i64 0]).cells (L.length + 1 - i) ++ Builtin.zeroCells (Value.agg #[.int .i64 0, .int .i64 0]).cells (G - (L.length + 1)) := ⟨_, rfl⟩
  rw [← hY] at hrz
  refine ⟨G, Y.toList, w.drew.alloc (.cells Y 47), fun ty => ?_, ?_, (Only.refl Nil w).drew.alloc _, hG, hM, ?_, ?_⟩
  · have := hrz ty
    rw [show (L.length : Int) + 1 - (i : Int) = ((L.length + 1 - i : Nat) : Int) by omega]
    exact this
  · simp only [Array.toArray_toList]; exact heap_new w.drew _
  · simp only [hY, Array.length_toList, Array.size_append, List.size_toArray, e, e2]
    omega
  · simp only [hY, Array.toList_append, List.append_assoc]
    rw [List.take_append_of_le_length (by omega), List.take_of_length_le (by omega)]

set_option maxHeartbeats 1000000 in
set_option maxRecDepth 100000 in
theorem insert_grow {w : World} {g : Nat} {L : List Reg} (hown : w.ownsRow 0 47 2 (.slice (some ⟨g, 0, none⟩) L.length L.length) L.length (regs L)) (vb b k : Nat)
    (hv : w.heap[vb]? = some (.cells #[.int .i64 (b : Int), .int .i64 (k : Int)] 47 (0, 0))) (lle : L.length ≤ 65536) (i : Nat) (hi : i < L.length) :
    Calls Try.prog 29 #[.slice (some ⟨g, 0, none⟩) L.length L.length, .int .i64 (i : Int), .slice (some ⟨vb, 0, none⟩) 1 1] w fun e w' =>
      ∃ cap', e = .returned (.slice (some ⟨w.heap.size, 0, none⟩) (L.length + 1) cap') ∧ w'.ownsRow 0 47 2 (.slice (some ⟨w.heap.size, 0, none⟩) (L.length + 1) cap') (L.length + 1) (regs (ins L i (b, k))) ∧ Only Nil w w' := by
  obtain ⟨G, Z, W, hrz, hWg, hWo, hG, hM, hZl, hZt⟩ := grow_row hown lle i hi
  have hgl : g < w.heap.size := by
    have := hown.lt g rfl; exact this.2
  have hgW : W.heap[g]? = w.heap[g]? := hWo.block g hgl (fun h => h)
  have hvW := Lib.hid ((hWo.block vb (lt_of_block hv) (fun h => h)).trans hv)
  have hD : ∀ (w' : World), w'.heap[g]? = W.heap[g]? → ∀ j v, (regs (L.drop i))[j]? = some v → w'.cell? ⟨g, i * 2 + j, none⟩ = some v := by
    intro w' e j v hj
    rw [← regs_drop, List.getElem?_drop] at hj
    have hlt := (List.getElem?_eq_some_iff.1 hj).1
    rw [regs_length] at hlt
    rw [World.cell?_of_block (a := ⟨g, i * 2 + j, none⟩) (e.trans hgW), hown.cellAt _ hlt]; exact hj
  have hfinal : ∀ R : List Value, R = splice (splice Z (i * 2) [.int .i64 (b : Int), .int .i64 (k : Int)]) (i * 2 + 2) (regs (L.drop i)) → R.length = G * 2 ∧ R.take ((L.length + 1) * 2) = regs (ins L i (b, k)) := by
    rintro R rfl
    have hdl : (regs (L.drop i)).length = (L.length - i) * 2 := by rw [regs_length]; simp
    constructor
    · rw [length_splice _ _ _ (by rw [length_splice _ _ _ (by simp; omega)]; omega), length_splice _ _ _ (by simp; omega), hZl]
    · rw [regs_ins, show (L.length + 1) * 2 = i * 2 + 2 + (L.length - i) * 2 by omega]
      exact ins_row' _ _ _ _ _ _ (by omega) hZt rfl hdl
  have fin := Lib.hid (And.intro hM hfinal)
  have hWg' := Lib.hid hWg
  have hWo' := Lib.hid hWo
  have hD' := Lib.hid hD
  have hZl' := Lib.hid hZl
  have hrz' := Lib.hid hrz
  have hdl : (regs (L.drop i)).length = (L.length - i) * 2 := by rw [regs_length]; simp
  have hdl' := Lib.hid hdl
  have h1D := Lib.hid (regs_one (L.drop i))
  clear hown hWg hWo hv hD hfinal hZt hZl hdl hrz hgW hM
  obtain ⟨D, hDe⟩ : ∃ D, D = regs (L.drop i) := ⟨_, rfl⟩
  obtain ⟨R', hR'⟩ : ∃ R', R' = regs (ins L i (b, k)) := ⟨_, rfl⟩
  rw [← hDe] at fin hD' hdl' h1D
  rw [← hR'] at fin ⊢
  have hRl : R'.length = (L.length + 1) * 2 := by rw [hR', regs_length, length_ins]
  have hRl' := Lib.hid hRl
  clear hDe hR' hRl
  generalize L.length = n at *
  have hvl := lt_of_block hvW.out
  have hne2 : g ≠ w.heap.size := by omega
  have hNW : w.heap.size < W.heap.size := lt_of_block hWg'.out
  have lle' : (n : Int) ≤ 65536 := by omega
  have hi' : (i : Int) < (n : Int) := by omega
  have hz2 : ¬ ((i : Int) = (n : Int)) := by omega
  have hGi : ¬ (G = i) := by omega
  have hGim : ¬ (G = i + 1) := by omega
  have hb4 : ¬ (n = i) := by omega
  have htn : ((i : Int) + 1).toNat = i + 1 := by omega
  have hw1 : IntKind.i64.wrap ((i : Int) + 1) = (i : Int) + 1 := by rw [IntKind.wrap_i64]; omega
  have hb1 : (0 : Int) ≤ (i : Int) + 1 := by omega
  have hb3 : (i : Int) ≤ (n : Int) := by omega
  have hb5 : i ≤ n := by omega
  have hb6 : (i : Int) ≤ (n : Int) + 1 := by omega
  have hG63 : (G : Int) ≤ 9223372036854775807 := by have := fin.out.1; unfold maxLen at this; omega
  have hu := Try.underlying44
  go_enter Try.func29, Try.ntmps29
  go_wp2_with (first
    | (at_builtin; refine Lib.wpList_append_run _ rfl (.tmp 34) (.tmp 39) 44 3 rfl _ _ rfl rfl _ _ (hrz'.out _) ?_)
    | (refine wpList_copy2 rfl (.tmp 43) (.tmp 44) 44 44 rfl 47 hu Try.sizeReg _ _ _ _ _ _ rfl rfl w.heap.size (i * 2) Z 47 ?hg 1 ?hm [.int .i64 (b : Int), .int .i64 (k : Int)] rfl (fun _ => ⟨rfl, _, rfl, src_pair hvW.out⟩) ?hfit ?h1 ?_))
  case hg => exact hWg'.out
  case hm => simp only [Nat.min_def]; split <;> omega
  case hfit => rw [hZl'.out]; simp; omega
  case h1 => intro u hu; simp at hu; rcases hu with rfl | rfl <;> rfl
  intro w4 hg4 ho4
  have hgW4 := Lib.hid (hD'.out w4 (ho4.out.block g (by omega) hne2))
  go_wp2
  go_region_law (refine step_copy2 rfl (.tmp 50) (.tmp 53) 44 44 rfl 47 hu Try.sizeReg (some ⟨w.heap.size, (i + 1) * 2, none⟩) (some ⟨g, i * 2, none⟩) (n + 1 - (i + 1)) (G - (i + 1)) (n - i) (n - i) (by simp [Act.eval, Act.put]) (by simp [Act.eval, Act.put]) w.heap.size (i * 2 + 2) (splice Z (i * 2) [.int .i64 (b : Int), .int .i64 (k : Int)]) 47 hg4.out (n - i) (by simp only [Nat.min_def]; split <;> omega) D hdl'.out (fun _ => ⟨by rw [show (i + 1) * 2 = i * 2 + 2 by omega], _, rfl, fun j v hj => by rw [add_lit0]; exact hgW4.out j v hj⟩) (by rw [length_splice _ _ _ (by simp; rw [hZl'.out]; omega), hdl'.out, hZl'.out]; omega) h1D.out ?_; intro w5 hg5 ho5)
  go_wp2
  go_ret
  obtain ⟨hm, hf⟩ := fin.out
  obtain ⟨f1, f2⟩ := hf _ rfl
  refine ⟨G, rfl, ⟨hRl'.out, .inr ⟨w.heap.size, G, _, rfl, Nat.zero_le _, hg5.out, hG, hm, by simpa using f1, by simpa using f2⟩⟩, ?_⟩
  exact ((hWo'.out.then ho4.out (fun q hq hl => by omega)).drew).then ho5.out (fun q hq hl => by omega)

/-- slices.Insert of one region, wherever. -/
theorem insert_any {w : World} {a : Option Addr} {cap : Nat} {L : List Reg} (hown : w.ownsRow 0 47 2 (.slice a L.length cap) L.length (regs L)) (vb b k : Nat)
    (hv : w.heap[vb]? = some (.cells #[.int .i64 (b : Int), .int .i64 (k : Int)] 47 (0, 0))) (hne : ∀ x, a = some x → x.block ≠ vb) (lle : L.length ≤ 65536) (i : Nat) (hi : i ≤ L.length) :
    Calls Try.prog 29 #[.slice a L.length cap, .int .i64 (i : Int), .slice (some ⟨vb, 0, none⟩) 1 1] w fun e w' =>
      ∃ a' cap', e = .returned (.slice a' (L.length + 1) cap') ∧ w'.ownsRow 0 47 2 (.slice a' (L.length + 1) cap') (L.length + 1) (regs (ins L i (b, k))) ∧ Only (RowOf a) w w' ∧ SameOrNew w a a' := by
  by_cases h : i = L.length
  · subst h; exact insert_end hown vb b k hv lle
  · obtain ⟨g, rfl, hcap⟩ : ∃ g, a = some ⟨g, 0, none⟩ ∧ L.length ≤ cap := by
      rcases hown.2 with ⟨e, e2⟩ | ⟨g, c, cur, e, _, _, hc, _⟩
      · omega
      · simp only [Value.slice.injEq] at e; obtain ⟨rfl, _, rfl⟩ := e; exact ⟨g, rfl, hc⟩
    by_cases hr : L.length + 1 ≤ cap
    · refine (insert_room hown vb b k hv (fun e => hne _ rfl e.symm) lle i (by omega) hr).mono ?_
      rintro e w' ⟨rfl, h1, h2⟩
      exact ⟨_, _, rfl, h1, h2.mono (fun q hq => ⟨_, rfl, hq⟩), fun x hx => .inl ⟨x, hx, rfl⟩⟩
    · obtain rfl : cap = L.length := by omega
      refine (insert_grow hown vb b k hv lle i (by omega)).mono ?_
      rintro e w' ⟨cap', rfl, h1, h2⟩
      exact ⟨_, _, rfl, h1, h2.nilTo _, fun x hx => .inr (by simp only [Option.some.injEq] at hx; rw [← hx]; exact Nat.le_refl _)⟩
end Go.Proofs.Ytgpagfgedimjeaa
