/- wheel: takeAll, idsOf. -/
import Derived.Test.YtpmgmdlfnlmieaaWhH
namespace Go.Proofs.Ytpmgmdlfnlmieaa.Wh
open Go.RowKit Go.Proofs.Ytpmgmdlfnlmieaa

section
variable {w : World} {S : Nat → Prop} {hb now added : Nat} {V : Nat → Value} {F : Nat → List Tm}
/-- Slot n is emptied. -/
theorem At.clear (h : At w S hb now added V F) (n : Nat) (hn : n < 32) :
    At (w.setCell ⟨hb, n + 2, none⟩ (.slice none 0 0)) S hb now added (upd V n (.slice none 0 0)) (emp F n) ∧ Only (fun k => k = hb) w (w.setCell ⟨hb, n + 2, none⟩ (.slice none 0 0)) := by
  have o : Only (fun k => k = hb) w (w.setCell ⟨hb, n + 2, none⟩ (.slice none 0 0)) := (Only.refl (fun k => k = hb) w).setCell (p := ⟨hb, n + 2, none⟩) rfl _
  refine ⟨⟨?_, ?_, ?_, ?_, h.hS, fun k hk => Nat.lt_of_lt_of_le (h.lt k hk) o.size⟩, o⟩
  · rw [row_set h.head]
    congr 2
    refine rowC_congr fun i hi => ?_
    match i with
    | 0 => rfl
    | 1 => rfl
    | i + 2 =>
      show (if i + 2 = n + 2 then _ else V i) = (if i = n then _ else V i)
      by_cases e : i = n
      · rw [if_pos e, if_pos (by omega)]
      · rw [if_neg e, if_neg (by omega)]
  · intro m hm
    by_cases e : m = n
    · subst e
      simp only [upd, emp, if_pos]
      exact World.ownsRow_nil _ _ _ _
    · simp only [upd, emp, if_neg e]
      exact own_keep (h.row m hm) o (fun k hk hk2 => (h.own m k hm hk.symm).2 hk2)
  · intro m m' q hm hm' h1 h2
    by_cases e : m = n
    · subst e; simp [upd, Value.ownBlock] at h1
    · by_cases e' : m' = n
      · subst e'; simp [upd, Value.ownBlock] at h2
      · simp only [upd, if_neg e, if_neg e'] at h1 h2
        exact h.apart m m' q hm hm' h1 h2
  · intro m q hm hq
    by_cases e : m = n
    · subst e; simp [upd, Value.ownBlock] at hq
    · simp only [upd, if_neg e] at hq
      exact h.own m q hm hq
end

set_option maxHeartbeats 1000000 in
theorem take_any {w : World} {S : Nat → Prop} {hb now added : Nat} {V : Nat → Value} {F : Nat → List Tm} (h : At w S hb now added V F) (hn : now < 1000000000) (l : Nat) (hl : l ≤ 3) :
    Calls Try.prog 30 #[.pointer (some ⟨hb, 0, none⟩), .int .i64 (l : Int)] w fun e w' =>
      e = .returned (V (8 * l + dig now l)) ∧ At w' S hb now added (upd V (8 * l + dig now l) (.slice none 0 0)) (emp F (8 * l + dig now l)) ∧ Only (fun k => k = hb) w w' := by
  have hdig := Lib.hid (fun w => digit_any now l hl (by omega) w)
  have hd8 := dig_lt now l
  generalize dig now l = d at *
  have hlt : 8 * l + d < 32 := by omega
  have h' := Lib.hid h
  have hlt' := Lib.hid hlt
  have c0 := h.c0
  clear h hlt hn
  have hl3' : (l : Int) ≤ 3 := by omega
  have hd8' : (d : Int) < 8 := by omega
  go_enter Try.func30, Try.ntmps30
  go_wp2
  go_quiet ((go_at_call 29; exact quiet_same (hdig.out _)))
  obtain ⟨wb, hwb⟩ : ∃ wb, wb = w.drewN nq := ⟨_, rfl⟩
  have hB := Lib.hid (show At wb S hb now added V F by rw [hwb]; exact h'.out.drewN nq)
  have o2 := Lib.hid (show Only Nil w wb by rw [hwb]; exact (Only.refl Nil w).drewN nq)
  rw [← hwb]
  clear hwb c0
  have cs : wb.cell? ⟨hb, 2 + l * 8 + d, none⟩ = some (V (8 * l + d)) := by rw [show 2 + l * 8 + d = 8 * l + d + 2 by omega]; exact hB.out.cs _ hlt'.out
  have fz : wb.frozen? ⟨hb, 2 + l * 8 + d, none⟩ = false := hB.out.fz _
  have hlb : hb < wb.heap.size := hB.out.lt_hb
  have cl := hB.out.clear (8 * l + d) hlt'.out
  rw [show 8 * l + d + 2 = 2 + l * 8 + d by omega] at cl
  have fin := Lib.hid (show At _ S hb now added _ _ ∧ Only (fun k => k = hb) w _ from ⟨cl.1, (o2.out.nilTo _).trans cl.2⟩)
  clear cl
  generalize hv : V (8 * l + d) = v at *
  have hv' := Lib.hid hv
  clear hv
  go_wp2
  go_ret
  exact ⟨by rw [hv'.out]; rfl, fin.out.1, fin.out.2⟩

/-- Ids as cells. -/
def ids (L : List Tm) : List Value := L.map fun t => .int .u64 (t.id : Int)

theorem Try.infoU64 : (Try.prog.info? 30).map (fun i => (i.zero, i.size, i.bytes)) = some (some (.int .u64 0), 1, 8) := by kernel_rfl
theorem full_row {w : World} {base : Nat} {e : TypeId} {b n : Nat} {g : Nat → Value} (h : w.ownsRow base e 1 (.slice (some ⟨b, 0, none⟩) n n) n (rowC n g).toList) : w.heap[b]? = some (.cells (rowC n g) e (0, 0)) := by
  rcases h.2 with ⟨hv, _⟩ | ⟨b', cap, cur, hv, _, hg, _, _, hs, ht⟩
  · simp at hv
  · simp only [Value.slice.injEq, Option.some.injEq, Addr.mk.injEq, and_true, true_and] at hv
    obtain ⟨rfl, rfl⟩ := hv
    rw [hg]
    congr 2
    rw [Nat.mul_one] at ht hs
    have : cur.toList = (rowC n g).toList := by
      rw [← ht, List.take_of_length_le (by simp; omega)]
    exact Array.ext' this
theorem ids_rowC (X : List Tm) : (rowC X.length fun i => .int .u64 ((X.getD i default).id : Int)).toList = ids X := by
  unfold rowC ids
  apply List.ext_getElem?
  intro i
  by_cases h : i < X.length
  · simp [h]
  · simp [h]
theorem own_of_row {w : World} {base : Nat} {e : TypeId} {b n : Nat} {g : Nat → Value} (h : w.heap[b]? = some (.cells (rowC n g) e (0, 0))) (hb : base ≤ b) (hn : n ≤ maxLen) : w.ownsRow base e 1 (.slice (some ⟨b, 0, none⟩) n n) n (rowC n g).toList :=
  ⟨by simp [rowC], .inr ⟨b, n, _, rfl, hb, h, Nat.le_refl _, hn, by simp [rowC], by rw [Nat.mul_one, List.take_of_length_le (by simp [rowC])]⟩⟩

/-- The ids so far, zeros behind them. -/
def idc (X : List Tm) (k i : Nat) : Value := if i < k then .int .u64 ((X.getD i default).id : Int) else .int .u64 0
theorem idc_step (X : List Tm) (k n : Nat) : rowC n (upd (idc X k) k (.int .u64 ((X.getD k default).id : Int))) = rowC n (idc X (k + 1)) := by
  refine rowC_congr fun i _ => ?_
  unfold upd idc
  by_cases e : i = k
  · subst e; rw [if_pos rfl, if_pos (by omega)]
  · rw [if_neg e]
    by_cases h : i < k
    · rw [if_pos h, if_pos (by omega)]
    · rw [if_neg h, if_neg (by omega)]

set_option maxRecDepth 100000 in
set_option maxHeartbeats 1000000 in
theorem idsOf_any {w : World} {a : Option Addr} {c : Nat} {X : List Tm} (h : TIn w a X) (hX : X.length ≤ 65000) :
    Calls Try.prog 31 #[.slice a X.length c] w fun e w' => ∃ v, e = .returned v ∧ Hid (w'.ownsRow w.heap.size 30 1 v X.length (ids X)) ∧ Only Nil w w' := by
  have h' := Lib.hid h
  clear h
  have hXi : (X.length : Int) ≤ 65000 := by omega
  have hrc := Lib.hid (ids_rowC X)
  generalize hlen : X.length = n at *
  have hlen' := Lib.hid hlen
  clear hlen
  obtain ⟨i0, hi0, hz0, hz1, hz2⟩ := info_parts Try.infoU64
  have hu := Try.underlying26
  go_enter Try.func31, Try.ntmps31
  go_wp2_with (at_make; refine wpList_make_full _ rfl _ _ 26 rfl w.heap.size 30 i0 (.int .u64 0) 1 hu hi0 hz0 hz1 .i64 .i64 _ _ n rfl rfl (by rfl) (by rfl) (by rw [hz2]; omega) (by unfold maxLen; omega) (Nat.le_refl _) ?_; intro w4 hown4 hg4; have h4 := Lib.hid hown4; have q4 := Lib.hid ((Only.ofGrown hg4).mono (T := fun k => k = w.heap.size) (fun k hk => by simp at hk)); have i4 := Lib.hid (h'.out.keep (Only.ofGrown hg4) (fun k b hk hk2 => by simp at hk2)); clear hown4 hg4)
  have hrow : w4.heap[w.heap.size]? = some (.cells (rowC n (idc X 0)) 30 (0, 0)) := by
    refine full_row (base := w.heap.size) ?_
    have := h4.out
    rw [show (Value.int .u64 0).cells = #[.int .u64 0] from rfl, Nat.mul_one, made_row] at this
    rw [show rowC n (idc X 0) = rowC n (fun _ => .int .u64 0) from rowC_congr fun i _ => by simp [idc]]
    exact this
  have hrow' := Lib.hid hrow
  have hsz := Lib.hid (lt_of_block hrow)
  clear hrow h4
  generalize hgb : w.heap.size = gb at *
  have hgb' := Lib.hid hgb
  clear hgb
  go_loopw [11] (fun s11 wr => ∃ (k : Nat), k ≤ n ∧ s11 = .int .i64 (k : Int) ∧ Hid (wr.heap[gb]? = some (.cells (rowC n (idc X k)) 30 (0, 0))) ∧ Hid (Only (fun k => k = gb) w wr))
    (fun s11 _ => n - (intOf s11).toNat)
  case atStart => exact ⟨0, Nat.zero_le _, rfl, hrow', q4⟩
  case round =>
    obtain ⟨k, hk, rfl, hr, ho⟩ := hrel
    by_cases hkn : k < n
    · obtain ⟨g1, rfl, hg1, hc⟩ := h'.out k (by rw [hlen'.out]; exact hkn)
      obtain ⟨c0, c1, c2⟩ := hc k (by rw [hlen'.out]; exact hkn)
      have hgg : g1 < gb := by rw [← hgb'.out]; exact hg1
      have hne : ¬ (g1 = gb) := by omega
      have e1 := ho.out.block g1 hg1 hne
      have d0 := (World.cell?_of_block (a := ⟨g1, k * 3, none⟩) e1).trans c0
      have d1 := (World.cell?_of_block (a := ⟨g1, k * 3 + 1, none⟩) e1).trans c1
      have d2 := (World.cell?_of_block (a := ⟨g1, k * 3 + 2, none⟩) e1).trans c2
      have x4 := row_cell hr.out k hkn
      have x5 := row_frozen hr.out k
      have x6 : gb < wr.heap.size := lt_of_block hr.out
      have hst := Lib.hid (idc_step X k n)
      clear c0 c1 c2 hc e1
      generalize (X.getD k default).id = x0 at *
      generalize (X.getD k default).due = x1 at *
      generalize (X.getD k default).num = x2 at *
      have hkn' : (k : Int) < (n : Int) := by omega
      have hnx : Hid ((((wr.setCell ⟨gb, k, none⟩ (.int .u64 (x0 : Int))).alloc (.cells #[.int .u64 (x0 : Int), .int .i64 (x1 : Int), .int .i64 (x2 : Int)] 67)).heap[gb]? = some (.cells (rowC n (idc X (k + 1))) 30 (0, 0)))) :=
        Lib.hid (by rw [Below.heap_alloc _ _ _ (by simpa [World.setCell] using x6), row_set hr.out, hst.out])
      have hnx2 := Lib.hid ((ho.out.setCell (p := ⟨gb, k, none⟩) rfl (.int .u64 (x0 : Int))).alloc (.cells #[.int .u64 (x0 : Int), .int .i64 (x1 : Int), .int .i64 (x2 : Int)] 67))
      go_wp2
      go_roundw
      case rel => exact ⟨k + 1, by omega, by go_num, hnx, hnx2⟩
      case measure => simp [intOf]; omega
    · obtain rfl : k = n := by omega
      have hk0 : ¬ (k : Int) < (k : Int) := by omega
      have hfin : Hid (wr.ownsRow gb 30 1 (.slice (some ⟨gb, 0, none⟩) k k) k (ids X)) := Lib.hid (by
        rw [← hrc.out]
        have e : rowC k (idc X k) = rowC k (fun i => .int .u64 ((X.getD i default).id : Int)) := rowC_congr fun i hi => by simp [idc, hi]
        rw [← e]
        exact own_of_row hr.out (Nat.le_refl _) (by unfold maxLen; omega))
      have hon := Lib.hid (ho.out.fresh (fun q hq => by have := hgb'.out; omega))
      go_wp2
      go_ret
      exact ⟨_, rfl, Lib.hid (by rw [hgb'.out]; exact hfin.out), hon.out⟩
end Go.Proofs.Ytpmgmdlfnlmieaa.Wh
