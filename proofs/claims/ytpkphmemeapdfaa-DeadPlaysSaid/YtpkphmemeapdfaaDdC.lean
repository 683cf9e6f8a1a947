/- dead: slices.Delete of one letter; Recent; Put. -/
import Derived.Test.YtpkphmemeapdfaaDdB
namespace Go.Proofs.Ytpkphmemeapdfaa.Dd
open Go.RowKit Go.Proofs.Ytpkphmemeapdfaa Go.Maps

theorem Try.sizeLr : (Try.prog.info? 29).map (·.size) = some 3 := by kernel_rfl
theorem Try.infoLr : (Try.prog.info? 29).map (fun i => (i.zero, i.size, i.bytes)) = some (some (.agg #[.int .u64 0, .int .i64 0, .int .i64 0]), 3, 24) := by kernel_rfl
/-- append of a slice to one that has room, in a row that is known whole, as one step of a region that draws its order. -/
theorem step_append_row {P : Program} {ops : Array Oper} {o : Oper} {a : Act} {w : World} {K : Act → World → Prop} {Q : Exit → Act → World → Prop} {E : Prop}
    (hgd : o.guard = none) (s x : Operand) (t : TypeId) (hop : o.op = Op.call { callee := Callee.builtin Builtin.append, args := #[s, x], argTypes := #[t, t] })
    (e : TypeId) (hu : P.underlying t = some (.slice e)) (hz : (P.info? e).map (·.size) = some 3) (g n cap : Nat) (hs : a.eval s = .slice (some ⟨g, 0, none⟩) n cap)
    (ad : Addr) (m c : Nat) (hx : a.eval x = .slice (some ad) m c) (cur : List Value) (hg : w.heap[g]? = some (.cells cur.toArray e (0, 0))) (cs : List Value) (hn : cs.length = m * 3)
    (hsrc : ∀ j v, cs[j]? = some v → w.cell? (ad.add j) = some v) (h1 : ∀ v ∈ cs, v.oneCell' = true) (hroom : n + m ≤ cap) (r : Nat) (hr : r = n + m) (hfit : n * 3 + cs.length ≤ cur.length)
    (h : ∀ w', Hid (w'.heap[g]? = some (.cells (splice cur (n * 3) cs).toArray e (0, 0))) → Hid (Only (fun k => k = g) w w') → K (a.put o.dst (.slice (some ⟨g, 0, none⟩) r cap)) w') :
    if Region.wanted o (yielded ops a.tmps) = true then Oper.wp P o a w K Q else E := by
  subst hr
  have hw : Region.wanted o (yielded ops a.tmps) = true := by simp [Region.wanted, hgd]
  rw [if_pos hw]
  obtain ⟨i, hi, hsz⟩ := Option.map_eq_some_iff.1 hz
  have hrun := run_append_room (P := P) w t o.type e i hu hi g n cap cur.toArray hg ad m c cs (by rw [hsz]; exact hn) hsrc h1 hroom (by rw [hsz]; simpa using hfit)
  rw [hsz] at hrun
  unfold Oper.wp
  simp [execOp, hop, resolve, invoke, builtin, hs, hx, hrun, Result.andThen]
  refine h _ ?_ ?_
  · show _ = _
    rw [setRow_heap w g _ _ e _ hg]
    simp [splice]
  · exact (Only.refl (fun k => k = g) w).setRow (g := g) rfl _

theorem run_clear3 {P : Program} (w : World) (t e ty : TypeId) (hu : P.underlying t = some (.slice e)) (hv : ∀ w, (zeroValue e).run P w = .ok (.agg #[.int .u64 0, .int .i64 0, .int .i64 0]) w) (g o c : Nat)
    (cur : List Value) (te : TypeId) (hg : w.heap[g]? = some (.cells cur.toArray te (0, 0))) (hfit : o + 3 ≤ cur.length) :
    (Builtin.clear_ #[t] ty #[.slice (some ⟨g, o, none⟩) 1 c]).run P w = .ok (.tuple #[]) (w.setRow g (splice cur o [.int .u64 0, .int .i64 0, .int .i64 0]).toArray) := by
  have hst := run_storeCells_at P g o te [.int .u64 0, .int .i64 0, .int .i64 0] 0 cur.toArray w hg (by simpa using hfit) (by intro v hv; simp at hv; rcases hv with rfl | rfl | rfl <;> rfl)
  have hzc : (Builtin.zeroCells (Value.agg #[.int .u64 0, .int .i64 0, .int .i64 0]).cells 1).toList = [.int .u64 0, .int .i64 0, .int .i64 0] := by kernel_rfl
  simp [Builtin.clear_, run_underlying hu, hv, hzc, hst, splice]

/-- What the row holds behind a deletion. -/
theorem del_row (L : List Lr) (cur : List Value) (cap i : Nat) (hc : cur.length = cap * 3) (hl : L.length ≤ cap) (ht : cur.take (L.length * 3) = lrs L) (hi : i < L.length) :
    (splice (splice cur (i * 3) (lrs (L.drop (i + 1)))) ((L.length - 1) * 3) [.int .u64 0, .int .i64 0, .int .i64 0]).length = cap * 3 ∧
    (splice (splice cur (i * 3) (lrs (L.drop (i + 1)))) ((L.length - 1) * 3) [.int .u64 0, .int .i64 0, .int .i64 0]).take ((L.length - 1) * 3) = lrs (L.eraseIdx i) := by
  have hdl : (lrs (L.drop (i + 1))).length = (L.length - 1 - i) * 3 := by rw [lrs_length]; simp; omega
  have h1 : (splice cur (i * 3) (lrs (L.drop (i + 1)))).length = cap * 3 := by rw [length_splice _ _ _ (by omega), hc]
  refine ⟨by rw [length_splice _ _ _ (by simp; omega), h1], ?_⟩
  have hA : (lrs (L.take i)).length = i * 3 := by rw [lrs_length]; simp; omega
  rw [List.eraseIdx_eq_take_drop_succ, lrs_append]
  apply List.ext_getElem?
  intro j
  rw [List.getElem?_take, splice_get _ _ _ (by simp; omega), splice_get _ _ _ (by omega)]
  by_cases c1 : j < i * 3
  · rw [if_pos (by omega), if_pos (by omega), if_pos c1, List.getElem?_append_left (by omega), ← lrs_take, ← ht, List.take_take, List.getElem?_take, if_pos (by omega)]
  · rw [List.getElem?_append_right (by omega), hA]
    by_cases c2 : j < (L.length - 1) * 3
    · rw [if_pos c2, if_pos c2, if_neg c1, if_pos (by omega)]
    · rw [if_neg c2, List.getElem?_eq_none (by omega)]

set_option maxHeartbeats 1000000 in
set_option maxRecDepth 100000 in
theorem delete_any {w : World} {g cap : Nat} {L : List Lr} (hown : w.ownsRow 0 29 3 (.slice (some ⟨g, 0, none⟩) L.length cap) L.length (lrs L)) (lle : L.length ≤ 65536) (i : Nat) (hi : i < L.length) :
    Calls Try.prog 18 #[.slice (some ⟨g, 0, none⟩) L.length cap, .int .i64 (i : Int), .int .i64 ((i : Int) + 1)] w fun e w' =>
      e = .returned (.slice (some ⟨g, 0, none⟩) (L.length - 1) cap) ∧ w'.ownsRow 0 29 3 (.slice (some ⟨g, 0, none⟩) (L.length - 1) cap) (L.length - 1) (lrs (L.eraseIdx i)) ∧ Only (fun q => q = g) w w' := by
  obtain ⟨cur, hg, hle, hmax, hcs, htake⟩ : ∃ cur : List Value, w.heap[g]? = some (.cells cur.toArray 29 (0, 0)) ∧ L.length ≤ cap ∧ cap ≤ maxLen ∧ cur.length = cap * 3 ∧ cur.take (L.length * 3) = lrs L := by
    rcases hown.2 with ⟨e, e2⟩ | ⟨g', c, cur, e, _, hg, hc, hm, hs, ht⟩
    · simp at e
    · simp only [Value.slice.injEq, Option.some.injEq, Addr.mk.injEq, and_true, true_and] at e
      obtain ⟨rfl, rfl⟩ := e
      exact ⟨cur.toList, by simpa using hg, hc, hm, by simpa using hs, ht⟩
  have hD : ∀ j v, (lrs (L.drop (i + 1)))[j]? = some v → w.cell? ⟨g, (i + 1) * 3 + j, none⟩ = some v := by
    intro j v hj
    rw [← lrs_drop, List.getElem?_drop] at hj
    have hlt := (List.getElem?_eq_some_iff.1 hj).1
    rw [lrs_length] at hlt
    rw [hown.cellAt _ hlt]; exact hj
  have hrow := del_row L cur cap i hcs hle htake hi
  have hdl : (lrs (L.drop (i + 1))).length = (L.length - (i + 1)) * 3 := by rw [lrs_length]; simp
  have hRl : (lrs (L.eraseIdx i)).length = (L.length - 1) * 3 := by rw [lrs_length, List.length_eraseIdx, if_pos hi]
  have hrow' := Lib.hid hrow
  have hg' := Lib.hid hg
  have hD' := Lib.hid hD
  have hcs' := Lib.hid hcs
  have hdl' := Lib.hid hdl
  have hRl' := Lib.hid hRl
  have h1D := Lib.hid (lrs_oneCell (L.drop (i + 1)))
  have hmax' := Lib.hid hmax
  clear hown hg hD htake hcs hdl hRl hrow hmax
  obtain ⟨D, hDe⟩ : ∃ D, D = lrs (L.drop (i + 1)) := ⟨_, rfl⟩
  obtain ⟨R', hR'⟩ : ∃ R', R' = lrs (L.eraseIdx i) := ⟨_, rfl⟩
  rw [← hDe] at hrow' hD' hdl' h1D
  rw [← hR'] at hrow' hRl' ⊢
  clear hDe hR'
  generalize L.length = n at *
  have hA : ∃ A : Addr, (if cap = i + 1 then (some ⟨g, 0, none⟩ : Option Addr) else some ⟨g, (i + 1) * 3, none⟩) = some A ∧ Hid (∀ j v, D[j]? = some v → w.drew.cell? (A.add j) = some v) := by
    by_cases h : cap = i + 1
    · refine ⟨⟨g, 0, none⟩, by simp [h], fun j v hj => ?_⟩
      have h0 : D.length = 0 := by rw [hdl'.out]; omega
      rw [List.length_eq_zero_iff.1 h0] at hj
      simp at hj
    · exact ⟨⟨g, (i + 1) * 3, none⟩, by simp [h], fun j v hj => by rw [add_lit0]; exact hD'.out j v hj⟩
  obtain ⟨A, hA1, hA2⟩ := hA
  have lle' : (n : Int) ≤ 65536 := by omega
  have hi' : (i : Int) < (n : Int) := by omega
  have hw1 : IntKind.i64.wrap ((i : Int) + 1) = (i : Int) + 1 := by rw [IntKind.wrap_i64]; omega
  have htn : ((i : Int) + 1).toNat = i + 1 := by omega
  have hb1 : (0 : Int) ≤ (i : Int) + 1 := by omega
  have hb3 : (i : Int) + 1 ≤ (n : Int) := by omega
  have hb5 : i + 1 ≤ n := by omega
  have hb6 : i ≤ cap := by omega
  have hb7 : i + 1 ≤ cap := by omega
  have hcap63 : (cap : Int) ≤ 9223372036854775807 := by have := hmax'.out; unfold maxLen at this; omega
  have hb8 : ¬ (cap = n - 1) := by omega
  have hb9 : ¬ (n = i) := by omega
  have hb11 : n - 1 ≤ n := by omega
  have hb12 : n - 1 ≤ cap := by omega
  have hb13 : ((n - 1 : Nat) : Int) ≤ (n : Int) := by omega
  have hb14 : n - (n - 1) = 1 := by omega
  have hu := Try.underlying22
  go_enter Try.func18, Try.ntmps18
  go_wp2
  go_region_law (refine step_append_row rfl (.tmp 22) (.tmp 25) 22 rfl 29 hu Try.sizeLr g i cap (by simp [Act.eval, Act.put]) A (n - (i + 1)) (cap - (i + 1)) (by simp [Act.eval, Act.put]) cur hg'.out D hdl'.out hA2.out h1D.out (by omega) (n - 1) (by omega) (by rw [hdl'.out, hcs'.out]; omega) ?_; intro w4 hg4 ho4)
  have hcl : ∀ ty c, _ := fun ty c => run_clear3 (P := Try.prog) w4 22 29 ty hu Try.zeroValue29 g ((n - 1) * 3) c _ _ hg4.out (by rw [length_splice _ _ _ (by rw [hdl'.out, hcs'.out]; omega), hcs'.out]; omega)
  have hg5 := Lib.hid (setRow_heap w4 g _ (splice (splice cur (i * 3) D) ((n - 1) * 3) [.int .u64 0, .int .i64 0, .int .i64 0]).toArray _ _ hg4.out)
  have ho5 := Lib.hid ((Only.refl (fun k => k = g) w4).setRow (g := g) rfl (splice (splice cur (i * 3) D) ((n - 1) * 3) [.int .u64 0, .int .i64 0, .int .i64 0]).toArray)
  generalize w4.setRow g (splice (splice cur (i * 3) D) ((n - 1) * 3) [.int .u64 0, .int .i64 0, .int .i64 0]).toArray = w5 at hcl hg5 ho5
  go_wp2
  go_ret
  refine ⟨rfl, ⟨hRl'.out, .inr ⟨g, cap, _, rfl, Nat.zero_le _, hg5.out, hb12, hmax'.out, by simpa using hrow'.out.1, by simpa using hrow'.out.2⟩⟩, ?_⟩
  exact ((Only.refl (fun q => q = g) w).drew.trans ho4.out).trans ho5.out



end Go.Proofs.Ytpkphmemeapdfaa.Dd
