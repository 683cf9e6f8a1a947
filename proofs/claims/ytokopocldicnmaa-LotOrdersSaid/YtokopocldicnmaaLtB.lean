/- slices.Delete of one number, slices.Index of numbers: contracts. -/
import Derived.Test.YtokopocldicnmaaLtA
import Derived.Deep.RegionLaw
namespace Go.Proofs.Ytokopocldicnmaa.Lt
open Go.RowKit Go.Proofs.Ytokopocldicnmaa

theorem only_setRow {S : Nat → Prop} {a w : World} (h : Only S a w) {g : Nat} (hp : S g) (u : Array Value) : Only S a (w.setRow g u) :=
  h.trans ⟨rfl, rfl, rfl, by simp [World.setRow], fun k _ hs => setRow_other w g k u (fun e => hs (e ▸ hp))⟩
theorem add_lit0 (g o j : Nat) : (⟨g, o, none⟩ : Addr).add j = ⟨g, o + j, none⟩ := by unfold Addr.add; split <;> simp_all
theorem splice_get {α : Type} (L : List α) (o : Nat) (cs : List α) (h : o + cs.length ≤ L.length) (j : Nat) :
    (splice L o cs)[j]? = if j < o then L[j]? else if j < o + cs.length then cs[j - o]? else L[j]? := by
  simp only [splice]
  by_cases h1 : j < o
  · rw [if_pos h1, List.getElem?_append_left (by simp; omega), List.getElem?_take, if_pos h1]
  · rw [if_neg h1, List.getElem?_append_right (by simp; omega)]
    have e : j - (L.take o).length = j - o := by simp; omega
    rw [e]
    by_cases h2 : j < o + cs.length
    · rw [if_pos h2, List.getElem?_append_left (by omega)]
    · rw [if_neg h2, List.getElem?_append_right (by omega), List.getElem?_drop]
      congr 1
      omega

/-- append of a slice to one that has room, in a row that is known whole, as one step of a region that draws its order. -/
theorem step_append_row {P : Program} {ops : Array Oper} {o : Oper} {a : Act} {w : World} {K : Act → World → Prop} {Q : Exit → Act → World → Prop} {E : Prop}
    (hgd : o.guard = none) (s x : Operand) (t : TypeId) (hop : o.op = Op.call { callee := Callee.builtin Builtin.append, args := #[s, x], argTypes := #[t, t] })
    (e : TypeId) (hu : P.underlying t = some (.slice e)) (hz : (P.info? e).map (·.size) = some 1) (g n cap : Nat) (hs : a.eval s = .slice (some ⟨g, 0, none⟩) n cap)
    (ad : Addr) (m c : Nat) (hx : a.eval x = .slice (some ad) m c) (cur : List Value) (hg : w.heap[g]? = some (.cells cur.toArray e (0, 0))) (cs : List Value) (hn : cs.length = m * 1)
    (hsrc : ∀ j v, cs[j]? = some v → w.cell? (ad.add j) = some v) (h1 : ∀ v ∈ cs, v.oneCell' = true) (hroom : n + m ≤ cap) (r : Nat) (hr : r = n + m) (hfit : n * 1 + cs.length ≤ cur.length)
    (h : ∀ w', Hid (w'.heap[g]? = some (.cells (splice cur (n * 1) cs).toArray e (0, 0))) → Hid (Only (fun k => k = g) w w') → K (a.put o.dst (.slice (some ⟨g, 0, none⟩) r cap)) w') :
    if Region.wanted o (yielded ops a.tmps) = true then Oper.wp P o a w K Q else E := by
  subst hr
  have hw : Region.wanted o (yielded ops a.tmps) = true := by simp [Region.wanted, hgd]
  rw [if_pos hw]
  obtain ⟨i, hi, hsz⟩ := Option.map_eq_some_iff.1 hz
  have hrun := run_append_room (P := P) w t o.type e i hu hi g n cap cur.toArray hg ad m c cs (by rw [hsz]; exact hn) hsrc h1 hroom (by rw [hsz]; simpa using hfit)
  rw [hsz] at hrun
  unfold Oper.wp
  simp [execOp, hop, resolve, invoke, builtin, hs, hx, hrun, Result.andThen]
  refine h _ ?_ ?_
  · show _ = _
    rw [setRow_heap w g _ _ e _ hg]
    simp [splice]
  · exact only_setRow (Only.refl (fun k => k = g) w) (g := g) rfl _

theorem run_clear1 {P : Program} (w : World) (t e ty : TypeId) (hu : P.underlying t = some (.slice e)) (hv : ∀ w, (zeroValue e).run P w = .ok (.int .i64 0) w) (g o c : Nat)
    (cur : List Value) (te : TypeId) (hg : w.heap[g]? = some (.cells cur.toArray te (0, 0))) (hfit : o + 1 ≤ cur.length) :
    (Builtin.clear_ #[t] ty #[.slice (some ⟨g, o, none⟩) 1 c]).run P w = .ok (.tuple #[]) (w.setRow g (splice cur o [.int .i64 0]).toArray) := by
  have hst := run_storeCells_at P g o te [.int .i64 0] 0 cur.toArray w hg (by simpa using hfit) (by intro v hv; simp at hv; rcases hv with rfl; rfl)
  have hzc : (Builtin.zeroCells (Value.int .i64 0).cells 1).toList = [.int .i64 0] := by kernel_rfl
  simp [Builtin.clear_, run_underlying hu, hv, hzc, hst, splice]

theorem nv_erase (L : List Nat) (i : Nat) : nv (L.eraseIdx i) = nv (L.take i) ++ nv (L.drop (i + 1)) := by
  rw [List.eraseIdx_eq_take_drop_succ, nv_append]

/-- What the row holds behind a deletion. -/
theorem del_row (L : List Nat) (cur : List Value) (cap i : Nat) (hc : cur.length = cap) (hl : L.length ≤ cap) (ht : cur.take L.length = nv L) (hi : i < L.length) :
    (splice (splice cur i (nv (L.drop (i + 1)))) (L.length - 1) [.int .i64 0]).length = cap ∧
    (splice (splice cur i (nv (L.drop (i + 1)))) (L.length - 1) [.int .i64 0]).take (L.length - 1) = nv (L.eraseIdx i) := by
  have hdl : (nv (L.drop (i + 1))).length = L.length - 1 - i := by rw [nv_length]; simp; omega
  have h1 : (splice cur i (nv (L.drop (i + 1)))).length = cap := by rw [length_splice _ _ _ (by omega), hc]
  refine ⟨by rw [length_splice _ _ _ (by simp; omega), h1], ?_⟩
  have hA : (nv (L.take i)).length = i := by rw [nv_length]; simp; omega
  rw [nv_erase]
  apply List.ext_getElem?
  intro j
  rw [List.getElem?_take, splice_get _ _ _ (by simp; omega), splice_get _ _ _ (by omega)]
  have ht2 : nv (L.take i) = cur.take i := by
    have : nv (L.take i) = (nv L).take i := by simp [nv, List.map_take]
    rw [this, ← ht, List.take_take, Nat.min_eq_left (by omega)]
  by_cases c1 : j < i
  · rw [if_pos (by omega), if_pos (by omega), if_pos c1, List.getElem?_append_left (by omega), ht2, List.getElem?_take, if_pos c1]
  · rw [List.getElem?_append_right (by omega), hA]
    by_cases c2 : j < L.length - 1
    · rw [if_pos c2, if_pos c2, if_neg c1, if_pos (by omega)]
    · rw [if_neg c2, List.getElem?_eq_none (by omega)]

theorem Try.sizeInt : (Try.prog.info? 3).map (·.size) = some 1 := by kernel_rfl

set_option maxHeartbeats 1000000 in
set_option maxRecDepth 100000 in
theorem delete_any {w : World} {base : Nat} {v : Value} {L : List Nat} (hown : w.ownsRow base 3 1 v L.length (nv L)) (lle : L.length ≤ 65536) (i : Nat) (hi : i < L.length) :
    Calls Try.prog 75 #[v, .int .i64 (i : Int), .int .i64 ((i : Int) + 1)] w fun e w' =>
      ∃ u, e = .returned u ∧ Hid (w'.ownsRow base 3 1 u (L.length - 1) (nv (L.eraseIdx i))) ∧ Only (fun q => some q = v.ownBlock) w w' ∧ u.ownBlock = v.ownBlock := by
  obtain ⟨g, cap, cur, rfl, hbase, hg, hle, hmax, hcs, htake⟩ : ∃ g cap, ∃ cur : List Value, v = .slice (some ⟨g, 0, none⟩) L.length cap ∧ base ≤ g ∧ w.heap[g]? = some (.cells cur.toArray 3 (0, 0)) ∧ L.length ≤ cap ∧ cap ≤ maxLen ∧ cur.length = cap ∧ cur.take L.length = nv L := by
    rcases hown.2 with ⟨e, e2⟩ | ⟨g', c, cur, e, hb, hg, hc, hm, hs, ht⟩
    · omega
    · exact ⟨g', c, cur.toList, e, hb, by simpa using hg, hc, hm, by simpa using hs, by simpa using ht⟩
  have hD : ∀ j v, (nv (L.drop (i + 1)))[j]? = some v → w.cell? ⟨g, (i + 1) + j, none⟩ = some v := by
    intro j v hj
    have e : nv (L.drop (i + 1)) = (nv L).drop (i + 1) := by simp [nv, List.map_drop]
    rw [e, List.getElem?_drop] at hj
    have hlt := (List.getElem?_eq_some_iff.1 hj).1
    rw [nv_length] at hlt
    rw [hown.cellAt _ (by omega)]; exact hj
  have hrow := del_row L cur cap i hcs hle htake hi
  have hdl : (nv (L.drop (i + 1))).length = L.length - (i + 1) := by rw [nv_length]; simp
  have hRl : (nv (L.eraseIdx i)).length = L.length - 1 := by rw [nv_length, List.length_eraseIdx, if_pos hi]
  have hrow' := Lib.hid hrow
  have hg' := Lib.hid hg
  have hD' := Lib.hid hD
  have hcs' := Lib.hid hcs
  have hdl' := Lib.hid hdl
  have hRl' := Lib.hid hRl
  have hbase' := Lib.hid hbase
  have h1D := Lib.hid (nv_one (L.drop (i + 1)))
  have hmax' := Lib.hid hmax
  clear hown hg hD htake hcs hdl hRl hrow hmax hbase
  obtain ⟨D, hDe⟩ : ∃ D, D = nv (L.drop (i + 1)) := ⟨_, rfl⟩
  obtain ⟨R', hR'⟩ : ∃ R', R' = nv (L.eraseIdx i) := ⟨_, rfl⟩
  rw [← hDe] at hrow' hD' hdl' h1D
  rw [← hR'] at hrow' hRl' ⊢
  clear hDe hR'
  generalize L.length = n at *
  have hA : ∃ A : Addr, (if cap = i + 1 then (some ⟨g, 0, none⟩ : Option Addr) else some ⟨g, i + 1, none⟩) = some A ∧ Hid (∀ j v, D[j]? = some v → w.drew.cell? (A.add j) = some v) := by
    by_cases h : cap = i + 1
    · refine ⟨⟨g, 0, none⟩, by simp [h], fun j v hj => ?_⟩
      have h0 : D.length = 0 := by rw [hdl'.out]; omega
      rw [List.length_eq_zero_iff.1 h0] at hj
      simp at hj
    · exact ⟨⟨g, i + 1, none⟩, by simp [h], fun j v hj => by rw [add_lit0]; exact hD'.out j v hj⟩
  obtain ⟨A, hA1, hA2⟩ := hA
  have lle' : (n : Int) ≤ 65536 := by omega
  have hi' : (i : Int) < (n : Int) := by omega
  have hw1 : IntKind.i64.wrap ((i : Int) + 1) = (i : Int) + 1 := by rw [IntKind.wrap_i64]; omega
  have htn : ((i : Int) + 1).toNat = i + 1 := by omega
  have hb1 : (0 : Int) ≤ (i : Int) + 1 := by omega
  have hb3 : (i : Int) + 1 ≤ (n : Int) := by omega
  have hb5 : i + 1 ≤ n := by omega
  have hb6 : i ≤ cap := by omega
  have hb7 : i + 1 ≤ cap := by omega
  have hcap63 : (cap : Int) ≤ 9223372036854775807 := by have := hmax'.out; unfold maxLen at this; omega
  have hb8 : ¬ (cap = n - 1) := by omega
  have hb9 : ¬ (n = i) := by omega
  have hb11 : n - 1 ≤ n := by omega
  have hb12 : n - 1 ≤ cap := by omega
  have hb13 : ((n - 1 : Nat) : Int) ≤ (n : Int) := by omega
  have hb14 : n - (n - 1) = 1 := by omega
  have hu := Try.underlying33
  go_enter Try.func75, Try.ntmps75
  go_wp2
  go_region_law (refine step_append_row rfl (.tmp 22) (.tmp 25) 33 rfl 3 hu Try.sizeInt g i cap (by simp [Act.eval, Act.put]) A (n - (i + 1)) (cap - (i + 1)) (by simp [Act.eval, Act.put]) cur hg'.out D (by rw [hdl'.out]; omega) hA2.out h1D.out (by omega) (n - 1) (by omega) (by rw [hdl'.out, hcs'.out]; omega) ?_; rw [Nat.mul_one]; intro w4 hg4 ho4)
  have hcl : ∀ ty c, _ := fun ty c => run_clear1 (P := Try.prog) w4 33 3 ty hu Try.zeroValue3 g (n - 1) c _ _ hg4.out (by rw [length_splice _ _ _ (by rw [hdl'.out, hcs'.out]; omega), hcs'.out]; omega)
  have hg5 := Lib.hid (setRow_heap w4 g _ (splice (splice cur i D) (n - 1) [.int .i64 0]).toArray _ _ hg4.out)
  have ho5 := Lib.hid (only_setRow (Only.refl (fun k => k = g) w4) (g := g) rfl (splice (splice cur i D) (n - 1) [.int .i64 0]).toArray)
  generalize w4.setRow g (splice (splice cur i D) (n - 1) [.int .i64 0]).toArray = w5 at hcl hg5 ho5
  go_wp2
  go_ret
  refine ⟨_, rfl, Lib.hid ⟨by rw [hRl'.out]; omega, .inr ⟨g, cap, _, rfl, hbase'.out, hg5.out, hb12, hmax'.out, by simpa using hrow'.out.1, by simpa using hrow'.out.2⟩⟩, ?_, rfl⟩
  refine (((Only.refl (fun q => q = g) w).drew.trans ho4.out).trans ho5.out).mono (fun q hq => ?_)
  subst hq; rfl
end Go.Proofs.Ytokopocldicnmaa.Lt
