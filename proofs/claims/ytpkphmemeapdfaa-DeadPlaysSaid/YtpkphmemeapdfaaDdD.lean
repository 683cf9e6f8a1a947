/- dead: Recent; Put. -/
import Derived.Test.YtpkphmemeapdfaaDdC
import Derived.Lib.AppendZerosOnto
namespace Go.Proofs.Ytpkphmemeapdfaa.Dd
open Go.RowKit Go.Proofs.Ytpkphmemeapdfaa Go.Maps

section
variable {P : Program}
/-- copy at elements of z cells. -/
theorem run_copyz (z : Nat) (w : World) (dT sT ty elem : TypeId) (hu : P.underlying dT = some (.slice elem)) (hz : (P.info? elem).map (·.size) = some z) (g o dLen dCap : Nat) (ad : Addr) (sLen sCap : Nat)
    (cur : List Value) (t : TypeId) (hg : w.heap[g]? = some (.cells cur.toArray t (0, 0))) (m : Nat) (hm : m = Nat.min sLen dLen) (cs : List Value) (hn : cs.length = m * z)
    (hsrc : ∀ j v, cs[j]? = some v → w.cell? (ad.add j) = some v) (hfit : o + cs.length ≤ cur.length) (h1 : ∀ v ∈ cs, v.oneCell' = true) :
    (Builtin.copy_ #[dT, sT] ty #[.slice (some ⟨g, o, none⟩) dLen dCap, .slice (some ad) sLen sCap]).run P w = .ok (goInt m) (w.setRow g (splice cur o cs).toArray) := by
  subst hm
  have hl := run_loadCells_list (P := P) w ad cs hsrc
  have hst := run_storeCells_at P g o t cs 0 cur.toArray w hg (by simpa using hfit) h1
  cases hq : P.info? elem with
  | none => simp [hq] at hz
  | some i =>
    have hi : i.size = z := by simpa [hq] using hz
    rw [hn] at hl
    simp [Builtin.copy_, run_underlying hu, Builtin.lenOf, Builtin.firstCells, sizeOf, typeInfo, hq, hi, hl, hst, splice]
theorem run_copyz_none (z : Nat) (w : World) (dT sT ty elem : TypeId) (hu : P.underlying dT = some (.slice elem)) (hz : (P.info? elem).map (·.size) = some z) (d a : Option Addr) (dLen dCap sLen sCap : Nat) (hn : Nat.min sLen dLen = 0) :
    (Builtin.copy_ #[dT, sT] ty #[.slice d dLen dCap, .slice a sLen sCap]).run P w = .ok (goInt 0) w := by
  cases hq : P.info? elem with
  | none => simp [hq] at hz
  | some i =>
    have hl : ∀ (x : Addr), (loadCells x 0).run P w = .ok #[] w := fun x => by simpa using run_loadCells_list (P := P) w x [] (by simp)
    cases d <;> cases a <;> simp [Builtin.copy_, run_underlying hu, Builtin.lenOf, Builtin.firstCells, sizeOf, typeInfo, hq, hn, storeCells, hl]
theorem run_copyz_any (z : Nat) (_hz0 : 0 < z) (w : World) (dT sT ty elem : TypeId) (hu : P.underlying dT = some (.slice elem)) (hz : (P.info? elem).map (·.size) = some z) (dp sp : Option Addr) (dLen dCap sLen sCap : Nat)
    (g o : Nat) (cur : List Value) (t : TypeId) (hg : w.heap[g]? = some (.cells cur.toArray t (0, 0))) (m : Nat) (hm : m = Nat.min sLen dLen) (cs : List Value) (hn : cs.length = m * z)
    (hpos : 0 < m → dp = some ⟨g, o, none⟩ ∧ ∃ ad, sp = some ad ∧ ∀ j v, cs[j]? = some v → w.cell? (ad.add j) = some v) (hfit : o + cs.length ≤ cur.length) (h1 : ∀ v ∈ cs, v.oneCell' = true) :
    ∃ w', (Builtin.copy_ #[dT, sT] ty #[.slice dp dLen dCap, .slice sp sLen sCap]).run P w = .ok (goInt m) w' ∧ w'.heap[g]? = some (.cells (splice cur o cs).toArray t (0, 0)) ∧ Only (fun k => k = g) w w' := by
  by_cases h0 : m = 0
  · subst h0
    obtain rfl : cs = [] := List.eq_nil_of_length_eq_zero (by simpa using hn)
    exact ⟨w, run_copyz_none z w dT sT ty elem hu hz dp sp dLen dCap sLen sCap hm.symm, by simpa [splice] using hg, Only.refl _ _⟩
  · obtain ⟨rfl, ad, rfl, hsrc⟩ := hpos (by omega)
    exact ⟨_, run_copyz z w dT sT ty elem hu hz g o dLen dCap ad sLen sCap cur t hg m hm cs hn hsrc hfit h1, setRow_heap w g _ _ t _ hg, (Only.refl (fun k => k = g) w).setRow (g := g) rfl _⟩
theorem wpList_copyz (z : Nat) (_hz0 : 0 < z) {w : World} {ops : Array Oper} {rest : List Oper} {op : Oper} {a : Act} {Q : Exit → Act → World → Prop} (hgd : op.guard = none) (d s : Operand) (dT sT : TypeId)
    (ho : op.op = .call { callee := .builtin .copy, args := #[d, s], argTypes := #[dT, sT] }) (elem : TypeId) (hu : P.underlying dT = some (.slice elem)) (hz : (P.info? elem).map (·.size) = some z)
    (dp sp : Option Addr) (dLen dCap sLen sCap : Nat) (hd : a.eval d = .slice dp dLen dCap) (hs : a.eval s = .slice sp sLen sCap)
    (g o : Nat) (cur : List Value) (t : TypeId) (hg : w.heap[g]? = some (.cells cur.toArray t (0, 0))) (m : Nat) (hm : m = Nat.min sLen dLen) (cs : List Value) (hn : cs.length = m * z)
    (hpos : 0 < m → dp = some ⟨g, o, none⟩ ∧ ∃ ad, sp = some ad ∧ ∀ j v, cs[j]? = some v → w.cell? (ad.add j) = some v) (hfit : o + cs.length ≤ cur.length) (h1 : ∀ v ∈ cs, v.oneCell' = true)
    (h : ∀ w', Hid (w'.heap[g]? = some (.cells (splice cur o cs).toArray t (0, 0))) → Hid (Only (fun k => k = g) w w') → wpList P ops Q rest (a.put op.dst (goInt m)) w') :
    wpList P ops Q (op :: rest) a w := by
  refine wpList_plain hgd fun K hK => ?_
  obtain ⟨w', hrun, hr, hon⟩ := run_copyz_any z _hz0 w dT sT op.type elem hu hz dp sp dLen dCap sLen sCap g o cur t hg m hm cs hn hpos hfit h1
  unfold Oper.wp
  simp [execOp, ho, resolve, invoke, builtin, hd, hs, hrun, Result.andThen]
  exact hK _ _ (h w' hr hon)
end

theorem Try.make_lrs (k : Nat) (hk : k ≤ 65536) (w : World) : (Instr.makeSlice 22 (.int .i64 (k : Int)) (.int .i64 (k : Int))).run Try.prog w =
    .ok (.slice (some ⟨w.heap.size, 0, none⟩) k k) (w.alloc (.cells (madeCells (Value.agg #[.int .u64 0, .int .i64 0, .int .i64 0]).cells (k * 3)) 29)) := by
  obtain ⟨i, hi, hz, hs, hb⟩ := info_parts Try.infoLr
  have := run_make (P := Try.prog) w 22 29 i _ Try.underlying22 hi hz .i64 .i64 (k : Int) (k : Int) (by omega) (Int.le_refl _) (by rw [hb]; omega) (by omega)
  rw [hs] at this
  simpa using this
theorem splice_all (Z : List Value) (X : List Value) (h : Z.length = X.length) : splice Z 0 X = X := by
  simp [splice, h]

set_option maxHeartbeats 400000 in
/-- Recent answers a row of its own. -/
theorem recent_any {w : World} {S : Nat → Prop} {hb mb k : Nat} {D : DataW Unit} {v : Value} {L : List Lr} (h : At w S hb mb k D v L) :
    Calls Try.prog 14 #[.pointer (some ⟨hb, 0, none⟩)] w fun e w' =>
      e = .returned (.slice (some ⟨w.heap.size, 0, none⟩) (kept k L).length (kept k L).length) ∧ w'.heap[w.heap.size]? = some (.cells (lrs (kept k L)).toArray 29 (0, 0)) ∧ Only Nil w w' := by
  have lle : (kept k L).length ≤ 64 := Nat.le_trans (kept_le k L) h.few
  generalize hM : kept k L = M at *
  obtain ⟨a, cap, hv⟩ := own_slice_n h.row
  rw [hM] at hv
  subst hv
  have c2 := h.c2
  have hmk := Try.make_lrs M.length (by omega)
  obtain ⟨Z, hZ⟩ : ∃ Z : List Value, madeCells (Value.agg #[.int .u64 0, .int .i64 0, .int .i64 0]).cells (M.length * 3) = Z.toArray := ⟨_, (by simp : _ = (madeCells (Value.agg #[.int .u64 0, .int .i64 0, .int .i64 0]).cells (M.length * 3)).toList.toArray)⟩
  have hZl : Hid (Z.length = (lrs M).length) := Lib.hid (by
    have : Z.toArray.size = M.length * 3 := by rw [← hZ]; exact size_madeCells _ _
    rw [lrs_length]; simpa using this)
  rw [hZ] at hmk
  clear hZ
  have hA := Lib.hid (h.nil ((Only.refl Nil w).alloc (.cells Z.toArray 29)))
  have k2 := hA.out.c2
  have hg := Lib.hid (heap_new w (.cells Z.toArray 29))
  have ho := Lib.hid ((Only.refl Nil w).alloc (.cells Z.toArray 29))
  have hrl := Lib.hid (lrs_length M)
  obtain ⟨R, hR⟩ : ∃ R, R = lrs M := ⟨_, rfl⟩
  have hR' := Lib.hid hR
  rw [← hR] at hZl hrl ⊢
  have hpos : Hid (∀ sp : Option Addr, sp = a → 0 < M.length → ∃ ad, sp = some ad ∧ ∀ j v, R[j]? = some v → (w.alloc (.cells Z.toArray 29)).cell? (ad.add j) = some v) := by
    rintro sp rfl h0
    have hrow := hA.out.row
    rw [hM] at hrow
    rcases hrow.2 with ⟨_, e⟩ | ⟨g, c, cur, hv, _, hg, _⟩
    · omega
    · simp only [Value.slice.injEq] at hv
      obtain ⟨rfl, _, rfl⟩ := hv
      rw [hR]
      exact ⟨_, rfl, fun j v hj => hrow.cells rfl j v hj⟩
  clear hR h
  generalize hlen : M.length = len at c2 hmk k2 lle hpos hrl ⊢
  clear hlen
  have lle' : (len : Int) ≤ 65536 := by omega
  have hu := Try.underlying22
  go_enter Try.func14, Try.ntmps14
  go_wp2_with (refine wpList_copyz 3 (by decide) rfl (.tmp 10) (.tmp 14) 22 22 rfl 29 hu Try.sizeLr _ _ _ _ _ _ rfl rfl w.heap.size 0 Z 29 ?hg len ?hm R ?hn (fun h0 => ⟨rfl, hpos.out _ rfl h0⟩) ?hfit ?h1 ?_)
  case hg => exact hg.out
  case hm => simp
  case hn => exact hrl.out
  case hfit => rw [hZl.out]; omega
  case h1 => rw [hR'.out]; exact lrs_oneCell M
  intro w2 hg2 ho2
  go_wp2
  go_ret
  refine ⟨rfl, ?_, ho.out.then (ho2.out) (fun i hi hlt => by omega)⟩
  rw [hg2.out, splice_all _ _ hZl.out]
end Go.Proofs.Ytpkphmemeapdfaa.Dd
