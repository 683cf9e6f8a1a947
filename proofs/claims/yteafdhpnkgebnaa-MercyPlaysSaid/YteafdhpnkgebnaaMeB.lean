/- mercy: copies, slices.Insert and slices.Delete at ticks. -/
import Derived.Test.YteafdhpnkgebnaaMeA
import Derived.Lib.Overlaps
import Derived.Lib.AppendZerosOnto
import Derived.Laws.Externs
import Derived.Laws.NewBlocks
set_option linter.unusedSimpArgs false
set_option linter.unusedVariables false
namespace Go.Proofs.Yteafdhpnkgebnaa.Me
open Go.RowKit Go.Proofs.Yteafdhpnkgebnaa

section
variable {P : Program} {s0 : Nat}
/-- copy at elements of two cells. -/
theorem run_copyS (w : World) (dT sT ty elem : TypeId) (hu : P.underlying dT = some (.slice elem)) (hz : (P.info? elem).map (·.size) = some s0) (g o dLen dCap : Nat) (ad : Addr) (sLen sCap : Nat)
    (cur : List Value) (t : TypeId) (hg : w.heap[g]? = some (.cells cur.toArray t (0, 0))) (m : Nat) (hm : m = Nat.min sLen dLen) (cs : List Value) (hn : cs.length = m * s0)
    (hsrc : ∀ j v, cs[j]? = some v → w.cell? (ad.add j) = some v) (hfit : o + cs.length ≤ cur.length) (h1 : ∀ v ∈ cs, v.oneCell' = true) :
    (Builtin.copy_ #[dT, sT] ty #[.slice (some ⟨g, o, none⟩) dLen dCap, .slice (some ad) sLen sCap]).run P w = .ok (goInt m) (w.setRow g (splice cur o cs).toArray) := by
  subst hm
  have hl := run_loadCells_list (P := P) w ad cs hsrc
  have hst := run_storeCells_at P g o t cs 0 cur.toArray w hg (by simpa using hfit) h1
  cases hq : P.info? elem with
  | none => simp [hq] at hz
  | some i =>
    have hi : i.size = s0 := by simpa [hq] using hz
    rw [hn] at hl
    simp [Builtin.copy_, run_underlying hu, Builtin.lenOf, Builtin.firstCells, sizeOf, typeInfo, hq, hi, hl, hst, splice]
theorem run_copyS_none (w : World) (dT sT ty elem : TypeId) (hu : P.underlying dT = some (.slice elem)) (hz : (P.info? elem).map (·.size) = some s0) (d a : Option Addr) (dLen dCap sLen sCap : Nat) (hn : Nat.min sLen dLen = 0) :
    (Builtin.copy_ #[dT, sT] ty #[.slice d dLen dCap, .slice a sLen sCap]).run P w = .ok (goInt 0) w := by
  cases hq : P.info? elem with
  | none => simp [hq] at hz
  | some i =>
    have hl : ∀ (x : Addr), (loadCells x 0).run P w = .ok #[] w := fun x => by simpa using run_loadCells_list (P := P) w x [] (by simp)
    cases d <;> cases a <;> simp [Builtin.copy_, run_underlying hu, Builtin.lenOf, Builtin.firstCells, sizeOf, typeInfo, hq, hn, storeCells, hl]

/-- The same, of a destination and a source that are told only where something goes over. -/
theorem run_copyS_any (w : World) (dT sT ty elem : TypeId) (hu : P.underlying dT = some (.slice elem)) (hz : (P.info? elem).map (·.size) = some s0) (dp sp : Option Addr) (dLen dCap sLen sCap : Nat)
    (g o : Nat) (cur : List Value) (t : TypeId) (hg : w.heap[g]? = some (.cells cur.toArray t (0, 0))) (m : Nat) (hm : m = Nat.min sLen dLen) (cs : List Value) (hn : cs.length = m * s0)
    (hpos : 0 < m → dp = some ⟨g, o, none⟩ ∧ ∃ ad, sp = some ad ∧ ∀ j v, cs[j]? = some v → w.cell? (ad.add j) = some v) (hfit : o + cs.length ≤ cur.length) (h1 : ∀ v ∈ cs, v.oneCell' = true) :
    ∃ w', (Builtin.copy_ #[dT, sT] ty #[.slice dp dLen dCap, .slice sp sLen sCap]).run P w = .ok (goInt m) w' ∧ w'.heap[g]? = some (.cells (splice cur o cs).toArray t (0, 0)) ∧ Only (fun k => k = g) w w' := by
  by_cases h0 : m = 0
  · subst h0
    obtain rfl : cs = [] := List.eq_nil_of_length_eq_zero (by simpa using hn)
    exact ⟨w, run_copyS_none w dT sT ty elem hu hz dp sp dLen dCap sLen sCap hm.symm, by simpa [splice] using hg, Only.refl _ _⟩
  · obtain ⟨rfl, ad, rfl, hsrc⟩ := hpos (by omega)
    exact ⟨_, run_copyS w dT sT ty elem hu hz g o dLen dCap ad sLen sCap cur t hg m hm cs hn hsrc hfit h1, setRow_heap w g _ _ t _ hg, (Only.refl (fun k => k = g) w).setRow (g := g) rfl _⟩

theorem wpList_copyS {w : World} {ops : Array Oper} {rest : List Oper} {op : Oper} {a : Act} {Q : Exit → Act → World → Prop} (hgd : op.guard = none) (d s : Operand) (dT sT : TypeId)
    (ho : op.op = .call { callee := .builtin .copy, args := #[d, s], argTypes := #[dT, sT] }) (elem : TypeId) (hu : P.underlying dT = some (.slice elem)) (hz : (P.info? elem).map (·.size) = some s0)
    (dp sp : Option Addr) (dLen dCap sLen sCap : Nat) (hd : a.eval d = .slice dp dLen dCap) (hs : a.eval s = .slice sp sLen sCap)
    (g o : Nat) (cur : List Value) (t : TypeId) (hg : w.heap[g]? = some (.cells cur.toArray t (0, 0))) (m : Nat) (hm : m = Nat.min sLen dLen) (cs : List Value) (hn : cs.length = m * s0)
    (hpos : 0 < m → dp = some ⟨g, o, none⟩ ∧ ∃ ad, sp = some ad ∧ ∀ j v, cs[j]? = some v → w.cell? (ad.add j) = some v) (hfit : o + cs.length ≤ cur.length) (h1 : ∀ v ∈ cs, v.oneCell' = true)
    (h : ∀ w', Hid (w'.heap[g]? = some (.cells (splice cur o cs).toArray t (0, 0))) → Hid (Only (fun k => k = g) w w') → wpList P ops Q rest (a.put op.dst (goInt m)) w') :
    wpList P ops Q (op :: rest) a w := by
  refine wpList_plain hgd fun K hK => ?_
  obtain ⟨w', hrun, hr, hon⟩ := run_copyS_any w dT sT op.type elem hu hz dp sp dLen dCap sLen sCap g o cur t hg m hm cs hn hpos hfit h1
  unfold Oper.wp
  simp [execOp, ho, resolve, invoke, builtin, hd, hs, hrun, Result.andThen]
  exact hK _ _ (h w' hr hon)

theorem step_copyS {ops : Array Oper} {op : Oper} {a : Act} {w : World} {K : Act → World → Prop} {Q : Exit → Act → World → Prop} {E : Prop} (hgd : op.guard = none) (d s : Operand) (dT sT : TypeId)
    (ho : op.op = .call { callee := .builtin .copy, args := #[d, s], argTypes := #[dT, sT] }) (elem : TypeId) (hu : P.underlying dT = some (.slice elem)) (hz : (P.info? elem).map (·.size) = some s0)
    (dp sp : Option Addr) (dLen dCap sLen sCap : Nat) (hd : a.eval d = .slice dp dLen dCap) (hs : a.eval s = .slice sp sLen sCap)
    (g o : Nat) (cur : List Value) (t : TypeId) (hg : w.heap[g]? = some (.cells cur.toArray t (0, 0))) (m : Nat) (hm : m = Nat.min sLen dLen) (cs : List Value) (hn : cs.length = m * s0)
    (hpos : 0 < m → dp = some ⟨g, o, none⟩ ∧ ∃ ad, sp = some ad ∧ ∀ j v, cs[j]? = some v → w.cell? (ad.add j) = some v) (hfit : o + cs.length ≤ cur.length) (h1 : ∀ v ∈ cs, v.oneCell' = true)
    (h : ∀ w', Hid (w'.heap[g]? = some (.cells (splice cur o cs).toArray t (0, 0))) → Hid (Only (fun k => k = g) w w') → K (a.put op.dst (goInt m)) w') :
    if Region.wanted op (yielded ops a.tmps) = true then Oper.wp P op a w K Q else E := by
  have hw : Region.wanted op (yielded ops a.tmps) = true := by simp [Region.wanted, hgd]
  rw [if_pos hw]
  obtain ⟨w', hrun, hr, hon⟩ := run_copyS_any w dT sT op.type elem hu hz dp sp dLen dCap sLen sCap g o cur t hg m hm cs hn hpos hfit h1
  unfold Oper.wp
  simp [execOp, ho, resolve, invoke, builtin, hd, hs, hrun, Result.andThen]
  exact h w' hr hon
end

theorem Try.infoI : (Try.prog.info? 2).map (fun i => (i.zero, i.size, i.bytes)) = some (some (.int .i64 0), 1, 8) := by kernel_rfl
theorem Try.sizeI : (Try.prog.info? 2).map (·.size) = some 1 := by kernel_rfl
theorem src_one {w : World} {vb : Nat} {t : Int} (hv : w.heap[vb]? = some (.cells #[.int .i64 t] 2 (0, 0))) :
    ∀ j u, [Value.int .i64 t][j]? = some u → w.cell? ((⟨vb, 0, none⟩ : Addr).add j) = some u := by
  intro j u hj
  rw [add_lit0]
  match j, hj with
  | 0, hj => simp at hj; subst hj; simp [World.cell?, hv]
  | j + 1, hj => simp at hj

/-- A region more at the end, with room or without. -/
theorem append_end {w : World} {a : Option Addr} {cap : Nat} {L : List Int} (hown : w.ownsRow 0 2 1 (.slice a L.length cap) L.length (iv L)) (vb : Nat) (t : Int)
    (hv : w.heap[vb]? = some (.cells #[.int .i64 t] 2 (0, 0))) (lle : L.length ≤ 65536) :
    ∃ a' cap' w', (Builtin.append_ #[54, 54] 54 #[.slice a L.length cap, .slice (some ⟨vb, 0, none⟩) 1 1]).run Try.prog w = .ok (.slice a' (L.length + 1) cap') w' ∧
      w'.ownsRow 0 2 1 (.slice a' (L.length + 1) cap') (L.length + 1) (iv (ins L L.length t)) ∧ Only (RowOf a) w w' ∧ SameOrNew w a a' := by
  have hins : iv (ins L L.length t) = iv L ++ [.int .i64 t] := by simp [ins, iv]
  rw [hins]
  obtain ⟨i0, hi0, hz0, hz1, hz2⟩ := info_parts Try.infoI
  have hone : ∀ u ∈ [Value.int .i64 t], u.oneCell' = true := by intro u hu; simp at hu; rcases hu with rfl; rfl
  by_cases hroom : L.length + 1 ≤ cap
  · rcases hown.2 with ⟨e, e2⟩ | ⟨g, c, cur, e, _, _, hc, _⟩
    · simp only [Value.slice.injEq] at e; omega
    · simp only [Value.slice.injEq] at e
      obtain ⟨rfl, _, rfl⟩ := e
      obtain ⟨w', hr, ho, hg⟩ := run_append_fits (P := Try.prog) w 0 54 54 2 i0 1 Try.underlying54 hi0 hz1 g L.length cap (iv L) hown ⟨vb, 0, none⟩ 1 1 [.int .i64 t] rfl (src_one hv) hone hroom
      exact ⟨_, _, w', hr, ho, (Only.ofGrown hg).mono (fun q hq => by simp at hq; exact ⟨_, rfl, hq⟩), fun x hx => .inl ⟨x, hx, rfl⟩⟩
  · obtain rfl : cap = L.length := by
      rcases hown.2 with ⟨e, e2⟩ | ⟨g, c, cur, e, _, _, hc, _⟩
      · simp only [Value.slice.injEq] at e; omega
      · simp only [Value.slice.injEq] at e; omega
    obtain ⟨c', w', hr, ho, hg⟩ := run_append_new (P := Try.prog) w 54 54 2 i0 _ 1 8 Try.underlying54 hi0 hz0 hz1 hz2 rfl a L.length (iv L) hown ⟨vb, 0, none⟩ 1 1 (by decide) [.int .i64 t] rfl (src_one hv) (by unfold maxLen; omega) (by omega)
    exact ⟨_, _, w', hr, ho, hg.nilTo _, fun x hx => .inr (by simp only [Option.some.injEq] at hx; rw [← hx]; exact Nat.le_refl _)⟩

set_option maxHeartbeats 1000000 in
theorem insert_end {w : World} {a : Option Addr} {cap : Nat} {L : List Int} (hown : w.ownsRow 0 2 1 (.slice a L.length cap) L.length (iv L)) (vb : Nat) (t : Int)
    (hv : w.heap[vb]? = some (.cells #[.int .i64 t] 2 (0, 0))) (lle : L.length ≤ 65536) :
    Calls Try.prog 22 #[.slice a L.length cap, .int .i64 (L.length : Int), .slice (some ⟨vb, 0, none⟩) 1 1] w fun e w' =>
      ∃ a' cap', e = .returned (.slice a' (L.length + 1) cap') ∧ w'.ownsRow 0 2 1 (.slice a' (L.length + 1) cap') (L.length + 1) (iv (ins L L.length t)) ∧ Only (RowOf a) w w' ∧ SameOrNew w a a' := by
  obtain ⟨a', cap', w', hr, h1, h2, h3⟩ := append_end hown vb t hv lle
  have fin := Lib.hid (And.intro h1 (And.intro h2 h3))
  have hr' := Lib.hid hr
  have hcap : L.length ≤ cap := by
    rcases hown.2 with ⟨e, e2⟩ | ⟨g, c, cur, e, _, _, hc, _⟩
    · omega
    · simp only [Value.slice.injEq] at e; omega
  clear h1 h2 h3 hr hown hv
  generalize hlen : L.length = len at hr' lle fin hcap ⊢
  clear hlen
  have lle' : (len : Int) ≤ 65536 := by omega
  go_enter Try.func22, Try.ntmps22
  go_wp2_with (at_builtin; refine Lib.wpList_append_run _ rfl (.tmp 23) (.tmp 24) 54 54 rfl _ _ rfl rfl _ _ hr'.out ?_)
  all_goals
    go_ret
    exact ⟨_, _, rfl, fin.out.1, fin.out.2.1, fin.out.2.2⟩
/-- What stands behind the two copies of an insertion: the tail first, then the pair. -/
theorem ins_row (A V D Z : List Value) (p q : Nat) (hZ : p + 1 + q ≤ Z.length) (hA : Z.take p = A) (hV : V.length = 1) (hq : D.length = q) :
    (splice (splice Z (p + 1) D) p V).take (p + 1 + q) = A ++ (V ++ D) := by
  have hl : (splice Z (p + 1) D).length = Z.length := length_splice _ _ _ (by omega)
  have hAl : A.length = p := by rw [← hA]; simp; omega
  apply List.ext_getElem?
  intro j
  rw [List.getElem?_take, splice_get _ _ _ (by rw [hl]; omega), splice_get _ _ _ (by omega), hV, hq]
  by_cases c1 : j < p
  · rw [if_pos (by omega), if_pos c1, if_pos (by omega), List.getElem?_append_left (by omega), ← hA, List.getElem?_take, if_pos c1]
  · rw [List.getElem?_append_right (by omega), hAl]
    by_cases c2 : j < p + 1
    · rw [if_pos (by omega), if_neg c1, if_pos c2, List.getElem?_append_left (by omega)]
    · rw [List.getElem?_append_right (by omega), hV]
      by_cases c3 : j < p + 1 + q
      · rw [if_pos c3, if_neg c1, if_neg c2, if_neg c2, if_pos c3]
        congr 1
      · rw [if_neg c3, List.getElem?_eq_none (by omega)]

/-- .. and the pair first, then the tail. -/
theorem ins_row' (A V D Z : List Value) (p q : Nat) (hZ : p + 1 + q ≤ Z.length) (hA : Z.take p = A) (hV : V.length = 1) (hq : D.length = q) :
    (splice (splice Z p V) (p + 1) D).take (p + 1 + q) = A ++ (V ++ D) := by
  have hl : (splice Z p V).length = Z.length := length_splice _ _ _ (by omega)
  have hAl : A.length = p := by rw [← hA]; simp; omega
  apply List.ext_getElem?
  intro j
  rw [List.getElem?_take, splice_get _ _ _ (by rw [hl]; omega), splice_get _ _ _ (by omega), hV, hq]
  by_cases c1 : j < p
  · rw [if_pos (by omega), if_pos (by omega), if_pos c1, List.getElem?_append_left (by omega), ← hA, List.getElem?_take, if_pos c1]
  · rw [List.getElem?_append_right (by omega), hAl]
    by_cases c2 : j < p + 1
    · rw [if_pos (by omega), if_pos c2, if_neg c1, if_pos c2, List.getElem?_append_left (by omega)]
    · rw [List.getElem?_append_right (by omega), hV]
      by_cases c3 : j < p + 1 + q
      · rw [if_pos c3, if_neg c2, if_pos c3]
        congr 1
      · rw [if_neg c3, List.getElem?_eq_none (by omega)]

theorem iv_ins0 (L : List Int) (i : Nat) (t : Int) : iv (ins L i t) = iv (L.take i) ++ ([.int .i64 t] ++ iv (L.drop i)) := iv_ins L i t

theorem Try.overlaps_no (w : World) (g vb : Nat) (hne : vb ≠ g) (cur : Array Value) (t : Int) (hv : w.heap[vb]? = some (.cells #[.int .i64 t] 2 (0, 0)))
    (hg : w.heap[g]? = some (.cells cur 2 (0, 0))) (hc : cur.size ≠ 0) (o lb cb : Nat) :
    (callFunc 28 #[.slice (some ⟨vb, 0, none⟩) 1 1, .slice (some ⟨g, o, none⟩) lb cb]).run Try.prog w = .ok (.value (.bool false)) w := by
  rw [run_callFunc_extern Try.func28 (by kernel_rfl) (by kernel_rfl) (by kernel_rfl) (e := Extern.SlicesOverlaps.overlaps #[54, 54] #[4]) (by kernel_rfl),
    Lib.run_overlaps_apart w 54 4 2 Try.underlying54 1 Try.sizeOf2 ⟨vb, 0, none⟩ ⟨g, o, none⟩ 1 1 lb cb hne 2 2 1 cur.size (by simp [World.shape?, hv]) (by simp [World.shape?, hg]) hc (by simp [World.frozen?, hv]) (by simp [World.frozen?, hv])]
  rfl

set_option maxHeartbeats 1000000 in
set_option maxRecDepth 100000 in
theorem insert_room {w : World} {g cap : Nat} {L : List Int} (hown : w.ownsRow 0 2 1 (.slice (some ⟨g, 0, none⟩) L.length cap) L.length (iv L)) (vb : Nat) (t : Int)
    (hv : w.heap[vb]? = some (.cells #[.int .i64 t] 2 (0, 0))) (hne : vb ≠ g) (lle : L.length ≤ 65536) (i : Nat) (hi : i < L.length) (hroom : L.length + 1 ≤ cap) :
    Calls Try.prog 22 #[.slice (some ⟨g, 0, none⟩) L.length cap, .int .i64 (i : Int), .slice (some ⟨vb, 0, none⟩) 1 1] w fun e w' =>
      e = .returned (.slice (some ⟨g, 0, none⟩) (L.length + 1) cap) ∧ w'.ownsRow 0 2 1 (.slice (some ⟨g, 0, none⟩) (L.length + 1) cap) (L.length + 1) (iv (ins L i t)) ∧ Only (fun q => q = g) w w' := by
  obtain ⟨cur, hg, hmax, hcs, htake⟩ : ∃ cur : List Value, w.heap[g]? = some (.cells cur.toArray 2 (0, 0)) ∧ cap ≤ maxLen ∧ cur.length = cap ∧ cur.take (L.length) = iv L := by
    rcases hown.2 with ⟨e, e2⟩ | ⟨g', c, cur, e, _, hg, hc, hm, hs, ht⟩
    · simp at e
    · simp only [Value.slice.injEq, Option.some.injEq, Addr.mk.injEq, and_true, true_and] at e
      obtain ⟨rfl, rfl⟩ := e
      exact ⟨cur.toList, by simpa using hg, hm, by simpa using hs, by simpa using ht⟩
  have hov := Try.overlaps_no w g vb hne cur.toArray t hv hg (by rw [List.size_toArray]; omega)
  have hD : ∀ j v, (iv (L.drop i))[j]? = some v → w.cell? ⟨g, i + j, none⟩ = some v := by
    intro j v hj
    rw [← iv_drop, List.getElem?_drop] at hj
    have hlt := (List.getElem?_eq_some_iff.1 hj).1
    rw [iv_length] at hlt
    rw [hown.cellAt _ (by omega)]; exact hj
  have hfinal : ∀ R : List Value, R = splice (splice cur (i + 1) (iv (L.drop i))) (i) [.int .i64 t] → R.length = cap ∧ R.take ((L.length + 1)) = iv (ins L i t) := by
    rintro R rfl
    have hdl : (iv (L.drop i)).length = (L.length - i) := by rw [iv_length]; simp
    constructor
    · rw [length_splice _ _ _ (by rw [length_splice _ _ _ (by omega)]; simp; omega), length_splice _ _ _ (by omega), hcs]
    · rw [iv_ins, show (L.length + 1) = i + 1 + (L.length - i) by omega]
      refine ins_row _ _ _ _ _ _ (by omega) ?_ rfl hdl
      rw [← iv_take, ← htake, List.take_take, Nat.min_eq_left (by omega)]
  have fin := Lib.hid (And.intro hmax hfinal)
  have hg' := Lib.hid hg
  have hv' := Lib.hid hv
  have hD' := Lib.hid hD
  have hcs' := Lib.hid hcs
  have hil := Lib.hid (length_ins L i t)
  have hdl : (iv (L.drop i)).length = (L.length - i) := by rw [iv_length]; simp
  have hdl' := Lib.hid hdl
  have h1D := Lib.hid (iv_one (L.drop i))
  clear hown hg hv hD hfinal hmax htake hcs hdl
  obtain ⟨D, hDe⟩ : ∃ D, D = iv (L.drop i) := ⟨_, rfl⟩
  obtain ⟨R', hR'⟩ : ∃ R', R' = iv (ins L i t) := ⟨_, rfl⟩
  rw [← hDe] at fin hD' hdl' h1D
  rw [← hR'] at fin ⊢
  have hRl : R'.length = (L.length + 1) := by rw [hR', iv_length, length_ins]
  have hRl' := Lib.hid hRl
  clear hDe hR' hRl hil
  generalize L.length = n at *
  have lle' : (n : Int) ≤ 65536 := by omega
  have hi' : (i : Int) < (n : Int) := by omega
  have hz2 : ¬ ((i : Int) = (n : Int)) := by omega
  have hb2 : ¬ (cap = i + 1) := by omega
  have hb4 : ¬ (cap = i) := by omega
  have htn : ((i : Int) + 1).toNat = i + 1 := by omega
  have hw1 : IntKind.i64.wrap ((i : Int) + 1) = (i : Int) + 1 := by rw [IntKind.wrap_i64]; omega
  have hb1 : (0 : Int) ≤ (i : Int) + 1 := by omega
  have hb3 : (i : Int) ≤ (n : Int) := by omega
  have hb5 : i ≤ n := by omega
  have hb6 : (i : Int) ≤ (n : Int) + 1 := by omega
  have hcap63 : (cap : Int) ≤ 9223372036854775807 := by have := fin.out.1; unfold maxLen at this; omega
  have hroom' : ¬ (cap : Int) < (n : Int) + 1 := by omega
  have hu := Try.underlying54
  go_enter Try.func22, Try.ntmps22
  go_wp2_with (simp only [hov])
  go_region_law (refine step_copyS rfl (.tmp 73) (.tmp 76) 54 54 rfl 2 hu Try.sizeI (some ⟨g, (i + 1), none⟩) (some ⟨g, i, none⟩) (n + 1 - (i + 1)) (cap - (i + 1)) (n + 1 - i) (cap - i) (by simp [Act.eval, Act.put]) (by simp [Act.eval, Act.put]) g (i + 1) cur 2 hg'.out (n - i) (by simp only [Nat.min_def]; split <;> omega) D (by rw [hdl'.out]; omega) (fun _ => ⟨by rw [show (i + 1) = i + 1 by omega], _, rfl, fun j v hj => by rw [add_lit0]; exact hD'.out j v hj⟩) (by rw [hdl'.out, hcs'.out]; omega) h1D.out ?_; intro w4 hg4 ho4)
  have hv4 := Lib.hid ((ho4.out.block vb (lt_of_block hv'.out) hne).trans hv'.out)
  go_wp2_with (refine wpList_copyS rfl (.tmp 80) (.tmp 81) 54 54 rfl 2 hu Try.sizeI _ _ _ _ _ _ rfl rfl g (i) (splice cur (i + 1) D) 2 ?hg 1 ?hm [.int .i64 t] rfl (fun _ => ⟨rfl, _, rfl, src_one hv4.out⟩) ?hfit ?h1 ?_)
  case hg => exact hg4.out
  case hm => simp only [Nat.min_def]; split <;> omega
  case hfit => rw [length_splice _ _ _ (by rw [hdl'.out, hcs'.out]; omega), hcs'.out]; simp; omega
  case h1 => intro u hu; simp at hu; rcases hu with rfl; rfl
  intro w5 hg5 ho5
  go_wp2
  go_ret
  obtain ⟨hm, hf⟩ := fin.out
  obtain ⟨f1, f2⟩ := hf _ rfl
  refine ⟨rfl, ⟨by rw [hRl'.out]; omega, .inr ⟨g, cap, _, rfl, Nat.zero_le _, hg5.out, hroom, hm, by simpa using f1, by simpa using f2⟩⟩, ?_⟩
  exact ((Only.refl (fun q => q = g) w).drew.trans ho4.out).trans ho5.out
theorem firstCells_iv {P : Program} {w : World} {g n cap : Nat} {L : List Int} (hown : w.ownsRow 0 2 1 (.slice (some ⟨g, 0, none⟩) L.length cap) L.length (iv L)) (i : Nat) (hi : i ≤ L.length) :
    (Builtin.firstCells 1 i (.slice (some ⟨g, 0, none⟩) i n)).run P w.drew = .ok (iv (L.take i)).toArray w.drew :=
  run_firstCells_some w.drew 1 i ⟨g, 0, none⟩ i n (iv (L.take i)) (by rw [iv_length]; simp; omega) (fun j v hj => by
    rw [add_lit0, Nat.zero_add]
    have hlt := (List.getElem?_eq_some_iff.1 hj).1
    rw [iv_length] at hlt
    simp at hlt
    rw [← iv_take, List.getElem?_take, if_pos (by omega)] at hj
    show w.cell? _ = _
    rw [hown.cellAt _ (by omega)]; exact hj)

/-- The new row of an insertion without room: what stood ahead, then zeros. -/
theorem grow_row {w : World} {g : Nat} {L : List Int} (hown : w.ownsRow 0 2 1 (.slice (some ⟨g, 0, none⟩) L.length L.length) L.length (iv L)) (lle : L.length ≤ 65536) (i : Nat) (hi : i < L.length) :
    ∃ (G : Nat) (Z : List Value) (W : World), (∀ ty, (Builtin.append_ #[54, 3] ty #[.slice (some ⟨g, 0, none⟩) i L.length, .int .i64 ((L.length : Int) + 1 - (i : Int))]).run Try.prog w = .ok (.slice (some ⟨w.heap.size, 0, none⟩) (L.length + 1) G) W) ∧
      W.heap[w.heap.size]? = some (.cells Z.toArray 2 (0, 0)) ∧ Only Nil w W ∧ L.length + 1 ≤ G ∧ G ≤ maxLen ∧ Z.length = G ∧ Z.take (i) = iv (L.take i) := by
  obtain ⟨i0, hi0, hz0, hz1, hz2⟩ := info_parts Try.infoI
  have hold : (Builtin.firstCells i0.size i (.slice (some ⟨g, 0, none⟩) i L.length)).run Try.prog w.drew = .ok (iv (L.take i)).toArray w.drew := by rw [hz1]; exact firstCells_iv hown i (by omega)
  have hik : i + (L.length + 1 - i) = L.length + 1 := by omega
  have hrz : ∀ ty, _ := fun ty => Lib.run_append_grow_zeros (P := Try.prog) w 54 3 ty 2 i0 _ .i64 .i64 Try.underlying54 Try.underlying3 hi0 hz0 (some ⟨g, 0, none⟩) i L.length (iv (L.take i)) hold (L.length + 1 - i) (by omega) (by omega) (by omega) (by omega) (by rw [hz2]; omega) (by rw [hz2, hik]; exact growslice_fits (by omega) (by omega))
  rw [hik] at hrz
  have hG := grownCap_ge w (L.length + 1) L.length 2
  have hM : grownCap w (L.length + 1) L.length 2 ≤ maxLen := grownCap_le_maxLen w _ _ _ (by unfold maxLen; omega)
  generalize grownCap w (L.length + 1) L.length 2 = G at hrz hG hM
  have e2 : (iv (L.take i)).length = i := by rw [iv_length]; simp; omega
  have e : ∀ q, (Builtin.zeroCells (Value.int .i64 0).cells q).size = q := fun q => (size_zeroCells _ _).trans (Nat.mul_one q)
  obtain ⟨Y, hY⟩ : ∃ Y : Array Value, Y = (iv (L.take i)).toArray ++ Builtin.zeroCells (Value.int .i64 0).cells (L.length + 1 - i) ++ Builtin.zeroCells (Value.int .i64 0).cells (G - (L.length + 1)) := ⟨_, rfl⟩
  rw [← hY] at hrz
  refine ⟨G, Y.toList, w.drew.alloc (.cells Y 2), fun ty => ?_, ?_, (Only.refl Nil w).drew.alloc _, hG, hM, ?_, ?_⟩
  · have := hrz ty
    rw [show (L.length : Int) + 1 - (i : Int) = ((L.length + 1 - i : Nat) : Int) by omega]
    exact this
  · simp only [Array.toArray_toList]; exact heap_new w.drew _
  · simp only [hY, Array.length_toList, Array.size_append, List.size_toArray, e, e2]
    omega
  · simp only [hY, Array.toList_append, List.append_assoc]
    rw [List.take_append_of_le_length (by omega), List.take_of_length_le (by omega)]

set_option maxHeartbeats 1000000 in
set_option maxRecDepth 100000 in
theorem insert_grow {w : World} {g : Nat} {L : List Int} (hown : w.ownsRow 0 2 1 (.slice (some ⟨g, 0, none⟩) L.length L.length) L.length (iv L)) (vb : Nat) (t : Int)
    (hv : w.heap[vb]? = some (.cells #[.int .i64 t] 2 (0, 0))) (lle : L.length ≤ 65536) (i : Nat) (hi : i < L.length) :
    Calls Try.prog 22 #[.slice (some ⟨g, 0, none⟩) L.length L.length, .int .i64 (i : Int), .slice (some ⟨vb, 0, none⟩) 1 1] w fun e w' =>
      ∃ cap', e = .returned (.slice (some ⟨w.heap.size, 0, none⟩) (L.length + 1) cap') ∧ w'.ownsRow 0 2 1 (.slice (some ⟨w.heap.size, 0, none⟩) (L.length + 1) cap') (L.length + 1) (iv (ins L i t)) ∧ Only Nil w w' := by
  obtain ⟨G, Z, W, hrz, hWg, hWo, hG, hM, hZl, hZt⟩ := grow_row hown lle i hi
  have hgl : g < w.heap.size := by
    have := hown.lt g rfl; exact this.2
  have hgW : W.heap[g]? = w.heap[g]? := hWo.block g hgl (fun h => h)
  have hvW := Lib.hid ((hWo.block vb (lt_of_block hv) (fun h => h)).trans hv)
  have hD : ∀ (w' : World), w'.heap[g]? = W.heap[g]? → ∀ j v, (iv (L.drop i))[j]? = some v → w'.cell? ⟨g, i + j, none⟩ = some v := by
    intro w' e j v hj
    rw [← iv_drop, List.getElem?_drop] at hj
    have hlt := (List.getElem?_eq_some_iff.1 hj).1
    rw [iv_length] at hlt
    rw [World.cell?_of_block (a := ⟨g, i + j, none⟩) (e.trans hgW), hown.cellAt _ (by omega)]; exact hj
  have hfinal : ∀ R : List Value, R = splice (splice Z (i) [.int .i64 t]) (i + 1) (iv (L.drop i)) → R.length = G ∧ R.take ((L.length + 1)) = iv (ins L i t) := by
    rintro R rfl
    have hdl : (iv (L.drop i)).length = (L.length - i) := by rw [iv_length]; simp
    constructor
    · rw [length_splice _ _ _ (by rw [length_splice _ _ _ (by simp; omega)]; omega), length_splice _ _ _ (by simp; omega), hZl]
    · rw [iv_ins, show (L.length + 1) = i + 1 + (L.length - i) by omega]
      exact ins_row' _ _ _ _ _ _ (by omega) hZt rfl hdl
  have fin := Lib.hid (And.intro hM hfinal)
  have hWg' := Lib.hid hWg
  have hWo' := Lib.hid hWo
  have hD' := Lib.hid hD
  have hZl' := Lib.hid hZl
  have hrz' := Lib.hid hrz
  have hdl : (iv (L.drop i)).length = (L.length - i) := by rw [iv_length]; simp
  have hdl' := Lib.hid hdl
  have h1D := Lib.hid (iv_one (L.drop i))
  clear hown hWg hWo hv hD hfinal hZt hZl hdl hrz hgW hM
  obtain ⟨D, hDe⟩ : ∃ D, D = iv (L.drop i) := ⟨_, rfl⟩
  obtain ⟨R', hR'⟩ : ∃ R', R' = iv (ins L i t) := ⟨_, rfl⟩
  rw [← hDe] at fin hD' hdl' h1D
  rw [← hR'] at fin ⊢
  have hRl : R'.length = (L.length + 1) := by rw [hR', iv_length, length_ins]
  have hRl' := Lib.hid hRl
  clear hDe hR' hRl
  generalize L.length = n at *
  have hvl := lt_of_block hvW.out
  have hne2 : g ≠ w.heap.size := by omega
  have hNW : w.heap.size < W.heap.size := lt_of_block hWg'.out
  have lle' : (n : Int) ≤ 65536 := by omega
  have hi' : (i : Int) < (n : Int) := by omega
  have hz2 : ¬ ((i : Int) = (n : Int)) := by omega
  have hGi : ¬ (G = i) := by omega
  have hGim : ¬ (G = i + 1) := by omega
  have hb4 : ¬ (n = i) := by omega
  have htn : ((i : Int) + 1).toNat = i + 1 := by omega
  have hw1 : IntKind.i64.wrap ((i : Int) + 1) = (i : Int) + 1 := by rw [IntKind.wrap_i64]; omega
  have hb1 : (0 : Int) ≤ (i : Int) + 1 := by omega
  have hb3 : (i : Int) ≤ (n : Int) := by omega
  have hb5 : i ≤ n := by omega
  have hb6 : (i : Int) ≤ (n : Int) + 1 := by omega
  have hG63 : (G : Int) ≤ 9223372036854775807 := by have := fin.out.1; unfold maxLen at this; omega
  have hu := Try.underlying54
  go_enter Try.func22, Try.ntmps22
  go_wp2_with (first
    | (at_builtin; refine Lib.wpList_append_run _ rfl (.tmp 34) (.tmp 39) 54 3 rfl _ _ rfl rfl _ _ (hrz'.out _) ?_)
    | (refine wpList_copyS rfl (.tmp 43) (.tmp 44) 54 54 rfl 2 hu Try.sizeI _ _ _ _ _ _ rfl rfl w.heap.size (i) Z 2 ?hg 1 ?hm [.int .i64 t] rfl (fun _ => ⟨rfl, _, rfl, src_one hvW.out⟩) ?hfit ?h1 ?_))
  case hg => exact hWg'.out
  case hm => simp only [Nat.min_def]; split <;> omega
  case hfit => rw [hZl'.out]; simp; omega
  case h1 => intro u hu; simp at hu; rcases hu with rfl; rfl
  intro w4 hg4 ho4
  have hgW4 := Lib.hid (hD'.out w4 (ho4.out.block g (by omega) hne2))
  go_wp2
  go_region_law (refine step_copyS rfl (.tmp 50) (.tmp 53) 54 54 rfl 2 hu Try.sizeI (some ⟨w.heap.size, (i + 1), none⟩) (some ⟨g, i, none⟩) (n + 1 - (i + 1)) (G - (i + 1)) (n - i) (n - i) (by simp [Act.eval, Act.put]) (by simp [Act.eval, Act.put]) w.heap.size (i + 1) (splice Z (i) [.int .i64 t]) 2 hg4.out (n - i) (by simp only [Nat.min_def]; split <;> omega) D (by rw [hdl'.out]; omega) (fun _ => ⟨by rw [show (i + 1) = i + 1 by omega], _, rfl, fun j v hj => by rw [add_lit0]; exact hgW4.out j v hj⟩) (by rw [length_splice _ _ _ (by simp; rw [hZl'.out]; omega), hdl'.out, hZl'.out]; omega) h1D.out ?_; intro w5 hg5 ho5)
  go_wp2
  go_ret
  obtain ⟨hm, hf⟩ := fin.out
  obtain ⟨f1, f2⟩ := hf _ rfl
  refine ⟨G, rfl, ⟨by rw [hRl'.out]; omega, .inr ⟨w.heap.size, G, _, rfl, Nat.zero_le _, hg5.out, hG, hm, by simpa using f1, by simpa using f2⟩⟩, ?_⟩
  exact ((hWo'.out.then ho4.out (fun q hq hl => by omega)).drew).then ho5.out (fun q hq hl => by omega)

/-- slices.Insert of one region, wherever. -/
theorem insert_any {w : World} {a : Option Addr} {cap : Nat} {L : List Int} (hown : w.ownsRow 0 2 1 (.slice a L.length cap) L.length (iv L)) (vb : Nat) (t : Int)
    (hv : w.heap[vb]? = some (.cells #[.int .i64 t] 2 (0, 0))) (hne : ∀ x, a = some x → x.block ≠ vb) (lle : L.length ≤ 65536) (i : Nat) (hi : i ≤ L.length) :
    Calls Try.prog 22 #[.slice a L.length cap, .int .i64 (i : Int), .slice (some ⟨vb, 0, none⟩) 1 1] w fun e w' =>
      ∃ a' cap', e = .returned (.slice a' (L.length + 1) cap') ∧ w'.ownsRow 0 2 1 (.slice a' (L.length + 1) cap') (L.length + 1) (iv (ins L i t)) ∧ Only (RowOf a) w w' ∧ SameOrNew w a a' := by
  by_cases h : i = L.length
  · subst h; exact insert_end hown vb t hv lle
  · obtain ⟨g, rfl, hcap⟩ : ∃ g, a = some ⟨g, 0, none⟩ ∧ L.length ≤ cap := by
      rcases hown.2 with ⟨e, e2⟩ | ⟨g, c, cur, e, _, _, hc, _⟩
      · omega
      · simp only [Value.slice.injEq] at e; obtain ⟨rfl, _, rfl⟩ := e; exact ⟨g, rfl, hc⟩
    by_cases hr : L.length + 1 ≤ cap
    · refine (insert_room hown vb t hv (fun e => hne _ rfl e.symm) lle i (by omega) hr).mono ?_
      rintro e w' ⟨rfl, h1, h2⟩
      exact ⟨_, _, rfl, h1, h2.mono (fun q hq => ⟨_, rfl, hq⟩), fun x hx => .inl ⟨x, hx, rfl⟩⟩
    · obtain rfl : cap = L.length := by omega
      refine (insert_grow hown vb t hv lle i (by omega)).mono ?_
      rintro e w' ⟨cap', rfl, h1, h2⟩
      exact ⟨_, _, rfl, h1, h2.nilTo _, fun x hx => .inr (by simp only [Option.some.injEq] at hx; rw [← hx]; exact Nat.le_refl _)⟩
/-- append of a slice to one that has room, in a row that is known whole, as one step of a region that draws its order. -/
theorem step_append_row {P : Program} {ops : Array Oper} {o : Oper} {a : Act} {w : World} {K : Act → World → Prop} {Q : Exit → Act → World → Prop} {E : Prop}
    (hgd : o.guard = none) (s x : Operand) (t : TypeId) (hop : o.op = Op.call { callee := Callee.builtin Builtin.append, args := #[s, x], argTypes := #[t, t] })
    (e : TypeId) (hu : P.underlying t = some (.slice e)) (hz : (P.info? e).map (·.size) = some 1) (g n cap : Nat) (hs : a.eval s = .slice (some ⟨g, 0, none⟩) n cap)
    (ad : Addr) (m c : Nat) (hx : a.eval x = .slice (some ad) m c) (cur : List Value) (hg : w.heap[g]? = some (.cells cur.toArray e (0, 0))) (cs : List Value) (hn : cs.length = m * 1)
    (hsrc : ∀ j v, cs[j]? = some v → w.cell? (ad.add j) = some v) (h1 : ∀ v ∈ cs, v.oneCell' = true) (hroom : n + m ≤ cap) (r : Nat) (hr : r = n + m) (hfit : n * 1 + cs.length ≤ cur.length)
    (h : ∀ w', Hid (w'.heap[g]? = some (.cells (splice cur (n * 1) cs).toArray e (0, 0))) → Hid (Only (fun k => k = g) w w') → K (a.put o.dst (.slice (some ⟨g, 0, none⟩) r cap)) w') :
    if Region.wanted o (yielded ops a.tmps) = true then Oper.wp P o a w K Q else E := by
  subst hr
  have hw : Region.wanted o (yielded ops a.tmps) = true := by simp [Region.wanted, hgd]
  rw [if_pos hw]
  obtain ⟨i, hi, hsz⟩ := Option.map_eq_some_iff.1 hz
  have hrun := run_append_room (P := P) w t o.type e i hu hi g n cap cur.toArray hg ad m c cs (by rw [hsz]; exact hn) hsrc h1 hroom (by rw [hsz]; simpa using hfit)
  rw [hsz] at hrun
  unfold Oper.wp
  simp [execOp, hop, resolve, invoke, builtin, hs, hx, hrun, Result.andThen]
  refine h _ ?_ ?_
  · show _ = _
    rw [setRow_heap w g _ _ e _ hg]
    simp [splice]
  · exact (Only.refl (fun k => k = g) w).setRow (g := g) rfl _

theorem run_clear1 {P : Program} (w : World) (t e ty : TypeId) (hu : P.underlying t = some (.slice e)) (hv : ∀ w, (zeroValue e).run P w = .ok (.int .i64 0) w) (g o c : Nat)
    (cur : List Value) (te : TypeId) (hg : w.heap[g]? = some (.cells cur.toArray te (0, 0))) (hfit : o + 1 ≤ cur.length) :
    (Builtin.clear_ #[t] ty #[.slice (some ⟨g, o, none⟩) 1 c]).run P w = .ok (.tuple #[]) (w.setRow g (splice cur o [.int .i64 0]).toArray) := by
  have hst := run_storeCells_at P g o te [.int .i64 0] 0 cur.toArray w hg (by simpa using hfit) (by intro v hv; simp at hv; rcases hv with rfl; rfl)
  have hzc : (Builtin.zeroCells (Value.int .i64 0).cells 1).toList = [.int .i64 0] := by kernel_rfl
  simp [Builtin.clear_, run_underlying hu, hv, hzc, hst, splice]

/-- What the row holds behind a deletion. -/
theorem del_row (L : List Int) (cur : List Value) (cap i : Nat) (hc : cur.length = cap) (hl : L.length ≤ cap) (ht : cur.take L.length = iv L) (hi : i < L.length) :
    (splice (splice cur i (iv (L.drop (i + 1)))) (L.length - 1) [.int .i64 0]).length = cap ∧
    (splice (splice cur i (iv (L.drop (i + 1)))) (L.length - 1) [.int .i64 0]).take (L.length - 1) = iv (L.eraseIdx i) := by
  have hdl : (iv (L.drop (i + 1))).length = L.length - 1 - i := by rw [iv_length]; simp; omega
  have h1 : (splice cur i (iv (L.drop (i + 1)))).length = cap := by rw [length_splice _ _ _ (by omega), hc]
  refine ⟨by rw [length_splice _ _ _ (by simp; omega), h1], ?_⟩
  have hA : (iv (L.take i)).length = i := by rw [iv_length]; simp; omega
  rw [iv_erase]
  apply List.ext_getElem?
  intro j
  rw [List.getElem?_take, splice_get _ _ _ (by simp; omega), splice_get _ _ _ (by omega)]
  have ht2 : iv (L.take i) = cur.take i := by
    have : iv (L.take i) = (iv L).take i := by simp [iv, List.map_take]
    rw [this, ← ht, List.take_take, Nat.min_eq_left (by omega)]
  by_cases c1 : j < i
  · rw [if_pos (by omega), if_pos (by omega), if_pos c1, List.getElem?_append_left (by omega), ht2, List.getElem?_take, if_pos c1]
  · rw [List.getElem?_append_right (by omega), hA]
    by_cases c2 : j < L.length - 1
    · rw [if_pos c2, if_pos c2, if_neg c1, if_pos (by omega)]
    · rw [if_neg c2, List.getElem?_eq_none (by omega)]


set_option maxHeartbeats 1000000 in
set_option maxRecDepth 100000 in
theorem delete_any {w : World} {base : Nat} {v : Value} {L : List Int} (hown : w.ownsRow base 2 1 v L.length (iv L)) (lle : L.length ≤ 65536) (i : Nat) (hi : i < L.length) :
    Calls Try.prog 23 #[v, .int .i64 (i : Int), .int .i64 ((i : Int) + 1)] w fun e w' =>
      ∃ u, e = .returned u ∧ Hid (w'.ownsRow base 2 1 u (L.length - 1) (iv (L.eraseIdx i))) ∧ Only (fun q => some q = v.ownBlock) w w' ∧ u.ownBlock = v.ownBlock := by
  obtain ⟨g, cap, cur, rfl, hbase, hg, hle, hmax, hcs, htake⟩ : ∃ g cap, ∃ cur : List Value, v = .slice (some ⟨g, 0, none⟩) L.length cap ∧ base ≤ g ∧ w.heap[g]? = some (.cells cur.toArray 2 (0, 0)) ∧ L.length ≤ cap ∧ cap ≤ maxLen ∧ cur.length = cap ∧ cur.take L.length = iv L := by
    rcases hown.2 with ⟨e, e2⟩ | ⟨g', c, cur, e, hb, hg, hc, hm, hs, ht⟩
    · omega
    · exact ⟨g', c, cur.toList, e, hb, by simpa using hg, hc, hm, by simpa using hs, by simpa using ht⟩
  have hD : ∀ j v, (iv (L.drop (i + 1)))[j]? = some v → w.cell? ⟨g, (i + 1) + j, none⟩ = some v := by
    intro j v hj
    have e : iv (L.drop (i + 1)) = (iv L).drop (i + 1) := by simp [iv, List.map_drop]
    rw [e, List.getElem?_drop] at hj
    have hlt := (List.getElem?_eq_some_iff.1 hj).1
    rw [iv_length] at hlt
    rw [hown.cellAt _ (by omega)]; exact hj
  have hrow := del_row L cur cap i hcs hle htake hi
  have hdl : (iv (L.drop (i + 1))).length = L.length - (i + 1) := by rw [iv_length]; simp
  have hRl : (iv (L.eraseIdx i)).length = L.length - 1 := by rw [iv_length, List.length_eraseIdx, if_pos hi]
  have hrow' := Lib.hid hrow
  have hg' := Lib.hid hg
  have hD' := Lib.hid hD
  have hcs' := Lib.hid hcs
  have hdl' := Lib.hid hdl
  have hRl' := Lib.hid hRl
  have hbase' := Lib.hid hbase
  have h1D := Lib.hid (iv_one (L.drop (i + 1)))
  have hmax' := Lib.hid hmax
  clear hown hg hD htake hcs hdl hRl hrow hmax hbase
  obtain ⟨D, hDe⟩ : ∃ D, D = iv (L.drop (i + 1)) := ⟨_, rfl⟩
  obtain ⟨R', hR'⟩ : ∃ R', R' = iv (L.eraseIdx i) := ⟨_, rfl⟩
  rw [← hDe] at hrow' hD' hdl' h1D
  rw [← hR'] at hrow' hRl' ⊢
  clear hDe hR'
  generalize L.length = n at *
  have hA : ∃ A : Addr, (if cap = i + 1 then (some ⟨g, 0, none⟩ : Option Addr) else some ⟨g, i + 1, none⟩) = some A ∧ Hid (∀ j v, D[j]? = some v → w.drew.cell? (A.add j) = some v) := by
    by_cases h : cap = i + 1
    · refine ⟨⟨g, 0, none⟩, by simp [h], fun j v hj => ?_⟩
      have h0 : D.length = 0 := by rw [hdl'.out]; omega
      rw [List.length_eq_zero_iff.1 h0] at hj
      simp at hj
    · exact ⟨⟨g, i + 1, none⟩, by simp [h], fun j v hj => by rw [add_lit0]; exact hD'.out j v hj⟩
  obtain ⟨A, hA1, hA2⟩ := hA
  have lle' : (n : Int) ≤ 65536 := by omega
  have hi' : (i : Int) < (n : Int) := by omega
  have hw1 : IntKind.i64.wrap ((i : Int) + 1) = (i : Int) + 1 := by rw [IntKind.wrap_i64]; omega
  have htn : ((i : Int) + 1).toNat = i + 1 := by omega
  have hb1 : (0 : Int) ≤ (i : Int) + 1 := by omega
  have hb3 : (i : Int) + 1 ≤ (n : Int) := by omega
  have hb5 : i + 1 ≤ n := by omega
  have hb6 : i ≤ cap := by omega
  have hb7 : i + 1 ≤ cap := by omega
  have hcap63 : (cap : Int) ≤ 9223372036854775807 := by have := hmax'.out; unfold maxLen at this; omega
  have hb8 : ¬ (cap = n - 1) := by omega
  have hb9 : ¬ (n = i) := by omega
  have hb11 : n - 1 ≤ n := by omega
  have hb12 : n - 1 ≤ cap := by omega
  have hb13 : ((n - 1 : Nat) : Int) ≤ (n : Int) := by omega
  have hb14 : n - (n - 1) = 1 := by omega
  have hu := Try.underlying54
  go_enter Try.func23, Try.ntmps23
  go_wp2
  go_region_law (refine step_append_row rfl (.tmp 22) (.tmp 25) 54 rfl 2 hu Try.sizeI g i cap (by simp [Act.eval, Act.put]) A (n - (i + 1)) (cap - (i + 1)) (by simp [Act.eval, Act.put]) cur hg'.out D (by rw [hdl'.out]; omega) hA2.out h1D.out (by omega) (n - 1) (by omega) (by rw [hdl'.out, hcs'.out]; omega) ?_; rw [Nat.mul_one]; intro w4 hg4 ho4)
  have hcl : ∀ ty c, _ := fun ty c => run_clear1 (P := Try.prog) w4 54 2 ty hu Try.zeroValue2 g (n - 1) c _ _ hg4.out (by rw [length_splice _ _ _ (by rw [hdl'.out, hcs'.out]; omega), hcs'.out]; omega)
  have hg5 := Lib.hid (setRow_heap w4 g _ (splice (splice cur i D) (n - 1) [.int .i64 0]).toArray _ _ hg4.out)
  have ho5 := Lib.hid ((Only.refl (fun k => k = g) w4).setRow (g := g) rfl (splice (splice cur i D) (n - 1) [.int .i64 0]).toArray)
  generalize w4.setRow g (splice (splice cur i D) (n - 1) [.int .i64 0]).toArray = w5 at hcl hg5 ho5
  go_wp2
  go_ret
  refine ⟨_, rfl, Lib.hid ⟨by rw [hRl'.out]; omega, .inr ⟨g, cap, _, rfl, hbase'.out, hg5.out, hb12, hmax'.out, by simpa using hrow'.out.1, by simpa using hrow'.out.2⟩⟩, ?_, rfl⟩
  refine (((Only.refl (fun q => q = g) w).drew.trans ho4.out).trans ho5.out).mono (fun q hq => ?_)
  subst hq; rfl
end Go.Proofs.Yteafdhpnkgebnaa.Me
