/- Give, by contracts: slices.Delete; Give. -/
import Derived.Test.YtgpagfgedimjeaaAreaJ
namespace Go.Proofs.Ytgpagfgedimjeaa
open Go.RowKit

/-- append of a slice to one that has room, in a row that is known whole, as one step of a region that draws its order. -/
theorem step_append_row {P : Program} {ops : Array Oper} {o : Oper} {a : Act} {w : World} {K : Act → World → Prop} {Q : Exit → Act → World → Prop} {E : Prop}
    (hgd : o.guard = none) (s x : Operand) (t : TypeId) (hop : o.op = Op.call { callee := Callee.builtin Builtin.append, args := #[s, x], argTypes := #[t, t] })
    (e : TypeId) (hu : P.underlying t = some (.slice e)) (hz : (P.info? e).map (·.size) = some 2) (g n cap : Nat) (hs : a.eval s = .slice (some ⟨g, 0, none⟩) n cap)
    (ad : Addr) (m c : Nat) (hx : a.eval x = .slice (some ad) m c) (cur : List Value) (hg : w.heap[g]? = some (.cells cur.toArray e (0, 0))) (cs : List Value) (hn : cs.length = m * 2)
    (hsrc : ∀ j v, cs[j]? = some v → w.cell? (ad.add j) = some v) (h1 : ∀ v ∈ cs, v.oneCell' = true) (hroom : n + m ≤ cap) (r : Nat) (hr : r = n + m) (hfit : n * 2 + cs.length ≤ cur.length)
    (h : ∀ w', Hid (w'.heap[g]? = some (.cells (splice cur (n * 2) cs).toArray e (0, 0))) → Hid (Only (fun k => k = g) w w') → K (a.put o.dst (.slice (some ⟨g, 0, none⟩) r cap)) w') :
    if Region.wanted o (yielded ops a.tmps) = true then Oper.wp P o a w K Q else E := by
  subst hr
  have hw : Region.wanted o (yielded ops a.tmps) = true := by simp [Region.wanted, hgd]
  rw [if_pos hw]
  obtain ⟨i, hi, hsz⟩ := Option.map_eq_some_iff.1 hz
  have hrun := run_append_room (P := P) w t o.type e i hu hi g n cap cur.toArray hg ad m c cs (by rw [hsz]; exact hn) hsrc h1 hroom (by rw [hsz]; simpa using hfit)
  rw [hsz] at hrun
  unfold Oper.wp
  simp [execOp, hop, resolve, invoke, builtin, hs, hx, hrun, Result.andThen]
  refine h _ ?_ ?_
  · show _ = _
    rw [setRow_heap w g _ _ e _ hg]
    simp [splice]
  · exact (Only.refl (fun k => k = g) w).setRow (g := g) rfl _

theorem run_clear2 {P : Program} (w : World) (t e ty : TypeId) (hu : P.underlying t = some (.slice e)) (hv : ∀ w, (zeroValue e).run P w = .ok (.agg #[.int .i64 0, .int .i64 0]) w) (g o c : Nat)
    (cur : List Value) (te : TypeId) (hg : w.heap[g]? = some (.cells cur.toArray te (0, 0))) (hfit : o + 2 ≤ cur.length) :
    (Builtin.clear_ #[t] ty #[.slice (some ⟨g, o, none⟩) 1 c]).run P w = .ok (.tuple #[]) (w.setRow g (splice cur o [.int .i64 0, .int .i64 0]).toArray) := by
  have hst := run_storeCells_at P g o te [.int .i64 0, .int .i64 0] 0 cur.toArray w hg (by simpa using hfit) (by intro v hv; simp at hv; rcases hv with rfl | rfl <;> rfl)
  have hzc : (Builtin.zeroCells (Value.agg #[.int .i64 0, .int .i64 0]).cells 1).toList = [.int .i64 0, .int .i64 0] := by kernel_rfl
  simp [Builtin.clear_, run_underlying hu, hv, hzc, hst, splice]

/-- What the row holds behind a deletion. -/
theorem del_row (L : List Reg) (cur : List Value) (cap i : Nat) (hc : cur.length = cap * 2) (hl : L.length ≤ cap) (ht : cur.take (L.length * 2) = regs L) (hi : i < L.length) :
    (splice (splice cur (i * 2) (regs (L.drop (i + 1)))) ((L.length - 1) * 2) [.int .i64 0, .int .i64 0]).length = cap * 2 ∧
    (splice (splice cur (i * 2) (regs (L.drop (i + 1)))) ((L.length - 1) * 2) [.int .i64 0, .int .i64 0]).take ((L.length - 1) * 2) = regs (del L i) := by
  have hdl : (regs (L.drop (i + 1))).length = (L.length - 1 - i) * 2 := by rw [regs_length]; simp; omega
  have h1 : (splice cur (i * 2) (regs (L.drop (i + 1)))).length = cap * 2 := by rw [length_splice _ _ _ (by omega), hc]
  refine ⟨by rw [length_splice _ _ _ (by simp; omega), h1], ?_⟩
  have hA : (regs (L.take i)).length = i * 2 := by rw [regs_length]; simp; omega
  rw [del, regs_append]
  apply List.ext_getElem?
  intro j
  rw [List.getElem?_take, splice_get _ _ _ (by simp; omega), splice_get _ _ _ (by omega)]
  by_cases c1 : j < i * 2
  · rw [if_pos (by omega), if_pos (by omega), if_pos c1, List.getElem?_append_left (by omega), ← regs_take, ← ht, List.take_take, List.getElem?_take, if_pos (by omega)]
  · rw [List.getElem?_append_right (by omega), hA]
    by_cases c2 : j < (L.length - 1) * 2
    · rw [if_pos c2, if_pos c2, if_neg c1, if_pos (by omega)]
    · rw [if_neg c2, List.getElem?_eq_none (by omega)]

set_option maxHeartbeats 1000000 in
set_option maxRecDepth 100000 in
theorem delete_any {w : World} {g cap : Nat} {L : List Reg} (hown : w.ownsRow 0 47 2 (.slice (some ⟨g, 0, none⟩) L.length cap) L.length (regs L)) (lle : L.length ≤ 65536) (i : Nat) (hi : i < L.length) :
    Calls Try.prog 27 #[.slice (some ⟨g, 0, none⟩) L.length cap, .int .i64 (i : Int), .int .i64 ((i : Int) + 1)] w fun e w' =>
      e = .returned (.slice (some ⟨g, 0, none⟩) (L.length - 1) cap) ∧ w'.ownsRow 0 47 2 (.slice (some ⟨g, 0, none⟩) (L.length - 1) cap) (L.length - 1) (regs (del L i)) ∧ Only (fun q => q = g) w w' := by
  obtain ⟨cur, hg, hle, hmax, hcs, htake⟩ : ∃ cur : List Value, w.heap[g]? = some (.cells cur.toArray 47 (0, 0)) ∧ L.length ≤ cap ∧ cap ≤ maxLen ∧ cur.length = cap * 2 ∧ cur.take (L.length * 2) = regs L := by
    rcases hown.2 with ⟨e, e2⟩ | ⟨g', c, cur, e, _, hg, hc, hm, hs, ht⟩
    · simp at e
    · simp only [Value.slice.injEq, Option.some.injEq, Addr.mk.injEq, and_true, true_and] at e
      obtain ⟨rfl, rfl⟩ := e
      exact ⟨cur.toList, by simpa using hg, hc, hm, by simpa using hs, ht⟩
  have hD : ∀ j v, (regs (L.drop (i + 1)))[j]? = some v → w.cell? ⟨g, (i + 1) * 2 + j, none⟩ = some v := by
    intro j v hj
    rw [← regs_drop, List.getElem?_drop] at hj
    have hlt := (List.getElem?_eq_some_iff.1 hj).1
    rw [regs_length] at hlt
    rw [hown.cellAt _ hlt]; exact hj
  have hrow := del_row L cur cap i hcs hle htake hi
  have hdl : (regs (L.drop (i + 1))).length = (L.length - (i + 1)) * 2 := by rw [regs_length]; simp
  have hRl : (regs (del L i)).length = (L.length - 1) * 2 := by rw [regs_length, length_del _ _ hi]
  have hrow' := Lib.hid hrow
  have hg' := Lib.hid hg
  have hD' := Lib.hid hD
  have hcs' := Lib.hid hcs
  have hdl' := Lib.hid hdl
  have hRl' := Lib.hid hRl
  have h1D := Lib.hid (regs_one (L.drop (i + 1)))
  have hmax' := Lib.hid hmax
  clear hown hg hD htake hcs hdl hRl hrow hmax
  obtain ⟨D, hDe⟩ : ∃ D, D = regs (L.drop (i + 1)) := ⟨_, rfl⟩
  obtain ⟨R', hR'⟩ : ∃ R', R' = regs (del L i) := ⟨_, rfl⟩
  rw [← hDe] at hrow' hD' hdl' h1D
  rw [← hR'] at hrow' hRl' ⊢
  clear hDe hR'
  generalize L.length = n at *
  have hA : ∃ A : Addr, (if cap = i + 1 then (some ⟨g, 0, none⟩ : Option Addr) else some ⟨g, (i + 1) * 2, none⟩) = some A ∧ Hid (∀ j v, D[j]? = some v → w.drew.cell? (A.add j) = some v) := by
    by_cases h : cap = i + 1
    · refine ⟨⟨g, 0, none⟩, by simp [h], fun j v hj => ?_⟩
      have h0 : D.length = 0 := by rw [hdl'.out]; omega
      rw [List.length_eq_zero_iff.1 h0] at hj
      simp at hj
    · exact ⟨⟨g, (i + 1) * 2, none⟩, by simp [h], fun j v hj => by rw [add_lit0]; exact hD'.out j v hj⟩
  obtain ⟨A, hA1, hA2⟩ := hA
  have lle' : (n : Int) ≤ 65536 := by omega
  have hi' : (i : Int) < (n : Int) := by omega
  have hw1 : IntKind.i64.wrap ((i : Int) + 1) = (i : Int) + 1 := by rw [IntKind.wrap_i64]; omega
  have htn : ((i : Int) + 1).toNat = i + 1 := by omega
  have hb1 : (0 : Int) ≤ (i : Int) + 1 := by omega
  have hb3 : (i : Int) + 1 ≤ (n : Int) := by omega
  have hb5 : i + 1 ≤ n := by omega
  have hb6 : i ≤ cap := by omega
  have hb7 : i + 1 ≤ cap := by omega
  have hcap63 : (cap : Int) ≤ 9223372036854775807 := by have := hmax'.out; unfold maxLen at this; omega
  have hb8 : ¬ (cap = n - 1) := by omega
  have hb9 : ¬ (n = i) := by omega
  have hb11 : n - 1 ≤ n := by omega
  have hb12 : n - 1 ≤ cap := by omega
  have hb13 : ((n - 1 : Nat) : Int) ≤ (n : Int) := by omega
  have hb14 : n - (n - 1) = 1 := by omega
  have hu := Try.underlying44
  go_enter Try.func27, Try.ntmps27
  go_wp2
  go_region_law (refine step_append_row rfl (.tmp 22) (.tmp 25) 44 rfl 47 hu Try.sizeReg g i cap (by simp [Act.eval, Act.put]) A (n - (i + 1)) (cap - (i + 1)) (by simp [Act.eval, Act.put]) cur hg'.out D hdl'.out hA2.out h1D.out (by omega) (n - 1) (by omega) (by rw [hdl'.out, hcs'.out]; omega) ?_; intro w4 hg4 ho4)
  have hcl : ∀ ty c, _ := fun ty c => run_clear2 (P := Try.prog) w4 44 47 ty hu Try.zeroValue47 g ((n - 1) * 2) c _ _ hg4.out (by rw [length_splice _ _ _ (by rw [hdl'.out, hcs'.out]; omega), hcs'.out]; omega)
  have hg5 := Lib.hid (setRow_heap w4 g _ (splice (splice cur (i * 2) D) ((n - 1) * 2) [.int .i64 0, .int .i64 0]).toArray _ _ hg4.out)
  have ho5 := Lib.hid ((Only.refl (fun k => k = g) w4).setRow (g := g) rfl (splice (splice cur (i * 2) D) ((n - 1) * 2) [.int .i64 0, .int .i64 0]).toArray)
  generalize w4.setRow g (splice (splice cur (i * 2) D) ((n - 1) * 2) [.int .i64 0, .int .i64 0]).toArray = w5 at hcl hg5 ho5
  go_wp2
  go_ret
  refine ⟨rfl, ⟨hRl'.out, .inr ⟨g, cap, _, rfl, Nat.zero_le _, hg5.out, hb12, hmax'.out, by simpa using hrow'.out.1, by simpa using hrow'.out.2⟩⟩, ?_⟩
  exact ((Only.refl (fun q => q = g) w).drew.trans ho4.out).trans ho5.out

section
variable {w : World} {hb : Nat} {a : Option Addr} {cap n : Nat} {L : List Reg}

theorem search_yes (h : AreaAt w hb a cap n L) (i : Nat) (hi : i < L.length) :
    Calls Try.prog 24 #[.slice a L.length cap, .int .i64 ((regAt L i).1 : Int), .func (.func 25) #[] #[]] w fun e w' =>
      e = .returned (.tuple #[.int .i64 (i : Int), .bool true]) ∧ Only Nil w w' := by
  refine (search_any h.regs h.ok h.len _).mono ?_
  rintro e w' ⟨p, hp, rfl, h1, h2, ho⟩
  have hpi : p = i := by
    rcases Nat.lt_trichotomy p i with g | g | g
    · have := h2 p (Nat.le_refl _) (by omega)
      have := h.ok.lt p i g hi
      omega
    · exact g
    · have := h1 i g
      omega
  subst hpi
  exact ⟨by simp [hi], ho⟩

theorem search_no (h : AreaAt w hb a cap n L) (x : Int) (hno : ∀ i, i < L.length → ((regAt L i).1 : Int) ≠ x) :
    Calls Try.prog 24 #[.slice a L.length cap, .int .i64 x, .func (.func 25) #[] #[]] w fun e w' =>
      ∃ p : Nat, e = .returned (.tuple #[.int .i64 (p : Int), .bool false]) ∧ Only Nil w w' := by
  refine (search_any h.regs h.ok h.len _).mono ?_
  rintro e w' ⟨p, hp, rfl, h1, h2, ho⟩
  refine ⟨p, ?_, ho⟩
  have : ¬ (p < L.length ∧ ((regAt L p).1 : Int) = x) := fun ⟨h3, h4⟩ => hno p h3 h4
  rw [decide_eq_false this]

theorem give_no (h : AreaAt w hb a cap n L) (x : Int) (hno : ∀ i, i < L.length → ((regAt L i).1 : Int) ≠ x) :
    Calls Try.prog 11 #[.pointer (some ⟨hb, 0, none⟩), .int .i64 x] w fun e w' => e = .returned (.int .i64 2) ∧ Only Nil w w' := by
  have sc := Lib.hid (search_no h x hno)
  have c1 := h.c1
  clear hno h
  go_enter Try.func11, Try.ntmps11
  go_wp2_with (go_at_call 24; (with_reducible refine (sc.out).mono ?_); rintro e w1 ⟨p, rfl, o1⟩)
  go_ret
  exact ⟨rfl, o1⟩

set_option maxHeartbeats 1000000 in
theorem give_yes (h : AreaAt w hb a cap n L) (i : Nat) (hi : i < L.length) :
    Calls Try.prog 11 #[.pointer (some ⟨hb, 0, none⟩), .int .i64 ((regAt L i).1 : Int)] w fun e w' =>
      e = .returned (.int .i64 0) ∧ AreaAt w' hb a cap n (del L i) ∧ Only (Own hb a) w w' := by
  have sc := Lib.hid (search_yes h i hi)
  have c1 := h.c1
  have h' := Lib.hid h
  have okD := Lib.hid (h.ok.del i hi)
  have hdl := Lib.hid (length_del L i hi)
  have lle := h.len
  obtain ⟨g, rfl, _, _⟩ := h.regs i hi
  clear h
  have hw1 : IntKind.i64.wrap ((i : Int) + 1) = (i : Int) + 1 := by rw [IntKind.wrap_i64]; omega
  go_enter Try.func11, Try.ntmps11
  go_wp2_with (first
    | (go_at_call 24; (with_reducible refine (sc.out).mono ?_); rintro e w1 ⟨rfl, o1⟩; have h1 := Lib.hid (h'.out.keep o1 (fun _ h => h.elim)); have o1' := Lib.hid o1; clear o1; have k1 := h1.out.c1)
    | (go_at_call 27; (with_reducible refine (delete_any h1.out.row lle i hi).mono ?_); rintro e w2 ⟨rfl, r2, o2⟩
       have hd := (o2.block hb h1.out.lt_hb (fun e => h1.out.ne _ rfl e.symm)).trans h1.out.head
       have hd' := Lib.hid hd
       have cc : w2.cell? ⟨hb, 1, none⟩ = some (.slice (some ⟨g, 0, none⟩) L.length cap) := (by simp [World.cell?, hd])
       have ff : w2.frozen? ⟨hb, 1, none⟩ = false := (by simp [World.frozen?, hd])
       have r2' := Lib.hid r2
       have o2' := Lib.hid o2
       clear hd r2 o2))
  go_ret
  have rr := r2'.out
  rw [← hdl.out] at rr
  obtain ⟨f1, f2⟩ := area_set hd'.out rr h'.out.ne okD.out h'.out.nle
  rw [hdl.out] at f1 f2
  refine ⟨rfl, f1, ?_⟩
  exact ((o1'.out.nilTo _).trans (o2'.out.mono (fun q hq => hq ▸ Own.r hb g 0))).trans (f2.mono (fun q hq => .inl hq))
end
end Go.Proofs.Ytgpagfgedimjeaa
