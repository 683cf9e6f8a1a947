/- stash: slices.Backward of a row of ids, as an iterator; appendBackwards. -/
import Derived.Test.YtdhfmocjhcgicaaStA
import Derived.RangeFuncBox
import Derived.RangeFuncLeaves
import Derived.RangeFuncCalls
import Derived.RangeFuncBound
import Derived.Shelf.Abstract
import Derived.OwnWalkIn
import Derived.TacticsInMore
import Derived.LoopNIn
import Derived.LoopIn
import Derived.Maps.AppendAt
namespace Go.Proofs.Ytdhfmocjhcgicaa.St
open Go.RowKit Go.Shelf Go.Proofs.Ytdhfmocjhcgicaa

attribute [local go_sem] Oper.semAt_some

/-- The blocks of K lie as they lay. -/
def Fix (K : Nat → Prop) (A B : World) : Prop := ∀ k, K k → B.heap[k]? = A.heap[k]?
theorem Fix.refl (K : Nat → Prop) (A : World) : Fix K A A := fun _ _ => rfl
theorem Fix.trans {K : Nat → Prop} {A B C : World} (h : Fix K A B) (k : Fix K B C) : Fix K A C := fun q hq => (k q hq).trans (h q hq)
theorem Fix.putObj {K : Nat → Prop} {w : World} (hK : ∀ k, K k → k < w.heap.size) (W : World) (l : Nat) (o o' : Obj) (hl : w.heap.size ≤ l) (_ : W.heap[l]? = some o) (_ : o.isCells = false) (_ : o.isWalk = false) : Fix K W (W.putObj l o') :=
  fun k hk => World.putObj_heap_other (by have := hK k hk; omega)
theorem Fix.ofOnly {K S : Nat → Prop} {A B : World} (o : Only S A B) (hS : ∀ k, K k → ¬ S k) (hK : ∀ k, K k → k < A.heap.size) : Fix K A B := fun k hk => o.block k (hK k hk) (hS k hk)

/-- What comes in round k of a walk backwards over Y: the place and the id. -/
def bk (Y : List Int) (k : Nat) : Int × Int := (((Y.length - 1 - k : Nat) : Int), Y.getD (Y.length - 1 - k) 0)
def upto (Y : List Int) (k : Nat) : List (Int × Int) := (List.range k).map (bk Y)
theorem upto_succ (Y : List Int) (k : Nat) : upto Y (k + 1) = upto Y k ++ [bk Y k] := by simp [upto, List.range_succ]
theorem upto_length (Y : List Int) (k : Nat) : (upto Y k).length = k := by simp [upto]
theorem upto_all (Y : List Int) : (upto Y Y.length).map (·.2) = Y.reverse := by
  apply List.ext_getElem
  · simp [upto]
  · intro i h1 h2
    have h3 : i < Y.length := by simpa [upto] using h1
    have h4 : Y.length - 1 - i < Y.length := by omega
    simp [upto, bk, h4]

set_option maxRecDepth 100000 in
set_option maxHeartbeats 2000000 in
theorem back1_in (F : Fence) (n : Nat) (hf : F.fn 26) (hro : F.round = none) (hn : 1 ≤ n) (l Bs : Nat) (K : Nat → Prop) (a : Option Addr) (cap : Nat) (Y : List Int) (hreach : Y.length ≤ 65000) (J Jx : List (Int × Int) → World → Prop)
    (hY : ∀ pre x W, J pre W → pre.length < Y.length → YieldAt F (n - 1) Try.prog l #[.int .i64 x.1, .int .u64 x.2] W fun e W' =>
      (e = .returned (.bool true) ∧ J (pre ++ [x]) W' ∧ Fix K W W') ∨ (e = .returned (.bool false) ∧ Jx (pre ++ [x]) W'))
    (W : World) (hBs : W.heap[Bs]? = some (.cells #[.slice a Y.length cap] 26 (0, 0))) (hc : Row W (.slice a Y.length cap) Y) (hKB : K Bs) (hKr : ∀ g, some g = (Value.slice a Y.length cap).ownBlock → K g) (h0 : J [] W) :
    CallsIn F n Try.prog 26 #[.func (.yield l) #[] #[], .pointer (some ⟨Bs, 0, none⟩)] W fun e W' => (∃ v, e = .returned v) ∧
      ((∃ ys, ys = upto Y Y.length ∧ J ys W') ∨ (∃ pre, (∃ k, k ≤ Y.length ∧ pre = upto Y k) ∧ Jx pre W')) := by
  have cellB := Lib.hid (fun (wr : World) (o : Fix K W wr) => show wr.cell? ⟨Bs, 0, none⟩ = some (.slice a Y.length cap) from by
    have := (o Bs hKB).trans hBs
    simp [World.cell?, this])
  have cellR := Lib.hid (fun (wr : World) (o : Fix K W wr) (q : Nat) (hq : q < Y.length) => show ∃ g, a = some ⟨g, 0, none⟩ ∧ wr.cell? ⟨g, q, none⟩ = some (.int .u64 (Y.getD q 0)) from by
    obtain ⟨g, rfl, _, hcell⟩ := us_in hc q hq
    exact ⟨g, rfl, (World.cell?_of_block (a := ⟨g, q, none⟩) (o g (hKr g rfl))).trans hcell⟩)
  have hbk := Lib.hid (fun (q k : Nat) (h : q + 1 + k = Y.length) => show bk Y k = ((q : Int), Y.getD q 0) from by
    unfold bk
    rw [show Y.length - 1 - k = q by omega])
  have huk := Lib.hid (upto_succ Y)
  have hul := Lib.hid (upto_length Y)
  have hY' := Lib.hid hY
  have h0' := Lib.hid (show J (upto Y 0) W from h0)
  clear hY h0 hc hBs hKr
  have hend : Y.length = 0 ∨ 0 < Y.length := by omega
  have cb0 := cellB.out W (Fix.refl _ _)
  generalize hm : Y.length = m at *
  refine callsIn_of_wp Try.func26 rfl hf ?_ hro
  simp only [Try.ntmps26, List.size_toArray, List.length_cons, List.length_nil, Nat.reduceAdd, Nat.reduceSub, Array.replicate_succ, Array.replicate_zero, List.push_toArray, List.append_toArray, List.nil_append, List.cons_append]
  have hw0 : IntKind.i64.wrap ((m : Int) - 1) = (m : Int) - 1 := by rw [IntKind.wrap_i64]; omega
  have hm' := Lib.hid hm
  clear hm
  gi_wp2
  gi_loopw [3] (fun i wr => ∃ k : Nat, k ≤ m ∧ ((k = m ∧ i = .int .i64 (-1)) ∨ ∃ q : Nat, q + 1 + k = m ∧ i = .int .i64 (q : Int)) ∧ Hid (J (upto Y k) wr) ∧ Hid (Fix K W wr))
    (fun i _ => (intOf i + 1).toNat)
  case atStart =>
    refine ⟨0, Nat.zero_le _, ?_, h0', Lib.hid (Fix.refl _ _)⟩
    cases m with
    | zero => exact .inl ⟨rfl, rfl⟩
    | succ q => exact .inr ⟨q, by omega, by simp⟩
  case round =>
    obtain ⟨k, hk, hi, hJ, hx⟩ := hrel
    rcases hi with ⟨rfl, rfl⟩ | ⟨q, hq, rfl⟩
    · gi_wp2
      go_end0
      exact ⟨⟨_, rfl⟩, .inl ⟨_, rfl, hJ.out⟩⟩
    · have hqm : q < m := by omega
      have hqi : (q : Int) < (m : Int) := by omega
      obtain ⟨fn, tmps, assign, body, hy, hR⟩ := hY'.out _ (bk Y k) wr hJ.out (by rw [hul.out]; omega)
      rw [hbk.out q k hq] at hy
      dsimp only at hy
      obtain ⟨g, rfl, hcell⟩ := cellR.out wr hx.out q hqm
      have hcb := cellB.out wr hx.out
      have hw1 : IntKind.i64.wrap ((q : Int) - 1) = (q : Int) - 1 := by rw [IntKind.wrap_i64]; omega
      have hR' := Lib.hid hR
      have hkq := Lib.hid hq
      clear hR hk hq hqm hend cb0 hw0
      generalize Y.getD q 0 = y at *
      gi_wp2
      refine hR'.out.mono ?_
      rintro e W3 (⟨rfl, hJ3, hk3⟩ | ⟨rfl, hJx3⟩)
      · have hJ3' := Lib.hid (show J (upto Y (k + 1)) W3 by rw [huk.out]; exact hJ3)
        have hx3 := Lib.hid (hx.out.trans hk3)
        clear hJ3 hk3
        gi_wp2
        go_roundw
        case rel =>
          refine ⟨k + 1, by have := hkq.out; omega, ?_, hJ3', hx3⟩
          cases q with
          | zero => exact .inl ⟨by have := hkq.out; omega, by simp⟩
          | succ q => exact .inr ⟨q, by have := hkq.out; omega, by simp⟩
        case measure => simp [intOf]
      · have hJ3' := Lib.hid (show Jx (upto Y (k + 1)) W3 by rw [huk.out]; exact hJx3)
        clear hJx3
        gi_wp2
        refine bodyPost_ret (results_none rfl _ _ _) rfl ?_
        exact ⟨⟨_, rfl⟩, .inr ⟨_, ⟨k + 1, by have := hkq.out; omega, rfl⟩, hJ3'.out⟩⟩

theorem wpListIn_append_run {F : Fence} {n : Nat} {P : Program} (w : World) {ops : Array Oper} {rest : List Oper} {o : Oper} {a : Act} {Q : Exit → Act → World → Prop}
    (hg : o.guard = none) (s x : Operand) (t : TypeId) (hop : o.op = Op.call { callee := Callee.builtin Builtin.append, args := #[s, x], argTypes := #[t, t] })
    (vs vx : Value) (hs : a.eval s = vs) (hx : a.eval x = vx) (v' : Value) (w' : World) (hr : (Builtin.append_ #[t, t] o.type #[vs, vx]).run P w = .ok v' w')
    (h : wpListIn F n P ops Q rest (a.put o.dst v') w') : wpListIn F n P ops Q (o :: rest) a w := by
  refine wpListIn_plain hg fun K hK' => ?_
  unfold Oper.wpIn
  refine ⟨?_, ?_⟩
  · simp [Oper.about, hop, resolve, Target.leads, Sem.run_pure]
  · rw [Oper.semAt_plain F _ _ (by rw [hop]; intro c hc'; cases hc')]
    simp [execOp, hop, resolve, invoke, builtin, hs, hx, hr, Result.andThen]
    exact hK' _ _ h

theorem back_in (F : Fence) (n : Nat) (hf : F.fn 25) (hro : F.round = none) (a : Option Addr) (len cap : Nat) (w : World) :
    CallsIn F n Try.prog 25 #[.slice a len cap] w fun e w' => e = .returned (.func (.func 26) #[] #[.pointer (some ⟨w.heap.size, 0, none⟩)]) ∧ w' = w.alloc (.cells #[.slice a len cap] 26) := by
  refine callsIn_of_wp Try.func25 rfl hf ?_ hro
  simp only [Try.ntmps25, List.size_toArray, List.length_cons, List.length_nil, Nat.reduceAdd, Nat.reduceSub, Array.replicate_succ, Array.replicate_zero, List.push_toArray, List.append_toArray, List.nil_append, List.cons_append]
  gi_wp2
  go_ret
  exact ⟨rfl, rfl⟩

theorem back_stops (F : Fence) (n : Nat) (hf : F.fn 26) (hro : F.round = none) (hn : 1 ≤ n) (Bs : Nat) (K : Nat → Prop) (a : Option Addr) (cap : Nat) (Y : List Int) (hreach : Y.length ≤ 65000) (w : World)
    (hBs : w.heap[Bs]? = some (.cells #[.slice a Y.length cap] 26 (0, 0))) (hc : Row w (.slice a Y.length cap) Y) (hKB : K Bs) (hKr : ∀ g, some g = (Value.slice a Y.length cap).ownBlock → K g) :
    SeqStopsK F n Try.prog 26 #[.pointer (some ⟨Bs, 0, none⟩)] (fun x : Int × Int => #[Value.int .i64 x.1, Value.int .u64 x.2]) (Fix K) (fun ys => ys = upto Y Y.length)
      (fun pre => ∃ k, k ≤ Y.length ∧ pre = upto Y k) Y.length w := fun l J Jx W hW _ _ hY h0 =>
  have o : Only Nil w W := Only.ofBelow hW Nil
  back1_in F n hf hro hn l Bs K a cap Y hreach J Jx hY W ((o.block _ (lt_of_block hBs) (fun h => h)).trans hBs) (hc.nil o) hKB hKr h0

set_option maxRecDepth 100000 in
set_option maxHeartbeats 2000000 in
/-- appendBackwards: the ids of Y behind X, the last one first. -/
theorem appback_any {w : World} {a b : Option Addr} {c d : Nat} {X Y : List Int} (hx : Row w (.slice a X.length c) X) (hy : Row w (.slice b Y.length d) Y)
    (apart : ∀ g, some g = (Value.slice b Y.length d).ownBlock → ¬ RowOf a g) (few : X.length + Y.length ≤ 60000) :
    Calls Try.prog 23 #[.slice a X.length c, .slice b Y.length d] w fun e w' => ∃ a' c', e = .returned (.slice a' (X.length + Y.length) c') ∧
      Hid (Row w' (.slice a' (X.length + Y.length) c') (X ++ Y.reverse) ∧ Only (RowOf a) w w' ∧ SameOrNew w a a') := by
  refine (callsIn_wide (n := 3)).1 ?_
  refine callsIn_of_wp_marks Try.func23 rfl trivial ?_ rfl
  simp only [Try.ntmps23, List.size_toArray, List.length_cons, List.length_nil, Nat.reduceAdd, Nat.reduceSub, Array.replicate_succ, Array.replicate_zero, List.push_toArray, List.append_toArray, List.nil_append, List.cons_append]
  have h1 : 1 ≤ 3 := by omega
  obtain ⟨W0, hW0⟩ : ∃ W0, W0 = (w.alloc (.cells #[.slice a X.length c] 26)).alloc (.cells #[.slice b Y.length d] 26) := ⟨_, rfl⟩
  have oW : Only Nil w W0 := by rw [hW0]; exact ((Only.refl Nil w).alloc _).alloc _
  have sz : W0.heap.size = w.heap.size + 2 := by rw [hW0]; simp
  have bX : Boxed W0 w.heap.size 26 (.slice a X.length c) := by rw [hW0]; exact (Boxed.new w _ _).alloc _
  have bY : W0.heap[w.heap.size + 1]? = some (.cells #[.slice b Y.length d] 26 (0, 0)) := by
    have := heap_new (w.alloc (.cells #[.slice a X.length c] 26)) (.cells #[.slice b Y.length d] 26)
    rw [hW0]; simpa using this
  have KL : ∀ k, (k = w.heap.size + 1 ∨ some k = (Value.slice b Y.length d).ownBlock) → k < W0.heap.size := by
    rintro k (rfl | hk)
    · omega
    · have := hy.lt hk; omega
  have aL : ∀ k, RowOf a k → k < w.heap.size := by rintro k ⟨x, rfl, rfl⟩; exact hx.lt rfl
  have hs := back_stops Fence.wide (3 - 1) trivial rfl (by omega) (w.heap.size + 1) (fun k => k = w.heap.size + 1 ∨ some k = (Value.slice b Y.length d).ownBlock) b d Y (by omega) W0 bY (hy.nil oW) (.inl rfl) (fun g hg => .inr hg)
  gi_wp2_with (refine ⟨trivial, ?_⟩; gi_at_call 25; refine (back_in Fence.wide _ trivial rfl _ _ _ _).mono ?_; rintro e w' ⟨rfl, rfl⟩)
  rw [← hW0]
  refine wpIn_rangeFunc_ownG rfl h1 (gf := 26) (lb := #[.pointer (some ⟨w.heap.size + 1, 0, none⟩)]) rfl trivial (enters_of Try.func26 (by kernel_rfl) rfl)
    hs (fun h k => h.trans k) (fun W l o o' hl h1 h2 h3 => Fix.putObj KL W l o o' hl h1 h2 h3) (Below.refl _ _) (fun _ => rfl)
    (fun pre W => ∃ a' c', Boxed W w.heap.size 26 (.slice a' (X.length + pre.length) c') ∧ Row W (.slice a' (X.length + pre.length) c') (X ++ pre.map (·.2)) ∧ Only (fun q => RowOf a q ∨ q = w.heap.size) W0 W ∧ SameOrNew W0 a a')
    (fun _ _ _ => False)
    ?own
    (fun _ _ _ _ _ hs _ _ => hs)
    ⟨a, c, bX, by simpa using hx.nil oW, Only.refl _ _, fun x hx => .inl ⟨x, hx, rfl⟩⟩
    (fun x => { tmps := #[.slice a X.length c, .slice b Y.length d, .pointer (some ⟨w.heap.size, 0, none⟩), undef, .slice none 0 0, undef, .int .u64 x.2, .slice b Y.length d, .func (.func 26) #[] #[.pointer (some ⟨w.heap.size + 1, 0, none⟩)], .int .i64 x.1, .int .u64 x.2, undef, undef, undef, undef, undef], defers := [] }) ?assign ?body ?done ?stop
  case own =>
    rintro pre A B row ⟨a', c', h1, h2, h3, h4⟩ hg hr
    have nc : ∀ k y t m, A.heap[k]? = some (.cells y t m) → some k ≠ row := by
      rintro k y t m hk e
      obtain ⟨_, o, ho, hn⟩ := hr k e.symm
      rw [hk] at ho
      injection ho with ho
      subst ho
      cases hn
    refine ⟨a', c', h1.kept hg (nc _ _ _ _ h1), h2.keep (Only.ofGrown hg) (fun g hg' e => ?_), h3.then (Only.ofGrown hg) (fun q hq hlt => ?_), h4⟩
    · rcases h2.2 with ⟨e0, _⟩ | ⟨g', c0, cur, e0, _, hh, _⟩
      · rw [e0] at hg'; simp [Value.ownBlock] at hg'
      · have : g = g' := by rw [e0] at hg'; simpa [Value.ownBlock] using hg'
        subst this
        exact nc _ _ _ _ hh e
    · have := (hr q hq.symm).1
      omega
  case assign =>
    intro l x W K hK
    gi_wp2
    exact hK
  case body =>
    rintro l pre x W ⟨a', c', hb, hr, ho, hn⟩ hlt
    have hl : (X ++ pre.map (·.2)).length = X.length + pre.length := by simp
    obtain ⟨a5, c5, w5, hrun, hk⟩ := push hr hl x.2 (by omega)
    obtain ⟨hk1, hk2, hk3⟩ := hk.out
    have hc := hb.cell
    have h5 : RowOf a' w.heap.size → False := by
      rintro ⟨y, rfl, e⟩
      exact hr.ne (g := y.block) (by rfl) (by exact hb) (by decide) e.symm
    have hb5 : Boxed w5 w.heap.size 26 (.slice a' (X.length + pre.length) c') := (hk2.block _ hb.lt h5).trans hb
    have hc5 := hb5.cell
    have hf5 := hb5.frozen
    have hrun' := Lib.hid hrun
    clear hrun
    gi_wp2_with (gi_at_builtin; refine wpListIn_append_run _ rfl (.tmp 11) (.tmp 13) 26 rfl _ _ rfl rfl _ _ hrun'.out ?_)
    have oW' : Only (fun q => RowOf a' q ∨ q = w.heap.size) W (w5.setCell ⟨w.heap.size, 0, none⟩ (.slice a5 (X.length + pre.length + 1) c5)) := (hk2.mono (fun _ h => .inl h)).setCell (p := ⟨w.heap.size, 0, none⟩) (.inr rfl) _
    have from' : ∀ q, RowOf a' q → RowOf a q ∨ W0.heap.size ≤ q := by
      rintro q ⟨y, hy, rfl⟩
      rcases hn y hy with ⟨z, hz, e⟩ | e
      · exact .inl ⟨z, hz, e⟩
      · exact .inr e
    have hle := ho.size
    refine ⟨⟨oW'.size, fun k o hk ho hc => ?_⟩, Fix.ofOnly oW' ?_ (fun k hk => Nat.lt_of_lt_of_le (KL k hk) hle), a5, c5, ?_, ?_, ho.then oW' ?_, ?_⟩
    · refine (oW'.block k (Array.getElem?_eq_some_iff.1 ho).1 ?_).trans ho
      rintro (⟨y, rfl, rfl⟩ | rfl)
      · obtain ⟨z, hz⟩ := hr.cells (g := y.block) rfl
        rw [hz] at ho
        injection ho with ho
        subst ho
        cases hc
      · omega
    · rintro k (rfl | hk)
      · rintro (h | h)
        · rcases from' _ h with h | h
          · have := aL _ h; omega
          · omega
        · omega
      · rintro (h | h)
        · rcases from' _ h with h | h
          · exact apart k hk h
          · have := hy.lt hk; omega
        · have := hy.lt hk; omega
    · have := hb5.set (.slice a5 (X.length + pre.length + 1) c5)
      rw [List.length_append, List.length_singleton, ← Nat.add_assoc]
      exact this
    · have : Row (w5.setCell ⟨w.heap.size, 0, none⟩ (.slice a5 (X.length + pre.length + 1) c5)) (.slice a5 (X.length + pre.length + 1) c5) (X ++ pre.map (·.2) ++ [x.2]) :=
        hk1.keep ((Only.refl (fun q => q = w.heap.size) w5).setCell (p := ⟨w.heap.size, 0, none⟩) rfl _) (fun g hg => hk1.ne hg hb5 (by decide))
      rw [List.length_append, List.length_singleton, ← Nat.add_assoc, List.map_append, ← List.append_assoc]
      exact this
    · rintro q (h | h) hlt2
      · rcases from' _ h with h | h
        · exact .inl h
        · omega
      · exact .inr h
    · intro y hy
      rcases hk3 y hy with ⟨z, hz, e⟩ | e
      · rcases hn z hz with ⟨u, hu, e2⟩ | e2
        · exact .inl ⟨u, hu, e.trans e2⟩
        · exact .inr (by omega)
      · exact .inr (by omega)
  case done =>
    rintro D ys W hD rfl ⟨a', c', hb, hr, ho, hn⟩ hK
    have hc := hb.cell
    gi_wp2
    refine ⟨by simp, .inl ⟨_, _, rfl, run_takeDeferred hK, ?_⟩⟩
    have op : Only (fun q => some q = some D) W (W.putObj D (.deferred none)) := Only.ofGrown (grownBy_putObj' W D _)
    have hr' : Row (W.putObj D (.deferred none)) (.slice a' (X.length + (upto Y Y.length).length) c') (X ++ (upto Y Y.length).map (·.2)) := hr.keep op (fun g hg e => by
      obtain ⟨y, hy⟩ := hr.cells hg
      injection e with e
      rw [e, hK] at hy
      cases hy)
    have oD := (ho.then op (fun q hq hlt => by injection hq with hq; omega))
    rw [upto_length, upto_all] at hr'
    refine ⟨_, results_tmp rfl _ _ _, a', c', by rw [upto_length]; rfl, Lib.hid ⟨hr', (oW.nilTo _).then oD (fun q hq hlt => ?_), fun y hy => ?_⟩⟩
    · rcases hq with h | h
      · exact h
      · omega
    · rcases hn y hy with h | h
      · exact .inl h
      · exact .inr (by omega)
  case stop =>
    rintro D c pre W _ _ h _
    exact h.elim
end Go.Proofs.Ytdhfmocjhcgicaa.St
