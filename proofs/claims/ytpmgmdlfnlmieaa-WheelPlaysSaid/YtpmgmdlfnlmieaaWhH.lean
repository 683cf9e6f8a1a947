/- wheel: put. -/
import Derived.Test.YtpmgmdlfnlmieaaWhG
namespace Go.Proofs.Ytpmgmdlfnlmieaa.Wh
open Go.RowKit Go.Proofs.Ytpmgmdlfnlmieaa

/-- append, as one step of a region that draws its order: whatever it runs to. -/
theorem step_append_run {P : Program} {ops : Array Oper} {o : Oper} {a : Act} {w : World} {K : Act → World → Prop} {Q : Exit → Act → World → Prop} {E : Prop}
    (hgd : o.guard = none) (s x : Operand) (t : TypeId) (hop : o.op = Op.call { callee := Callee.builtin Builtin.append, args := #[s, x], argTypes := #[t, t] })
    (v1 v2 : Value) (hs : a.eval s = v1) (hx : a.eval x = v2) (v : Value) (w' : World) (hrun : (Builtin.append_ #[t, t] o.type #[v1, v2]).run P w = .ok v w') (h : K (a.put o.dst v) w') :
    if Region.wanted o (yielded ops a.tmps) = true then Oper.wp P o a w K Q else E := by
  have hw : Region.wanted o (yielded ops a.tmps) = true := by simp [Region.wanted, hgd]
  rw [if_pos hw]
  unfold Oper.wp
  simp [execOp, hop, resolve, invoke, builtin, hs, hx, hrun, Result.andThen]
  exact h

section
variable {w w' : World} {S T : Nat → Prop} {hb now added : Nat} {V : Nat → Value} {F : Nat → List Tm}
theorem At.mono (h : At w S hb now added V F) (hS : ∀ k, S k → T k) (hT : ∀ k, T k → k < w.heap.size) : At w T hb now added V F :=
  ⟨h.head, h.row, h.apart, fun n g hn hg => ⟨hS _ (h.own n g hn hg).1, (h.own n g hn hg).2⟩, hS _ h.hS, hT⟩
theorem At.plus {w0 : World} (h : At w (Plus S w0 w) hb now added V F) (hS : ∀ k, S k → k < w0.heap.size) {w1 : World} (o : w1.heap.size ≤ w0.heap.size) (o2 : w0.heap.size ≤ w.heap.size) : At w (Plus S w1 w) hb now added V F :=
  h.mono (fun k hk => hk.imp id (fun h => ⟨by omega, h.2⟩)) (fun k hk => by rcases hk with hk | hk
                                                                            · have := hS k hk; omega
                                                                            · exact hk.2)

/-- Slot n's row has changed, and its new value is stored. -/
theorem At.slot {X w6 : World} {n : Nat} {a a' : Option Addr} {len c len' c' : Nat} {L : List Tm} (h : At w S hb now added V F) (oX : Only Nil w X) (hn : n < 32) (hv : V n = .slice a len c)
    (ho : w6.ownsRow 0 67 3 (.slice a' len' c') len' (tms L)) (hon : Only (RowOf a) X w6) (hsn : SameOrNew X a a') :
    At (w6.setCell ⟨hb, n + 2, none⟩ (.slice a' len' c')) (Plus S w (w6.setCell ⟨hb, n + 2, none⟩ (.slice a' len' c'))) hb now added (upd V n (.slice a' len' c')) (upd F n L) ∧ Only S w (w6.setCell ⟨hb, n + 2, none⟩ (.slice a' len' c')) := by
  have hL : L.length = len' := by have := ho.1; rw [tms_length] at this; omega
  have hva : ∀ q, RowOf a q → (V n).ownBlock = some q := by
    rintro q ⟨x, hx, rfl⟩; rw [hv, hx]; rfl
  have o6 : Only S w w6 := (oX.nilTo S).trans (hon.mono (fun q hq => (h.own n q hn (hva q hq)).1))
  have sz : (w6.setCell ⟨hb, n + 2, none⟩ (.slice a' len' c')).heap.size = w6.heap.size := by simp [World.setCell]
  have hnew : ∀ q, (Value.slice a' len' c').ownBlock = some q → ((V n).ownBlock = some q ∨ X.heap.size ≤ q) ∧ q < w6.heap.size := by
    intro q hq
    refine ⟨?_, (ho.lt q hq).2⟩
    cases a' with
    | none => simp [Value.ownBlock] at hq
    | some x =>
      have hq' : x.block = q := by simpa [Value.ownBlock] using hq
      rcases hsn x rfl with ⟨y, hy, e⟩ | e
      · exact .inl (hva q ⟨y, hy, by omega⟩)
      · exact .inr (by omega)
  have hne : ∀ q, (Value.slice a' len' c').ownBlock = some q → q ≠ hb := by
    intro q hq
    rcases (hnew q hq).1 with h1 | h1
    · exact (h.own n q hn h1).2
    · have := h.lt_hb; have := oX.size; omega
  have hold : ∀ m q, m < 32 → m ≠ n → (V m).ownBlock = some q → q ≠ hb ∧ ¬ RowOf a q ∧ q < w.heap.size := fun m q hm hmn hq =>
    ⟨(h.own m q hm hq).2, fun hr => hmn (h.apart m n q hm hn hq (hva q hr)), h.lt q (h.own m q hm hq).1⟩
  have hhead : w6.heap[hb]? = w.heap[hb]? := (hon.block hb (Nat.lt_of_lt_of_le h.lt_hb oX.size) (fun hr => (h.own n hb hn (hva hb hr)).2 rfl)).trans (oX.block hb h.lt_hb (fun h => h.elim))
  have o7 : Only S w (w6.setCell ⟨hb, n + 2, none⟩ (.slice a' len' c')) := o6.setCell (p := ⟨hb, n + 2, none⟩) h.hS _
  refine ⟨⟨?_, ?_, ?_, ?_, .inl h.hS, ?_⟩, o7⟩
  · rw [row_set (hhead.trans h.head)]
    congr 2
    refine rowC_congr fun i hi => ?_
    match i with
    | 0 => rfl
    | 1 => rfl
    | i + 2 =>
      show (if i + 2 = n + 2 then _ else V i) = (if i = n then _ else V i)
      by_cases e : i = n
      · rw [if_pos e, if_pos (by omega)]
      · rw [if_neg e, if_neg (by omega)]
  · intro m hm
    have osc : Only (fun k => k = hb) w6 (w6.setCell ⟨hb, n + 2, none⟩ (.slice a' len' c')) := (Only.refl (fun k => k = hb) w6).setCell (p := ⟨hb, n + 2, none⟩) rfl _
    by_cases e : m = n
    · subst e
      simp only [upd, if_pos]
      rw [hL]
      exact own_keep ho osc (fun k hk hk2 => hne k hk.symm hk2)
    · simp only [upd, if_neg e]
      refine own_keep (own_keep (own_keep (h.row m hm) oX (fun k hk h => h.elim)) hon (fun k hk hr => (hold m k hm e hk.symm).2.1 hr)) osc (fun k hk hk2 => (hold m k hm e hk.symm).1 hk2)
  · intro m m' q hm hm' h1 h2
    by_cases e : m = n
    · by_cases e' : m' = n
      · omega
      · subst e
        simp only [upd, if_pos, if_neg e'] at h1 h2
        rcases (hnew q h1).1 with h3 | h3
        · exact h.apart m m' q hm hm' h3 h2
        · have := (hold m' q hm' e' h2).2.2; have := oX.size; omega
    · by_cases e' : m' = n
      · subst e'
        simp only [upd, if_pos, if_neg e] at h1 h2
        rcases (hnew q h2).1 with h3 | h3
        · exact h.apart m m' q hm hm' h1 h3
        · have := (hold m q hm e h1).2.2; have := oX.size; omega
      · simp only [upd, if_neg e, if_neg e'] at h1 h2
        exact h.apart m m' q hm hm' h1 h2
  · intro m q hm hq
    by_cases e : m = n
    · subst e
      simp only [upd, if_pos] at hq
      refine ⟨?_, hne q hq⟩
      rcases hnew q hq with ⟨h3 | h3, h4⟩
      · exact .inl (h.own m q hm h3).1
      · exact .inr ⟨by have := oX.size; omega, by rw [sz]; exact h4⟩
    · simp only [upd, if_neg e] at hq
      exact ⟨.inl (h.own m q hm hq).1, (h.own m q hm hq).2⟩
  · intro k hk
    rcases hk with hk | hk
    · exact Nat.lt_of_lt_of_le (h.lt k hk) o7.size
    · exact hk.2
end

theorem Try.infoTm : (Try.prog.info? 67).map (fun i => (i.zero, i.size, i.bytes)) = some (some (.agg #[.int .u64 0, .int .i64 0, .int .i64 0]), 3, 24) := by kernel_rfl

set_option maxHeartbeats 4000000 in
set_option maxRecDepth 100000 in
theorem put_any {w : World} {S : Nat → Prop} {hb now added : Nat} {V : Nat → Value} {F : Nat → List Tm} (h : At w S hb now added V F) (hs : ∀ n, n < 32 → (F n).length ≤ 65000) (hn : now < 1000000000) (x0 x1 x2 : Nat) (hd : x1 < 1000010000) :
    Calls Try.prog 27 #[.pointer (some ⟨hb, 0, none⟩), .agg #[.int .u64 (x0 : Int), .int .i64 (x1 : Int), .int .i64 (x2 : Int)]] w fun e w' =>
      e = .returned (.tuple #[]) ∧ ∃ V', At w' (Plus S w w') hb now added V' (putAll now F [⟨x0, x1, x2⟩]) ∧ Only S w w' := by
  have hlev := Lib.hid (fun w => levelOf_any now x1 (by omega) (by omega) w)
  have hl3 := lev_le now x1
  have hdig := Lib.hid (fun w => digit_any x1 (lev now x1) hl3 (by omega) w)
  have hd8 := dig_lt x1 (lev now x1)
  have hsp : spot now x1 = 8 * lev now x1 + dig x1 (lev now x1) := rfl
  have hsp' := Lib.hid hsp
  clear hsp
  generalize hL : lev now x1 = l at *
  generalize hD : dig x1 l = d at *
  have hlt : 8 * l + d < 32 := by omega
  have h' := Lib.hid h
  have c0 := h.c0
  have cs : w.cell? ⟨hb, 2 + l * 8 + d, none⟩ = some (V (8 * l + d)) := by rw [show 2 + l * 8 + d = 8 * l + d + 2 by omega]; exact h.cs _ hlt
  have fz : w.frozen? ⟨hb, 2 + l * 8 + d, none⟩ = false := h.fz _
  have hlb := h.lt_hb
  have hs' := Lib.hid (hs (8 * l + d) hlt)
  clear h hs hL hD hn hd
  have hl3' : (l : Int) ≤ 3 := by omega
  have hd8' : (d : Int) < 8 := by omega
  have hlt' := Lib.hid hlt
  clear hlt
  go_enter Try.func27, Try.ntmps27
  go_wp2
  go_quiet ((go_at_call 40; exact quiet_same (hlev.out _)))
  obtain ⟨wa, hwa⟩ : ∃ wa, wa = (w.alloc (.cells #[.int .u64 (x0 : Int), .int .i64 (x1 : Int), .int .i64 (x2 : Int)] 67)).drewN nq := ⟨_, rfl⟩
  have hA := Lib.hid (show At wa S hb now added V F by rw [hwa]; exact (h'.out.alloc _).drewN nq)
  have hbx : wa.heap[w.heap.size]? = some (.cells #[.int .u64 (x0 : Int), .int .i64 (x1 : Int), .int .i64 (x2 : Int)] 67 (0, 0)) := by rw [hwa]; exact heap_new w _
  have o1 := Lib.hid (show Only Nil w wa by rw [hwa]; exact ((Only.refl Nil w).alloc _).drewN nq)
  rw [← hwa]
  clear hwa c0 cs fz
  have cs : wa.cell? ⟨hb, 2 + l * 8 + d, none⟩ = some (V (8 * l + d)) := by rw [show 2 + l * 8 + d = 8 * l + d + 2 by omega]; exact hA.out.cs _ hlt'.out
  have fz : wa.frozen? ⟨hb, 2 + l * 8 + d, none⟩ = false := hA.out.fz _
  have hlb : hb < wa.heap.size := hA.out.lt_hb
  generalize hbb : w.heap.size = B at *
  have t0 : wa.cell? ⟨B, 0, none⟩ = some (.int .u64 (x0 : Int)) := by simp [World.cell?, hbx]
  have t1 : wa.cell? ⟨B, 1, none⟩ = some (.int .i64 (x1 : Int)) := by simp [World.cell?, hbx]
  have t2 : wa.cell? ⟨B, 2, none⟩ = some (.int .i64 (x2 : Int)) := by simp [World.cell?, hbx]
  have hbx' := Lib.hid hbx
  have hbb' := Lib.hid hbb
  clear hbx hbb
  go_wp2
  go_quiet ((go_at_call 29; exact quiet_same (hdig.out _)))
  obtain ⟨wb, hwb⟩ : ∃ wb, wb = wa.drewN nq := ⟨_, rfl⟩
  have hB := Lib.hid (show At wb S hb now added V F by rw [hwb]; exact hA.out.drewN nq)
  have o2 := Lib.hid (show Only Nil w wb by rw [hwb]; exact o1.out.drewN nq)
  have t0b : wb.cell? ⟨B, 0, none⟩ = some (.int .u64 (x0 : Int)) := by rw [hwb]; exact t0
  have t1b : wb.cell? ⟨B, 1, none⟩ = some (.int .i64 (x1 : Int)) := by rw [hwb]; exact t1
  have t2b : wb.cell? ⟨B, 2, none⟩ = some (.int .i64 (x2 : Int)) := by rw [hwb]; exact t2
  rw [← hwb]
  clear hwb t0 t1 t2 hA o1 cs fz hlb hbx' hlev hdig
  obtain ⟨n, hn⟩ : ∃ n, n = 8 * l + d := ⟨_, rfl⟩
  rw [← hn] at hs' hsp' hlt'
  obtain ⟨a, c, hv⟩ := own_slice_n (hB.out.row n hlt'.out)
  have cs : wb.cell? ⟨hb, 2 + l * 8 + d, none⟩ = some (V n) := by rw [show 2 + l * 8 + d = n + 2 by omega]; exact hB.out.cs _ hlt'.out
  have fz : wb.frozen? ⟨hb, 2 + l * 8 + d, none⟩ = false := hB.out.fz _
  have hlb : hb < wb.heap.size := hB.out.lt_hb
  rw [hv] at cs
  have hv' := Lib.hid hv
  have hn' := Lib.hid hn
  clear hn hv
  have H := Lib.hid (fun (X : World) (o : Only Nil wb X) (q : Nat) (hq : X.heap[q]? = some (.cells #[.int .u64 (x0 : Int), .int .i64 (x1 : Int), .int .i64 (x2 : Int)] 67 (0, 0))) =>
    run_append_end (P := Try.prog) (w := X) (t := 58) (ty := 58) (e := 67) (size := 3) (bytes := 24) Try.underlying58 Try.infoTm rfl (a := a) (len := (F n).length) (cap := c) (xs := tms (F n))
      (by have := (hB.out.nil o).row n hlt'.out; rw [hv'.out] at this; exact this) ⟨q, 0, none⟩ (tm ⟨x0, x1, x2⟩) rfl (tm_oneCell _) (fun j u hj => by
        rw [add_lit0, cell_of_row X q _ _ _ _ hq, Nat.zero_add]
        simp [tm] at hj ⊢; exact hj) (by have := hs'.out; omega) (by decide))
  obtain ⟨a', c', w6, hr, ho, hon, hsn⟩ := H.out ((wb.alloc (.cells #[.int .u64 (x0 : Int), .int .i64 (x1 : Int), .int .i64 (x2 : Int)] 67)).drew) (((Only.refl Nil wb).alloc _).drew) wb.heap.size (heap_new wb _)
  have hsl := hB.out.slot (((Only.refl Nil wb).alloc (.cells #[.int .u64 (x0 : Int), .int .i64 (x1 : Int), .int .i64 (x2 : Int)] 67)).drew) hlt'.out hv'.out (show w6.ownsRow 0 67 3 (.slice a' ((F n).length + 1) c') ((F n).length + 1) (tms (F n ++ [⟨x0, x1, x2⟩])) by rw [tms_append, tms_one]; exact ho) hon hsn
  have hlb6 : hb < w6.heap.size := Nat.lt_of_lt_of_le hlb (by have := hon.size; simp at this; omega)
  have hhead : w6.heap[hb]? = wb.heap[hb]? := (hon.block hb (by simp; omega) (fun hr => by
    obtain ⟨x, hx, e⟩ := hr
    exact (hB.out.own n hb hlt'.out (by rw [hv'.out, hx, e]; rfl)).2 rfl)).trans (Below.heap_alloc _ _ _ hlb)
  have cs6 : w6.cell? ⟨hb, 2 + l * 8 + d, none⟩ = some (.slice a (F n).length c) := (World.cell?_of_block (a := ⟨hb, 2 + l * 8 + d, none⟩) hhead).trans cs
  have fz6 : w6.frozen? ⟨hb, 2 + l * 8 + d, none⟩ = false := (World.frozen?_of_block (a := ⟨hb, 2 + l * 8 + d, none⟩) hhead).trans fz
  have en : 2 + l * 8 + d = n + 2 := by have := hn'.out; omega
  have hsl' := Lib.hid hsl
  have hr' := Lib.hid hr
  have hs6 := Lib.hid (show w.heap.size ≤ wb.heap.size from o2.out.size)
  rw [← en] at hsl
  have hfin : Hid (At (w6.setCell ⟨hb, 2 + l * 8 + d, none⟩ (.slice a' ((F n).length + 1) c')) (Plus S w (w6.setCell ⟨hb, 2 + l * 8 + d, none⟩ (.slice a' ((F n).length + 1) c'))) hb now added (upd V n (.slice a' ((F n).length + 1) c')) (putAll now F [⟨x0, x1, x2⟩]) ∧ Only S w (w6.setCell ⟨hb, 2 + l * 8 + d, none⟩ (.slice a' ((F n).length + 1) c'))) := by
    have hF : putAll now F [⟨x0, x1, x2⟩] = upd F n (F n ++ [⟨x0, x1, x2⟩]) := by
      funext m
      rw [putAll_one, hsp'.out]
      unfold upd
      by_cases e : m = n
      · subst e; rw [if_pos rfl]
      · rw [if_neg e, if_neg e]
    rw [hF]
    exact ⟨hsl.1.plus (fun k hk => Nat.lt_of_lt_of_le (h'.out.lt k hk) o2.out.size) o2.out.size hsl.2.size, (o2.out.nilTo S).trans hsl.2⟩
  clear hsl hsl' ho hon hsn hhead hr H hv' hn' en hs6 hB o2 hs' hsp' hlt' h' hbb'
  generalize (F n).length = m at *
  go_wp2
  go_region_law (refine step_append_run rfl (.tmp 26) (.tmp 28) 58 rfl _ _ rfl rfl _ _ hr'.out ?_)
  all_goals
    go_wp2
    go_end0
    exact ⟨rfl, _, hfin.out.1, hfin.out.2⟩
end Go.Proofs.Ytpmgmdlfnlmieaa.Wh
