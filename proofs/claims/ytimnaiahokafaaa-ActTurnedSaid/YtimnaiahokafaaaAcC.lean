/- act: the first item that fits. -/
import Derived.Test.YtimnaiahokafaaaAcB
set_option linter.unusedVariables false
namespace Go.Proofs.Ytimnaiahokafaaa.Ac
open Go Go.RowKit Go.Proofs.Ytimnaiahokafaaa Lx Ps Ch

def Fd {α : Type} (p : α → Bool) (L : List α) (x : α) : Prop := L.find? p = some x
def Fn {α : Type} (p : α → Bool) (L : List α) : Prop := L.find? p = none
theorem find_at {α : Type} {p : α → Bool} {L : List α} {i : Nat} {x : α} (h : ∀ j, j < i → ∀ y, L[j]? = some y → p y = false) (hx : L[i]? = some x) (hp : p x = true) : L.find? p = some x := by
  induction L generalizing i with
  | nil => simp at hx
  | cons a L ih =>
    cases i with
    | zero => simp only [List.getElem?_cons_zero, Option.some.injEq] at hx; subst hx; simp [hp]
    | succ i =>
      have h0 := h 0 (by omega) a rfl
      rw [List.find?_cons, h0]
      exact ih (fun j hj y hy => h (j + 1) (by omega) y hy) hx
theorem find_no {α : Type} {p : α → Bool} {L : List α} {n : Nat} (hn : L.length = n) (h : ∀ j, j < n → ∀ y, L[j]? = some y → p y = false) : L.find? p = none := by
  rw [List.find?_eq_none]
  intro y hy
  obtain ⟨j, hj, rfl⟩ := List.mem_iff_getElem.1 hy
  rw [h j (by omega) _ (List.getElem?_eq_getElem hj)]
  exact Bool.false_ne_true
theorem results_ag1 {P : Program} {fn : Func} {p q : Tmp} {ty te : TypeId} (h : fn.results = #[.cell p ty, .tmp q]) (tmps : Array Value) (w : World) (b : Nat) (cs : List Value) (u : Value)
    (hag : ∀ w, (isAgg ty).run P w = .ok true w) (hsz : ∀ w, (Go.sizeOf ty).run P w = .ok cs.length w) (hp : tmps.getD p undef = .pointer (some ⟨b, 0, none⟩)) (hq : tmps.getD q undef = u) (hc : w.heap[b]? = some (.cells cs.toArray te (0, 0))) :
    (results fn tmps).run P w = .ok (.tuple #[.agg cs.toArray, u]) w := by
  have hp' : tmps[p]?.getD undef = .pointer (some ⟨b, 0, none⟩) := by simpa using hp
  have hq' : tmps[q]?.getD undef = u := by simpa using hq
  have hl := run_loadCells_list (P := P) w ⟨b, 0, none⟩ cs (fun j v hj => by
    have e : (⟨b, 0, none⟩ : Addr).add j = ⟨b, j, none⟩ := by unfold Addr.add; split <;> simp_all
    rw [e, cell_of_row w b j _ _ _ hc]; simpa using hj)
  simp only [results, h]
  simp [Sem.run_bind, Result.andThen, asAddr, loadVar, hag, hsz, hp', hq', hl]
theorem xe_nil (D : Nat) (w : World) : XE D w (.slice none 0 0) [] := ⟨none, 0, ⟨rfl, Nat.le_refl _⟩, rfl, fun i hi => absurd hi (Nat.not_lt_zero i)⟩
theorem xr_nil (D : Nat) (w : World) : XR D w (.slice none 0 0) [] := ⟨[], rfl, ⟨none, 0, ⟨rfl, Nat.le_refl _⟩, rfl, fun i hi => absurd hi (Nat.not_lt_zero i)⟩, fun x hx => nomatch hx⟩
theorem xs_nil (D : Nat) (w : World) : XS D w (.slice none 0 0) [] := ⟨[], rfl, ⟨none, 0, ⟨rfl, Nat.le_refl _⟩, rfl, fun i hi => absurd hi (Nat.not_lt_zero i)⟩, fun x hx => nomatch hx⟩
theorem xc_nil (D : Nat) (w : World) : XC D w (.slice none 0 0) [] := ⟨none, 0, ⟨rfl, Nat.le_refl _⟩, rfl, fun i hi => absurd hi (Nat.not_lt_zero i)⟩

/-! ### api.Kind -/
def Pred_kd (w0 : World) (fv : Value) (p : Kd → Bool) : Prop :=
  ∃ g cs cb, fv = .func (.func g) cs cb ∧ (∀ args w, (callFunc g args).run Try.prog w = .ok (.enter g args) w) ∧ ∀ (w : World) (x : Kd) (a1 : Option Addr) (n1 c1 : Nat) (a2 : Option Addr) (n2 c2 : Nat), Only Nil w0 w → Calls Try.prog g (cs ++ #[.agg #[.string (bs x.name), .int .i64 x.limit, .int .i64 x.within, .slice a1 n1 c1, .slice a2 n2 c2]] ++ cb) w fun e w' => e = .returned (.bool (p x)) ∧ Only Nil w w'
theorem Pred_kd.keep {w0 w : World} {fv : Value} {p : Kd → Bool} (h : Pred_kd w0 fv p) (o : Only Nil w0 w) : Pred_kd w fv p := by
  obtain ⟨g, cs, cb, h1, h2, h3⟩ := h; exact ⟨g, cs, cb, h1, h2, fun w' x a1 n1 c1 a2 n2 c2 o' => h3 w' x a1 n1 c1 a2 n2 c2 (o.trans o')⟩
set_option maxHeartbeats 2000000 in
set_option maxRecDepth 100000 in
theorem ix_kd {D : Nat} {w : World} {a : Option Addr} {n c : Nat} {L : List Kd} (hx : XK D w (.slice a n c) L) (hn : L.length = n) (hb : n ≤ 140737488355328) {fv : Value} {p : Kd → Bool} (h : Pred_kd w fv p) :
    Calls Try.prog 40 #[.slice a n c, fv] w fun e w' => Hid ((∃ (i : Nat) (x : Kd), e = .returned (.int .i64 (i : Int)) ∧ i < n ∧ L[i]? = some x ∧ Fd p L x) ∨ (Fn p L ∧ e = .returned (.int .i64 (-1)))) ∧ Only Nil w w' := by
  obtain ⟨g, cs, cb, rfl, eg, hcl⟩ := h
  have HX := Lib.hid hx
  have HC := Lib.hid hcl
  have HN := Lib.hid hn
  have hb' : (n : Int) ≤ 140737488355328 := by omega
  clear hx hcl hn hb
  go_enter Try.func40, Try.ntmps40
  go_wp2
  go_loopw [8] (fun s8 wr => ∃ (i : Nat), i ≤ n ∧ s8 = .int .i64 (i : Int) ∧ Hid (∀ j, j < i → ∀ y, L[j]? = some y → p y = false) ∧ Hid (Only Nil w wr))
    (fun s8 _ => n - (intOf s8).toNat)
  case atStart => exact ⟨0, Nat.zero_le _, rfl, Lib.hid (fun j hj => absurd hj (Nat.not_lt_zero j)), Lib.hid (Only.refl _ _)⟩
  case round =>
    obtain ⟨i, hi, rfl, hE, hO⟩ := hrel
    by_cases hin : i < n
    · obtain ⟨s1, s2, ⟨q, off, rfl, hlt, hc⟩, g1, g2⟩ := (HX.out.keep hO.out (nilS · D)).at_ HN.out i hin
      have hil : i < L.length := by rw [HN.out]; exact hin
      have HL := Lib.hid (List.getElem?_eq_getElem hil)
      have HI := Lib.hid hin
      generalize L[i] = x at *
      have e0 : wr.cell? ⟨q, off + i * 5, none⟩ = some (.string (bs x.name)) := hc 0 (by decide)
      have e1 : wr.cell? ⟨q, off + i * 5 + 1, none⟩ = some (.int .i64 x.limit) := hc 1 (by decide)
      have e2 : wr.cell? ⟨q, off + i * 5 + 2, none⟩ = some (.int .i64 x.within) := hc 2 (by decide)
      obtain ⟨a1, c1, rfl⟩ := g1.slice
      have e3 : wr.cell? ⟨q, off + i * 5 + 3, none⟩ = some (.slice a1 (x.cases.length) c1) := hc 3 (by decide)
      obtain ⟨a2, c2, rfl⟩ := g2.slice
      have e4 : wr.cell? ⟨q, off + i * 5 + 4, none⟩ = some (.slice a2 (x.states.length) c2) := hc 4 (by decide)
      clear hc
      have hin' : (i : Int) < (n : Int) := by omega
      have HF := Lib.hid (HC.out wr x a1 (x.cases.length) c1 a2 (x.states.length) c2 hO.out)
      cases hp : p x with
      | false =>
        rw [hp] at HF
        have HP := Lib.hid hp
        clear hp
        go_wp2_with (go_at_fn g; refine HF.out.mono ?_; rintro e w1 ⟨rfl, o1⟩; have O1 := Lib.hid (hO.out.trans o1))
        go_roundw
        case rel => exact ⟨i + 1, by omega, by go_num, Lib.hid (fun j hj y hy => by
          rcases Nat.lt_or_ge j i with h | h
          · exact hE.out j h y hy
          · obtain rfl : j = i := by omega
            rw [HL.out] at hy; rw [← Option.some.inj hy]; exact HP.out), O1⟩
        case measure => simp [intOf]; omega
      | true =>
        rw [hp] at HF
        have HP := Lib.hid hp
        clear hp
        go_wp2_with (go_at_fn g; refine HF.out.mono ?_; rintro e w1 ⟨rfl, o1⟩; have O1 := Lib.hid (hO.out.trans o1))
        go_ret
        exact ⟨Lib.hid (Or.inl ⟨i, x, rfl, HI.out, HL.out, find_at hE.out HL.out HP.out⟩), O1.out⟩
    · obtain rfl : i = n := by omega
      have hk0 : ¬ (i : Int) < (i : Int) := by omega
      clear hin
      go_wp2
      go_ret
      exact ⟨Lib.hid (Or.inr ⟨find_no HN.out hE.out, rfl⟩), hO.out⟩
set_option maxHeartbeats 2000000 in
set_option maxRecDepth 100000 in
theorem first_kd {D : Nat} {w : World} {a : Option Addr} {n c : Nat} {L : List Kd} (hx : XK D w (.slice a n c) L) (hn : L.length = n) (hb : n ≤ 140737488355328) (hD : D ≤ w.heap.size) {fv : Value} {p : Kd → Bool} (h : Pred_kd w fv p) :
    Calls Try.prog 30 #[.slice a n c, fv] w fun e w' => Hid (∃ s1 s2 : Value, e = .returned (.tuple #[.agg (kdCs ((L.find? p).getD zK, s1, s2)).toArray, .bool (L.find? p).isSome]) ∧ XC D w' s1 ((L.find? p).getD zK).cases ∧ XS D w' s2 ((L.find? p).getD zK).states) ∧ Only Nil w w' := by
  obtain ⟨wO, hwO⟩ : ∃ wO, wO = w.alloc (.cells #[.string ⟨#[]⟩, .int .i64 0, .int .i64 0, .slice none 0 0, .slice none 0 0] 25) := ⟨_, rfl⟩
  have o0 : Only Nil w wO := hwO ▸ (Only.refl Nil w).alloc _
  have HB := Lib.hid (show Bx wO w.heap.size [.string ⟨#[]⟩, .int .i64 0, .int .i64 0, .slice none 0 0, .slice none 0 0] 25 from hwO ▸ bx_new w _ _)
  have HI := Lib.hid (ix_kd (hx.keep o0 (nilS · D)) hn hb (h.keep o0))
  have HX := Lib.hid (hx.keep o0 (nilS · D))
  have HN := Lib.hid hn
  have HD := Lib.hid hD
  have O0 := Lib.hid o0
  have hb' : (n : Int) ≤ 140737488355328 := by omega
  obtain ⟨g, cs, cb, rfl, eg, hcl⟩ := h
  clear hx hcl hn hb eg o0 hD
  go_enter Try.func30, Try.ntmps30
  go_upto_region 1 with (fail)
  rw [← hwO]; clear hwO
  generalize hB : w.heap.size = B at *
  have HBB := Lib.hid hB
  clear hB
  go_wp2_with fail
  refine HI.out.mono ?_
  rintro e w1 ⟨hr, o1⟩
  have O1 := Lib.hid o1
  have B1 := Lib.hid (HB.out.keep o1)
  clear o1 HI
  rcases hr.out with ⟨i, x, rfl, hi, hL, hF⟩ | ⟨hF, rfl⟩
  · have HF := Lib.hid (show L.find? p = some x from hF)
    obtain ⟨s1, s2, ⟨q, off, rfl, hlt, hc⟩, g1, g2⟩ := (HX.out.keep O1.out (nilS · D)).at_ HN.out i hi
    have hxx : L[i]'(by rw [HN.out]; exact hi) = x := by
      rw [List.getElem?_eq_getElem (by rw [HN.out]; exact hi)] at hL; exact Option.some.inj hL
    rw [hxx] at hc g1 g2
    clear hL hF hr hxx HN
    have G1 := Lib.hid g1
    have G2 := Lib.hid g2
    have e0 : w1.cell? ⟨q, off + i * 5, none⟩ = some (.string (bs x.name)) := hc 0 (by decide)
    have e1 : w1.cell? ⟨q, off + i * 5 + 1, none⟩ = some (.int .i64 x.limit) := hc 1 (by decide)
    have e2 : w1.cell? ⟨q, off + i * 5 + 2, none⟩ = some (.int .i64 x.within) := hc 2 (by decide)
    obtain ⟨a1, c1, rfl⟩ := g1.slice
    have e3 : w1.cell? ⟨q, off + i * 5 + 3, none⟩ = some (.slice a1 (x.cases.length) c1) := hc 3 (by decide)
    obtain ⟨a2, c2, rfl⟩ := g2.slice
    have e4 : w1.cell? ⟨q, off + i * 5 + 4, none⟩ = some (.slice a2 (x.states.length) c2) := hc 4 (by decide)
    clear hc g1 g2
    have h0i : ¬ (i : Int) < 0 := by omega
    have hii : (i : Int) < (n : Int) := by omega
    have z0 := B1.out.cell 0 (v := .string ⟨#[]⟩) rfl
    have f0 := B1.out.free 0
    have z1 := B1.out.cell 1 (v := .int .i64 0) rfl
    have f1 := B1.out.free 1
    have z2 := B1.out.cell 2 (v := .int .i64 0) rfl
    have f2 := B1.out.free 2
    have z3 := B1.out.cell 3 (v := .slice none 0 0) rfl
    have f3 := B1.out.free 3
    have z4 := B1.out.cell 4 (v := .slice none 0 0) rfl
    have f4 := B1.out.free 4
    go_wp2
    have t1 := bx_set (B1.out) 0 (.string (bs x.name))
    have t2 := bx_set (t1) 1 (.int .i64 x.limit)
    have t3 := bx_set (t2) 2 (.int .i64 x.within)
    have t4 := bx_set (t3) 3 (.slice a1 (x.cases.length) c1)
    have t5 := bx_set (t4) 4 (.slice a2 (x.states.length) c2)
    simp only [List.set_cons_zero, List.set_cons_succ] at t5
    have oB := ((((((Only.refl (At B) w1).setCell (p := ⟨B, 0, none⟩) rfl (.string (bs x.name))).setCell (p := ⟨B, 1, none⟩) rfl (.int .i64 x.limit)).setCell (p := ⟨B, 2, none⟩) rfl (.int .i64 x.within)).setCell (p := ⟨B, 3, none⟩) rfl (.slice a1 (x.cases.length) c1)).setCell (p := ⟨B, 4, none⟩) rfl (.slice a2 (x.states.length) c2))
    refine bodyPost_ret (results_ag1 rfl _ _ B [.string (bs x.name), .int .i64 x.limit, .int .i64 x.within, .slice a1 (x.cases.length) c1, .slice a2 (x.states.length) c2] (.bool true) Try.isAgg25 Try.sizeOf25 rfl rfl t5) rfl ?_
    refine ⟨Lib.hid ⟨_, _, by rw [HF.out]; rfl, ?_⟩, (O0.out.trans O1.out).then oB (fun k hk hlt => by have e1 : k = B := hk; have := HBB.out; omega)⟩
    rw [HF.out]
    have hS : ∀ b, b < D → ¬ At B b := fun b hb h => by have e1 : b = B := h; have := HBB.out; have := HD.out; omega
    exact ⟨G1.out.keep oB hS, G2.out.keep oB hS⟩
  · have HF := Lib.hid (show L.find? p = none from hF)
    clear hF hr
    have oN : Only Nil w1 (w1.alloc (.cells #[.string ⟨#[]⟩, .int .i64 0, .int .i64 0, .slice none 0 0, .slice none 0 0] 25)) := (Only.refl Nil w1).alloc _
    have N1 := bx_new w1 [.string ⟨#[]⟩, .int .i64 0, .int .i64 0, .slice none 0 0, .slice none 0 0] 25
    have B2 := B1.out.keep oN
    go_upto_region 4 with (fail)
    change Bx (w1.alloc (.cells #[.string ⟨#[]⟩, .int .i64 0, .int .i64 0, .slice none 0 0, .slice none 0 0] 25)) _ _ _ at N1
    generalize w1.alloc (.cells #[.string ⟨#[]⟩, .int .i64 0, .int .i64 0, .slice none 0 0, .slice none 0 0] 25) = w2 at *
    generalize w1.heap.size = B' at *
    have y0 := N1.cell 0 (v := .string ⟨#[]⟩) rfl
    have y1 := N1.cell 1 (v := .int .i64 0) rfl
    have y2 := N1.cell 2 (v := .int .i64 0) rfl
    have y3 := N1.cell 3 (v := .slice none 0 0) rfl
    have y4 := N1.cell 4 (v := .slice none 0 0) rfl
    have z0 := B2.cell 0 (v := .string ⟨#[]⟩) rfl
    have f0 := B2.free 0
    have z1 := B2.cell 1 (v := .int .i64 0) rfl
    have f1 := B2.free 1
    have z2 := B2.cell 2 (v := .int .i64 0) rfl
    have f2 := B2.free 2
    have z3 := B2.cell 3 (v := .slice none 0 0) rfl
    have f3 := B2.free 3
    have z4 := B2.cell 4 (v := .slice none 0 0) rfl
    have f4 := B2.free 4
    go_wp2
    have t1 := bx_set (B2) 0 (.string ⟨#[]⟩)
    have t2 := bx_set (t1) 1 (.int .i64 0)
    have t3 := bx_set (t2) 2 (.int .i64 0)
    have t4 := bx_set (t3) 3 (.slice none 0 0)
    have t5 := bx_set (t4) 4 (.slice none 0 0)
    simp only [List.set_cons_zero, List.set_cons_succ] at t5
    have oB := ((((((Only.refl (At B) w2).setCell (p := ⟨B, 0, none⟩) rfl (.string ⟨#[]⟩)).setCell (p := ⟨B, 1, none⟩) rfl (.int .i64 0)).setCell (p := ⟨B, 2, none⟩) rfl (.int .i64 0)).setCell (p := ⟨B, 3, none⟩) rfl (.slice none 0 0)).setCell (p := ⟨B, 4, none⟩) rfl (.slice none 0 0))
    refine bodyPost_ret (results_ag1 rfl _ _ B [.string ⟨#[]⟩, .int .i64 0, .int .i64 0, .slice none 0 0, .slice none 0 0] (.bool false) Try.isAgg25 Try.sizeOf25 rfl rfl t5) rfl ?_
    refine ⟨Lib.hid ⟨.slice none 0 0, .slice none 0 0, by rw [HF.out]; rfl, ?_⟩, ((O0.out.trans O1.out).trans oN).then oB (fun k hk hlt => by have e1 : k = B := hk; have := HBB.out; omega)⟩
    rw [HF.out]
    exact ⟨xc_nil _ _, xs_nil _ _⟩

/-! ### api.State -/
def Pred_sta (w0 : World) (fv : Value) (p : Sta → Bool) : Prop :=
  ∃ g cs cb, fv = .func (.func g) cs cb ∧ (∀ args w, (callFunc g args).run Try.prog w = .ok (.enter g args) w) ∧ ∀ (w : World) (x : Sta) (a1 : Option Addr) (n1 c1 : Nat), Only Nil w0 w → Calls Try.prog g (cs ++ #[.agg #[.string (bs x.name), .slice a1 n1 c1]] ++ cb) w fun e w' => e = .returned (.bool (p x)) ∧ Only Nil w w'
theorem Pred_sta.keep {w0 w : World} {fv : Value} {p : Sta → Bool} (h : Pred_sta w0 fv p) (o : Only Nil w0 w) : Pred_sta w fv p := by
  obtain ⟨g, cs, cb, h1, h2, h3⟩ := h; exact ⟨g, cs, cb, h1, h2, fun w' x a1 n1 c1 o' => h3 w' x a1 n1 c1 (o.trans o')⟩
set_option maxHeartbeats 2000000 in
set_option maxRecDepth 100000 in
theorem ix_sta {D : Nat} {w : World} {a : Option Addr} {n c : Nat} {L : List Sta} (hx : XS D w (.slice a n c) L) (hn : L.length = n) (hb : n ≤ 140737488355328) {fv : Value} {p : Sta → Bool} (h : Pred_sta w fv p) :
    Calls Try.prog 45 #[.slice a n c, fv] w fun e w' => Hid ((∃ (i : Nat) (x : Sta), e = .returned (.int .i64 (i : Int)) ∧ i < n ∧ L[i]? = some x ∧ Fd p L x) ∨ (Fn p L ∧ e = .returned (.int .i64 (-1)))) ∧ Only Nil w w' := by
  obtain ⟨g, cs, cb, rfl, eg, hcl⟩ := h
  have HX := Lib.hid hx
  have HC := Lib.hid hcl
  have HN := Lib.hid hn
  have hb' : (n : Int) ≤ 140737488355328 := by omega
  clear hx hcl hn hb
  go_enter Try.func45, Try.ntmps45
  go_wp2
  go_loopw [8] (fun s8 wr => ∃ (i : Nat), i ≤ n ∧ s8 = .int .i64 (i : Int) ∧ Hid (∀ j, j < i → ∀ y, L[j]? = some y → p y = false) ∧ Hid (Only Nil w wr))
    (fun s8 _ => n - (intOf s8).toNat)
  case atStart => exact ⟨0, Nat.zero_le _, rfl, Lib.hid (fun j hj => absurd hj (Nat.not_lt_zero j)), Lib.hid (Only.refl _ _)⟩
  case round =>
    obtain ⟨i, hi, rfl, hE, hO⟩ := hrel
    by_cases hin : i < n
    · obtain ⟨s1, ⟨q, off, rfl, hlt, hc⟩, g1⟩ := (HX.out.keep hO.out (nilS · D)).at_ HN.out i hin
      have hil : i < L.length := by rw [HN.out]; exact hin
      have HL := Lib.hid (List.getElem?_eq_getElem hil)
      have HI := Lib.hid hin
      generalize L[i] = x at *
      have e0 : wr.cell? ⟨q, off + i * 2, none⟩ = some (.string (bs x.name)) := hc 0 (by decide)
      obtain ⟨a1, c1, rfl⟩ := g1.slice
      have e1 : wr.cell? ⟨q, off + i * 2 + 1, none⟩ = some (.slice a1 (x.rows.length) c1) := hc 1 (by decide)
      clear hc
      have hin' : (i : Int) < (n : Int) := by omega
      have HF := Lib.hid (HC.out wr x a1 (x.rows.length) c1 hO.out)
      cases hp : p x with
      | false =>
        rw [hp] at HF
        have HP := Lib.hid hp
        clear hp
        go_wp2_with (go_at_fn g; refine HF.out.mono ?_; rintro e w1 ⟨rfl, o1⟩; have O1 := Lib.hid (hO.out.trans o1))
        go_roundw
        case rel => exact ⟨i + 1, by omega, by go_num, Lib.hid (fun j hj y hy => by
          rcases Nat.lt_or_ge j i with h | h
          · exact hE.out j h y hy
          · obtain rfl : j = i := by omega
            rw [HL.out] at hy; rw [← Option.some.inj hy]; exact HP.out), O1⟩
        case measure => simp [intOf]; omega
      | true =>
        rw [hp] at HF
        have HP := Lib.hid hp
        clear hp
        go_wp2_with (go_at_fn g; refine HF.out.mono ?_; rintro e w1 ⟨rfl, o1⟩; have O1 := Lib.hid (hO.out.trans o1))
        go_ret
        exact ⟨Lib.hid (Or.inl ⟨i, x, rfl, HI.out, HL.out, find_at hE.out HL.out HP.out⟩), O1.out⟩
    · obtain rfl : i = n := by omega
      have hk0 : ¬ (i : Int) < (i : Int) := by omega
      clear hin
      go_wp2
      go_ret
      exact ⟨Lib.hid (Or.inr ⟨find_no HN.out hE.out, rfl⟩), hO.out⟩
set_option maxHeartbeats 2000000 in
set_option maxRecDepth 100000 in
theorem first_sta {D : Nat} {w : World} {a : Option Addr} {n c : Nat} {L : List Sta} (hx : XS D w (.slice a n c) L) (hn : L.length = n) (hb : n ≤ 140737488355328) (hD : D ≤ w.heap.size) {fv : Value} {p : Sta → Bool} (h : Pred_sta w fv p) :
    Calls Try.prog 36 #[.slice a n c, fv] w fun e w' => Hid (∃ s1 : Value, e = .returned (.tuple #[.agg (staCs ((L.find? p).getD zS, s1)).toArray, .bool (L.find? p).isSome]) ∧ XR D w' s1 ((L.find? p).getD zS).rows) ∧ Only Nil w w' := by
  obtain ⟨wO, hwO⟩ : ∃ wO, wO = w.alloc (.cells #[.string ⟨#[]⟩, .slice none 0 0] 48) := ⟨_, rfl⟩
  have o0 : Only Nil w wO := hwO ▸ (Only.refl Nil w).alloc _
  have HB := Lib.hid (show Bx wO w.heap.size [.string ⟨#[]⟩, .slice none 0 0] 48 from hwO ▸ bx_new w _ _)
  have HI := Lib.hid (ix_sta (hx.keep o0 (nilS · D)) hn hb (h.keep o0))
  have HX := Lib.hid (hx.keep o0 (nilS · D))
  have HN := Lib.hid hn
  have HD := Lib.hid hD
  have O0 := Lib.hid o0
  have hb' : (n : Int) ≤ 140737488355328 := by omega
  obtain ⟨g, cs, cb, rfl, eg, hcl⟩ := h
  clear hx hcl hn hb eg o0 hD
  go_enter Try.func36, Try.ntmps36
  go_upto_region 1 with (fail)
  rw [← hwO]; clear hwO
  generalize hB : w.heap.size = B at *
  have HBB := Lib.hid hB
  clear hB
  go_wp2_with fail
  refine HI.out.mono ?_
  rintro e w1 ⟨hr, o1⟩
  have O1 := Lib.hid o1
  have B1 := Lib.hid (HB.out.keep o1)
  clear o1 HI
  rcases hr.out with ⟨i, x, rfl, hi, hL, hF⟩ | ⟨hF, rfl⟩
  · have HF := Lib.hid (show L.find? p = some x from hF)
    obtain ⟨s1, ⟨q, off, rfl, hlt, hc⟩, g1⟩ := (HX.out.keep O1.out (nilS · D)).at_ HN.out i hi
    have hxx : L[i]'(by rw [HN.out]; exact hi) = x := by
      rw [List.getElem?_eq_getElem (by rw [HN.out]; exact hi)] at hL; exact Option.some.inj hL
    rw [hxx] at hc g1
    clear hL hF hr hxx HN
    have G1 := Lib.hid g1
    have e0 : w1.cell? ⟨q, off + i * 2, none⟩ = some (.string (bs x.name)) := hc 0 (by decide)
    obtain ⟨a1, c1, rfl⟩ := g1.slice
    have e1 : w1.cell? ⟨q, off + i * 2 + 1, none⟩ = some (.slice a1 (x.rows.length) c1) := hc 1 (by decide)
    clear hc g1
    have h0i : ¬ (i : Int) < 0 := by omega
    have hii : (i : Int) < (n : Int) := by omega
    have z0 := B1.out.cell 0 (v := .string ⟨#[]⟩) rfl
    have f0 := B1.out.free 0
    have z1 := B1.out.cell 1 (v := .slice none 0 0) rfl
    have f1 := B1.out.free 1
    go_wp2
    have t1 := bx_set (B1.out) 0 (.string (bs x.name))
    have t2 := bx_set (t1) 1 (.slice a1 (x.rows.length) c1)
    simp only [List.set_cons_zero, List.set_cons_succ] at t2
    have oB := (((Only.refl (At B) w1).setCell (p := ⟨B, 0, none⟩) rfl (.string (bs x.name))).setCell (p := ⟨B, 1, none⟩) rfl (.slice a1 (x.rows.length) c1))
    refine bodyPost_ret (results_ag1 rfl _ _ B [.string (bs x.name), .slice a1 (x.rows.length) c1] (.bool true) Try.isAgg48 Try.sizeOf48 rfl rfl t2) rfl ?_
    refine ⟨Lib.hid ⟨_, by rw [HF.out]; rfl, ?_⟩, (O0.out.trans O1.out).then oB (fun k hk hlt => by have e1 : k = B := hk; have := HBB.out; omega)⟩
    rw [HF.out]
    have hS : ∀ b, b < D → ¬ At B b := fun b hb h => by have e1 : b = B := h; have := HBB.out; have := HD.out; omega
    exact G1.out.keep oB hS
  · have HF := Lib.hid (show L.find? p = none from hF)
    clear hF hr
    have oN : Only Nil w1 (w1.alloc (.cells #[.string ⟨#[]⟩, .slice none 0 0] 48)) := (Only.refl Nil w1).alloc _
    have N1 := bx_new w1 [.string ⟨#[]⟩, .slice none 0 0] 48
    have B2 := B1.out.keep oN
    go_upto_region 4 with (fail)
    change Bx (w1.alloc (.cells #[.string ⟨#[]⟩, .slice none 0 0] 48)) _ _ _ at N1
    generalize w1.alloc (.cells #[.string ⟨#[]⟩, .slice none 0 0] 48) = w2 at *
    generalize w1.heap.size = B' at *
    have y0 := N1.cell 0 (v := .string ⟨#[]⟩) rfl
    have y1 := N1.cell 1 (v := .slice none 0 0) rfl
    have z0 := B2.cell 0 (v := .string ⟨#[]⟩) rfl
    have f0 := B2.free 0
    have z1 := B2.cell 1 (v := .slice none 0 0) rfl
    have f1 := B2.free 1
    go_wp2
    have t1 := bx_set (B2) 0 (.string ⟨#[]⟩)
    have t2 := bx_set (t1) 1 (.slice none 0 0)
    simp only [List.set_cons_zero, List.set_cons_succ] at t2
    have oB := (((Only.refl (At B) w2).setCell (p := ⟨B, 0, none⟩) rfl (.string ⟨#[]⟩)).setCell (p := ⟨B, 1, none⟩) rfl (.slice none 0 0))
    refine bodyPost_ret (results_ag1 rfl _ _ B [.string ⟨#[]⟩, .slice none 0 0] (.bool false) Try.isAgg48 Try.sizeOf48 rfl rfl t2) rfl ?_
    refine ⟨Lib.hid ⟨.slice none 0 0, by rw [HF.out]; rfl, ?_⟩, ((O0.out.trans O1.out).trans oN).then oB (fun k hk hlt => by have e1 : k = B := hk; have := HBB.out; omega)⟩
    rw [HF.out]
    exact xr_nil _ _

/-! ### api.Row -/
def Pred_rw (w0 : World) (fv : Value) (p : Rw → Bool) : Prop :=
  ∃ g cs cb, fv = .func (.func g) cs cb ∧ (∀ args w, (callFunc g args).run Try.prog w = .ok (.enter g args) w) ∧ ∀ (w : World) (x : Rw) (a1 : Option Addr) (n1 c1 : Nat), Only Nil w0 w → Calls Try.prog g (cs ++ #[.agg #[.string (bs x.tag), .bool x.only, .int .i64 x.n, .slice a1 n1 c1]] ++ cb) w fun e w' => e = .returned (.bool (p x)) ∧ Only Nil w w'
theorem Pred_rw.keep {w0 w : World} {fv : Value} {p : Rw → Bool} (h : Pred_rw w0 fv p) (o : Only Nil w0 w) : Pred_rw w fv p := by
  obtain ⟨g, cs, cb, h1, h2, h3⟩ := h; exact ⟨g, cs, cb, h1, h2, fun w' x a1 n1 c1 o' => h3 w' x a1 n1 c1 (o.trans o')⟩
set_option maxHeartbeats 2000000 in
set_option maxRecDepth 100000 in
theorem ix_rw {D : Nat} {w : World} {a : Option Addr} {n c : Nat} {L : List Rw} (hx : XR D w (.slice a n c) L) (hn : L.length = n) (hb : n ≤ 140737488355328) {fv : Value} {p : Rw → Bool} (h : Pred_rw w fv p) :
    Calls Try.prog 46 #[.slice a n c, fv] w fun e w' => Hid ((∃ (i : Nat) (x : Rw), e = .returned (.int .i64 (i : Int)) ∧ i < n ∧ L[i]? = some x ∧ Fd p L x) ∨ (Fn p L ∧ e = .returned (.int .i64 (-1)))) ∧ Only Nil w w' := by
  obtain ⟨g, cs, cb, rfl, eg, hcl⟩ := h
  have HX := Lib.hid hx
  have HC := Lib.hid hcl
  have HN := Lib.hid hn
  have hb' : (n : Int) ≤ 140737488355328 := by omega
  clear hx hcl hn hb
  go_enter Try.func46, Try.ntmps46
  go_wp2
  go_loopw [8] (fun s8 wr => ∃ (i : Nat), i ≤ n ∧ s8 = .int .i64 (i : Int) ∧ Hid (∀ j, j < i → ∀ y, L[j]? = some y → p y = false) ∧ Hid (Only Nil w wr))
    (fun s8 _ => n - (intOf s8).toNat)
  case atStart => exact ⟨0, Nat.zero_le _, rfl, Lib.hid (fun j hj => absurd hj (Nat.not_lt_zero j)), Lib.hid (Only.refl _ _)⟩
  case round =>
    obtain ⟨i, hi, rfl, hE, hO⟩ := hrel
    by_cases hin : i < n
    · obtain ⟨s1, ⟨q, off, rfl, hlt, hc⟩, g1⟩ := (HX.out.keep hO.out (nilS · D)).at_ HN.out i hin
      have hil : i < L.length := by rw [HN.out]; exact hin
      have HL := Lib.hid (List.getElem?_eq_getElem hil)
      have HI := Lib.hid hin
      generalize L[i] = x at *
      have e0 : wr.cell? ⟨q, off + i * 4, none⟩ = some (.string (bs x.tag)) := hc 0 (by decide)
      have e1 : wr.cell? ⟨q, off + i * 4 + 1, none⟩ = some (.bool x.only) := hc 1 (by decide)
      have e2 : wr.cell? ⟨q, off + i * 4 + 2, none⟩ = some (.int .i64 x.n) := hc 2 (by decide)
      obtain ⟨a1, c1, rfl⟩ := g1.slice
      have e3 : wr.cell? ⟨q, off + i * 4 + 3, none⟩ = some (.slice a1 (x.effs.length) c1) := hc 3 (by decide)
      clear hc
      have hin' : (i : Int) < (n : Int) := by omega
      have HF := Lib.hid (HC.out wr x a1 (x.effs.length) c1 hO.out)
      cases hp : p x with
      | false =>
        rw [hp] at HF
        have HP := Lib.hid hp
        clear hp
        go_wp2_with (go_at_fn g; refine HF.out.mono ?_; rintro e w1 ⟨rfl, o1⟩; have O1 := Lib.hid (hO.out.trans o1))
        go_roundw
        case rel => exact ⟨i + 1, by omega, by go_num, Lib.hid (fun j hj y hy => by
          rcases Nat.lt_or_ge j i with h | h
          · exact hE.out j h y hy
          · obtain rfl : j = i := by omega
            rw [HL.out] at hy; rw [← Option.some.inj hy]; exact HP.out), O1⟩
        case measure => simp [intOf]; omega
      | true =>
        rw [hp] at HF
        have HP := Lib.hid hp
        clear hp
        go_wp2_with (go_at_fn g; refine HF.out.mono ?_; rintro e w1 ⟨rfl, o1⟩; have O1 := Lib.hid (hO.out.trans o1))
        go_ret
        exact ⟨Lib.hid (Or.inl ⟨i, x, rfl, HI.out, HL.out, find_at hE.out HL.out HP.out⟩), O1.out⟩
    · obtain rfl : i = n := by omega
      have hk0 : ¬ (i : Int) < (i : Int) := by omega
      clear hin
      go_wp2
      go_ret
      exact ⟨Lib.hid (Or.inr ⟨find_no HN.out hE.out, rfl⟩), hO.out⟩
set_option maxHeartbeats 2000000 in
set_option maxRecDepth 100000 in
theorem first_rw {D : Nat} {w : World} {a : Option Addr} {n c : Nat} {L : List Rw} (hx : XR D w (.slice a n c) L) (hn : L.length = n) (hb : n ≤ 140737488355328) (hD : D ≤ w.heap.size) {fv : Value} {p : Rw → Bool} (h : Pred_rw w fv p) :
    Calls Try.prog 38 #[.slice a n c, fv] w fun e w' => Hid (∃ s1 : Value, e = .returned (.tuple #[.agg (rowCs ((L.find? p).getD zR, s1)).toArray, .bool (L.find? p).isSome]) ∧ XE D w' s1 ((L.find? p).getD zR).effs) ∧ Only Nil w w' := by
  obtain ⟨wO, hwO⟩ : ∃ wO, wO = w.alloc (.cells #[.string ⟨#[]⟩, .bool false, .int .i64 0, .slice none 0 0] 40) := ⟨_, rfl⟩
  have o0 : Only Nil w wO := hwO ▸ (Only.refl Nil w).alloc _
  have HB := Lib.hid (show Bx wO w.heap.size [.string ⟨#[]⟩, .bool false, .int .i64 0, .slice none 0 0] 40 from hwO ▸ bx_new w _ _)
  have HI := Lib.hid (ix_rw (hx.keep o0 (nilS · D)) hn hb (h.keep o0))
  have HX := Lib.hid (hx.keep o0 (nilS · D))
  have HN := Lib.hid hn
  have HD := Lib.hid hD
  have O0 := Lib.hid o0
  have hb' : (n : Int) ≤ 140737488355328 := by omega
  obtain ⟨g, cs, cb, rfl, eg, hcl⟩ := h
  clear hx hcl hn hb eg o0 hD
  go_enter Try.func38, Try.ntmps38
  go_upto_region 1 with (fail)
  rw [← hwO]; clear hwO
  generalize hB : w.heap.size = B at *
  have HBB := Lib.hid hB
  clear hB
  go_wp2_with fail
  refine HI.out.mono ?_
  rintro e w1 ⟨hr, o1⟩
  have O1 := Lib.hid o1
  have B1 := Lib.hid (HB.out.keep o1)
  clear o1 HI
  rcases hr.out with ⟨i, x, rfl, hi, hL, hF⟩ | ⟨hF, rfl⟩
  · have HF := Lib.hid (show L.find? p = some x from hF)
    obtain ⟨s1, ⟨q, off, rfl, hlt, hc⟩, g1⟩ := (HX.out.keep O1.out (nilS · D)).at_ HN.out i hi
    have hxx : L[i]'(by rw [HN.out]; exact hi) = x := by
      rw [List.getElem?_eq_getElem (by rw [HN.out]; exact hi)] at hL; exact Option.some.inj hL
    rw [hxx] at hc g1
    clear hL hF hr hxx HN
    have G1 := Lib.hid g1
    have e0 : w1.cell? ⟨q, off + i * 4, none⟩ = some (.string (bs x.tag)) := hc 0 (by decide)
    have e1 : w1.cell? ⟨q, off + i * 4 + 1, none⟩ = some (.bool x.only) := hc 1 (by decide)
    have e2 : w1.cell? ⟨q, off + i * 4 + 2, none⟩ = some (.int .i64 x.n) := hc 2 (by decide)
    obtain ⟨a1, c1, rfl⟩ := g1.slice
    have e3 : w1.cell? ⟨q, off + i * 4 + 3, none⟩ = some (.slice a1 (x.effs.length) c1) := hc 3 (by decide)
    clear hc g1
    have h0i : ¬ (i : Int) < 0 := by omega
    have hii : (i : Int) < (n : Int) := by omega
    have z0 := B1.out.cell 0 (v := .string ⟨#[]⟩) rfl
    have f0 := B1.out.free 0
    have z1 := B1.out.cell 1 (v := .bool false) rfl
    have f1 := B1.out.free 1
    have z2 := B1.out.cell 2 (v := .int .i64 0) rfl
    have f2 := B1.out.free 2
    have z3 := B1.out.cell 3 (v := .slice none 0 0) rfl
    have f3 := B1.out.free 3
    go_wp2
    have t1 := bx_set (B1.out) 0 (.string (bs x.tag))
    have t2 := bx_set (t1) 1 (.bool x.only)
    have t3 := bx_set (t2) 2 (.int .i64 x.n)
    have t4 := bx_set (t3) 3 (.slice a1 (x.effs.length) c1)
    simp only [List.set_cons_zero, List.set_cons_succ] at t4
    have oB := (((((Only.refl (At B) w1).setCell (p := ⟨B, 0, none⟩) rfl (.string (bs x.tag))).setCell (p := ⟨B, 1, none⟩) rfl (.bool x.only)).setCell (p := ⟨B, 2, none⟩) rfl (.int .i64 x.n)).setCell (p := ⟨B, 3, none⟩) rfl (.slice a1 (x.effs.length) c1))
    refine bodyPost_ret (results_ag1 rfl _ _ B [.string (bs x.tag), .bool x.only, .int .i64 x.n, .slice a1 (x.effs.length) c1] (.bool true) Try.isAgg40 Try.sizeOf40 rfl rfl t4) rfl ?_
    refine ⟨Lib.hid ⟨_, by rw [HF.out]; rfl, ?_⟩, (O0.out.trans O1.out).then oB (fun k hk hlt => by have e1 : k = B := hk; have := HBB.out; omega)⟩
    rw [HF.out]
    have hS : ∀ b, b < D → ¬ At B b := fun b hb h => by have e1 : b = B := h; have := HBB.out; have := HD.out; omega
    exact G1.out.keep oB hS
  · have HF := Lib.hid (show L.find? p = none from hF)
    clear hF hr
    have oN : Only Nil w1 (w1.alloc (.cells #[.string ⟨#[]⟩, .bool false, .int .i64 0, .slice none 0 0] 40)) := (Only.refl Nil w1).alloc _
    have N1 := bx_new w1 [.string ⟨#[]⟩, .bool false, .int .i64 0, .slice none 0 0] 40
    have B2 := B1.out.keep oN
    go_upto_region 4 with (fail)
    change Bx (w1.alloc (.cells #[.string ⟨#[]⟩, .bool false, .int .i64 0, .slice none 0 0] 40)) _ _ _ at N1
    generalize w1.alloc (.cells #[.string ⟨#[]⟩, .bool false, .int .i64 0, .slice none 0 0] 40) = w2 at *
    generalize w1.heap.size = B' at *
    have y0 := N1.cell 0 (v := .string ⟨#[]⟩) rfl
    have y1 := N1.cell 1 (v := .bool false) rfl
    have y2 := N1.cell 2 (v := .int .i64 0) rfl
    have y3 := N1.cell 3 (v := .slice none 0 0) rfl
    have z0 := B2.cell 0 (v := .string ⟨#[]⟩) rfl
    have f0 := B2.free 0
    have z1 := B2.cell 1 (v := .bool false) rfl
    have f1 := B2.free 1
    have z2 := B2.cell 2 (v := .int .i64 0) rfl
    have f2 := B2.free 2
    have z3 := B2.cell 3 (v := .slice none 0 0) rfl
    have f3 := B2.free 3
    go_wp2
    have t1 := bx_set (B2) 0 (.string ⟨#[]⟩)
    have t2 := bx_set (t1) 1 (.bool false)
    have t3 := bx_set (t2) 2 (.int .i64 0)
    have t4 := bx_set (t3) 3 (.slice none 0 0)
    simp only [List.set_cons_zero, List.set_cons_succ] at t4
    have oB := (((((Only.refl (At B) w2).setCell (p := ⟨B, 0, none⟩) rfl (.string ⟨#[]⟩)).setCell (p := ⟨B, 1, none⟩) rfl (.bool false)).setCell (p := ⟨B, 2, none⟩) rfl (.int .i64 0)).setCell (p := ⟨B, 3, none⟩) rfl (.slice none 0 0))
    refine bodyPost_ret (results_ag1 rfl _ _ B [.string ⟨#[]⟩, .bool false, .int .i64 0, .slice none 0 0] (.bool false) Try.isAgg40 Try.sizeOf40 rfl rfl t4) rfl ?_
    refine ⟨Lib.hid ⟨.slice none 0 0, by rw [HF.out]; rfl, ?_⟩, ((O0.out.trans O1.out).trans oN).then oB (fun k hk hlt => by have e1 : k = B := hk; have := HBB.out; omega)⟩
    rw [HF.out]
    exact xe_nil _ _
end Go.Proofs.Ytimnaiahokafaaa.Ac
