/- act: the closures; met; Number; settled. -/
import Derived.Test.YtimnaiahokafaaaAcC
set_option linter.unusedVariables false
namespace Go.Proofs.Ytimnaiahokafaaa.Ac
open Go Go.RowKit Go.Proofs.Ytimnaiahokafaaa Lx Ps Ch

theorem emp_bs (s : Wd) : (bs s).toList.isEmpty = decide (s = []) := by
  rw [toList_bs]; cases s <;> rfl
theorem emp_no {s : Wd} (h : ¬ s = []) : (bs s).toList.isEmpty = false := by rw [emp_bs]; exact decide_eq_false h
theorem str_ne {a b : Wd} (h : ¬ a = b) : ((bs a).toList == (bs b).toList) = false := by rw [bs_beq]; exact decide_eq_false h
theorem str_eq (a : Wd) : ((bs a).toList == (bs a).toList) = true := by simp

theorem find1_any (k : Wd) (q : Nat) {w : World} (h : w.cell? ⟨q, 0, none⟩ = some (.string (bs k))) (x : Kd) (a1 : Option Addr) (n1 c1 : Nat) (a2 : Option Addr) (n2 c2 : Nat) :
    Calls Try.prog 31 #[.agg #[.string (bs x.name), .int .i64 x.limit, .int .i64 x.within, .slice a1 n1 c1, .slice a2 n2 c2], .pointer (some ⟨q, 0, none⟩)] w fun e w' => e = .returned (.bool (called k x)) ∧ Only Nil w w' := by
  have o1 : Only Nil w (w.alloc (.cells #[.string (bs x.name), .int .i64 x.limit, .int .i64 x.within, .slice a1 n1 c1, .slice a2 n2 c2] 25)) := (Only.refl Nil w).alloc _
  have d := only_cell0 o1 h
  have O1 := Lib.hid o1
  have hq : ((bs x.name).toList == (bs k).toList) = called k x := bs_beq _ _
  generalize called k x = z at *
  clear h o1
  go_enter Try.func31, Try.ntmps31
  go_wp2
  go_ret
  exact ⟨by first | rfl | (rw [hq]; done) | (rw [hq]; rfl), O1.out⟩

theorem met1_any (k : Wd) (q : Nat) {w : World} (h : w.cell? ⟨q, 0, none⟩ = some (.string (bs k))) (x : Sta) (a1 : Option Addr) (n1 c1 : Nat) :
    Calls Try.prog 37 #[.agg #[.string (bs x.name), .slice a1 n1 c1], .pointer (some ⟨q, 0, none⟩)] w fun e w' => e = .returned (.bool (named k x)) ∧ Only Nil w w' := by
  have o1 : Only Nil w (w.alloc (.cells #[.string (bs x.name), .slice a1 n1 c1] 48)) := (Only.refl Nil w).alloc _
  have d := only_cell0 o1 h
  have O1 := Lib.hid o1
  have hq : ((bs x.name).toList == (bs k).toList) = named k x := bs_beq _ _
  generalize named k x = z at *
  clear h o1
  go_enter Try.func37, Try.ntmps37
  go_wp2
  go_ret
  exact ⟨by first | rfl | (rw [hq]; done) | (rw [hq]; rfl), O1.out⟩

set_option maxHeartbeats 1000000 in
theorem met2_any (t : Wd) (n : Int) (q1 q2 : Nat) {w : World} (h1 : w.cell? ⟨q1, 0, none⟩ = some (.string (bs t))) (h2 : w.cell? ⟨q2, 0, none⟩ = some (.int .i64 n)) (x : Rw) (a1 : Option Addr) (n1 c1 : Nat) :
    Calls Try.prog 39 #[.agg #[.string (bs x.tag), .bool x.only, .int .i64 x.n, .slice a1 n1 c1], .pointer (some ⟨q1, 0, none⟩), .pointer (some ⟨q2, 0, none⟩)] w fun e w' => e = .returned (.bool (fitsR t n x)) ∧ Only Nil w w' := by
  obtain ⟨tag, only, xn, E⟩ := x
  dsimp only
  have o1 : Only Nil w (w.alloc (.cells #[.string (bs tag), .bool only, .int .i64 xn, .slice a1 n1 c1] 40)) := (Only.refl Nil w).alloc _
  have d1 := only_cell0 o1 h1
  have d2 := only_cell0 o1 h2
  have O1 := Lib.hid o1
  clear h1 h2 o1
  by_cases k0 : tag = []
  · have hz : fitsR t n ⟨tag, only, xn, E⟩ = true := by unfold fitsR; simp [k0]
    rw [hz]
    have e0 : (bs tag).toList.isEmpty = true := by rw [emp_bs]; exact decide_eq_true k0
    clear hz k0
    go_enter Try.func39, Try.ntmps39
    go_wp2
    go_ret
    exact ⟨rfl, O1.out⟩
  have e0 := emp_no k0
  by_cases k1 : tag = t
  · have e1 : ((bs tag).toList == (bs t).toList) = true := by rw [bs_beq]; exact decide_eq_true k1
    cases only with
    | false =>
      have hz : fitsR t n ⟨tag, false, xn, E⟩ = true := by unfold fitsR; simp [k1]
      rw [hz]
      clear hz k0 k1
      go_enter Try.func39, Try.ntmps39
      go_wp2
      go_ret
      exact ⟨rfl, O1.out⟩
    | true =>
      by_cases k2 : xn = n
      · subst k2
        have hz : fitsR t xn ⟨tag, true, xn, E⟩ = true := by unfold fitsR; simp [k1]
        rw [hz]
        clear hz k0 k1
        go_enter Try.func39, Try.ntmps39
        go_wp2
        go_ret
        exact ⟨rfl, O1.out⟩
      · have hz : fitsR t n ⟨tag, true, xn, E⟩ = false := by unfold fitsR; simp [k0, k2]
        have e2 : (xn == n) = false := by simpa using k2
        rw [hz]
        clear hz k0 k1 k2
        go_enter Try.func39, Try.ntmps39
        go_wp2
        go_ret
        exact ⟨rfl, O1.out⟩
  · have e1 := str_ne k1
    have hz : fitsR t n ⟨tag, only, xn, E⟩ = false := by unfold fitsR; simp [k0, k1]
    rw [hz]
    clear hz k0 k1
    go_enter Try.func39, Try.ntmps39
    go_wp2
    go_ret
    exact ⟨rfl, O1.out⟩

set_option maxHeartbeats 2000000 in
set_option maxRecDepth 100000 in
/-- The row that a message meets. -/
theorem met_any {D : Nat} {w : World} {nm : Wd} {lim wi : Int} {S : List Sta} {a2 : Option Addr} {c2 n2 : Nat} {v1 : Value} (hx : XS D w (.slice a2 n2 c2) S) (hn : S.length = n2) (hb : n2 ≤ 140737488355328) (hr : ∀ s ∈ S, s.rows.length ≤ 140737488355328) (hD : D ≤ w.heap.size) (s t : Wd) (n : Int) :
    Calls Try.prog 28 #[.agg #[.string (bs nm), .int .i64 lim, .int .i64 wi, v1, .slice a2 n2 c2], .string (bs s), .string (bs t), .int .i64 n] w fun e w' => Hid (∃ s1, e = .returned (.tuple #[.agg (rowCs (rowOf S s t n, s1)).toArray, .bool (rowO S s t n).isSome]) ∧ XE D w' s1 (rowOf S s t n).effs) ∧ Only Nil w w' := by
  obtain ⟨W1, hW1⟩ : ∃ W, W = w.alloc (.cells #[.string (bs nm), .int .i64 lim, .int .i64 wi, v1, .slice a2 n2 c2] 25) := ⟨_, rfl⟩
  have s1 : W1.heap.size = w.heap.size + 1 := by rw [hW1]; simp
  have o1 : Only Nil w W1 := hW1 ▸ (Only.refl Nil w).alloc _
  have b1 : Bx W1 (w.heap.size) [.string (bs nm), .int .i64 lim, .int .i64 wi, v1, .slice a2 n2 c2] 25 := hW1 ▸ bx_new w _ _
  obtain ⟨W2, hW2⟩ : ∃ W, W = W1.alloc (.cells #[.string (bs s)] 9) := ⟨_, rfl⟩
  have s2 : W2.heap.size = w.heap.size + 1 + 1 := by rw [hW2]; simp [s1]
  have o2 : Only Nil W1 W2 := hW2 ▸ (Only.refl Nil W1).alloc _
  have b2 : Bx W2 (w.heap.size + 1) [.string (bs s)] 9 := by have h := bx_new W1 [.string (bs s)] 9; rw [s1] at h; rw [hW2]; exact h
  obtain ⟨W3, hW3⟩ : ∃ W, W = W2.alloc (.cells #[.string (bs t)] 9) := ⟨_, rfl⟩
  have s3 : W3.heap.size = w.heap.size + 1 + 1 + 1 := by rw [hW3]; simp [s2]
  have o3 : Only Nil W2 W3 := hW3 ▸ (Only.refl Nil W2).alloc _
  have b3 : Bx W3 (w.heap.size + 1 + 1) [.string (bs t)] 9 := by have h := bx_new W2 [.string (bs t)] 9; rw [s2] at h; rw [hW3]; exact h
  obtain ⟨W4, hW4⟩ : ∃ W, W = W3.alloc (.cells #[.int .i64 n] 3) := ⟨_, rfl⟩
  have s4 : W4.heap.size = w.heap.size + 1 + 1 + 1 + 1 := by rw [hW4]; simp [s3]
  have o4 : Only Nil W3 W4 := hW4 ▸ (Only.refl Nil W3).alloc _
  have b4 : Bx W4 (w.heap.size + 1 + 1 + 1) [.int .i64 n] 3 := by have h := bx_new W3 [.int .i64 n] 3; rw [s3] at h; rw [hW4]; exact h
  obtain ⟨W5, hW5⟩ : ∃ W, W = W4.alloc (.cells #[.string ⟨#[]⟩, .bool false, .int .i64 0, .slice none 0 0] 40) := ⟨_, rfl⟩
  have s5 : W5.heap.size = w.heap.size + 1 + 1 + 1 + 1 + 1 := by rw [hW5]; simp [s4]
  have o5 : Only Nil W4 W5 := hW5 ▸ (Only.refl Nil W4).alloc _
  have b5 : Bx W5 (w.heap.size + 1 + 1 + 1 + 1) [.string ⟨#[]⟩, .bool false, .int .i64 0, .slice none 0 0] 40 := by have h := bx_new W4 [.string ⟨#[]⟩, .bool false, .int .i64 0, .slice none 0 0] 40; rw [s4] at h; rw [hW5]; exact h
  have X1 := Lib.hid ((((b1.keep o2).keep o3).keep o4).keep o5)
  have X2 := Lib.hid (((b2.keep o3).keep o4).keep o5)
  have X3 := Lib.hid ((b3.keep o4).keep o5)
  have X4 := Lib.hid (b4.keep o5)
  have X5 := Lib.hid b5
  have O := Lib.hid ((((o1.trans o2).trans o3).trans o4).trans o5)
  have SZ := Lib.hid s5
  have HX := Lib.hid (hx.keep O.out (nilS · D))
  have HN := Lib.hid hn
  have HB := Lib.hid hb
  have HR := Lib.hid hr
  have HD := Lib.hid hD
  have P1 := Lib.hid (fun (w' : World) (o' : Only Nil W5 w') => show Pred_sta w' (.func (.func 37) #[] #[.pointer (some ⟨w.heap.size + 1, 0, none⟩)]) (named s) from
    ⟨37, #[], #[.pointer (some ⟨w.heap.size + 1, 0, none⟩)], rfl, enters_of Try.func37 (by kernel_rfl) rfl, fun w'' x a1 n1 c1 o'' => met1_any s _ ((X2.out.keep (o'.trans o'')).cell 0 rfl) x a1 n1 c1⟩)
  have P2 := Lib.hid (fun (w' : World) (o' : Only Nil W5 w') => show Pred_rw w' (.func (.func 39) #[] #[.pointer (some ⟨w.heap.size + 1 + 1, 0, none⟩), .pointer (some ⟨w.heap.size + 1 + 1 + 1, 0, none⟩)]) (fitsR t n) from
    ⟨39, #[], #[.pointer (some ⟨w.heap.size + 1 + 1, 0, none⟩), .pointer (some ⟨w.heap.size + 1 + 1 + 1, 0, none⟩)], rfl, enters_of Try.func39 (by kernel_rfl) rfl, fun w'' x a1 n1 c1 o'' => met2_any t n _ _ ((X3.out.keep (o'.trans o'')).cell 0 rfl) ((X4.out.keep (o'.trans o'')).cell 0 rfl) x a1 n1 c1⟩)
  have HS : D ≤ W5.heap.size := Nat.le_trans hD O.out.size
  have HF := Lib.hid (first_sta HX.out hn hb HS (P1.out W5 (Only.refl _ _)))
  have HSS := Lib.hid HS
  clear hx hn hb hr hD HS
  go_enter Try.func28, Try.ntmps28
  go_upto_region 1 with (fail)
  (try simp only [World.size_alloc])
  rw [← hW1, ← hW2, ← hW3, ← hW4, ← hW5]
  clear hW1 s1 o1 b1 hW2 s2 o2 b2 hW3 s3 o3 b3 hW4 s4 o4 b4 hW5 s5 o5 b5
  generalize hB5 : w.heap.size + 1 + 1 + 1 + 1 = B5 at *
  generalize hB4 : w.heap.size + 1 + 1 + 1 = B4 at *
  generalize hB3 : w.heap.size + 1 + 1 = B3 at *
  generalize hB2 : w.heap.size + 1 = B2 at *
  generalize hB1 : w.heap.size = B1 at *
  have HB1 := Lib.hid hB1
  have HB2 := Lib.hid hB2
  have HB3 := Lib.hid hB3
  have HB4 := Lib.hid hB4
  have HB5 := Lib.hid hB5
  clear hB1 hB2 hB3 hB4 hB5
  have k4 := X1.out.cell 4 (v := .slice a2 n2 c2) rfl
  go_wp2_with fail
  refine HF.out.mono ?_
  rintro e w1 ⟨hr, o1⟩
  obtain ⟨s1, he0, g1⟩ := hr.out
  have hq : XR D w1 s1 (staOf S s).rows := g1
  have hl : (staOf S s).rows.length ≤ 140737488355328 := by
    unfold staOf
    cases h : S.find? (named s) with
    | none => exact Nat.zero_le _
    | some y => exact HR.out y (List.mem_of_find?_eq_some h)
  have HQ := Lib.hid hq
  obtain ⟨a3, c3, rfl⟩ := hq.slice
  have he : e = .returned (.tuple #[.agg #[.string (bs (staOf S s).name), .slice a3 (staOf S s).rows.length c3], .bool (S.find? (named s)).isSome]) := he0
  subst he
  obtain ⟨r, hr0⟩ : ∃ r, r = rowOf S s t n := ⟨_, rfl⟩
  obtain ⟨ro, hro⟩ : ∃ r, r = rowO S s t n := ⟨_, rfl⟩
  have HE : Hid (r = ((staOf S s).rows.find? (fitsR t n)).getD zR) := Lib.hid (by rw [hr0]; rfl)
  have HE2 : Hid (ro = (staOf S s).rows.find? (fitsR t n)) := Lib.hid (by rw [hro]; rfl)
  have HR0 := Lib.hid hr0
  have HRO := Lib.hid hro
  clear hr0 hro
  have O1 := Lib.hid o1
  clear hr g1 hq o1 HF HN HR k4 he0
  generalize staOf S s = st at *
  generalize (S.find? (named s)).isSome = z0
  have HL := Lib.hid hl
  clear hl
  obtain ⟨w2, hw2⟩ : ∃ w2, w2 = w1.alloc (.cells #[.string (bs st.name), .slice a3 st.rows.length c3] 48) := ⟨_, rfl⟩
  have o2 : Only Nil w1 w2 := hw2 ▸ (Only.refl Nil w1).alloc _
  have xs2 : Bx w2 w1.heap.size [.string (bs st.name), .slice a3 st.rows.length c3] 48 := hw2 ▸ bx_new w1 [.string (bs st.name), .slice a3 st.rows.length c3] 48
  have hsz2 : D ≤ w2.heap.size := Nat.le_trans HSS.out (Nat.le_trans O1.out.size o2.size)
  have HF := Lib.hid (first_rw (HQ.out.keep o2 (nilS · D)) rfl HL.out hsz2 (P2.out w2 (O1.out.trans o2)))
  have O2 := Lib.hid (O1.out.trans o2)
  have k1 := xs2.cell 1 (v := .slice a3 st.rows.length c3) rfl
  clear o2 hsz2 O1 HQ HL
  go_upto_region 2 with (fail)
  rw [← hw2]; clear hw2
  generalize w1.heap.size = B6 at *
  go_wp2_with fail
  refine HF.out.mono ?_
  rintro e w3 ⟨hr, o3⟩
  obtain ⟨s4, he, g4⟩ := hr.out
  rw [← HE.out] at he g4
  rw [← HE2.out] at he
  have HG := Lib.hid g4
  obtain ⟨a4, c4, rfl⟩ := g4.slice
  have he1 : e = .returned (.tuple #[.agg #[.string (bs r.tag), .bool r.only, .int .i64 r.n, .slice a4 r.effs.length c4], .bool ro.isSome]) := he
  subst he1
  have O3 := Lib.hid (O2.out.trans o3)
  have X := Lib.hid (X5.out.keep O3.out)
  clear hr g4 o3 O2 xs2 k1 HF he
  have z0 := X.out.cell 0 (v := .string ⟨#[]⟩) rfl
  have z1 := X.out.cell 1 (v := .bool false) rfl
  have z2 := X.out.cell 2 (v := .int .i64 0) rfl
  have z3 := X.out.cell 3 (v := .slice none 0 0) rfl
  have f0 := X.out.free 0
  have f1 := X.out.free 1
  have f2 := X.out.free 2
  have f3 := X.out.free 3
  go_wp2
  have t1 := bx_set (X.out) 0 (.string (bs r.tag))
  have t2 := bx_set (t1) 1 (.bool r.only)
  have t3 := bx_set (t2) 2 (.int .i64 r.n)
  have t4 := bx_set (t3) 3 (.slice a4 r.effs.length c4)
  simp only [List.set_cons_zero, List.set_cons_succ] at t4
  have oB := (((((Only.refl (At B5) w3).setCell (p := ⟨B5, 0, none⟩) rfl (.string (bs r.tag))).setCell (p := ⟨B5, 1, none⟩) rfl (.bool r.only)).setCell (p := ⟨B5, 2, none⟩) rfl (.int .i64 r.n)).setCell (p := ⟨B5, 3, none⟩) rfl (.slice a4 r.effs.length c4))
  refine bodyPost_ret (results_ag1 rfl _ _ B5 [.string (bs r.tag), .bool r.only, .int .i64 r.n, .slice a4 r.effs.length c4] (.bool ro.isSome) Try.isAgg40 Try.sizeOf40 rfl rfl t4) rfl ?_
  have hN : ∀ b, b < D → ¬ At B5 b := fun b hb h => by have e1 : b = B5 := h; have := HB5.out; have := HB4.out; have := HB3.out; have := HB2.out; have := HB1.out; have := HD.out; omega
  rw [← HR0.out, ← HRO.out]
  exact ⟨Lib.hid ⟨.slice a4 r.effs.length c4, rfl, HG.out.keep oB hN⟩, (O.out.trans O3.out).then oB (fun k hk hlt => by have e1 : k = B5 := hk; have := HB5.out; have := HB4.out; have := HB3.out; have := HB2.out; have := HB1.out; omega)⟩

theorem number_any (e : Eff) (n : Int) (hn : inW n) (w : World) : Calls Try.prog 24 #[.agg (effC e).toArray, .int .i64 n] w fun r w' => r = .returned (.int .i64 (numOf e n)) ∧ Only Nil w w' := by
  obtain ⟨ac, rf, sl, nm, va, en, de⟩ := e
  have O1 := Lib.hid ((Only.refl Nil w).alloc (.cells #[.int .i64 ac, .string (bs rf), .string (bs sl), .string (bs nm), .int .i64 va, .int .i64 en, .int .i64 de] 50))
  simp only [effC]
  by_cases h0 : va = 0
  · subst h0
    rw [show numOf ⟨ac, rf, sl, nm, 0, en, de⟩ n = n from rfl]
    go_enter Try.func24, Try.ntmps24
    go_wp2
    go_ret
    exact ⟨rfl, O1.out⟩
  by_cases h1 : va = 1
  · subst h1
    by_cases h2 : n < 1
    · rw [show numOf ⟨ac, rf, sl, nm, 1, en, de⟩ n = 0 from by simp [numOf, h2]]
      go_enter Try.func24, Try.ntmps24
      go_wp2
      go_ret
      exact ⟨rfl, O1.out⟩
    · rw [show numOf ⟨ac, rf, sl, nm, 1, en, de⟩ n = n - 1 from by simp [numOf, h2]]
      have hw : IntKind.i64.wrap (n - 1) = n - 1 := by unfold inW at hn; exact IntWalk.i64_in _ (by omega)
      go_enter Try.func24, Try.ntmps24
      go_wp2
      go_ret
      exact ⟨rfl, O1.out⟩
  rw [show numOf ⟨ac, rf, sl, nm, va, en, de⟩ n = en from by simp [numOf, h0, h1]]
  have g0 : (va == 0) = false := by simpa using h0
  have g1 : (va == 1) = false := by simpa using h1
  clear h0 h1
  go_enter Try.func24, Try.ntmps24
  go_wp2
  go_ret
  exact ⟨rfl, O1.out⟩

set_option maxHeartbeats 2000000 in
set_option maxRecDepth 100000 in
/-- An effect with its number. -/
theorem settled_any (e : Eff) (n : Int) (hn : inW n) (w : World) : Calls Try.prog 29 #[.agg #[.int .i64 e.act, .string (bs e.ref), .string (bs e.slot), .string (bs e.name), .int .i64 e.val, .int .i64 e.n, .int .i64 e.delay], .int .i64 n] w fun r w' => Hid (r = .returned (.agg (effC (settle e n)).toArray)) ∧ Only Nil w w' := by
  obtain ⟨ac, rf, sl, nm, va, en, de⟩ := e
  dsimp only
  obtain ⟨W1, hW1⟩ : ∃ W, W = w.alloc (.cells #[.int .i64 ac, .string (bs rf), .string (bs sl), .string (bs nm), .int .i64 va, .int .i64 en, .int .i64 de] 50) := ⟨_, rfl⟩
  have s1 : W1.heap.size = w.heap.size + 1 := by rw [hW1]; simp
  have o1 : Only Nil w W1 := hW1 ▸ (Only.refl Nil w).alloc _
  have b1 : Bx W1 (w.heap.size) [.int .i64 ac, .string (bs rf), .string (bs sl), .string (bs nm), .int .i64 va, .int .i64 en, .int .i64 de] 50 := hW1 ▸ bx_new w _ _
  obtain ⟨W2, hW2⟩ : ∃ W, W = W1.alloc (.cells #[.int .i64 0, .string ⟨#[]⟩, .string ⟨#[]⟩, .string ⟨#[]⟩, .int .i64 0, .int .i64 0, .int .i64 0] 50) := ⟨_, rfl⟩
  have s2 : W2.heap.size = w.heap.size + 1 + 1 := by rw [hW2]; simp [s1]
  have o2 : Only Nil W1 W2 := hW2 ▸ (Only.refl Nil W1).alloc _
  have b2 : Bx W2 (w.heap.size + 1) [.int .i64 0, .string ⟨#[]⟩, .string ⟨#[]⟩, .string ⟨#[]⟩, .int .i64 0, .int .i64 0, .int .i64 0] 50 := by have h := bx_new W1 [.int .i64 0, .string ⟨#[]⟩, .string ⟨#[]⟩, .string ⟨#[]⟩, .int .i64 0, .int .i64 0, .int .i64 0] 50; rw [s1] at h; rw [hW2]; exact h
  have X1 := Lib.hid (b1.keep o2)
  have X2 := Lib.hid b2
  have O := Lib.hid (o1.trans o2)
  have SZ := Lib.hid s2
  by_cases h : ac = 1 ∨ ac = 8
  · have hs := Lib.hid (show settle ⟨ac, rf, sl, nm, va, en, de⟩ n = ⟨ac, rf, sl, nm, 2, numOf ⟨ac, rf, sl, nm, va, en, de⟩ n, de⟩ from by unfold settle; simp [h])
    have HN := Lib.hid (fun w' => number_any ⟨ac, rf, sl, nm, va, en, de⟩ n hn w')
    generalize numOf ⟨ac, rf, sl, nm, va, en, de⟩ n = z at *
    simp only [effC] at HN
    have h1 : (ac == 1) = true ∨ ((ac == 1) = false ∧ (ac == 8) = true) := by
      rcases h with rfl | rfl
      · exact Or.inl rfl
      · exact Or.inr ⟨rfl, rfl⟩
    clear hn h
    rcases h1 with h1 | ⟨h1, h2⟩
    all_goals
      go_enter Try.func29, Try.ntmps29
      go_upto_region 1 with (fail)
      (try simp only [World.size_alloc])
      rw [← hW1, ← hW2]
      clear hW1 s1 o1 b1 hW2 s2 o2 b2
      generalize hB2 : w.heap.size + 1 = B2 at *
      generalize hB1 : w.heap.size = B1 at *
      have HB1 := Lib.hid hB1
      have HB2 := Lib.hid hB2
      clear hB1 hB2
      have k0 := X1.out.cell 0 (v := .int .i64 ac) rfl
      have k1 := X1.out.cell 1 (v := .string (bs rf)) rfl
      have k2 := X1.out.cell 2 (v := .string (bs sl)) rfl
      have k3 := X1.out.cell 3 (v := .string (bs nm)) rfl
      have k4 := X1.out.cell 4 (v := .int .i64 va) rfl
      have k5 := X1.out.cell 5 (v := .int .i64 en) rfl
      have k6 := X1.out.cell 6 (v := .int .i64 de) rfl
      go_wp2_with fail
      refine (HN.out _).mono ?_
      rintro r w1 ⟨rfl, o1⟩
      have O1 := Lib.hid (O.out.trans o1)
      have Y := Lib.hid (X1.out.keep o1)
      have Y2 := Lib.hid (X2.out.keep o1)
      clear k0 k1 k2 k3 k4 k5 k6 o1
      have k0 := Y.out.cell 0 (v := .int .i64 ac) rfl
      have k1 := Y.out.cell 1 (v := .string (bs rf)) rfl
      have k2 := Y.out.cell 2 (v := .string (bs sl)) rfl
      have k3 := Y.out.cell 3 (v := .string (bs nm)) rfl
      have k4 := Y.out.cell 4 (v := .int .i64 va) rfl
      have k5 := Y.out.cell 5 (v := .int .i64 en) rfl
      have k6 := Y.out.cell 6 (v := .int .i64 de) rfl
      have f4 := Y.out.free 4
      have f5 := Y.out.free 5
      go_upto_region 3 with (fail)
      have u1 := bx_set (Y.out) 4 (.int .i64 2)
      have u2 := bx_set (u1) 5 (.int .i64 z)
      simp only [List.set_cons_zero, List.set_cons_succ] at u2
      have oA := (((Only.refl (At B1) w1).setCell (p := ⟨B1, 4, none⟩) rfl (.int .i64 2)).setCell (p := ⟨B1, 5, none⟩) rfl (.int .i64 z))
      have y2 := Y2.out.at_ oA (by have := HB2.out; omega)
      have O2 := Lib.hid (O1.out.then oA (fun k hk hlt => by have e1 : k = B1 := hk; have := HB1.out; omega))
      generalize (w1.setCell ⟨B1, 4, none⟩ (.int .i64 2)).setCell ⟨B1, 5, none⟩ (.int .i64 z) = w2 at *
      clear k0 k1 k2 k3 k4 k5 k6 f4 f5 oA
      have k0 := u2.cell 0 (v := .int .i64 ac) rfl
      have k1 := u2.cell 1 (v := .string (bs rf)) rfl
      have k2 := u2.cell 2 (v := .string (bs sl)) rfl
      have k3 := u2.cell 3 (v := .string (bs nm)) rfl
      have k4 := u2.cell 4 (v := .int .i64 2) rfl
      have k5 := u2.cell 5 (v := .int .i64 z) rfl
      have k6 := u2.cell 6 (v := .int .i64 de) rfl
      have z0 := y2.cell 0 (v := .int .i64 0) rfl
      have z1 := y2.cell 1 (v := .string ⟨#[]⟩) rfl
      have z2 := y2.cell 2 (v := .string ⟨#[]⟩) rfl
      have z3 := y2.cell 3 (v := .string ⟨#[]⟩) rfl
      have z4 := y2.cell 4 (v := .int .i64 0) rfl
      have z5 := y2.cell 5 (v := .int .i64 0) rfl
      have z6 := y2.cell 6 (v := .int .i64 0) rfl
      have g0 := y2.free 0
      have g1 := y2.free 1
      have g2 := y2.free 2
      have g3 := y2.free 3
      have g4 := y2.free 4
      have g5 := y2.free 5
      have g6 := y2.free 6
      go_wp2
      have t1 := bx_set (y2) 0 (.int .i64 ac)
      have t2 := bx_set (t1) 1 (.string (bs rf))
      have t3 := bx_set (t2) 2 (.string (bs sl))
      have t4 := bx_set (t3) 3 (.string (bs nm))
      have t5 := bx_set (t4) 4 (.int .i64 2)
      have t6 := bx_set (t5) 5 (.int .i64 z)
      have t7 := bx_set (t6) 6 (.int .i64 de)
      simp only [List.set_cons_zero, List.set_cons_succ] at t7
      have oB := ((((((((Only.refl (At B2) w2).setCell (p := ⟨B2, 0, none⟩) rfl (.int .i64 ac)).setCell (p := ⟨B2, 1, none⟩) rfl (.string (bs rf))).setCell (p := ⟨B2, 2, none⟩) rfl (.string (bs sl))).setCell (p := ⟨B2, 3, none⟩) rfl (.string (bs nm))).setCell (p := ⟨B2, 4, none⟩) rfl (.int .i64 2)).setCell (p := ⟨B2, 5, none⟩) rfl (.int .i64 z)).setCell (p := ⟨B2, 6, none⟩) rfl (.int .i64 de))
      refine bodyPost_ret (results_agg rfl _ _ B2 [.int .i64 ac, .string (bs rf), .string (bs sl), .string (bs nm), .int .i64 2, .int .i64 z, .int .i64 de] Try.isAgg50 Try.sizeOf50 rfl t7) rfl ?_
      exact ⟨Lib.hid (by rw [hs.out]; rfl), O2.out.then oB (fun k hk hlt => by have e1 : k = B2 := hk; have := HB2.out; have := HB1.out; omega)⟩
  · have hs := Lib.hid (show settle ⟨ac, rf, sl, nm, va, en, de⟩ n = ⟨ac, rf, sl, nm, va, en, de⟩ from by unfold settle; rw [if_neg h])
    have h1 : (ac == 1) = false := by simpa using fun hh => h (Or.inl hh)
    have h2 : (ac == 8) = false := by simpa using fun hh => h (Or.inr hh)
    clear h hn
    go_enter Try.func29, Try.ntmps29
    go_upto_region 1 with (fail)
    (try simp only [World.size_alloc])
    rw [← hW1, ← hW2]
    clear hW1 s1 o1 b1 hW2 s2 o2 b2
    generalize hB2 : w.heap.size + 1 = B2 at *
    generalize hB1 : w.heap.size = B1 at *
    have HB1 := Lib.hid hB1
    have HB2 := Lib.hid hB2
    clear hB1 hB2
    have k0 := X1.out.cell 0 (v := .int .i64 ac) rfl
    have k1 := X1.out.cell 1 (v := .string (bs rf)) rfl
    have k2 := X1.out.cell 2 (v := .string (bs sl)) rfl
    have k3 := X1.out.cell 3 (v := .string (bs nm)) rfl
    have k4 := X1.out.cell 4 (v := .int .i64 va) rfl
    have k5 := X1.out.cell 5 (v := .int .i64 en) rfl
    have k6 := X1.out.cell 6 (v := .int .i64 de) rfl
    have z0 := X2.out.cell 0 (v := .int .i64 0) rfl
    have z1 := X2.out.cell 1 (v := .string ⟨#[]⟩) rfl
    have z2 := X2.out.cell 2 (v := .string ⟨#[]⟩) rfl
    have z3 := X2.out.cell 3 (v := .string ⟨#[]⟩) rfl
    have z4 := X2.out.cell 4 (v := .int .i64 0) rfl
    have z5 := X2.out.cell 5 (v := .int .i64 0) rfl
    have z6 := X2.out.cell 6 (v := .int .i64 0) rfl
    have f0 := X2.out.free 0
    have f1 := X2.out.free 1
    have f2 := X2.out.free 2
    have f3 := X2.out.free 3
    have f4 := X2.out.free 4
    have f5 := X2.out.free 5
    have f6 := X2.out.free 6
    go_wp2
    have t1 := bx_set (X2.out) 0 (.int .i64 ac)
    have t2 := bx_set (t1) 1 (.string (bs rf))
    have t3 := bx_set (t2) 2 (.string (bs sl))
    have t4 := bx_set (t3) 3 (.string (bs nm))
    have t5 := bx_set (t4) 4 (.int .i64 va)
    have t6 := bx_set (t5) 5 (.int .i64 en)
    have t7 := bx_set (t6) 6 (.int .i64 de)
    simp only [List.set_cons_zero, List.set_cons_succ] at t7
    have oB := ((((((((Only.refl (At B2) W2).setCell (p := ⟨B2, 0, none⟩) rfl (.int .i64 ac)).setCell (p := ⟨B2, 1, none⟩) rfl (.string (bs rf))).setCell (p := ⟨B2, 2, none⟩) rfl (.string (bs sl))).setCell (p := ⟨B2, 3, none⟩) rfl (.string (bs nm))).setCell (p := ⟨B2, 4, none⟩) rfl (.int .i64 va)).setCell (p := ⟨B2, 5, none⟩) rfl (.int .i64 en)).setCell (p := ⟨B2, 6, none⟩) rfl (.int .i64 de))
    refine bodyPost_ret (results_agg rfl _ _ B2 [.int .i64 ac, .string (bs rf), .string (bs sl), .string (bs nm), .int .i64 va, .int .i64 en, .int .i64 de] Try.isAgg50 Try.sizeOf50 rfl t7) rfl ?_
    exact ⟨Lib.hid (by rw [hs.out]; rfl), O.out.then oB (fun k hk hlt => by have e1 : k = B2 := hk; have := HB2.out; have := HB1.out; omega)⟩
end Go.Proofs.Ytimnaiahokafaaa.Ac
