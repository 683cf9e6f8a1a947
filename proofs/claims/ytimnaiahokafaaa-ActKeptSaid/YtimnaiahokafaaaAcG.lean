/- act: Do. -/
import Derived.Test.YtimnaiahokafaaaAcF
import Derived.StillTailTactics
import Derived.BigRegion
import Derived.OrdersHeld
set_option linter.unusedVariables false
set_option linter.unusedSimpArgs false
namespace Go.Proofs.Ytimnaiahokafaaa.Ac
open Go Go.RowKit Go.Proofs.Ytimnaiahokafaaa Lx Ps Ch

/-- wpAnyH_take, the place of what comes out said by itself. -/
theorem take_dst {P : Program} {md : Region.Mode} {ops : Array Oper} {Q : Exit → Act → World → Prop} {S : World → Prop} (d : Option Tmp) {i : Nat} {oi : Oper} {v : Value} {fuel : Nat} {listed : Array Bool} {a : Act} {w : World} (hi : ops[i]? = some oi) (hd : oi.dst = d)
    (hs : Region.noSelect ops = true) (hf : Region.free md ops listed i = true) (hr : (Region.ready md ops listed).contains i = true)
    (hQ : ∀ c a w, Q (.panic c) (a.put oi.dst v) w → Q (.panic c) a w) (hy : YieldsIf P ops S oi v a) (hS : S w)
    (h : wpAnyH P md ops Q S fuel (listed.setIfInBounds i true) (a.put d v) w) : wpAnyH P md ops Q S (fuel + 1) listed a w := by
  subst hd
  exact wpAnyH_take hi hs hf hr hQ hy hS h
/-- States that came in, or that are one's own. -/
structure SIn (D : Nat) (w : World) (a : Option Addr) (n c : Nat) (S : List Sta) : Prop where
  x : XS D w (.slice a n c) S
  hn : S.length = n
  hb : n ≤ 140737488355328
  wf : ∀ s ∈ S, wfS s
  bz : ∀ s ∈ S, bzS s
  hD : D ≤ w.heap.size
theorem SIn.keep {D : Nat} {w w' : World} {a : Option Addr} {n c : Nat} {S : List Sta} (h : SIn D w a n c S) (o : Only Nil w w') : SIn D w' a n c S :=
  ⟨h.x.keep o (nilS · D), h.hn, h.hb, h.wf, h.bz, Nat.le_trans h.hD o.size⟩
def plC (p : Pl) (v : Value) : List Value := [.bool p.stash, v, .string (bs p.state), .bool p.stop, .string (bs p.fail)]
/-- A plan by value, its effects in a row of its own that is new since w0. -/
def PlAt (w0 w : World) (v : Value) (p : Pl) : Prop := MEff w v p.effs ∧ New w0 v
theorem row_wf {S : List Sta} (h : ∀ s ∈ S, wfS s) (s t : Wd) (n : Int) : ∀ e ∈ (rowOf S s t n).effs, wfE e := by
  unfold rowOf rowO staOf
  cases h1 : S.find? (named s) with
  | none => intro e he; simp [zS, zR] at he
  | some x =>
    intro e he
    simp only [Option.getD_some] at he
    cases h2 : x.rows.find? (fitsR t n) with
    | none => rw [h2] at he; simp [zR] at he
    | some r =>
      rw [h2] at he
      exact ((h x (List.mem_of_find?_eq_some h1)).rows r (List.mem_of_find?_eq_some h2)).effs e he
theorem row_bz {S : List Sta} (h : ∀ s ∈ S, bzS s) (s t : Wd) (n : Int) : (rowOf S s t n).effs.length * 80 ≤ 140737488355328 := by
  unfold rowOf rowO staOf
  cases h1 : S.find? (named s) with
  | none => simp [zS, zR]
  | some x =>
    simp only [Option.getD_some]
    cases h2 : x.rows.find? (fitsR t n) with
    | none => simp [zR]
    | some r => exact (h x (List.mem_of_find?_eq_some h1)).2 r (List.mem_of_find?_eq_some h2)
theorem bx_row {w w' : World} {O n n' c : Nat} {cs : List Value} {t : TypeId} {a : Option Addr} {lo s : Nat} {e : TypeId} {xs : List Value} (h : Bx w O cs t) (hr : w.ownsRow lo e s (.slice a n c) n' xs) (o : Only (RowOf a) w w') (ht : t ≠ e) : Bx w' O cs t := by
  refine (o.block O (lt_of_block h) (fun q => ?_)).trans h
  obtain ⟨cs', m, hg⟩ := ofT_row hr O q
  rw [show w.heap[O]? = some (.cells cs.toArray t (0, 0)) from h] at hg
  injection hg with hg
  injection hg with _ e2
  exact ht e2
theorem row_lt {w : World} {lo s n n' c : Nat} {e : TypeId} {a : Option Addr} {xs : List Value} (h : w.ownsRow lo e s (.slice a n c) n' xs) {g : Nat} (hg : RowOf a g) : g < w.heap.size := by
  obtain ⟨x, rfl, rfl⟩ := hg
  exact (h.lt x.block rfl).2
theorem MEff.nil (w : World) : MEff w (.slice none 0 0) [] := World.ownsRow_nil w 0 50 7
theorem blk_ne {w : World} {a b : Nat} {x y : Array Value} {t u : TypeId} {m m' : Nat × Nat} (h : w.heap[a]? = some (.cells x t m)) (h' : w.heap[b]? = some (.cells y u m')) (ht : t ≠ u) : a ≠ b := by
  rintro rfl
  rw [h] at h'
  injection h' with h'
  injection h' with _ e2
  exact ht e2
theorem drop_step {E : List Eff} {i : Nat} {e : Eff} (h : E[i]? = some e) : E.drop i = e :: E.drop (i + 1) := by
  obtain ⟨hi, rfl⟩ := List.getElem?_eq_some_iff.1 h
  exact List.drop_eq_getElem_cons hi

set_option maxHeartbeats 8000000 in
set_option maxRecDepth 100000 in
theorem do_any {D : Nat} {w : World} {nm : Wd} {lim wi : Int} {S : List Sta} {a2 : Option Addr} {c2 n2 : Nat} {v1 : Value} (hS : SIn D w a2 n2 c2 S) (s t : Wd) (n : Int) (hn : inW n) :
    Calls Try.prog 13 #[.agg #[.string (bs nm), .int .i64 lim, .int .i64 wi, v1, .slice a2 n2 c2], .string (bs s), .string (bs t), .int .i64 n] w fun e w' => Hid (∃ v, e = .returned (.agg (plC (planOf S s t n) v).toArray) ∧ PlAt w w' v (planOf S s t n)) ∧ Only Nil w w' := by
  obtain ⟨W1, hW1⟩ : ∃ W, W = w.alloc (.cells #[.string (bs nm), .int .i64 lim, .int .i64 wi, v1, .slice a2 n2 c2] 25) := ⟨_, rfl⟩
  have s1 : W1.heap.size = w.heap.size + 1 := by rw [hW1]; simp
  have o1 : Only Nil w W1 := hW1 ▸ (Only.refl Nil w).alloc _
  have b1 : Bx W1 (w.heap.size) [.string (bs nm), .int .i64 lim, .int .i64 wi, v1, .slice a2 n2 c2] 25 := hW1 ▸ bx_new w _ _
  obtain ⟨W2, hW2⟩ : ∃ W, W = W1.alloc (.cells #[.bool false, .slice none 0 0, .string ⟨#[]⟩, .bool false, .string ⟨#[]⟩] 30) := ⟨_, rfl⟩
  have s2 : W2.heap.size = w.heap.size + 1 + 1 := by rw [hW2]; simp [s1]
  have o2 : Only Nil W1 W2 := hW2 ▸ (Only.refl Nil W1).alloc _
  have b2 : Bx W2 (w.heap.size + 1) [.bool false, .slice none 0 0, .string ⟨#[]⟩, .bool false, .string ⟨#[]⟩] 30 := by have h := bx_new W1 [.bool false, .slice none 0 0, .string ⟨#[]⟩, .bool false, .string ⟨#[]⟩] 30; rw [s1] at h; rw [hW2]; exact h
  have X1 := Lib.hid (b1.keep o2)
  have X2 := Lib.hid b2
  have O := Lib.hid (o1.trans o2)
  have SZ := Lib.hid s2
  have h2 := hS.keep O.out
  have HM := Lib.hid (met_any (nm := nm) (lim := lim) (wi := wi) (v1 := v1) h2.x h2.hn h2.hb (fun x hx => by have := (h2.bz x hx).1; omega) h2.hD s t n)
  obtain ⟨r, hr0⟩ : ∃ r, r = rowOf S s t n := ⟨_, rfl⟩
  have HR0 := Lib.hid (show planOf S s t n = doE n r.effs s from by rw [hr0]; rfl)
  have HW := Lib.hid (show ∀ e ∈ r.effs, wfE e from hr0 ▸ row_wf h2.wf s t n)
  have HZ := Lib.hid (show r.effs.length * 80 ≤ 140737488355328 from hr0 ▸ row_bz h2.bz s t n)
  rw [← hr0] at HM
  have HD := Lib.hid hS.hD
  have HN := Lib.hid hn
  generalize (rowO S s t n).isSome = z0 at *
  clear hr0 h2 hS hn
  go_enter Try.func13, Try.ntmps13
  go_upto_region 1 with (fail)
  (try simp only [World.size_alloc])
  rw [← hW1, ← hW2]
  clear hW1 s1 o1 b1 hW2 s2 o2 b2
  generalize hB2 : w.heap.size + 1 = B2 at *
  generalize hB1 : w.heap.size = B1 at *
  have HB1 := Lib.hid hB1
  have HB2 := Lib.hid hB2
  clear hB1 hB2
  have k0 := X1.out.cell 0 (v := .string (bs nm)) rfl
  have k1 := X1.out.cell 1 (v := .int .i64 lim) rfl
  have k2 := X1.out.cell 2 (v := .int .i64 wi) rfl
  have k3 := X1.out.cell 3 (v := v1) rfl
  have k4 := X1.out.cell 4 (v := .slice a2 n2 c2) rfl
  go_wp2_with fail
  refine HM.out.mono ?_
  rintro e w1 ⟨hr, o1⟩
  obtain ⟨s1, he, g1⟩ := hr.out
  obtain ⟨a1, c1, rfl⟩ := g1.slice
  have he1 : e = .returned (.tuple #[.agg #[.string (bs r.tag), .bool r.only, .int .i64 r.n, .slice a1 r.effs.length c1], .bool z0]) := he
  subst he1
  clear hr he k0 k1 k2 k3 k4
  obtain ⟨w2, hw2⟩ : ∃ w2, w2 = w1.alloc (.cells #[.string (bs r.tag), .bool r.only, .int .i64 r.n, .slice a1 r.effs.length c1] 40) := ⟨_, rfl⟩
  have o2 : Only Nil w1 w2 := hw2 ▸ (Only.refl Nil w1).alloc _
  have b3 : Bx w2 w1.heap.size [.string (bs r.tag), .bool r.only, .int .i64 r.n, .slice a1 r.effs.length c1] 40 := hw2 ▸ bx_new w1 _ _
  have O2 := Lib.hid (O.out.trans (o1.trans o2))
  have G2 := Lib.hid (g1.keep o2 (nilS · D))
  have Y2 := Lib.hid (X2.out.keep (o1.trans o2))
  go_upto_region 2 with (fail)
  rw [← hw2]; clear hw2
  generalize w1.heap.size = B3 at *
  obtain ⟨w3, hw3⟩ : ∃ w3, w3 = w2.alloc (.cells #[.bool false, .slice none 0 0, .string (bs s), .bool false, .string ⟨#[]⟩] 30) := ⟨_, rfl⟩
  have o3 : Only Nil w2 w3 := hw3 ▸ (Only.refl Nil w2).alloc _
  have b4 : Bx w3 w2.heap.size [.bool false, .slice none 0 0, .string (bs s), .bool false, .string ⟨#[]⟩] 30 := hw3 ▸ bx_new w2 [.bool false, .slice none 0 0, .string (bs s), .bool false, .string ⟨#[]⟩] _
  have HS3 := Lib.hid (show w3.heap.size = w2.heap.size + 1 from by rw [hw3]; simp)
  have O3 := Lib.hid (O2.out.trans o3)
  have G3 := Lib.hid (G2.out.keep o3 (nilS · D))
  have Y3 := Lib.hid (Y2.out.keep o3)
  have R3 := Lib.hid (b3.keep o3)
  have P3 := Lib.hid b4
  have HB4 := Lib.hid (show B2 < w2.heap.size from lt_of_block Y2.out)
  have HB5 := Lib.hid (show w.heap.size ≤ w2.heap.size from O2.out.size)
  go_upto_region 3 with (fail)
  rw [← hw3]; clear hw3 o1 o2 o3 b3 b4 g1 O2 G2 Y2 HM X1 X2
  generalize w2.heap.size = B4 at *
  have k3 := R3.out.cell 3 (v := .slice a1 r.effs.length c1) rfl
  generalize hE : r.effs = E at *
  generalize hm : E.length = m at *
  rcases Nat.eq_zero_or_pos m with h0 | h0
  · subst h0
    have hE0 : E = [] := List.length_eq_zero_iff.1 hm
    subst hE0
    have HP := Lib.hid (show planOf S s t n = ⟨false, [], s, false, []⟩ from HR0.out)
    clear hm hE HW HZ HR0
    go_wp2
    go_loopw [41] (fun s41 wr => s41 = .int .i64 0 ∧ w3 = wr) (fun _ _ => 0)
    case atStart => exact ⟨rfl, rfl⟩
    case round =>
      obtain ⟨rfl, rfl⟩ := hrel
      have p0 := P3.out.cell 0 (v := .bool false) rfl
      have p1 := P3.out.cell 1 (v := .slice none 0 0) rfl
      have p2 := P3.out.cell 2 (v := .string (bs s)) rfl
      have p3 := P3.out.cell 3 (v := .bool false) rfl
      have p4 := P3.out.cell 4 (v := .string ⟨#[]⟩) rfl
      have z0 := Y3.out.cell 0 (v := .bool false) rfl
      have z1 := Y3.out.cell 1 (v := .slice none 0 0) rfl
      have z2 := Y3.out.cell 2 (v := .string ⟨#[]⟩) rfl
      have z3 := Y3.out.cell 3 (v := .bool false) rfl
      have z4 := Y3.out.cell 4 (v := .string ⟨#[]⟩) rfl
      have f0 := Y3.out.free 0
      have f1 := Y3.out.free 1
      have f2 := Y3.out.free 2
      have f3 := Y3.out.free 3
      have f4 := Y3.out.free 4
      go_wp2
      have t1 := bx_set (Y3.out) 0 (.bool false)
      have t2 := bx_set (t1) 1 (.slice none 0 0)
      have t3 := bx_set (t2) 2 (.string (bs s))
      have t4 := bx_set (t3) 3 (.bool false)
      have t5 := bx_set (t4) 4 (.string ⟨#[]⟩)
      simp only [List.set_cons_zero, List.set_cons_succ] at t5
      have oB := ((((((Only.refl (At B2) w3).setCell (p := ⟨B2, 0, none⟩) rfl (.bool false)).setCell (p := ⟨B2, 1, none⟩) rfl (.slice none 0 0)).setCell (p := ⟨B2, 2, none⟩) rfl (.string (bs s))).setCell (p := ⟨B2, 3, none⟩) rfl (.bool false)).setCell (p := ⟨B2, 4, none⟩) rfl (.string ⟨#[]⟩))
      have hB2 : OfT 30 (At B2) w3 := ofT_at (show w3.heap[B2]? = _ from Y3.out)
      refine bodyPost_ret (results_agg rfl _ _ B2 [.bool false, .slice none 0 0, .string (bs s), .bool false, .string ⟨#[]⟩] Try.isAgg30 Try.sizeOf30 rfl t5) rfl ?_
      refine ⟨Lib.hid ⟨.slice none 0 0, ?_, ?_⟩, (O3.out).then oB (fun k hk hlt => by have e1 : k = B2 := hk; have := HB2.out; have := HB1.out; omega)⟩
      · rw [HP.out]; rfl
      · rw [HP.out]
        exact ⟨MEff.keep (t := 30) (MEff.nil _) oB hB2 (by decide), new_none _⟩
  have hmE : E.length = m := hm
  obtain ⟨q, off, ha1, hq, hc⟩ := XE.at_ (a := a1) (c := c1) (show XE D w3 (.slice a1 m c1) E from G3.out) hmE 0 h0
  subst ha1
  obtain ⟨e0, he0⟩ : ∃ e, e = E[0]'(by omega) := ⟨_, rfl⟩
  rw [← he0] at hc
  have u0 : w3.cell? ⟨q, off, none⟩ = some (.int .i64 e0.act) := by have := hc 0 (by decide); simp only [Nat.zero_mul, Nat.add_zero] at this; exact this
  have hputs : putsE E = decide (e0.act = 4) := by
    cases E with
    | nil => simp at hmE; omega
    | cons x y => rw [he0]; rfl
  have hmi : (0 : Int) < (m : Int) := by omega
  have hm0 : ((m : Int) > 0) := hmi
  clear hc he0
  by_cases h4 : e0.act = 4
  · have HP := Lib.hid (show planOf S s t n = ⟨true, [], s, false, []⟩ from by rw [HR0.out]; unfold doE; rw [hputs, decide_eq_true h4]; rfl)
    have g4 : (e0.act == 4) = true := by simpa using h4
    have fp0 := P3.out.free 0
    have kp0 := P3.out.cell 0 (v := .bool false) rfl
    clear hputs h4 hmE hm hE HW HZ HR0
    go_upto_region 5 with (fail)
    have P4 := bx_set P3.out 0 (.bool true)
    have o4 := (Only.refl (At B4) w3).setCell (p := ⟨B4, 0, none⟩) rfl (.bool true)
    have Y4 := Y3.out.at_ o4 (by have := HB4.out; omega)
    have O4 := O3.out.then o4 (fun k hk hlt => by have e1 : k = B4 := hk; have := HB5.out; omega)
    simp only [List.set_cons_zero] at P4
    generalize w3.setCell ⟨B4, 0, none⟩ (.bool true) = w4 at *
    clear fp0 kp0 u0 k3
    have p0 := P4.cell 0 (v := .bool true) rfl
    have p1 := P4.cell 1 (v := .slice none 0 0) rfl
    have p2 := P4.cell 2 (v := .string (bs s)) rfl
    have p3 := P4.cell 3 (v := .bool false) rfl
    have p4 := P4.cell 4 (v := .string ⟨#[]⟩) rfl
    have z0 := Y4.cell 0 (v := .bool false) rfl
    have z1 := Y4.cell 1 (v := .slice none 0 0) rfl
    have z2 := Y4.cell 2 (v := .string ⟨#[]⟩) rfl
    have z3 := Y4.cell 3 (v := .bool false) rfl
    have z4 := Y4.cell 4 (v := .string ⟨#[]⟩) rfl
    have f0 := Y4.free 0
    have f1 := Y4.free 1
    have f2 := Y4.free 2
    have f3 := Y4.free 3
    have f4 := Y4.free 4
    go_wp2
    have t1 := bx_set (Y4) 0 (.bool true)
    have t2 := bx_set (t1) 1 (.slice none 0 0)
    have t3 := bx_set (t2) 2 (.string (bs s))
    have t4 := bx_set (t3) 3 (.bool false)
    have t5 := bx_set (t4) 4 (.string ⟨#[]⟩)
    simp only [List.set_cons_zero, List.set_cons_succ] at t5
    have oB := ((((((Only.refl (At B2) w4).setCell (p := ⟨B2, 0, none⟩) rfl (.bool true)).setCell (p := ⟨B2, 1, none⟩) rfl (.slice none 0 0)).setCell (p := ⟨B2, 2, none⟩) rfl (.string (bs s))).setCell (p := ⟨B2, 3, none⟩) rfl (.bool false)).setCell (p := ⟨B2, 4, none⟩) rfl (.string ⟨#[]⟩))
    have hB2 : OfT 30 (At B2) w4 := ofT_at (show w4.heap[B2]? = _ from Y4)
    refine bodyPost_ret (results_agg rfl _ _ B2 [.bool true, .slice none 0 0, .string (bs s), .bool false, .string ⟨#[]⟩] Try.isAgg30 Try.sizeOf30 rfl t5) rfl ?_
    refine ⟨Lib.hid ⟨.slice none 0 0, ?_, ?_⟩, (O4).then oB (fun k hk hlt => by have e1 : k = B2 := hk; have := HB2.out; have := HB1.out; omega)⟩
    · rw [HP.out]; rfl
    · rw [HP.out]
      exact ⟨MEff.keep (t := 30) (MEff.nil _) oB hB2 (by decide), new_none _⟩
  have HP := Lib.hid (show planOf S s t n = runE n E [] s from by rw [HR0.out]; unfold doE; rw [hputs, decide_eq_false h4]; rfl)
  have g4 : (e0.act == 4) = false := by simpa using h4
  have HmE := Lib.hid hmE
  clear hputs h4 hmE hm hE HR0
  have hmb : m ≤ 140737488355328 := by have := HZ.out; omega
  have hmbi : (m : Int) ≤ 140737488355328 := by omega
  go_wp2
  go_loopw [41] (fun s41 wr => ∃ (i : Nat) (A : List Eff) (st : Wd) (va : Option Addr) (vc : Nat), i ≤ m ∧ s41 = .int .i64 (i : Int) ∧ Hid (Bx wr B4 [.bool false, .slice va A.length vc, .string (bs st), .bool false, .string ⟨#[]⟩] 30) ∧ Hid (MEff wr (.slice va A.length vc) A) ∧ Hid (New w3 (.slice va A.length vc)) ∧ Hid (Only (At B4) w3 wr) ∧ Hid (runE n E [] s = runE n (E.drop i) A st) ∧ Hid (A.length ≤ i))
    (fun s41 _ => m - (intOf s41).toNat)
  case atStart => exact ⟨0, [], s, none, 0, Nat.zero_le _, rfl, P3, Lib.hid (MEff.nil _), Lib.hid (new_none _), Lib.hid (Only.refl _ _), Lib.hid rfl, Lib.hid (Nat.le_refl _)⟩
  case round =>
    obtain ⟨i, A, st, va, vc, hi, rfl, hPx, hM, hNw, hO, hR, hA⟩ := hrel
    clear u0 k3 g4
    have hN4 : ∀ b, b < D → ¬ At B4 b := fun b hb h => by have e1 : b = B4 := h; have := HD.out; have := HB5.out; have := HB1.out; omega
    have HN4 := Lib.hid hN4
    have Yr := Lib.hid (Y3.out.at_ hO.out (by have := HB4.out; omega))
    have Or := Lib.hid (O3.out.then hO.out (fun k hk hlt => by have e1 : k = B4 := hk; have := HB5.out; omega))
    have NwR := Lib.hid (show New w (.slice va A.length vc) from fun g hg => Nat.le_trans O3.out.size (hNw.out g hg))
    clear hN4
    by_cases him : i < m
    · obtain ⟨q', off', ha1, hq', hc⟩ := XE.at_ (a := some ⟨q, off, none⟩) (c := c1) (show XE D wr (.slice (some ⟨q, off, none⟩) m c1) E from G3.out.keep hO.out HN4.out) HmE.out i him
      obtain ⟨rfl, rfl⟩ : q = q' ∧ off = off' := by simpa using ha1
      have HE := Lib.hid (List.getElem?_eq_getElem (show i < E.length from by rw [HmE.out]; exact him))
      have HWe := Lib.hid (HW.out _ (List.getElem_mem (show i < E.length from by rw [HmE.out]; exact him)))
      generalize E[i]'(by rw [HmE.out]; exact him) = e at *
      have c0 : wr.cell? ⟨q, off + i * 7, none⟩ = some (.int .i64 e.act) := hc 0 (by decide)
      have c1' : wr.cell? ⟨q, off + i * 7 + 1, none⟩ = some (.string (bs e.ref)) := hc 1 (by decide)
      have c2' : wr.cell? ⟨q, off + i * 7 + 2, none⟩ = some (.string (bs e.slot)) := hc 2 (by decide)
      have c3' : wr.cell? ⟨q, off + i * 7 + 3, none⟩ = some (.string (bs e.name)) := hc 3 (by decide)
      have c4' : wr.cell? ⟨q, off + i * 7 + 4, none⟩ = some (.int .i64 e.val) := hc 4 (by decide)
      have c5' : wr.cell? ⟨q, off + i * 7 + 5, none⟩ = some (.int .i64 e.n) := hc 5 (by decide)
      have c6' : wr.cell? ⟨q, off + i * 7 + 6, none⟩ = some (.int .i64 e.delay) := hc 6 (by decide)
      have hd := drop_step HE.out
      have HR := Lib.hid (hR.out.trans (by rw [hd]))
      have himi : (i : Int) < (m : Int) := by omega
      have HI := Lib.hid him
      obtain ⟨w5, hw5⟩ : ∃ w5, w5 = wr.alloc (.cells #[.int .i64 e.act, .string (bs e.ref), .string (bs e.slot), .string (bs e.name), .int .i64 e.val, .int .i64 e.n, .int .i64 e.delay] 50) := ⟨_, rfl⟩
      have o5 : Only Nil wr w5 := hw5 ▸ (Only.refl Nil wr).alloc _
      have E5 := Lib.hid (show Bx w5 wr.heap.size [.int .i64 e.act, .string (bs e.ref), .string (bs e.slot), .string (bs e.name), .int .i64 e.val, .int .i64 e.n, .int .i64 e.delay] 50 from hw5 ▸ bx_new wr [.int .i64 e.act, .string (bs e.ref), .string (bs e.slot), .string (bs e.name), .int .i64 e.val, .int .i64 e.n, .int .i64 e.delay] _)
      have P5 := Lib.hid (hPx.out.keep o5)
      have M5 := Lib.hid (MEff.keep (t := 30) hM.out o5 (ofT_nil _ _) (by decide))
      have Y5 := Lib.hid (Yr.out.keep o5)
      have O5 := Lib.hid (Or.out.trans o5)
      have OW := Lib.hid (hO.out.trans (o5.nilTo _))
      have HL5 := Lib.hid (fun g (hg : RowOf va g) => show g < wr.heap.size from row_lt hM.out hg)
      clear hc hd hq' ha1 o5 hPx hM Yr Or hO hR
      go_upto_region 9 with (fail)
      rw [← hw5]; clear hw5 c0 c1' c2' c3' c4' c5' c6'
      generalize wr.heap.size = B5 at *
      have k0 := E5.out.cell 0 (v := .int .i64 e.act) rfl
      by_cases h11 : e.act = 11
      · have g11 : (e.act == 11) = true := by simpa using h11
        have HPq := Lib.hid (show planOf S s t n = ⟨false, A, st, true, []⟩ from by rw [HP.out, HR.out]; simp only [runE]; rw [if_pos h11])
        have fp := P5.out.free 3
        have kp := P5.out.cell 3 (v := .bool false) rfl
        clear h11
        go_upto_region 13 with (fail)
        have P6 := bx_set P5.out 3 (.bool true)
        simp only [List.set_cons_zero, List.set_cons_succ] at P6
        have o6 := (Only.refl (At B4) w5).setCell (p := ⟨B4, 3, none⟩) rfl (.bool true)
        have Y6 := Y5.out.at_ o6 (by have := HB4.out; omega)
        have M6 := MEff.keep (t := 30) M5.out o6 (ofT_at (show w5.heap[B4]? = _ from P5.out)) (by decide)
        have O6 := O5.out.then o6 (fun k hk hlt => by have e1 : k = B4 := hk; have := HB5.out; omega)
        generalize w5.setCell ⟨B4, 3, none⟩ (.bool true) = w6 at *
        clear fp kp k0 o6
        have p0 := P6.cell 0 (v := .bool false) rfl
        have p1 := P6.cell 1 (v := .slice va A.length vc) rfl
        have p2 := P6.cell 2 (v := .string (bs st)) rfl
        have p3 := P6.cell 3 (v := .bool true) rfl
        have p4 := P6.cell 4 (v := .string ⟨#[]⟩) rfl
        have z0 := Y6.cell 0 (v := .bool false) rfl
        have z1 := Y6.cell 1 (v := .slice none 0 0) rfl
        have z2 := Y6.cell 2 (v := .string ⟨#[]⟩) rfl
        have z3 := Y6.cell 3 (v := .bool false) rfl
        have z4 := Y6.cell 4 (v := .string ⟨#[]⟩) rfl
        have f0 := Y6.free 0
        have f1 := Y6.free 1
        have f2 := Y6.free 2
        have f3 := Y6.free 3
        have f4 := Y6.free 4
        go_wp2
        have t1 := bx_set (Y6) 0 (.bool false)
        have t2 := bx_set (t1) 1 (.slice va A.length vc)
        have t3 := bx_set (t2) 2 (.string (bs st))
        have t4 := bx_set (t3) 3 (.bool true)
        have t5 := bx_set (t4) 4 (.string ⟨#[]⟩)
        simp only [List.set_cons_zero, List.set_cons_succ] at t5
        have oB := ((((((Only.refl (At B2) w6).setCell (p := ⟨B2, 0, none⟩) rfl (.bool false)).setCell (p := ⟨B2, 1, none⟩) rfl (.slice va A.length vc)).setCell (p := ⟨B2, 2, none⟩) rfl (.string (bs st))).setCell (p := ⟨B2, 3, none⟩) rfl (.bool true)).setCell (p := ⟨B2, 4, none⟩) rfl (.string ⟨#[]⟩))
        have hB2 : OfT 30 (At B2) w6 := ofT_at (show w6.heap[B2]? = _ from Y6)
        refine bodyPost_ret (results_agg rfl _ _ B2 [.bool false, .slice va A.length vc, .string (bs st), .bool true, .string ⟨#[]⟩] Try.isAgg30 Try.sizeOf30 rfl t5) rfl ?_
        refine ⟨Lib.hid ⟨.slice va A.length vc, ?_, ?_⟩, (O6).then oB (fun k hk hlt => by have e1 : k = B2 := hk; have := HB2.out; have := HB1.out; omega)⟩
        · rw [HPq.out]; rfl
        · rw [HPq.out]
          exact ⟨MEff.keep (t := 30) M6 oB hB2 (by decide), NwR.out⟩
      have g11 : (e.act == 11) = false := by simpa using h11
      by_cases h12 : e.act = 12
      · have g12 : (e.act == 12) = true := by simpa using h12
        have HPq := Lib.hid (show planOf S s t n = ⟨false, A, st, false, e.name⟩ from by rw [HP.out, HR.out]; simp only [runE]; rw [if_neg h11, if_pos h12])
        have fp := P5.out.free 4
        have kp := P5.out.cell 4 (v := .string ⟨#[]⟩) rfl
        have k3 := E5.out.cell 3 (v := .string (bs e.name)) rfl
        clear h11 h12
        go_upto_region 16 with (fail)
        have P6 := bx_set P5.out 4 (.string (bs e.name))
        simp only [List.set_cons_zero, List.set_cons_succ] at P6
        have o6 := (Only.refl (At B4) w5).setCell (p := ⟨B4, 4, none⟩) rfl (.string (bs e.name))
        have Y6 := Y5.out.at_ o6 (by have := HB4.out; omega)
        have M6 := MEff.keep (t := 30) M5.out o6 (ofT_at (show w5.heap[B4]? = _ from P5.out)) (by decide)
        have O6 := O5.out.then o6 (fun k hk hlt => by have e1 : k = B4 := hk; have := HB5.out; omega)
        generalize w5.setCell ⟨B4, 4, none⟩ (.string (bs e.name)) = w6 at *
        clear fp kp k0 k3 o6
        have p0 := P6.cell 0 (v := .bool false) rfl
        have p1 := P6.cell 1 (v := .slice va A.length vc) rfl
        have p2 := P6.cell 2 (v := .string (bs st)) rfl
        have p3 := P6.cell 3 (v := .bool false) rfl
        have p4 := P6.cell 4 (v := .string (bs e.name)) rfl
        have z0 := Y6.cell 0 (v := .bool false) rfl
        have z1 := Y6.cell 1 (v := .slice none 0 0) rfl
        have z2 := Y6.cell 2 (v := .string ⟨#[]⟩) rfl
        have z3 := Y6.cell 3 (v := .bool false) rfl
        have z4 := Y6.cell 4 (v := .string ⟨#[]⟩) rfl
        have f0 := Y6.free 0
        have f1 := Y6.free 1
        have f2 := Y6.free 2
        have f3 := Y6.free 3
        have f4 := Y6.free 4
        go_wp2
        have t1 := bx_set (Y6) 0 (.bool false)
        have t2 := bx_set (t1) 1 (.slice va A.length vc)
        have t3 := bx_set (t2) 2 (.string (bs st))
        have t4 := bx_set (t3) 3 (.bool false)
        have t5 := bx_set (t4) 4 (.string (bs e.name))
        simp only [List.set_cons_zero, List.set_cons_succ] at t5
        have oB := ((((((Only.refl (At B2) w6).setCell (p := ⟨B2, 0, none⟩) rfl (.bool false)).setCell (p := ⟨B2, 1, none⟩) rfl (.slice va A.length vc)).setCell (p := ⟨B2, 2, none⟩) rfl (.string (bs st))).setCell (p := ⟨B2, 3, none⟩) rfl (.bool false)).setCell (p := ⟨B2, 4, none⟩) rfl (.string (bs e.name)))
        have hB2 : OfT 30 (At B2) w6 := ofT_at (show w6.heap[B2]? = _ from Y6)
        refine bodyPost_ret (results_agg rfl _ _ B2 [.bool false, .slice va A.length vc, .string (bs st), .bool false, .string (bs e.name)] Try.isAgg30 Try.sizeOf30 rfl t5) rfl ?_
        refine ⟨Lib.hid ⟨.slice va A.length vc, ?_, ?_⟩, (O6).then oB (fun k hk hlt => by have e1 : k = B2 := hk; have := HB2.out; have := HB1.out; omega)⟩
        · rw [HPq.out]; rfl
        · rw [HPq.out]
          exact ⟨MEff.keep (t := 30) M6 oB hB2 (by decide), NwR.out⟩
      have g12 : (e.act == 12) = false := by simpa using h12
      by_cases h3 : e.act = 3
      · have g3 : (e.act == 3) = true := by simpa using h3
        have HRq := Lib.hid (show runE n E [] s = runE n (E.drop (i + 1)) A e.name from by rw [HR.out]; simp only [runE]; rw [if_neg h11, if_neg h12, if_pos h3])
        have fp := P5.out.free 2
        have kp := P5.out.cell 2 (v := .string (bs st)) rfl
        have k3 := E5.out.cell 3 (v := .string (bs e.name)) rfl
        have P6 := bx_set P5.out 2 (.string (bs e.name))
        simp only [List.set_cons_zero, List.set_cons_succ] at P6
        have P7 := Lib.hid P6
        have o6 := (Only.refl (At B4) w5).setCell (p := ⟨B4, 2, none⟩) rfl (.string (bs e.name))
        have M6 := Lib.hid (MEff.keep (t := 30) M5.out o6 (ofT_at (show w5.heap[B4]? = _ from P5.out)) (by decide))
        have O6 := Lib.hid (OW.out.trans o6)
        have HA := Lib.hid (show A.length ≤ i + 1 from Nat.le_succ_of_le hA.out)
        clear h11 h12 h3 P6 o6 him hi
        go_wp2
        go_roundw
        case rel => exact ⟨i + 1, A, e.name, va, vc, HI.out, by go_num, P7, M6, hNw, O6, HRq, HA⟩
        case measure => have := HI.out; simp [intOf]; omega
      have g3 : (e.act == 3) = false := by simpa using h3
      by_cases h4 : e.act = 4
      · have g4 : (e.act == 4) = true := by simpa using h4
        have HRq := Lib.hid (show runE n E [] s = runE n (E.drop (i + 1)) A st from by rw [HR.out]; simp only [runE]; rw [if_neg h11, if_neg h12, if_neg h3, if_pos h4])
        have HA := Lib.hid (show A.length ≤ i + 1 from Nat.le_succ_of_le hA.out)
        clear h11 h12 h3 h4 him hi
        go_wp2
        go_roundw
        case rel => exact ⟨i + 1, A, st, va, vc, HI.out, by go_num, P5, M5, hNw, OW, HRq, HA⟩
        case measure => have := HI.out; simp [intOf]; omega
      have g4 : (e.act == 4) = false := by simpa using h4
      have HRq := Lib.hid (show runE n E [] s = runE n (E.drop (i + 1)) (A ++ [settle e n]) st from by rw [HR.out]; simp only [runE]; rw [if_neg h11, if_neg h12, if_neg h3, if_neg h4])
      have HST := Lib.hid (fun w' => settled_any e n HN.out w')
      generalize settle e n = x at *
      have HX : Hid (∀ w', Calls Try.prog 29 #[.agg #[.int .i64 e.act, .string (bs e.ref), .string (bs e.slot), .string (bs e.name), .int .i64 e.val, .int .i64 e.n, .int .i64 e.delay], .int .i64 n] w' fun r w'' => r = .returned (.agg #[.int .i64 x.act, .string (bs x.ref), .string (bs x.slot), .string (bs x.name), .int .i64 x.val, .int .i64 x.n, .int .i64 x.delay]) ∧ Only Nil w' w'') := Lib.hid fun w' => (HST.out w').mono fun r w'' hh => ⟨hh.1.out, hh.2⟩
      have HA := Lib.hid (show (A ++ [x]).length ≤ i + 1 from by rw [List.length_append]; exact Nat.succ_le_succ hA.out)
      have HF := Lib.hid (show (A.length + 1) * 80 ≤ 140737488355328 from Nat.le_trans (Nat.mul_le_mul_right 80 (Nat.le_trans (Nat.succ_le_succ hA.out) HI.out)) HZ.out)
      have HV := Lib.hid hNw.out
      have HSZ := Lib.hid (show w3.heap.size ≤ w5.heap.size from OW.out.size)
      clear h11 h12 h3 h4 him hi HST HR
      have CC := Lib.hid (show ∀ w', Only (At B4) w5 w' → (fun w' : World => w'.cell? ⟨B5, 0, none⟩ = some (.int .i64 e.act) ∧ w'.cell? ⟨B5, 1, none⟩ = some (.string (bs e.ref)) ∧ w'.cell? ⟨B5, 2, none⟩ = some (.string (bs e.slot)) ∧ w'.cell? ⟨B5, 3, none⟩ = some (.string (bs e.name)) ∧ w'.cell? ⟨B5, 4, none⟩ = some (.int .i64 e.val) ∧ w'.cell? ⟨B5, 5, none⟩ = some (.int .i64 e.n) ∧ w'.cell? ⟨B5, 6, none⟩ = some (.int .i64 e.delay)) w' from fun w' o => by
        have hh := E5.out.at_ o (blk_ne E5.out P5.out (by decide))
        exact ⟨hh.cell 0 rfl, hh.cell 1 rfl, hh.cell 2 rfl, hh.cell 3 rfl, hh.cell 4 rfl, hh.cell 5 rfl, hh.cell 6 rfl⟩)
      go_upto_region 10 with (fail)
      clear k0
      have OO := Lib.hid (show Only Nil w5 w5.drew from (Only.refl Nil w5).drew)
      have BP := Lib.hid (P5.out.keep OO.out)
      have MM := Lib.hid (MEff.keep (t := 30) M5.out OO.out (ofT_nil _ _) (by decide))
      refine wp_region_held_drew (S := fun w' => w'.cell? ⟨B5, 0, none⟩ = some (.int .i64 e.act) ∧ w'.cell? ⟨B5, 1, none⟩ = some (.string (bs e.ref)) ∧ w'.cell? ⟨B5, 2, none⟩ = some (.string (bs e.slot)) ∧ w'.cell? ⟨B5, 3, none⟩ = some (.string (bs e.name)) ∧ w'.cell? ⟨B5, 4, none⟩ = some (.int .i64 e.val) ∧ w'.cell? ⟨B5, 5, none⟩ = some (.int .i64 e.n) ∧ w'.cell? ⟨B5, 6, none⟩ = some (.int .i64 e.delay)) (by kernel_rfl) (CC.out _ (OO.out.nilTo _)) (fun hHeld => ?_)
      generalize w5.drew = v0 at *
      refine take_dst (some 47) (i := 0) (v := ?vdp1) rfl (by as_aux_lemma => kernel_rfl) (by as_aux_lemma => kernel_rfl) (by as_aux_lemma => kernel_rfl) (by as_aux_lemma => kernel_rfl) (fun _ _ _ h => h) (Or.inl ⟨by kernel_rfl, ?hdp1⟩) (by assumption) ?rdp1
      case hdp1 => (intro w hSw; (try dsimp only at hSw); first | (go_simp; done) | (go_simp; with_reducible rfl))
      try simp only [Act.put, List.setIfInBounds_toArray, List.set_cons_zero, List.set_cons_succ]
      refine take_dst (some 49) (i := 2) (v := ?vdp2) rfl (by as_aux_lemma => kernel_rfl) (by as_aux_lemma => kernel_rfl) (by as_aux_lemma => kernel_rfl) (by as_aux_lemma => kernel_rfl) (fun _ _ _ h => h) (Or.inl ⟨by kernel_rfl, ?hdp2⟩) (by assumption) ?rdp2
      case hdp2 => (intro w hSw; (try dsimp only at hSw); first | (go_simp; done) | (go_simp; with_reducible rfl))
      try simp only [Act.put, List.setIfInBounds_toArray, List.set_cons_zero, List.set_cons_succ]
      refine take_dst (some 50) (i := 3) (v := ?vdp3) rfl (by as_aux_lemma => kernel_rfl) (by as_aux_lemma => kernel_rfl) (by as_aux_lemma => kernel_rfl) (by as_aux_lemma => kernel_rfl) (fun _ _ _ h => h) (Or.inl ⟨by kernel_rfl, ?hdp3⟩) (by assumption) ?rdp3
      case hdp3 => (intro w hSw; (try dsimp only at hSw); first | (go_simp; done) | (go_simp; with_reducible rfl))
      try simp only [Act.put, List.setIfInBounds_toArray, List.set_cons_zero, List.set_cons_succ]
      refine wpAnyH_ready (rs := [1, 4]) (by as_aux_lemma => kernel_rfl) (by simp) ?_
      refine (AllReadyH.cons rfl (fun dK4 hdK4 => ?_) (AllReadyH.cons rfl (fun dK5 hdK5 => ?_) AllReadyH.nil))
      · skip
        have ck := BP.out.cell 1 (v := .slice va A.length vc) rfl
        go_simp
        clear ck
        refine hdK4.out _ _ ?dm6 (fun hHeld => ?_)
        case dm6 => exact CC.out _ (OO.out.nilTo _)
        clear hdK4 dK4
        try simp only [Act.put, List.setIfInBounds_toArray, List.set_cons_zero, List.set_cons_succ]
        refine wpAnyH_ready (rs := [4]) (by as_aux_lemma => kernel_rfl) (by simp) ?_
        refine AllReadyH.cons rfl (fun dK7 hdK7 => ?_) AllReadyH.nil
        go_simp
        go_at_call 29
        refine (HX.out _).mono ?_
        rintro r v9 ⟨rfl, on⟩
        have X := Lib.hid (OO.out.trans on); clear OO; have OO := X; clear X; have X := Lib.hid (BP.out.keep on); clear BP; have BP := X; clear X; have X := Lib.hid (MEff.keep (t := 30) MM.out on (ofT_nil _ _) (by decide)); clear MM; have MM := X; clear X on
        go_wp2_with fail
        refine hdK7.out _ _ ?dm8 (fun hHeld => ?_)
        case dm8 => exact CC.out _ (OO.out.nilTo _)
        clear hdK7 dK7
        try simp only [Act.put, List.setIfInBounds_toArray, List.set_cons_zero, List.set_cons_succ]
        refine wpAnyH_ready (rs := [5]) (by as_aux_lemma => kernel_rfl) (by simp) ?_
        refine AllReadyH.cons rfl (fun dK10 hdK10 => ?_) AllReadyH.nil
        go_simp
        refine hdK10.out _ _ ?dm11 (fun hHeld => ?_)
        case dm11 => exact CC.out _ ((OO.out.alloc (.cells #[.int .i64 x.act, .string (bs x.ref), .string (bs x.slot), .string (bs x.name), .int .i64 x.val, .int .i64 x.n, .int .i64 x.delay] 50)).nilTo _)
        clear hdK10 dK10
        try simp only [Act.put, List.setIfInBounds_toArray, List.set_cons_zero, List.set_cons_succ]
        refine wpAnyH_ready (rs := [6]) (by as_aux_lemma => kernel_rfl) (by simp) ?_
        refine AllReadyH.cons rfl (fun dK12 hdK12 => ?_) AllReadyH.nil
        obtain ⟨a6, c6, v14, hr, M6, N6, o6⟩ := eff_pushed MM.out rfl HV.out (Nat.le_trans HSZ.out OO.out.size) HF.out x
        refine step_append_run rfl (.tmp 48) (.tmp 52) 28 rfl _ _ rfl rfl _ _ hr ?_
        have hlt5 : ∀ g, RowOf va g → g < B5 := HL5.out
        have BQ := Lib.hid (bx_row BP.out MM.out o6 (by decide))
        have OB5 := Lib.hid (show B5 < w5.heap.size from lt_of_block E5.out)
        have CE := Lib.hid (show Bx v14 B5 [.int .i64 e.act, .string (bs e.ref), .string (bs e.slot), .string (bs e.name), .int .i64 e.val, .int .i64 e.n, .int .i64 e.delay] 50 from (o6.block B5 (Nat.lt_of_lt_of_le OB5.out OO.out.size) (fun h => absurd (hlt5 B5 h) (Nat.lt_irrefl _))).trans (E5.out.keep OO.out))
        have O6 := Lib.hid (show Only (At B4) w3 v14 from (OW.out.trans (OO.out.nilTo _)).then o6 (fun g hg hlt => by obtain ⟨y, rfl, rfl⟩ := hg; have := hNw.out y.block rfl; omega))
        clear hr o6 MM BP
        refine hdK12.out _ _ ?dm13 (fun hHeld => ?_)
        case dm13 => exact ⟨CE.out.cell 0 rfl, CE.out.cell 1 rfl, CE.out.cell 2 rfl, CE.out.cell 3 rfl, CE.out.cell 4 rfl, CE.out.cell 5 rfl, CE.out.cell 6 rfl⟩
        clear hdK12 dK12
        try simp only [Act.put, List.setIfInBounds_toArray, List.set_cons_zero, List.set_cons_succ]
        refine take_dst (some 54) (i := 7) (v := ?vdp15) rfl (by as_aux_lemma => kernel_rfl) (by as_aux_lemma => kernel_rfl) (by as_aux_lemma => kernel_rfl) (by as_aux_lemma => kernel_rfl) (fun _ _ _ h => h) (Or.inl ⟨by kernel_rfl, ?hdp15⟩) (by assumption) ?rdp15
        case hdp15 => (intro w hSw; (try dsimp only at hSw); first | (go_simp; done) | (go_simp; with_reducible rfl))
        try simp only [Act.put, List.setIfInBounds_toArray, List.set_cons_zero, List.set_cons_succ]
        refine wpAnyH_ready (rs := [8]) (by as_aux_lemma => kernel_rfl) (by simp) ?_
        refine AllReadyH.cons rfl (fun dK16 hdK16 => ?_) AllReadyH.nil
        have ck := BQ.out.cell 1 (v := .slice va A.length vc) rfl
        have fk := BQ.out.free 1
        have oS := Lib.hid (O6.out.setCell (p := ⟨B4, 1, none⟩) rfl (.slice a6 (A.length + 1) c6))
        have oT := (Only.refl (At B4) v14).setCell (p := ⟨B4, 1, none⟩) rfl (.slice a6 (A.length + 1) c6)
        have bS := bx_set BQ.out 1 (.slice a6 (A.length + 1) c6)
        simp only [List.set_cons_succ, List.set_cons_zero] at bS
        have BS := Lib.hid bS
        have MS := Lib.hid (MEff.keep (t := 30) M6.out oT (ofT_at (show v14.heap[B4]? = _ from BQ.out)) (by decide))
        have CS := Lib.hid (CE.out.at_ oT (blk_ne CE.out BQ.out (by decide)))
        clear bS oT
        go_simp
        clear ck fk
        refine hdK16.out _ _ ?dm17 (fun hHeld => ?_)
        case dm17 => exact ⟨CS.out.cell 0 rfl, CS.out.cell 1 rfl, CS.out.cell 2 rfl, CS.out.cell 3 rfl, CS.out.cell 4 rfl, CS.out.cell 5 rfl, CS.out.cell 6 rfl⟩
        clear hdK16 dK16
        try simp only [Act.put, List.setIfInBounds_toArray, List.set_cons_zero, List.set_cons_succ]
        refine wpAnyH_done (by as_aux_lemma => kernel_rfl) ?_ _
        have hlA : (A ++ [x]).length = A.length + 1 := by rw [List.length_append]; rfl
        have HlA := Lib.hid hlA
        clear hlA
        go_wp2
        go_roundw
        case rel => exact ⟨i + 1, A ++ [x], st, a6, c6, HI.out, by go_num, Lib.hid (by rw [HlA.out]; exact BS.out), Lib.hid (by rw [HlA.out]; exact MS.out), Lib.hid (by rw [HlA.out]; exact N6.out), oS, HRq, HA⟩
        case measure => have := HI.out; simp [intOf]; omega
      · skip
        go_simp
        go_at_call 29
        refine (HX.out _).mono ?_
        rintro r v19 ⟨rfl, on⟩
        have X := Lib.hid (OO.out.trans on); clear OO; have OO := X; clear X; have X := Lib.hid (BP.out.keep on); clear BP; have BP := X; clear X; have X := Lib.hid (MEff.keep (t := 30) MM.out on (ofT_nil _ _) (by decide)); clear MM; have MM := X; clear X on
        go_wp2_with fail
        refine hdK5.out _ _ ?dm18 (fun hHeld => ?_)
        case dm18 => exact CC.out _ (OO.out.nilTo _)
        clear hdK5 dK5
        try simp only [Act.put, List.setIfInBounds_toArray, List.set_cons_zero, List.set_cons_succ]
        refine wpAnyH_ready (rs := [1, 5]) (by as_aux_lemma => kernel_rfl) (by simp) ?_
        refine (AllReadyH.cons rfl (fun dK20 hdK20 => ?_) (AllReadyH.cons rfl (fun dK21 hdK21 => ?_) AllReadyH.nil))
        · skip
          have ck := BP.out.cell 1 (v := .slice va A.length vc) rfl
          go_simp
          clear ck
          refine hdK20.out _ _ ?dm22 (fun hHeld => ?_)
          case dm22 => exact CC.out _ (OO.out.nilTo _)
          clear hdK20 dK20
          try simp only [Act.put, List.setIfInBounds_toArray, List.set_cons_zero, List.set_cons_succ]
          refine wpAnyH_ready (rs := [5]) (by as_aux_lemma => kernel_rfl) (by simp) ?_
          refine AllReadyH.cons rfl (fun dK23 hdK23 => ?_) AllReadyH.nil
          go_simp
          refine hdK23.out _ _ ?dm24 (fun hHeld => ?_)
          case dm24 => exact CC.out _ ((OO.out.alloc (.cells #[.int .i64 x.act, .string (bs x.ref), .string (bs x.slot), .string (bs x.name), .int .i64 x.val, .int .i64 x.n, .int .i64 x.delay] 50)).nilTo _)
          clear hdK23 dK23
          try simp only [Act.put, List.setIfInBounds_toArray, List.set_cons_zero, List.set_cons_succ]
          refine wpAnyH_ready (rs := [6]) (by as_aux_lemma => kernel_rfl) (by simp) ?_
          refine AllReadyH.cons rfl (fun dK25 hdK25 => ?_) AllReadyH.nil
          obtain ⟨a6, c6, v27, hr, M6, N6, o6⟩ := eff_pushed MM.out rfl HV.out (Nat.le_trans HSZ.out OO.out.size) HF.out x
          refine step_append_run rfl (.tmp 48) (.tmp 52) 28 rfl _ _ rfl rfl _ _ hr ?_
          have hlt5 : ∀ g, RowOf va g → g < B5 := HL5.out
          have BQ := Lib.hid (bx_row BP.out MM.out o6 (by decide))
          have OB5 := Lib.hid (show B5 < w5.heap.size from lt_of_block E5.out)
          have CE := Lib.hid (show Bx v27 B5 [.int .i64 e.act, .string (bs e.ref), .string (bs e.slot), .string (bs e.name), .int .i64 e.val, .int .i64 e.n, .int .i64 e.delay] 50 from (o6.block B5 (Nat.lt_of_lt_of_le OB5.out OO.out.size) (fun h => absurd (hlt5 B5 h) (Nat.lt_irrefl _))).trans (E5.out.keep OO.out))
          have O6 := Lib.hid (show Only (At B4) w3 v27 from (OW.out.trans (OO.out.nilTo _)).then o6 (fun g hg hlt => by obtain ⟨y, rfl, rfl⟩ := hg; have := hNw.out y.block rfl; omega))
          clear hr o6 MM BP
          refine hdK25.out _ _ ?dm26 (fun hHeld => ?_)
          case dm26 => exact ⟨CE.out.cell 0 rfl, CE.out.cell 1 rfl, CE.out.cell 2 rfl, CE.out.cell 3 rfl, CE.out.cell 4 rfl, CE.out.cell 5 rfl, CE.out.cell 6 rfl⟩
          clear hdK25 dK25
          try simp only [Act.put, List.setIfInBounds_toArray, List.set_cons_zero, List.set_cons_succ]
          refine take_dst (some 54) (i := 7) (v := ?vdp28) rfl (by as_aux_lemma => kernel_rfl) (by as_aux_lemma => kernel_rfl) (by as_aux_lemma => kernel_rfl) (by as_aux_lemma => kernel_rfl) (fun _ _ _ h => h) (Or.inl ⟨by kernel_rfl, ?hdp28⟩) (by assumption) ?rdp28
          case hdp28 => (intro w hSw; (try dsimp only at hSw); first | (go_simp; done) | (go_simp; with_reducible rfl))
          try simp only [Act.put, List.setIfInBounds_toArray, List.set_cons_zero, List.set_cons_succ]
          refine wpAnyH_ready (rs := [8]) (by as_aux_lemma => kernel_rfl) (by simp) ?_
          refine AllReadyH.cons rfl (fun dK29 hdK29 => ?_) AllReadyH.nil
          have ck := BQ.out.cell 1 (v := .slice va A.length vc) rfl
          have fk := BQ.out.free 1
          have oS := Lib.hid (O6.out.setCell (p := ⟨B4, 1, none⟩) rfl (.slice a6 (A.length + 1) c6))
          have oT := (Only.refl (At B4) v27).setCell (p := ⟨B4, 1, none⟩) rfl (.slice a6 (A.length + 1) c6)
          have bS := bx_set BQ.out 1 (.slice a6 (A.length + 1) c6)
          simp only [List.set_cons_succ, List.set_cons_zero] at bS
          have BS := Lib.hid bS
          have MS := Lib.hid (MEff.keep (t := 30) M6.out oT (ofT_at (show v27.heap[B4]? = _ from BQ.out)) (by decide))
          have CS := Lib.hid (CE.out.at_ oT (blk_ne CE.out BQ.out (by decide)))
          clear bS oT
          go_simp
          clear ck fk
          refine hdK29.out _ _ ?dm30 (fun hHeld => ?_)
          case dm30 => exact ⟨CS.out.cell 0 rfl, CS.out.cell 1 rfl, CS.out.cell 2 rfl, CS.out.cell 3 rfl, CS.out.cell 4 rfl, CS.out.cell 5 rfl, CS.out.cell 6 rfl⟩
          clear hdK29 dK29
          try simp only [Act.put, List.setIfInBounds_toArray, List.set_cons_zero, List.set_cons_succ]
          refine wpAnyH_done (by as_aux_lemma => kernel_rfl) ?_ _
          have hlA : (A ++ [x]).length = A.length + 1 := by rw [List.length_append]; rfl
          have HlA := Lib.hid hlA
          clear hlA
          go_wp2
          go_roundw
          case rel => exact ⟨i + 1, A ++ [x], st, a6, c6, HI.out, by go_num, Lib.hid (by rw [HlA.out]; exact BS.out), Lib.hid (by rw [HlA.out]; exact MS.out), Lib.hid (by rw [HlA.out]; exact N6.out), oS, HRq, HA⟩
          case measure => have := HI.out; simp [intOf]; omega
        · skip
          go_simp
          refine hdK21.out _ _ ?dm31 (fun hHeld => ?_)
          case dm31 => exact CC.out _ ((OO.out.alloc (.cells #[.int .i64 x.act, .string (bs x.ref), .string (bs x.slot), .string (bs x.name), .int .i64 x.val, .int .i64 x.n, .int .i64 x.delay] 50)).nilTo _)
          clear hdK21 dK21
          try simp only [Act.put, List.setIfInBounds_toArray, List.set_cons_zero, List.set_cons_succ]
          refine wpAnyH_ready (rs := [1]) (by as_aux_lemma => kernel_rfl) (by simp) ?_
          refine AllReadyH.cons rfl (fun dK32 hdK32 => ?_) AllReadyH.nil
          have ck := (BP.out.keep ((Only.refl Nil v19).alloc (.cells #[.int .i64 x.act, .string (bs x.ref), .string (bs x.slot), .string (bs x.name), .int .i64 x.val, .int .i64 x.n, .int .i64 x.delay] 50))).cell 1 (v := .slice va A.length vc) rfl
          go_simp
          clear ck
          refine hdK32.out _ _ ?dm33 (fun hHeld => ?_)
          case dm33 => exact CC.out _ ((OO.out.alloc (.cells #[.int .i64 x.act, .string (bs x.ref), .string (bs x.slot), .string (bs x.name), .int .i64 x.val, .int .i64 x.n, .int .i64 x.delay] 50)).nilTo _)
          clear hdK32 dK32
          try simp only [Act.put, List.setIfInBounds_toArray, List.set_cons_zero, List.set_cons_succ]
          refine wpAnyH_ready (rs := [6]) (by as_aux_lemma => kernel_rfl) (by simp) ?_
          refine AllReadyH.cons rfl (fun dK34 hdK34 => ?_) AllReadyH.nil
          obtain ⟨a6, c6, v36, hr, M6, N6, o6⟩ := eff_pushed MM.out rfl HV.out (Nat.le_trans HSZ.out OO.out.size) HF.out x
          refine step_append_run rfl (.tmp 48) (.tmp 52) 28 rfl _ _ rfl rfl _ _ hr ?_
          have hlt5 : ∀ g, RowOf va g → g < B5 := HL5.out
          have BQ := Lib.hid (bx_row BP.out MM.out o6 (by decide))
          have OB5 := Lib.hid (show B5 < w5.heap.size from lt_of_block E5.out)
          have CE := Lib.hid (show Bx v36 B5 [.int .i64 e.act, .string (bs e.ref), .string (bs e.slot), .string (bs e.name), .int .i64 e.val, .int .i64 e.n, .int .i64 e.delay] 50 from (o6.block B5 (Nat.lt_of_lt_of_le OB5.out OO.out.size) (fun h => absurd (hlt5 B5 h) (Nat.lt_irrefl _))).trans (E5.out.keep OO.out))
          have O6 := Lib.hid (show Only (At B4) w3 v36 from (OW.out.trans (OO.out.nilTo _)).then o6 (fun g hg hlt => by obtain ⟨y, rfl, rfl⟩ := hg; have := hNw.out y.block rfl; omega))
          clear hr o6 MM BP
          refine hdK34.out _ _ ?dm35 (fun hHeld => ?_)
          case dm35 => exact ⟨CE.out.cell 0 rfl, CE.out.cell 1 rfl, CE.out.cell 2 rfl, CE.out.cell 3 rfl, CE.out.cell 4 rfl, CE.out.cell 5 rfl, CE.out.cell 6 rfl⟩
          clear hdK34 dK34
          try simp only [Act.put, List.setIfInBounds_toArray, List.set_cons_zero, List.set_cons_succ]
          refine take_dst (some 54) (i := 7) (v := ?vdp37) rfl (by as_aux_lemma => kernel_rfl) (by as_aux_lemma => kernel_rfl) (by as_aux_lemma => kernel_rfl) (by as_aux_lemma => kernel_rfl) (fun _ _ _ h => h) (Or.inl ⟨by kernel_rfl, ?hdp37⟩) (by assumption) ?rdp37
          case hdp37 => (intro w hSw; (try dsimp only at hSw); first | (go_simp; done) | (go_simp; with_reducible rfl))
          try simp only [Act.put, List.setIfInBounds_toArray, List.set_cons_zero, List.set_cons_succ]
          refine wpAnyH_ready (rs := [8]) (by as_aux_lemma => kernel_rfl) (by simp) ?_
          refine AllReadyH.cons rfl (fun dK38 hdK38 => ?_) AllReadyH.nil
          have ck := BQ.out.cell 1 (v := .slice va A.length vc) rfl
          have fk := BQ.out.free 1
          have oS := Lib.hid (O6.out.setCell (p := ⟨B4, 1, none⟩) rfl (.slice a6 (A.length + 1) c6))
          have oT := (Only.refl (At B4) v36).setCell (p := ⟨B4, 1, none⟩) rfl (.slice a6 (A.length + 1) c6)
          have bS := bx_set BQ.out 1 (.slice a6 (A.length + 1) c6)
          simp only [List.set_cons_succ, List.set_cons_zero] at bS
          have BS := Lib.hid bS
          have MS := Lib.hid (MEff.keep (t := 30) M6.out oT (ofT_at (show v36.heap[B4]? = _ from BQ.out)) (by decide))
          have CS := Lib.hid (CE.out.at_ oT (blk_ne CE.out BQ.out (by decide)))
          clear bS oT
          go_simp
          clear ck fk
          refine hdK38.out _ _ ?dm39 (fun hHeld => ?_)
          case dm39 => exact ⟨CS.out.cell 0 rfl, CS.out.cell 1 rfl, CS.out.cell 2 rfl, CS.out.cell 3 rfl, CS.out.cell 4 rfl, CS.out.cell 5 rfl, CS.out.cell 6 rfl⟩
          clear hdK38 dK38
          try simp only [Act.put, List.setIfInBounds_toArray, List.set_cons_zero, List.set_cons_succ]
          refine wpAnyH_done (by as_aux_lemma => kernel_rfl) ?_ _
          have hlA : (A ++ [x]).length = A.length + 1 := by rw [List.length_append]; rfl
          have HlA := Lib.hid hlA
          clear hlA
          go_wp2
          go_roundw
          case rel => exact ⟨i + 1, A ++ [x], st, a6, c6, HI.out, by go_num, Lib.hid (by rw [HlA.out]; exact BS.out), Lib.hid (by rw [HlA.out]; exact MS.out), Lib.hid (by rw [HlA.out]; exact N6.out), oS, HRq, HA⟩
          case measure => have := HI.out; simp [intOf]; omega
    · obtain rfl : i = m := by omega
      have hk0 : ¬ (i : Int) < (i : Int) := by omega
      have HPq := Lib.hid (show planOf S s t n = ⟨false, A, st, false, []⟩ from by rw [HP.out, hR.out, List.drop_of_length_le (by rw [HmE.out]; exact Nat.le_refl _)]; rfl)
      clear him
      have Pw := hPx.out
      have Yw := Yr.out
      have p0 := Pw.cell 0 (v := .bool false) rfl
      have p1 := Pw.cell 1 (v := .slice va A.length vc) rfl
      have p2 := Pw.cell 2 (v := .string (bs st)) rfl
      have p3 := Pw.cell 3 (v := .bool false) rfl
      have p4 := Pw.cell 4 (v := .string ⟨#[]⟩) rfl
      have z0 := Yw.cell 0 (v := .bool false) rfl
      have z1 := Yw.cell 1 (v := .slice none 0 0) rfl
      have z2 := Yw.cell 2 (v := .string ⟨#[]⟩) rfl
      have z3 := Yw.cell 3 (v := .bool false) rfl
      have z4 := Yw.cell 4 (v := .string ⟨#[]⟩) rfl
      have f0 := Yw.free 0
      have f1 := Yw.free 1
      have f2 := Yw.free 2
      have f3 := Yw.free 3
      have f4 := Yw.free 4
      go_wp2
      have t1 := bx_set (Yw) 0 (.bool false)
      have t2 := bx_set (t1) 1 (.slice va A.length vc)
      have t3 := bx_set (t2) 2 (.string (bs st))
      have t4 := bx_set (t3) 3 (.bool false)
      have t5 := bx_set (t4) 4 (.string ⟨#[]⟩)
      simp only [List.set_cons_zero, List.set_cons_succ] at t5
      have oB := ((((((Only.refl (At B2) wr).setCell (p := ⟨B2, 0, none⟩) rfl (.bool false)).setCell (p := ⟨B2, 1, none⟩) rfl (.slice va A.length vc)).setCell (p := ⟨B2, 2, none⟩) rfl (.string (bs st))).setCell (p := ⟨B2, 3, none⟩) rfl (.bool false)).setCell (p := ⟨B2, 4, none⟩) rfl (.string ⟨#[]⟩))
      have hB2 : OfT 30 (At B2) wr := ofT_at (show wr.heap[B2]? = _ from Yw)
      refine bodyPost_ret (results_agg rfl _ _ B2 [.bool false, .slice va A.length vc, .string (bs st), .bool false, .string ⟨#[]⟩] Try.isAgg30 Try.sizeOf30 rfl t5) rfl ?_
      refine ⟨Lib.hid ⟨.slice va A.length vc, ?_, ?_⟩, (Or.out).then oB (fun k hk hlt => by have e1 : k = B2 := hk; have := HB2.out; have := HB1.out; omega)⟩
      · rw [HPq.out]; rfl
      · rw [HPq.out]
        exact ⟨MEff.keep (t := 30) hM.out oB hB2 (by decide), NwR.out⟩
end Go.Proofs.Ytimnaiahokafaaa.Ac
