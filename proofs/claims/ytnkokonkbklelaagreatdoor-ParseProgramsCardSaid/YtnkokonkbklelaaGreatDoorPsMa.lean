/- parse: a writer writes rows, cases, states, kinds, a program. -/
import Derived.Test.YtnkokonkbklelaaGreatDoorPsM9
import Derived.Test.YtnkokonkbklelaaGreatDoorLxM5
set_option linter.unusedVariables false
namespace Go.Proofs.YtnkokonkbklelaaGreatDoor.Ps
open Go.RowKit Go.Proofs.YtnkokonkbklelaaGreatDoor Lx

def wordsR (x : Rw) : List Wd := headW x ++ (w_open :: (x.effs.flatMap wordsE ++ [w_close]))
def okR (x : Rw) : Bool := okH x && x.effs.all okE
def wordsC (c : Cs) : List Wd := (if c.reason = [] then [w_else] else [w_case, c.reason]) ++ [pickW dirs (c.act - 1), w_semi]
def okC (c : Cs) : Bool := (decide (c.reason = []) || isNm c.reason) && okP dirs (c.act - 1)
def wordsS (s : Sta) : List Wd := [w_state, s.name, w_open] ++ (s.rows.flatMap wordsR ++ [w_close])
def okS (s : Sta) : Bool := isNm s.name && s.rows.all okR
def wordsK (k : Kd) : List Wd := [w_kind, k.name, w_open, w_limit, Lib.itoa k.limit, w_in, Lib.itoa k.within, w_semi] ++ (k.cases.flatMap wordsC ++ (k.states.flatMap wordsS ++ [w_close]))
def okK (k : Kd) : Bool := (isNm k.name && (okN k.limit && okN k.within)) && (k.cases.all okC && k.states.all okS)
def wordsP (P : List Kd) : List Wd := P.flatMap wordsK
/-- Is a program writable? -/
def writable (P : List Kd) : Bool := P.all okK
structure wfR (x : Rw) : Prop where
  n : inW x.n
  tag : x.tag.length ≤ 140737488355328
  effs : ∀ e ∈ x.effs, wfE e
structure wfC (c : Cs) : Prop where
  act : inW c.act
  reason : c.reason.length ≤ 140737488355328
structure wfS (s : Sta) : Prop where
  name : s.name.length ≤ 140737488355328
  rows : ∀ r ∈ s.rows, wfR r
structure wfK (k : Kd) : Prop where
  limit : inW k.limit
  within : inW k.within
  name : k.name.length ≤ 140737488355328
  cases : ∀ c ∈ k.cases, wfC c
  states : ∀ s ∈ k.states, wfS s
def wfP (P : List Kd) : Prop := ∀ k ∈ P, wfK k
theorem dirs_len : ∀ v ∈ dirs, v.length ≤ 100 := by decide
theorem all_snoc {α : Type} (f : α → Bool) {L : List α} {k : Nat} (h : k < L.length) : ((L.take k).all f && f L[k]) = (L.take (k + 1)).all f := by
  rw [List.take_succ_eq_append_getElem h, List.all_append]; simp
theorem flat_snoc {α : Type} (f : α → List Wd) {L : List α} {k : Nat} (h : k < L.length) : (L.take k).flatMap f ++ f L[k] = (L.take (k + 1)).flatMap f := by
  rw [List.take_succ_eq_append_getElem h, List.flatMap_append]; simp
theorem inw1 {z : Int} (h : inW z) : True := trivial

set_option maxRecDepth 100000 in
set_option maxHeartbeats 8000000 in
theorem wrow_any {B D : Nat} {w : World} {b : Bool} {ws : List Wd} (h : Wr B w b ws) (x : Rw) (sl : Value) (hx : XE D w sl x.effs) (hD : D ≤ B) (wf : wfR x) (hb : x.effs.length ≤ 65000) (T : TabB B w) :
    Calls Tryz.prog 87 #[.pointer (some ⟨B, 0, none⟩), .agg #[.string (bs x.tag), .bool x.only, .int .i64 x.n, sl]] w fun e w' => e = .returned (.tuple #[]) ∧ Wr B w' (b || !okR x) (ws ++ wordsR x) ∧ Wo B w w' := by
  obtain ⟨sa, sc, rfl⟩ := hx.slice
  have oO : Only Nil w (w.alloc (.cells #[.string (bs x.tag), .bool x.only, .int .i64 x.n, .slice sa x.effs.length sc] 46)) := (Only.refl Nil w).alloc _
  have H := Lib.hid (h.keep oO)
  have HT := Lib.hid (T.keep oO)
  have HB := Lib.hid (bx_new w (rowL x.tag x.only x.n (.slice sa x.effs.length sc)) 46)
  have HO := Lib.hid (Wo.ofNil (B := B) oO)
  obtain ⟨wO, hwO⟩ : ∃ wO, wO = w.alloc (.cells #[.string (bs x.tag), .bool x.only, .int .i64 x.n, .slice sa x.effs.length sc] 46) := ⟨_, rfl⟩
  have eO : w.alloc (.cells (rowL x.tag x.only x.n (.slice sa x.effs.length sc)).toArray 46) = wO := hwO.symm
  rw [eO] at HB
  rw [← hwO] at H HT HO
  have HX := Lib.hid hx
  have HWF := Lib.hid wf
  have hb' : (x.effs.length : Int) ≤ 65000 := by omega
  have c0 := HB.out.cell 0 (v := .string (bs x.tag)) rfl
  have c1 := HB.out.cell 1 (v := .bool x.only) rfl
  have c2 := HB.out.cell 2 (v := .int .i64 x.n) rfl
  have c3 := HB.out.cell 3 (v := .slice sa x.effs.length sc) rfl
  have HOK := Lib.hid (show okR x = (okH x && x.effs.all okE) from rfl)
  have HWD := Lib.hid (show wordsR x = headW x ++ (w_open :: (x.effs.flatMap wordsE ++ [w_close])) from rfl)
  have HHD : Hid (∀ w0, Wr B w0 b ws → TabB B w0 → Calls Tryz.prog 102 #[.pointer (some ⟨B, 0, none⟩), .agg #[.string (bs x.tag), .bool x.only, .int .i64 x.n, .slice sa x.effs.length sc]] w0 fun e w' => e = .returned (.tuple #[]) ∧ Wr B w' (b || !okH x) (ws ++ headW x) ∧ Wo B w0 w') := Lib.hid (fun w0 h0 T0 => head_any h0 x _ ⟨_, _, _, rfl⟩ HWF.out.n HWF.out.tag T0)
  clear h hx wf T oO eO hb
  generalize hn : x.effs.length = n at *
  have HN := Lib.hid hn
  clear hn
  go_enter Tryz.func87, Tryz.ntmps87
  go_upto_region 1 with (fail)
  rw [← hwO]; clear hwO
  generalize w.heap.size = O at *
  go_wp2_with (go_at_call 102; refine (HHD.out wO H.out HT.out).mono ?_; rintro e w2 ⟨rfl, k2, o2⟩; have B2 := Lib.hid (HB.out.wo H.out o2 (by decide) (by decide)); have T2 := Lib.hid (HT.out.wo o2); have W2 := Lib.hid (HO.out.trans o2); have K2 := Lib.hid k2; clear k2 o2)
  clear c0 c1 c2 c3
  go_wp2_with (go_at_call 55; refine (put_any [w_open] (K2.out.keep ((Only.refl Nil w2).alloc _)) (sb_new w2 _) rfl (by decide) (fun _ v hv => by simp at hv; subst hv; decide)).mono ?_; rintro e w3 ⟨rfl, k3, o3⟩; have oa : Only Nil w2 (w2.alloc (.cells (([w_open]).map fun s => Value.string (bs s)).toArray 9)) := (Only.refl Nil w2).alloc _; have kk := K2.out.keep oa; have B3 := Lib.hid ((B2.out.keep oa).wo kk o3 (by decide) (by decide)); have c3 := B3.out.cell 3 (v := .slice sa n sc) rfl;  have T3 := Lib.hid ((T2.out.keep oa).wo o3); have W3 := Lib.hid ((W2.out.trans (Wo.ofNil oa)).trans o3); have K3 := Lib.hid k3; clear kk oa k3 o3)
  clear K2 B2 T2 W2 H HT HB HO HHD
  go_loopw [15] (fun s15 wr => ∃ k : Nat, k ≤ n ∧ s15 = .int .i64 (k : Int) ∧ Hid (Wr B wr ((b || !okH x) || !((x.effs.take k).all okE)) (ws ++ headW x ++ [w_open] ++ (x.effs.take k).flatMap wordsE)) ∧ Hid (TabB B wr) ∧ Hid (Wo B w wr))
    (fun s15 _ => n - (intOf s15).toNat)
  case atStart =>
    refine ⟨0, Nat.zero_le _, rfl, Lib.hid ?_, T3, W3⟩
    have := K3.out
    rw [List.take_zero, List.all_nil, Bool.not_true, Bool.or_false, List.flatMap_nil, List.append_nil]
    exact this
  case round =>
    obtain ⟨k, hk, rfl, hK, hT, hW⟩ := hrel
    clear K3 B3 T3 W3 c3
    by_cases hkn : k < n
    · obtain ⟨q, off, rfl, hlt, hc⟩ := (HX.out.keep hW.out (hW.out.old hD)).at_ HN.out k hkn
      have hkl : k < x.effs.length := by rw [HN.out]; exact hkn
      have HMEM := Lib.hid (HWF.out.effs _ (List.getElem_mem hkl))
      have HA := Lib.hid (all_snoc okE hkl)
      have HF := Lib.hid (flat_snoc wordsE hkl)
      generalize x.effs[k] = y at *
      have e0 : wr.cell? ⟨q, off + k * 7, none⟩ = some (.int .i64 y.act) := hc 0 (by decide)
      have e1 : wr.cell? ⟨q, off + k * 7 + 1, none⟩ = some (.string (bs y.ref)) := hc 1 (by decide)
      have e2 : wr.cell? ⟨q, off + k * 7 + 2, none⟩ = some (.string (bs y.slot)) := hc 2 (by decide)
      have e3 : wr.cell? ⟨q, off + k * 7 + 3, none⟩ = some (.string (bs y.name)) := hc 3 (by decide)
      have e4 : wr.cell? ⟨q, off + k * 7 + 4, none⟩ = some (.int .i64 y.val) := hc 4 (by decide)
      have e5 : wr.cell? ⟨q, off + k * 7 + 5, none⟩ = some (.int .i64 y.n) := hc 5 (by decide)
      have e6 : wr.cell? ⟨q, off + k * 7 + 6, none⟩ = some (.int .i64 y.delay) := hc 6 (by decide)
      clear hc hkl
      go_wp2_with (go_at_call 103; refine (weffect_any (hK.out.keep ((Only.refl Nil wr).alloc _)) y HMEM.out (hT.out.keep ((Only.refl Nil wr).alloc _))).mono ?_; rintro e w5 ⟨rfl, k5, o5⟩; have T5 := Lib.hid ((hT.out.keep ((Only.refl Nil wr).alloc _)).wo o5); have W5 := Lib.hid ((hW.out.trans (Wo.ofNil ((Only.refl Nil wr).alloc _))).trans o5); rw [ok_step _ _ _ _ HA.out, List.append_assoc, HF.out] at k5; have K5 := Lib.hid k5; clear k5 o5)
      go_roundw
      case rel => exact ⟨k + 1, by omega, by go_num, K5, T5, W5⟩
      case measure => simp [intOf]; omega
    · have e : k = n := by omega
      subst e
      have K6 := Lib.hid (show Wr B wr ((b || !okH x) || !(x.effs.all okE)) (ws ++ headW x ++ [w_open] ++ x.effs.flatMap wordsE) from by
        have := hK.out; rw [List.take_of_length_le (by rw [HN.out]; exact Nat.le_refl _)] at this; exact this)
      clear hK hkn
      go_wp2_with (go_at_call 55; refine (put_any [w_close] (K6.out.keep ((Only.refl Nil wr).alloc _)) (sb_new wr _) rfl (by decide) (fun _ v hv => by simp at hv; subst hv; decide)).mono ?_; rintro e w7 ⟨rfl, k7, o7⟩; have oa : Only Nil wr (wr.alloc (.cells (([w_close]).map fun s => Value.string (bs s)).toArray 9)) := (Only.refl Nil wr).alloc _; have kk := K6.out.keep oa;  have T7 := Lib.hid ((hT.out.keep oa).wo o7); have W7 := Lib.hid ((hW.out.trans (Wo.ofNil oa)).trans o7); have K7 := Lib.hid k7; clear kk oa k7 o7)
      go_end0
      refine ⟨rfl, ?_, W7.out⟩
      have := K7.out
      rw [or_not_or] at this
      rw [HOK.out, HWD.out]
      simpa using this

set_option maxRecDepth 100000 in
set_option maxHeartbeats 8000000 in
theorem wcase_any {B : Nat} {w : World} {b : Bool} {ws : List Wd} (h : Wr B w b ws) (c : Cs) (wf : wfC c) (T : TabB B w) :
    Calls Tryz.prog 58 #[.pointer (some ⟨B, 0, none⟩), .agg #[.string (bs c.reason), .int .i64 c.act]] w fun e w' => e = .returned (.tuple #[]) ∧ Wr B w' (b || !okC c) (ws ++ wordsC c) ∧ Wo B w w' := by
  have oO : Only Nil w (w.alloc (.cells #[.string (bs c.reason), .int .i64 c.act] 72)) := (Only.refl Nil w).alloc _
  have H := Lib.hid (h.keep oO)
  have HT := Lib.hid (T.keep oO)
  have HB := Lib.hid (bx_new w (csC c) 72)
  have HO := Lib.hid (Wo.ofNil (B := B) oO)
  obtain ⟨wO, hwO⟩ : ∃ wO, wO = w.alloc (.cells #[.string (bs c.reason), .int .i64 c.act] 72) := ⟨_, rfl⟩
  have eO : w.alloc (.cells (csC c).toArray 72) = wO := hwO.symm
  rw [eO] at HB
  rw [← hwO] at H HT HO
  have HWF := Lib.hid wf
  obtain ⟨pk1, pk2⟩ := pick_in (vs := dirs) HWF.out.act (by decide)
  have PK1 := Lib.hid pk1
  have PK2 := Lib.hid pk2
  have c0 := HB.out.cell 0 (v := .string (bs c.reason)) rfl
  have c1 := HB.out.cell 1 (v := .int .i64 c.act) rfl
  clear h wf T oO eO pk1 pk2
  by_cases hr : c.reason = []
  · have hz : (bs c.reason).toList.isEmpty = true := by rw [hr, toList_bs]; rfl
    have HOK : Hid (okC c = okP dirs (c.act - 1)) := Lib.hid (by unfold okC; rw [decide_eq_true hr]; rfl)
    have HWD : Hid (wordsC c = [w_else] ++ [pickW dirs (c.act - 1), w_semi]) := Lib.hid (by unfold wordsC; rw [if_pos hr])
    clear hr
    go_enter Tryz.func58, Tryz.ntmps58
    go_upto_region 1 with (fail)
    rw [← hwO]; clear hwO
    generalize w.heap.size = O at *
    go_upto_region 4 with (go_at_call 55; refine (put_any [w_else] (H.out.keep ((Only.refl Nil wO).alloc _)) (sb_new wO _) rfl (by decide) (fun _ v hv => by simp at hv; subst hv; decide)).mono ?_; rintro e w3 ⟨rfl, k3, o3⟩; have oa : Only Nil wO (wO.alloc (.cells (([w_else]).map fun s => Value.string (bs s)).toArray 9)) := (Only.refl Nil wO).alloc _; have kk := H.out.keep oa; have B3 := Lib.hid ((HB.out.keep oa).wo kk o3 (by decide) (by decide));  have T3 := Lib.hid ((HT.out.keep oa).wo o3); have W3 := Lib.hid ((HO.out.trans (Wo.ofNil oa)).trans o3); have K3 := Lib.hid k3; clear kk oa k3 o3)
    have od : Only Nil w3 w3.drew := (Only.refl Nil w3).drew
    have HD := Lib.hid (K3.out.keep od)
    have TD := Lib.hid (T3.out.keep od)
    have BD := Lib.hid (B3.out.keep od)
    have OD := Lib.hid (W3.out.trans (Wo.ofNil od))
    have c1 := B3.out.cell 1 (v := .int .i64 c.act) rfl
    clear od
    go_upto_region 4 with (fail)
    go_region_held3 (fun w' => w'.cell? ⟨O, 1, none⟩ = some (.int .i64 c.act))
      (first | exact c1 | exact d1 | exact e1 | exact f1 | go_keep)
      (first
        | (go_at_call 75; refine (directives_any _).mono ?_; rintro e w5 ⟨da, dc, rfl, s1, o1⟩; have b5 := BD.out.keep o1; have d1 := b5.cell 1 (v := .int .i64 c.act) rfl; have B5 := Lib.hid b5; have K5 := Lib.hid (HD.out.keep o1); have T5 := Lib.hid (TD.out.keep o1); have W5 := Lib.hid (OD.out.trans (Wo.ofNil o1)); have S5 := Lib.hid s1; clear b5 o1 s1)
        | (go_at_call 86; refine (pick_any K5.out _ S5.out rfl).mono ?_; rintro e w6 ⟨rfl, k6, o6⟩; have b6 := B5.out.wo K5.out o6 (by decide) (by decide); have e1 := b6.cell 1 (v := .int .i64 c.act) rfl; have B6 := Lib.hid b6; rw [PK1.out] at k6; have K6 := Lib.hid k6; have T6 := Lib.hid (T5.out.wo o6); have W6 := Lib.hid (W5.out.trans o6); clear b6 k6 o6; rw [PK2.out])
        | (go_at_call 55; refine (put_any [pickW dirs (c.act - 1), w_semi] (K6.out.keep ((Only.refl Nil w6).alloc _)) (sb_new w6 _) rfl (by simp) (fun _ v hv => by simp at hv; rcases hv with rfl | rfl; exact pickW_len dirs_len _; exact (by decide))).mono ?_; rintro e w7 ⟨rfl, k7, o7⟩; have b7 := (B6.out.keep ((Only.refl Nil w6).alloc _)).wo (K6.out.keep ((Only.refl Nil w6).alloc _)) o7 (by decide) (by decide); have f1 := b7.cell 1 (v := .int .i64 c.act) rfl; have K7 := Lib.hid k7; have W7 := Lib.hid ((W6.out.trans (Wo.ofNil ((Only.refl Nil w6).alloc _))).trans o7); clear b7 k7 o7))
    go_end0
    refine ⟨rfl, ?_, W7.out⟩
    have := K7.out
    rw [HOK.out, HWD.out, ← List.append_assoc]
    exact this
  · have hz : (bs c.reason).toList.isEmpty = false := by
      rw [toList_bs]
      cases hc : c.reason with
      | nil => exact absurd hc hr
      | cons _ _ => rfl
    have HOK : Hid (okC c = (isNm c.reason && okP dirs (c.act - 1))) := Lib.hid (by unfold okC; rw [decide_eq_false hr, Bool.false_or])
    have HWD : Hid (wordsC c = [w_case, c.reason] ++ [pickW dirs (c.act - 1), w_semi]) := Lib.hid (by unfold wordsC; rw [if_neg hr])
    clear hr
    go_enter Tryz.func58, Tryz.ntmps58
    go_upto_region 1 with (fail)
    rw [← hwO]; clear hwO
    generalize w.heap.size = O at *
    go_upto_region 4 with (first
      | (go_at_call 56; refine (wname_any H.out c.reason HWF.out.reason).mono ?_; rintro e w2 ⟨rfl, k2, o2⟩; have B2 := Lib.hid (HB.out.wo H.out o2 (by decide) (by decide)); have T2 := Lib.hid (HT.out.wo o2); have W2 := Lib.hid (HO.out.trans o2); have K2 := Lib.hid k2; clear k2 o2)
      | (go_at_call 55; refine (put_any [w_case, c.reason] (K2.out.keep ((Only.refl Nil w2).alloc _)) (sb_new w2 _) rfl (by simp) (fun hb v hv => by obtain ⟨_, h1⟩ := or_false_left hb; simp at hv; rcases hv with rfl | rfl; exact (by decide); exact Nat.le_trans (nm_len h1) (by decide))).mono ?_; rintro e w3 ⟨rfl, k3, o3⟩; have oa : Only Nil w2 (w2.alloc (.cells (([w_case, c.reason]).map fun s => Value.string (bs s)).toArray 9)) := (Only.refl Nil w2).alloc _; have kk := K2.out.keep oa; have B3 := Lib.hid ((B2.out.keep oa).wo kk o3 (by decide) (by decide));  have T3 := Lib.hid ((T2.out.keep oa).wo o3); have W3 := Lib.hid ((W2.out.trans (Wo.ofNil oa)).trans o3); have K3 := Lib.hid k3; clear kk oa k3 o3))
    have od : Only Nil w3 w3.drew := (Only.refl Nil w3).drew
    have HD := Lib.hid (K3.out.keep od)
    have TD := Lib.hid (T3.out.keep od)
    have BD := Lib.hid (B3.out.keep od)
    have OD := Lib.hid (W3.out.trans (Wo.ofNil od))
    have c1 := B3.out.cell 1 (v := .int .i64 c.act) rfl
    clear od
    go_upto_region 4 with (fail)
    go_region_held3 (fun w' => w'.cell? ⟨O, 1, none⟩ = some (.int .i64 c.act))
      (first | exact c1 | exact d1 | exact e1 | exact f1 | go_keep)
      (first
        | (go_at_call 75; refine (directives_any _).mono ?_; rintro e w5 ⟨da, dc, rfl, s1, o1⟩; have b5 := BD.out.keep o1; have d1 := b5.cell 1 (v := .int .i64 c.act) rfl; have B5 := Lib.hid b5; have K5 := Lib.hid (HD.out.keep o1); have T5 := Lib.hid (TD.out.keep o1); have W5 := Lib.hid (OD.out.trans (Wo.ofNil o1)); have S5 := Lib.hid s1; clear b5 o1 s1)
        | (go_at_call 86; refine (pick_any K5.out _ S5.out rfl).mono ?_; rintro e w6 ⟨rfl, k6, o6⟩; have b6 := B5.out.wo K5.out o6 (by decide) (by decide); have e1 := b6.cell 1 (v := .int .i64 c.act) rfl; have B6 := Lib.hid b6; rw [PK1.out] at k6; have K6 := Lib.hid k6; have T6 := Lib.hid (T5.out.wo o6); have W6 := Lib.hid (W5.out.trans o6); clear b6 k6 o6; rw [PK2.out])
        | (go_at_call 55; refine (put_any [pickW dirs (c.act - 1), w_semi] (K6.out.keep ((Only.refl Nil w6).alloc _)) (sb_new w6 _) rfl (by simp) (fun _ v hv => by simp at hv; rcases hv with rfl | rfl; exact pickW_len dirs_len _; exact (by decide))).mono ?_; rintro e w7 ⟨rfl, k7, o7⟩; have b7 := (B6.out.keep ((Only.refl Nil w6).alloc _)).wo (K6.out.keep ((Only.refl Nil w6).alloc _)) o7 (by decide) (by decide); have f1 := b7.cell 1 (v := .int .i64 c.act) rfl; have K7 := Lib.hid k7; have W7 := Lib.hid ((W6.out.trans (Wo.ofNil ((Only.refl Nil w6).alloc _))).trans o7); clear b7 k7 o7))
    go_end0
    refine ⟨rfl, ?_, W7.out⟩
    have := K7.out
    rw [HOK.out, HWD.out, ← List.append_assoc]
    rw [or_not_or] at this
    exact this

set_option maxRecDepth 100000 in
set_option maxHeartbeats 8000000 in
theorem wstate_any {B D : Nat} {w : World} {b : Bool} {ws : List Wd} (h : Wr B w b ws) (x : Sta) (sl : Value) (hx : XR D w sl x.rows) (hD : D ≤ B) (wf : wfS x) (hb : smS x) (T : TabB B w) :
    Calls Tryz.prog 59 #[.pointer (some ⟨B, 0, none⟩), .agg #[.string (bs x.name), sl]] w fun e w' => e = .returned (.tuple #[]) ∧ Wr B w' (b || !okS x) (ws ++ wordsS x) ∧ Wo B w w' := by
  obtain ⟨sa, sc, rfl⟩ := hx.slice
  have oO : Only Nil w (w.alloc (.cells #[.string (bs x.name), .slice sa x.rows.length sc] 43)) := (Only.refl Nil w).alloc _
  have H := Lib.hid (h.keep oO)
  have HT := Lib.hid (T.keep oO)
  have HB := Lib.hid (bx_new w (staL x.name (.slice sa x.rows.length sc)) 43)
  have HO := Lib.hid (Wo.ofNil (B := B) oO)
  obtain ⟨wO, hwO⟩ : ∃ wO, wO = w.alloc (.cells #[.string (bs x.name), .slice sa x.rows.length sc] 43) := ⟨_, rfl⟩
  have eO : w.alloc (.cells (staL x.name (.slice sa x.rows.length sc)).toArray 43) = wO := hwO.symm
  rw [eO] at HB
  rw [← hwO] at H HT HO
  have HX := Lib.hid hx
  have HWF := Lib.hid wf
  have HSM := Lib.hid hb.2
  have hb' : (x.rows.length : Int) ≤ 65000 := by have := hb.1; omega
  have c0 := HB.out.cell 0 (v := .string (bs x.name)) rfl
  have HOK := Lib.hid (show okS x = (isNm x.name && x.rows.all okR) from rfl)
  have HWD := Lib.hid (show wordsS x = [w_state, x.name, w_open] ++ (x.rows.flatMap wordsR ++ [w_close]) from rfl)
  clear h hx wf T oO eO hb
  generalize hn : x.rows.length = n at *
  have HN := Lib.hid hn
  clear hn
  go_enter Tryz.func59, Tryz.ntmps59
  go_upto_region 1 with (fail)
  rw [← hwO]; clear hwO
  generalize w.heap.size = O at *
  go_wp2_with (first
    | (go_at_call 56; refine (wname_any H.out x.name HWF.out.name).mono ?_; rintro e w2 ⟨rfl, k2, o2⟩; have B2 := Lib.hid (HB.out.wo H.out o2 (by decide) (by decide)); have T2 := Lib.hid (HT.out.wo o2); have W2 := Lib.hid (HO.out.trans o2); have K2 := Lib.hid k2; clear k2 o2)
    | (go_at_call 55; refine (put_any [w_state, x.name, w_open] (K2.out.keep ((Only.refl Nil w2).alloc _)) (sb_new w2 _) rfl (by simp) (fun hb v hv => by obtain ⟨_, h1⟩ := or_false_left hb; simp at hv; rcases hv with rfl | rfl | rfl; exact (by decide); exact Nat.le_trans (nm_len h1) (by decide); exact (by decide))).mono ?_; rintro e w3 ⟨rfl, k3, o3⟩; have oa : Only Nil w2 (w2.alloc (.cells (([w_state, x.name, w_open]).map fun s => Value.string (bs s)).toArray 9)) := (Only.refl Nil w2).alloc _; have kk := K2.out.keep oa; have B3 := Lib.hid ((B2.out.keep oa).wo kk o3 (by decide) (by decide)); have c1 := B3.out.cell 1 (v := .slice sa n sc) rfl;  have T3 := Lib.hid ((T2.out.keep oa).wo o3); have W3 := Lib.hid ((W2.out.trans (Wo.ofNil oa)).trans o3); have K3 := Lib.hid k3; clear kk oa k3 o3))
  clear K2 B2 T2 W2 H HT HB HO c0
  go_loopw [16] (fun sl wr => ∃ k : Nat, k ≤ n ∧ sl = .int .i64 (k : Int) ∧ Hid (Wr B wr ((b || !isNm x.name) || !((x.rows.take k).all okR)) (ws ++ [w_state, x.name, w_open] ++ (x.rows.take k).flatMap wordsR)) ∧ Hid (TabB B wr) ∧ Hid (Wo B w wr))
    (fun sl _ => n - (intOf sl).toNat)
  case atStart =>
    refine ⟨0, Nat.zero_le _, rfl, Lib.hid ?_, T3, W3⟩
    have := K3.out
    rw [List.take_zero, List.all_nil, Bool.not_true, Bool.or_false, List.flatMap_nil, List.append_nil]
    exact this
  case round =>
    obtain ⟨k, hk, rfl, hK, hT, hW⟩ := hrel
    clear K3 B3 T3 W3 c1
    by_cases hkn : k < n
    · obtain ⟨u, ⟨q, off, rfl, hlt, hc⟩, gx⟩ := (HX.out.keep hW.out (hW.out.old hD)).at_ HN.out k hkn
      have hkl : k < x.rows.length := by rw [HN.out]; exact hkn
      have HMEM := Lib.hid (HWF.out.rows _ (List.getElem_mem hkl))
      have HSMY := Lib.hid (HSM.out _ (List.getElem_mem hkl))
      have HA := Lib.hid (all_snoc okR hkl)
      have HF := Lib.hid (flat_snoc wordsR hkl)
      generalize x.rows[k] = y at *
      have e0 : wr.cell? ⟨q, off + k * 4, none⟩ = some (.string (bs y.tag)) := hc 0 (by decide)
      have e1 : wr.cell? ⟨q, off + k * 4 + 1, none⟩ = some (.bool y.only) := hc 1 (by decide)
      have e2 : wr.cell? ⟨q, off + k * 4 + 2, none⟩ = some (.int .i64 y.n) := hc 2 (by decide)
      have e3 : wr.cell? ⟨q, off + k * 4 + 3, none⟩ = some (u) := hc 3 (by decide)
      obtain ⟨ua, uc, rfl⟩ := gx.slice
      have GX := Lib.hid gx
      clear gx
      clear hc hkl
      go_wp2_with (go_at_call 87; refine (wrow_any (hK.out.keep ((Only.refl Nil wr).alloc _)) y _ (GX.out.keep ((Only.refl Nil wr).alloc _) (nilS · D)) hD HMEM.out HSMY.out (hT.out.keep ((Only.refl Nil wr).alloc _))).mono ?_; rintro e w5 ⟨rfl, k5, o5⟩; have T5 := Lib.hid ((hT.out.keep ((Only.refl Nil wr).alloc _)).wo o5); have W5 := Lib.hid ((hW.out.trans (Wo.ofNil ((Only.refl Nil wr).alloc _))).trans o5);  rw [ok_step _ _ _ _ HA.out, List.append_assoc, HF.out] at k5; have K5 := Lib.hid k5; clear k5 o5)
      go_roundw
      case rel => exact ⟨k + 1, by omega, by go_num, K5, T5, W5⟩
      case measure => simp [intOf]; omega
    · have e : k = n := by omega
      subst e
      have K6 := Lib.hid (show Wr B wr ((b || !isNm x.name) || !(x.rows.all okR)) (ws ++ [w_state, x.name, w_open] ++ x.rows.flatMap wordsR) from by
        have := hK.out; rw [List.take_of_length_le (by rw [HN.out]; exact Nat.le_refl _)] at this; exact this)
      clear hK hkn
      go_wp2_with (go_at_call 55; refine (put_any [w_close] (K6.out.keep ((Only.refl Nil wr).alloc _)) (sb_new wr _) rfl (by decide) (fun _ v hv => by simp at hv; subst hv; decide)).mono ?_; rintro e w7 ⟨rfl, k7, o7⟩; have oa : Only Nil wr (wr.alloc (.cells (([w_close]).map fun s => Value.string (bs s)).toArray 9)) := (Only.refl Nil wr).alloc _; have kk := K6.out.keep oa;  have T7 := Lib.hid ((hT.out.keep oa).wo o7); have W7 := Lib.hid ((hW.out.trans (Wo.ofNil oa)).trans o7); have K7 := Lib.hid k7; clear kk oa k7 o7)
      go_end0
      refine ⟨rfl, ?_, W7.out⟩
      have := K7.out
      rw [or_not_or] at this
      rw [HOK.out, HWD.out]
      simpa using this

theorem ok_kind (b n l w c s : Bool) : (((((b || !n) || !l) || !w) || !c) || !s) = (b || !((n && (l && w)) && (c && s))) := by cases b <;> cases n <;> cases l <;> cases w <;> cases c <;> cases s <;> rfl
set_option maxRecDepth 100000 in
set_option maxHeartbeats 8000000 in
theorem wkind_any {B D : Nat} {w : World} {b : Bool} {ws : List Wd} (h : Wr B w b ws) (x : Kd) (s1 s2 : Value) (hx : XC D w s1 x.cases) (hy : XS D w s2 x.states) (hD : D ≤ B) (wf : wfK x) (hb : smK x) (T : TabB B w) :
    Calls Tryz.prog 32 #[.pointer (some ⟨B, 0, none⟩), .agg #[.string (bs x.name), .int .i64 x.limit, .int .i64 x.within, s1, s2]] w fun e w' => e = .returned (.tuple #[]) ∧ Wr B w' (b || !okK x) (ws ++ wordsK x) ∧ Wo B w w' := by
  obtain ⟨sa, sc, rfl⟩ := hx.slice
  obtain ⟨ta, tc, rfl⟩ := hy.slice
  have oO : Only Nil w (w.alloc (.cells #[.string (bs x.name), .int .i64 x.limit, .int .i64 x.within, .slice sa x.cases.length sc, .slice ta x.states.length tc] 40)) := (Only.refl Nil w).alloc _
  have H := Lib.hid (h.keep oO)
  have HT := Lib.hid (T.keep oO)
  have HB := Lib.hid (bx_new w (kdL x.name x.limit x.within (.slice sa x.cases.length sc) (.slice ta x.states.length tc)) 40)
  have HO := Lib.hid (Wo.ofNil (B := B) oO)
  obtain ⟨wO, hwO⟩ : ∃ wO, wO = w.alloc (.cells #[.string (bs x.name), .int .i64 x.limit, .int .i64 x.within, .slice sa x.cases.length sc, .slice ta x.states.length tc] 40) := ⟨_, rfl⟩
  have eO : w.alloc (.cells (kdL x.name x.limit x.within (.slice sa x.cases.length sc) (.slice ta x.states.length tc)).toArray 40) = wO := hwO.symm
  rw [eO] at HB
  rw [← hwO] at H HT HO
  have HX := Lib.hid hx
  have HY := Lib.hid hy
  have HWF := Lib.hid wf
  have HSM := Lib.hid hb.2.2
  have hb1 : (x.cases.length : Int) ≤ 65000 := by have := hb.1; omega
  have hb2 : (x.states.length : Int) ≤ 65000 := by have := hb.2.1; omega
  have HOK := Lib.hid (show okK x = ((isNm x.name && (okN x.limit && okN x.within)) && (x.cases.all okC && x.states.all okS)) from rfl)
  have HWD := Lib.hid (show wordsK x = [w_kind, x.name, w_open, w_limit, Lib.itoa x.limit, w_in, Lib.itoa x.within, w_semi] ++ (x.cases.flatMap wordsC ++ (x.states.flatMap wordsS ++ [w_close])) from rfl)
  clear h hx hy wf T oO eO hb
  generalize hn : x.cases.length = n at *
  generalize hm : x.states.length = m at *
  have HN := Lib.hid hn
  have HM := Lib.hid hm
  clear hn hm
  have od : Only Nil wO wO.drew := (Only.refl Nil wO).drew
  have HD := Lib.hid (H.out.keep od)
  have TD := Lib.hid (HT.out.keep od)
  have BD := Lib.hid (HB.out.keep od)
  have OD := Lib.hid (HO.out.trans (Wo.ofNil od))
  have c0 := HB.out.cell 0 (v := .string (bs x.name)) rfl
  have c1 := HB.out.cell 1 (v := .int .i64 x.limit) rfl
  have c2 := HB.out.cell 2 (v := .int .i64 x.within) rfl
  clear od
  go_enter Tryz.func32, Tryz.ntmps32
  go_upto_region 1 with (fail)
  rw [← hwO]; clear hwO
  generalize w.heap.size = O at *
  go_region_held3 (fun w' => w'.cell? ⟨O, 0, none⟩ = some (.string (bs x.name)) ∧ w'.cell? ⟨O, 1, none⟩ = some (.int .i64 x.limit) ∧ w'.cell? ⟨O, 2, none⟩ = some (.int .i64 x.within))
    (first | exact ⟨c0, c1, c2⟩ | exact ⟨d0, d1, d2⟩ | exact ⟨e0, e1, e2⟩ | exact ⟨f0, f1, f2⟩ | exact ⟨g0, g1, g2⟩ | go_keep)
    (first
      | (go_at_call 56; refine (wname_any HD.out x.name HWF.out.name).mono ?_; rintro e w2 ⟨rfl, k2, o2⟩; have b2 := BD.out.wo HD.out o2 (by decide) (by decide); have d0 := b2.cell 0 (v := .string (bs x.name)) rfl; have d1 := b2.cell 1 (v := .int .i64 x.limit) rfl; have d2 := b2.cell 2 (v := .int .i64 x.within) rfl; have B2 := Lib.hid b2; have K2 := Lib.hid k2; have OO2 := Lib.hid (OD.out.trans o2); have T2 := Lib.hid (TD.out.wo o2); clear b2 k2 o2)
      | (go_at_call 57; (with_reducible refine (wnumber_any K2.out x.limit HWF.out.limit T2.out).mono ?_); rintro e w3 ⟨rfl, k3, o3⟩; have b3 := B2.out.wo K2.out o3 (by decide) (by decide); have e0 := b3.cell 0 (v := .string (bs x.name)) rfl; have e1 := b3.cell 1 (v := .int .i64 x.limit) rfl; have e2 := b3.cell 2 (v := .int .i64 x.within) rfl; have B3 := Lib.hid b3; have K3 := Lib.hid k3; have OO3 := Lib.hid (OO2.out.trans o3); have T3 := Lib.hid (T2.out.wo o3); clear b3 k3 o3)
      | (go_at_call 57; (with_reducible refine (wnumber_any K3.out x.within HWF.out.within T3.out).mono ?_); rintro e w4 ⟨rfl, k4, o4⟩; have b4 := B3.out.wo K3.out o4 (by decide) (by decide); have f0 := b4.cell 0 (v := .string (bs x.name)) rfl; have f1 := b4.cell 1 (v := .int .i64 x.limit) rfl; have f2 := b4.cell 2 (v := .int .i64 x.within) rfl; have B4 := Lib.hid b4; have K4 := Lib.hid k4; have OO4 := Lib.hid (OO3.out.trans o4); have T4 := Lib.hid (T3.out.wo o4); clear b4 k4 o4)
      | (go_at_call 55; refine (put_any [w_kind, x.name, w_open, w_limit, Lib.itoa x.limit, w_in, Lib.itoa x.within, w_semi] (K4.out.keep ((Only.refl Nil w4).alloc _)) (sb_new w4 _) rfl (by simp) (fun hb v hv => by obtain ⟨hb2, _⟩ := or_false_left hb; obtain ⟨hb3, _⟩ := or_false_left hb2; obtain ⟨_, h1⟩ := or_false_left hb3; simp at hv; rcases hv with rfl | rfl | rfl | rfl | rfl | rfl | rfl | rfl; exact (by decide); exact Nat.le_trans (nm_len h1) (by decide); exact (by decide); exact (by decide); exact Nat.le_trans (itoa_len HWF.out.limit) (by decide); exact (by decide); exact Nat.le_trans (itoa_len HWF.out.within) (by decide); exact (by decide))).mono ?_; rintro e w5 ⟨rfl, k5, o5⟩; have b5 := (B4.out.keep ((Only.refl Nil w4).alloc _)).wo (K4.out.keep ((Only.refl Nil w4).alloc _)) o5 (by decide) (by decide); have g0 := b5.cell 0 (v := .string (bs x.name)) rfl; have g1 := b5.cell 1 (v := .int .i64 x.limit) rfl; have g2 := b5.cell 2 (v := .int .i64 x.within) rfl; have B5' := Lib.hid b5; have K5' := Lib.hid k5; have T5' := Lib.hid ((T4.out.keep ((Only.refl Nil w4).alloc _)).wo o5); have W5' := Lib.hid ((OO4.out.trans (Wo.ofNil ((Only.refl Nil w4).alloc _))).trans o5); clear b5 k5 o5))
  clear H HT HB HO c0 c1 c2 HD TD BD OD d0 d1 d2 B2 K2 OO2 T2 e0 e1 e2 B3 K3 OO3 T3 f0 f1 f2 B4 K4 OO4 T4 g0 g1 g2
  have c3 := B5'.out.cell 3 (v := .slice sa n sc) rfl
  go_wp2
  go_loopw [26] (fun sl wr => ∃ k : Nat, k ≤ n ∧ sl = .int .i64 (k : Int) ∧ Hid (Wr B wr ((((b || !isNm x.name) || !okN x.limit) || !okN x.within) || !((x.cases.take k).all okC)) (ws ++ [w_kind, x.name, w_open, w_limit, Lib.itoa x.limit, w_in, Lib.itoa x.within, w_semi] ++ (x.cases.take k).flatMap wordsC)) ∧ Hid (TabB B wr) ∧ Hid (Wo B w wr) ∧ Hid (Bx wr O (kdL x.name x.limit x.within (.slice sa n sc) (.slice ta m tc)) 40))
    (fun sl _ => n - (intOf sl).toNat)
  case atStart =>
    refine ⟨0, Nat.zero_le _, rfl, Lib.hid ?_, T5', W5', B5'⟩
    have := K5'.out
    rw [List.take_zero, List.all_nil, Bool.not_true, Bool.or_false, List.flatMap_nil, List.append_nil]
    exact this
  case round =>
    obtain ⟨k, hk, rfl, hK, hT, hW, hBX⟩ := hrel
    clear K5' B5' T5' W5' c3
    by_cases hkn : k < n
    · obtain ⟨q, off, rfl, hlt, hc⟩ := (HX.out.keep hW.out (hW.out.old hD)).at_ HN.out k hkn
      have hkl : k < x.cases.length := by rw [HN.out]; exact hkn
      have HMEM := Lib.hid (HWF.out.cases _ (List.getElem_mem hkl))
      have HA := Lib.hid (all_snoc okC hkl)
      have HF := Lib.hid (flat_snoc wordsC hkl)
      generalize x.cases[k] = y at *
      have e0 : wr.cell? ⟨q, off + k * 2, none⟩ = some (.string (bs y.reason)) := hc 0 (by decide)
      have e1 : wr.cell? ⟨q, off + k * 2 + 1, none⟩ = some (.int .i64 y.act) := hc 1 (by decide)
      clear hc hkl
      go_wp2_with (go_at_call 58; refine (wcase_any (hK.out.keep ((Only.refl Nil wr).alloc _)) y HMEM.out (hT.out.keep ((Only.refl Nil wr).alloc _))).mono ?_; rintro e w5 ⟨rfl, k5, o5⟩; have T5 := Lib.hid ((hT.out.keep ((Only.refl Nil wr).alloc _)).wo o5); have W5 := Lib.hid ((hW.out.trans (Wo.ofNil ((Only.refl Nil wr).alloc _))).trans o5); have BX5 := Lib.hid ((hBX.out.keep ((Only.refl Nil wr).alloc _)).wo (hK.out.keep ((Only.refl Nil wr).alloc _)) o5 (by decide) (by decide)); rw [ok_step _ _ _ _ HA.out, List.append_assoc, HF.out] at k5; have K5 := Lib.hid k5; clear k5 o5)
      go_roundw
      case rel => exact ⟨k + 1, by omega, by go_num, K5, T5, W5, BX5⟩
      case measure => simp [intOf]; omega
    · have e : k = n := by omega
      subst e
      have K6 := Lib.hid (show Wr B wr ((((b || !isNm x.name) || !okN x.limit) || !okN x.within) || !(x.cases.all okC)) (ws ++ [w_kind, x.name, w_open, w_limit, Lib.itoa x.limit, w_in, Lib.itoa x.within, w_semi] ++ x.cases.flatMap wordsC) from by
        have := hK.out; rw [List.take_of_length_le (by rw [HN.out]; exact Nat.le_refl _)] at this; exact this)
      clear hK hkn
      have c4 := hBX.out.cell 4 (v := .slice ta m tc) rfl
      have hT0 := hT
      have hW0 := hW
      clear hT hW hBX HN
      go_wp2
      go_loopw [37] (fun sl wr => ∃ k : Nat, k ≤ m ∧ sl = .int .i64 (k : Int) ∧ Hid (Wr B wr (((((b || !isNm x.name) || !okN x.limit) || !okN x.within) || !(x.cases.all okC)) || !((x.states.take k).all okS)) (ws ++ [w_kind, x.name, w_open, w_limit, Lib.itoa x.limit, w_in, Lib.itoa x.within, w_semi] ++ x.cases.flatMap wordsC ++ (x.states.take k).flatMap wordsS)) ∧ Hid (TabB B wr) ∧ Hid (Wo B w wr))
        (fun sl _ => m - (intOf sl).toNat)
      case atStart =>
        refine ⟨0, Nat.zero_le _, rfl, Lib.hid ?_, hT0, hW0⟩
        have := K6.out
        rw [List.take_zero, List.all_nil, Bool.not_true, Bool.or_false, List.flatMap_nil, List.append_nil]
        exact this
      case round =>
        obtain ⟨k, hk, rfl, hK, hT, hW⟩ := hrel
        clear K6 hT0 hW0 c4
        by_cases hkn : k < m
        · obtain ⟨u, ⟨q, off, rfl, hlt, hc⟩, gx⟩ := (HY.out.keep hW.out (hW.out.old hD)).at_ HM.out k hkn
          have hkl : k < x.states.length := by rw [HM.out]; exact hkn
          have HMEM := Lib.hid (HWF.out.states _ (List.getElem_mem hkl))
          have HSMY := Lib.hid (HSM.out _ (List.getElem_mem hkl))
          have HA := Lib.hid (all_snoc okS hkl)
          have HF := Lib.hid (flat_snoc wordsS hkl)
          generalize x.states[k] = y at *
          have e0 : wr.cell? ⟨q, off + k * 2, none⟩ = some (.string (bs y.name)) := hc 0 (by decide)
          have e1 : wr.cell? ⟨q, off + k * 2 + 1, none⟩ = some (u) := hc 1 (by decide)
          obtain ⟨ua, uc, rfl⟩ := gx.slice
          have GX := Lib.hid gx
          clear gx
          clear hc hkl
          go_wp2_with (go_at_call 59; refine (wstate_any (hK.out.keep ((Only.refl Nil wr).alloc _)) y _ (GX.out.keep ((Only.refl Nil wr).alloc _) (nilS · D)) hD HMEM.out HSMY.out (hT.out.keep ((Only.refl Nil wr).alloc _))).mono ?_; rintro e w5 ⟨rfl, k5, o5⟩; have T5 := Lib.hid ((hT.out.keep ((Only.refl Nil wr).alloc _)).wo o5); have W5 := Lib.hid ((hW.out.trans (Wo.ofNil ((Only.refl Nil wr).alloc _))).trans o5);  rw [ok_step _ _ _ _ HA.out, List.append_assoc, HF.out] at k5; have K5 := Lib.hid k5; clear k5 o5)
          go_roundw
          case rel => exact ⟨k + 1, by omega, by go_num, K5, T5, W5⟩
          case measure => simp [intOf]; omega
        · have e : k = m := by omega
          subst e
          have K6 := Lib.hid (show Wr B wr (((((b || !isNm x.name) || !okN x.limit) || !okN x.within) || !(x.cases.all okC)) || !(x.states.all okS)) (ws ++ [w_kind, x.name, w_open, w_limit, Lib.itoa x.limit, w_in, Lib.itoa x.within, w_semi] ++ x.cases.flatMap wordsC ++ x.states.flatMap wordsS) from by
            have := hK.out; rw [List.take_of_length_le (by rw [HM.out]; exact Nat.le_refl _)] at this; exact this)
          clear hK hkn
          go_wp2_with (go_at_call 55; refine (put_any [w_close] (K6.out.keep ((Only.refl Nil wr).alloc _)) (sb_new wr _) rfl (by decide) (fun _ v hv => by simp at hv; subst hv; decide)).mono ?_; rintro e w7 ⟨rfl, k7, o7⟩; have oa : Only Nil wr (wr.alloc (.cells (([w_close]).map fun s => Value.string (bs s)).toArray 9)) := (Only.refl Nil wr).alloc _; have kk := K6.out.keep oa;  have T7 := Lib.hid ((hT.out.keep oa).wo o7); have W7 := Lib.hid ((hW.out.trans (Wo.ofNil oa)).trans o7); have K7 := Lib.hid k7; clear kk oa k7 o7)
          go_end0
          refine ⟨rfl, ?_, W7.out⟩
          have := K7.out
          rw [ok_kind] at this
          rw [HOK.out, HWD.out]
          simpa using this

set_option maxRecDepth 100000 in
set_option maxHeartbeats 8000000 in
theorem wprogram_any {B D : Nat} {w : World} {b : Bool} {ws : List Wd} (h : Wr B w b ws) (P : List Kd) (sl : Value) (hx : XK D w sl P) (hD : D ≤ B) (wf : wfP P) (hb : smP P) (T : TabB B w) :
    Calls Tryz.prog 19 #[.pointer (some ⟨B, 0, none⟩), .agg #[sl]] w fun e w' => e = .returned (.tuple #[]) ∧ Wr B w' (b || !P.all okK) (ws ++ P.flatMap wordsK) ∧ Wo B w w' := by
  obtain ⟨sa, sc, rfl⟩ := hx.slice
  have oO : Only Nil w (w.alloc (.cells #[.slice sa P.length sc] 25)) := (Only.refl Nil w).alloc _
  have H := Lib.hid (h.keep oO)
  have HT := Lib.hid (T.keep oO)
  have HB := Lib.hid (bx_new w ([.slice sa P.length sc]) 25)
  have HO := Lib.hid (Wo.ofNil (B := B) oO)
  obtain ⟨wO, hwO⟩ : ∃ wO, wO = w.alloc (.cells #[.slice sa P.length sc] 25) := ⟨_, rfl⟩
  have eO : w.alloc (.cells ([.slice sa P.length sc]).toArray 25) = wO := hwO.symm
  rw [eO] at HB
  rw [← hwO] at H HT HO
  have HX := Lib.hid hx
  have HWF := Lib.hid wf
  have HSM := Lib.hid hb.2
  have hb' : (P.length : Int) ≤ 65000 := by have := hb.1; omega
  have c0 := HB.out.cell 0 (v := .slice sa P.length sc) rfl
  clear h hx wf T oO eO hb
  generalize hn : P.length = n at *
  have HN := Lib.hid hn
  clear hn
  go_enter Tryz.func19, Tryz.ntmps19
  go_upto_region 1 with (fail)
  rw [← hwO]; clear hwO
  generalize w.heap.size = O at *
  go_wp2
  go_loopw [9] (fun sl wr => ∃ k : Nat, k ≤ n ∧ sl = .int .i64 (k : Int) ∧ Hid (Wr B wr (b || !((P.take k).all okK)) (ws ++ (P.take k).flatMap wordsK)) ∧ Hid (TabB B wr) ∧ Hid (Wo B w wr))
    (fun sl _ => n - (intOf sl).toNat)
  case atStart =>
    refine ⟨0, Nat.zero_le _, rfl, Lib.hid ?_, HT, HO⟩
    have := H.out
    rw [List.take_zero, List.all_nil, Bool.not_true, Bool.or_false, List.flatMap_nil, List.append_nil]
    exact this
  case round =>
    obtain ⟨k, hk, rfl, hK, hT, hW⟩ := hrel
    clear H HT HB HO c0
    by_cases hkn : k < n
    · obtain ⟨u, v, ⟨q, off, rfl, hlt, hc⟩, gx, gy⟩ := (HX.out.keep hW.out (hW.out.old hD)).at_ HN.out k hkn
      have hkl : k < P.length := by rw [HN.out]; exact hkn
      have HMEM := Lib.hid (HWF.out _ (List.getElem_mem hkl))
      have HSMY := Lib.hid (HSM.out _ (List.getElem_mem hkl))
      have HA := Lib.hid (all_snoc okK hkl)
      have HF := Lib.hid (flat_snoc wordsK hkl)
      generalize P[k] = y at *
      have e0 : wr.cell? ⟨q, off + k * 5, none⟩ = some (.string (bs y.name)) := hc 0 (by decide)
      have e1 : wr.cell? ⟨q, off + k * 5 + 1, none⟩ = some (.int .i64 y.limit) := hc 1 (by decide)
      have e2 : wr.cell? ⟨q, off + k * 5 + 2, none⟩ = some (.int .i64 y.within) := hc 2 (by decide)
      have e3 : wr.cell? ⟨q, off + k * 5 + 3, none⟩ = some (u) := hc 3 (by decide)
      have e4 : wr.cell? ⟨q, off + k * 5 + 4, none⟩ = some (v) := hc 4 (by decide)
      obtain ⟨ua, uc, rfl⟩ := gx.slice
      obtain ⟨va, vc, rfl⟩ := gy.slice
      have GX := Lib.hid gx
      have GY := Lib.hid gy
      clear gx gy
      clear hc hkl
      go_wp2_with (go_at_call 32; refine (wkind_any (hK.out.keep ((Only.refl Nil wr).alloc _)) y _ _ (GX.out.keep ((Only.refl Nil wr).alloc _) (nilS · D)) (GY.out.keep ((Only.refl Nil wr).alloc _) (nilS · D)) hD HMEM.out HSMY.out (hT.out.keep ((Only.refl Nil wr).alloc _))).mono ?_; rintro e w5 ⟨rfl, k5, o5⟩; have T5 := Lib.hid ((hT.out.keep ((Only.refl Nil wr).alloc _)).wo o5); have W5 := Lib.hid ((hW.out.trans (Wo.ofNil ((Only.refl Nil wr).alloc _))).trans o5);  rw [ok_step _ _ _ _ HA.out, List.append_assoc, HF.out] at k5; have K5 := Lib.hid k5; clear k5 o5)
      go_roundw
      case rel => exact ⟨k + 1, by omega, by go_num, K5, T5, W5⟩
      case measure => simp [intOf]; omega
    · have e : k = n := by omega
      subst e
      have K6 := Lib.hid (show Wr B wr (b || !(P.all okK)) (ws ++ P.flatMap wordsK) from by
        have := hK.out; rw [List.take_of_length_le (by rw [HN.out]; exact Nat.le_refl _)] at this; exact this)
      clear hK hkn
      go_wp2
      go_end0
      exact ⟨rfl, K6.out, hW.out⟩
end Go.Proofs.YtnkokonkbklelaaGreatDoor.Ps

/- parse: the builder's String; errors.Is at ErrLong; Print. -/
set_option linter.unusedVariables false
namespace Go.Proofs.YtnkokonkbklelaaGreatDoor.Ps
open Go.RowKit Go.Proofs.YtnkokonkbklelaaGreatDoor Lx

theorem wo_freeze {B : Nat} {w : World} (g n : Nat) (h : Mine B w g) : Wo B w (w.freeze ⟨g, 0, none⟩ n) := by
  show Only (Mine B w) w (w.freeze ⟨g, 0, none⟩ n)
  unfold World.freeze
  split
  · exact Only.refl _ _
  · refine ⟨rfl, rfl, rfl, by simp, fun i hi hs => ?_⟩
    simp only [Array.getElem?_modify]
    rw [if_neg (fun e : g = i => hs (e ▸ h))]
theorem mine_drew {B : Nat} {w : World} {g : Nat} (h : Mine B w g) : Mine B w.drew g := h

set_option maxRecDepth 100000 in
set_option maxHeartbeats 2000000 in
theorem string_row {B g cap : Nat} {w : World} {z p : Value} {t : Wd} (h1 : w.heap[B]? = some (.cells #[p, .slice (some ⟨g, 0, none⟩) t.length cap, z] 80 (0, 0))) (hg : w.ownsRow B 5 1 (.slice (some ⟨g, 0, none⟩) t.length cap) t.length (Lib.byteCells t)) (h0 : t ≠ []) (ht : t.length ≤ 16384) :
    Calls Tryz.prog 20 #[.pointer (some ⟨B, 0, none⟩)] w fun e w' => e = .returned (.string (bs t)) ∧ w' = w.drew.freeze ⟨g, 0, none⟩ t.length := by
  have hl0 : t.length ≠ 0 := by simpa using h0
  obtain ⟨cur, hbg, hgc, hnc, hcm, hcs, htake⟩ : ∃ cur : Array Value, B ≤ g ∧ w.heap[g]? = some (.cells cur 5 (0, 0)) ∧ t.length ≤ cap ∧ cap ≤ maxLen ∧ cur.size = cap * 1 ∧ cur.toList.take (t.length * 1) = Lib.byteCells t := by
    rcases hg.2 with ⟨_, hz⟩ | ⟨g', cap', cur, hv, r⟩
    · exact absurd hz hl0
    · simp only [Value.slice.injEq, Option.some.injEq, Addr.mk.injEq, and_true, true_and] at hv
      obtain ⟨rfl, rfl⟩ := hv
      exact ⟨cur, r⟩
  have h1' : w.drew.heap[B]? = some (.cells #[p, .slice (some ⟨g, 0, none⟩) t.length cap, z] 80 (0, 0)) := h1
  obtain ⟨c0, c1, c2⟩ := cell3 h1'
  have hSD : (Builtin.unsafeSliceData_ #[76] 94 #[.slice (some ⟨g, 0, none⟩) t.length cap]).run Tryz.prog w.drew = .ok (.pointer (some ⟨g, 0, none⟩)) w.drew :=
    Lib.run_unsafeSliceData_row _ _ _ _ _ _ (by omega)
  have hUS : (Builtin.unsafeString_ #[94, 3] 9 #[.pointer (some ⟨g, 0, none⟩), .int .i64 t.length]).run Tryz.prog w.drew = .ok (.string ⟨t.toArray⟩) (w.drew.freeze ⟨g, 0, none⟩ t.length) := by
    refine Lib.run_unsafeString_row w.drew 94 3 9 5 Tryz.underlying94 (by kernel_rfl) g cur.size (by have hg' : w.drew.heap[g]? = some (.cells cur 5 (0, 0)) := hgc; simp [World.shape?, hg']) t h0 (by omega) (by omega) ?_
    intro j x hx
    exact hg.cells (g := g) rfl j (.int .u8 x.toNat) (by simp [Lib.byteCells, hx])
  have eb : (⟨t.toArray⟩ : ByteArray) = bs t := rfl
  rw [eb] at hUS
  clear h1 h1' hg hgc htake hcs eb
  generalize bs t = bt at *
  generalize hn : t.length = n at *
  clear hn
  go_enter Tryz.func20, Tryz.ntmps20
  go_wp2
  go_region
  all_goals (go_wp2; go_ret; exact ⟨rfl, rfl⟩)
set_option maxRecDepth 100000 in
set_option maxHeartbeats 2000000 in
theorem string_nil {B : Nat} {w : World} {z p : Value} (h1 : w.heap[B]? = some (.cells #[p, .slice none 0 0, z] 80 (0, 0))) :
    Calls Tryz.prog 20 #[.pointer (some ⟨B, 0, none⟩)] w fun e w' => e = .returned (.string .empty) ∧ w' = w.drew := by
  have h1' : w.drew.heap[B]? = some (.cells #[p, .slice none 0 0, z] 80 (0, 0)) := h1
  obtain ⟨c0, c1, c2⟩ := cell3 h1'
  have hSD : (Builtin.unsafeSliceData_ #[76] 94 #[.slice none 0 0]).run Tryz.prog w.drew = .ok (.pointer none) w.drew := rfl
  have hUS : (Builtin.unsafeString_ #[94, 3] 9 #[.pointer none, .int .i64 0]).run Tryz.prog w.drew = .ok (.string .empty) w.drew := Lib.run_unsafeString_none _ _ _ _ _
  clear h1 h1'
  go_enter Tryz.func20, Tryz.ntmps20
  go_wp2
  go_region
  all_goals (go_wp2; go_ret; exact ⟨rfl, rfl⟩)
theorem string_any {B : Nat} {w : World} {z : Value} {t : Wd} (h : Bd B w z t) (ht : t.length ≤ 16384) : Calls Tryz.prog 20 #[.pointer (some ⟨B, 0, none⟩)] w fun e w' => e = .returned (.string (bs t)) ∧ Wo B w w' := by
  obtain ⟨p, v, h1, h2, h3, h4⟩ := h
  by_cases h0 : t = []
  · have hv := h4.2 h0
    subst h0
    subst hv
    refine (string_nil h1).mono ?_
    rintro e w' ⟨rfl, rfl⟩
    exact ⟨rfl, Wo.ofNil (Only.refl Nil w).drew⟩
  · obtain ⟨a, c, hv⟩ := own_slice_n h3
    subst hv
    rcases h3.2 with ⟨hz, _⟩ | ⟨g, c', cur, hv, hbg, hgc, r⟩
    · exact absurd (h4.1 hz) h0
    · simp only [Value.slice.injEq, true_and] at hv
      obtain ⟨rfl, rfl⟩ := hv
      refine (string_row h1 h3 h0 ht).mono ?_
      rintro e w' ⟨rfl, rfl⟩
      refine ⟨rfl, (Wo.ofNil (Only.refl Nil w).drew).trans (wo_freeze (B := B) (w := w.drew) g _ (Or.inr ⟨?_, _, _, (show w.drew.heap[g]? = _ from hgc)⟩))⟩
      have hne : g ≠ B := fun e => by
        rw [e, h1] at hgc
        injection hgc with hgc
        injection hgc with _ e2
        exact absurd e2 (by decide)
      omega

/-! ### errors.Is at ErrLong: an error of ErrArg -/
theorem ta_is2 (v : Value) (xT : TypeId) (w : World) : (Instr.typeAssert (.iface 32 v) xT 127 true).run Tryz.prog w = .ok (.tuple #[.nilIface, .bool false]) w :=
  run_typeAssert_lacksB Tryz.underlying127 (by kernel_rfl) (by kernel_rfl) v xT w
theorem ta_unw2 (v : Value) (xT : TypeId) (w : World) : (Instr.typeAssert (.iface 32 v) xT 130 true).run Tryz.prog w = .ok (.tuple #[.nilIface, .bool false]) w :=
  run_typeAssert_lacksB Tryz.underlying130 (by kernel_rfl) (by kernel_rfl) v xT w
theorem ta_unws2 (v : Value) (xT : TypeId) (w : World) : (Instr.typeAssert (.iface 32 v) xT 132 true).run Tryz.prog w = .ok (.tuple #[.nilIface, .bool false]) w :=
  run_typeAssert_lacksB Tryz.underlying132 (by kernel_rfl) (by kernel_rfl) v xT w
theorem eq_no (w : World) : (binOp .eql 27 (.iface 32 (.int .i64 1)) (.iface 32 (.int .i64 5))).run Tryz.prog w = .ok (.bool false) w := by kernel_rfl
set_option maxRecDepth 100000 in
set_option maxHeartbeats 4000000 in
theorem is_arg (w : World) : Calls Tryz.prog 21 #[.iface 32 (.int .i64 1), .iface 32 (.int .i64 5)] w fun e w' => e = .returned (.bool false) ∧ w = w' := by
  have c1 := c_cmp
  have c2 := c_typeOf
  have c4 := eq_no
  have c5 := ta_is2
  have c6 := ta_unw2
  have c7 := ta_unws2
  have c8 := m_cmp
  go_enter Tryz.func21, Tryz.ntmps21
  go_wp2
  refine wp_loop_rounds 1 ?_
  rw [rounds_succ]
  go_wp2
  go_ret
  exact ⟨rfl, rfl⟩
end Go.Proofs.YtnkokonkbklelaaGreatDoor.Ps

/- parse: Print. -/
set_option linter.unusedVariables false
namespace Go.Proofs.YtnkokonkbklelaaGreatDoor.Ps
open Go.RowKit Go.Proofs.YtnkokonkbklelaaGreatDoor Lx

/-- What Print says of a program: its error's number, its text. -/
def outE (P : List Kd) : Nat := er (!P.all okK) (joinW (P.flatMap wordsK))
def outT (P : List Kd) : Wd := if outE P = 0 then joinW (P.flatMap wordsK) else []
theorem outE_cases (P : List Kd) : outE P = 0 ∨ outE P = 1 ∨ outE P = 5 := by
  unfold outE er; split
  · exact Or.inr (Or.inl rfl)
  · split
    · exact Or.inr (Or.inr rfl)
    · exact Or.inl rfl
theorem wr_new (w : World) : Wr w.heap.size (w.alloc (.cells #[.pointer none, .slice none 0 0, .nilIface] 80)) false [] :=
  ⟨_, _, _, [], heap_new w _, Or.inl rfl, World.ownsRow_nil _ _ _ _, ⟨fun _ => rfl, fun _ => rfl⟩, by decide, rfl, fun _ => rfl⟩
theorem only_wo {S : Nat → Prop} {a w w' : World} {B : Nat} (h : Only S a w) (hB : a.heap.size ≤ B) (o : Wo B w w') : Only S a w' :=
  h.then o (fun q hq hlt => by rcases hq with hq | ⟨hq, _⟩ <;> omega)

set_option maxRecDepth 100000 in
set_option maxHeartbeats 4000000 in
theorem print_any {D : Nat} {w : World} (P : List Kd) (sl : Value) (hx : XK D w sl P) (hD : D ≤ w.heap.size) (wf : wfP P) (hb : smP P) (T : Tab w) :
    Calls Tryz.prog 10 #[.agg #[sl]] w fun e w' => e = .returned (.tuple #[.string (bs (outT P)), .int .i64 (outE P : Nat)]) ∧ Only Nil w w' := by
  obtain ⟨sa, sc, rfl⟩ := hx.slice
  generalize hn : P.length = n at *
  have HN := Lib.hid hn
  clear hn
  have hTg : 6 < w.heap.size := by
    have gn : Tryz.prog.globalNamed "internal/strconv.uint64pow10" = some 6 := by kernel_rfl
    have h := T
    unfold Tab Lib.TabIs World.var? at h
    rw [gn] at h
    simp only [Option.bind_some] at h
    rcases Nat.lt_or_ge 6 w.heap.size with hh | hh
    · exact hh
    · rw [Array.getElem?_eq_none hh] at h; cases h
  obtain ⟨w1, hw1⟩ : ∃ w1, w1 = w.alloc (.cells #[.slice sa n sc] 25) := ⟨_, rfl⟩
  have o1 : Only Nil w w1 := hw1 ▸ (Only.refl Nil w).alloc _
  have s1 : w1.heap.size = w.heap.size + 1 := by rw [hw1]; simp
  have HB1 : Bx w1 w.heap.size [.slice sa n sc] 25 := hw1 ▸ bx_new w _ _
  obtain ⟨w2, hw2⟩ : ∃ w2, w2 = w1.alloc (.cells #[.pointer none, .slice none 0 0, .nilIface] 80) := ⟨_, rfl⟩
  have W2 : Wr w1.heap.size w2 false [] := hw2 ▸ wr_new w1
  rw [s1] at W2
  have oA : Only Nil w1 w2 := hw2 ▸ (Only.refl Nil w1).alloc _
  have HB := Lib.hid (HB1.keep oA)
  have o2 : Only Nil w w2 := o1.trans oA
  have O2 := Lib.hid o2
  have CP := Lib.hid (wprogram_any W2 P (.slice sa n sc) (hx.keep o2 (nilS · D)) (by omega) wf hb ⟨T.keep o2, by omega⟩)
  have eW : (w.alloc (.cells #[.slice sa n sc] 25)).alloc (.cells #[.pointer none, .slice none 0 0, .nilIface] 80) = w2 := by rw [hw2, hw1]
  have eL : P.flatMap wordsK = [] ++ P.flatMap wordsK := rfl
  have eE : er (false || !P.all okK) (joinW ([] ++ P.flatMap wordsK)) = outE P := rfl
  have eT : joinW ([] ++ P.flatMap wordsK) = joinW (P.flatMap wordsK) := rfl
  have hTx : outE P = 0 → outT P = joinW (P.flatMap wordsK) := fun h => if_pos h
  have hT0 : outE P ≠ 0 → outT P = [] := fun h => if_neg h
  have hCs := outE_cases P
  clear hx wf hb T hw1 hw2 W2 o1 HB1 oA o2 hTg
  have c0 := HB.out.cell 0 (v := .slice sa n sc) rfl
  clear s1 w1
  go_enter Tryz.func10, Tryz.ntmps10
  go_upto_region 2 with (fail)
  clear eW
  have HS := Lib.hid (Nat.le_succ w.heap.size)
  change Hid (w.heap.size ≤ w.heap.size + 1) at HS
  generalize w.heap.size + 1 = B at *
  go_wp2_with fail
  refine CP.out.mono ?_
  rintro e w3 ⟨rfl, k3, o3⟩
  have ON := Lib.hid (only_wo O2.out HS.out o3)
  obtain ⟨z, t, hB, h5, h6, h7⟩ := k3.bd
  rw [eE] at h6 h7
  rw [eT] at h7
  have hB' := hB
  obtain ⟨p, v, g1, g2, g3, g4⟩ := hB'
  obtain ⟨d0, d1, d2⟩ := cell3 g1
  clear g1 g2 g3 g4 k3 o3 CP HB O2 c0 eL eE eT HN
  rcases hCs with hE | hE | hE
  · have ht := h7 hE
    have hX := hTx hE
    rw [← ht] at hX
    rw [hE] at h6
    have HF := Lib.hid (And.intro hE hX)
    have hz : z = .nilIface := h6
    subst hz
    have HC := Lib.hid (string_any hB h5)
    clear hB h6 h7 hTx hT0 hX ht hE
    go_wp2_with (go_at_call 20; refine HC.out.mono ?_; rintro e w4 ⟨rfl, o4⟩)
    go_ret2
    exact ⟨by rw [HF.out.1, HF.out.2]; rfl, only_wo ON.out HS.out o4⟩
  · have HF := Lib.hid (And.intro hE (hT0 (by rw [hE]; decide)))
    rw [hE] at h6
    have hz : z = .iface 32 (.int .i64 1) := h6
    subst hz
    have HI := Lib.hid (fun w => is_arg w)
    clear hB h6 h7 hTx hT0 hE
    go_wp2_with (go_at_call 21; refine (HI.out _).mono ?_; rintro e w4 ⟨rfl, rfl⟩)
    go_ret2
    exact ⟨by rw [HF.out.1, HF.out.2]; rfl, ON.out⟩
  · have HF := Lib.hid (And.intro hE (hT0 (by rw [hE]; decide)))
    rw [hE] at h6
    obtain ⟨q, rfl, hq⟩ : ∃ q, z = .iface 54 (.pointer (some ⟨q, 0, none⟩)) ∧ w3.heap[q]? = some (.cells #[.int .i64 5, .int .i64 16384] 70 (0, 0)) := h6
    have hq0 : w3.cell? ⟨q, 0, none⟩ = some (.int .i64 5) := by simp [World.cell?, hq]
    have HI := Lib.hid (is_fault q 5 w3 hq0)
    clear hB h7 hTx hT0 hE hq hq0
    go_wp2_with (go_at_call 21; refine HI.out.mono ?_; rintro e w4 ⟨rfl, rfl⟩)
    go_ret2
    exact ⟨by rw [HF.out.1, HF.out.2]; rfl, ON.out⟩
end Go.Proofs.YtnkokonkbklelaaGreatDoor.Ps
