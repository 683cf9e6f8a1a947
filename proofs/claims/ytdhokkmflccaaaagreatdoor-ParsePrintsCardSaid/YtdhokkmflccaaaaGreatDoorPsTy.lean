/- parse: the document's rowText. -/
import Derived.Test.YtdhokkmflccaaaaGreatDoorPsTx
set_option linter.unusedVariables false
namespace Go.Proofs.YtdhokkmflccaaaaGreatDoor.Ps
open Go.RowKit Go.Proofs.YtdhokkmflccaaaaGreatDoor Lx

/-- Words that are not long, no more than m. -/
def Ws (W : List Wd) (m : Nat) : Prop := W.length ≤ m ∧ ∀ u ∈ W, u.length ≤ 100
theorem Ws.app {W U : List Wd} {m p : Nat} (h : Ws W m) (k : Ws U p) : Ws (W ++ U) (m + p) := by
  refine ⟨by rw [List.length_append]; have := h.1; have := k.1; omega, fun u hu => ?_⟩
  rcases List.mem_append.1 hu with hu | hu
  · exact h.2 u hu
  · exact k.2 u hu
theorem Ws.one {u : Wd} (h : u.length ≤ 100) : Ws [u] 1 := ⟨Nat.le_refl _, fun v hv => by rw [List.mem_singleton.1 hv]; exact h⟩
theorem Ws.two {u v : Wd} (h : u.length ≤ 100) (k : v.length ≤ 100) : Ws [u, v] 2 := (Ws.one h).app (Ws.one k)
theorem Ws.le {W : List Wd} {m : Nat} (h : Ws W m) (t : Wd) : (W.foldl jn t).length ≤ t.length + 101 * m := by
  have h1 := foldl_cost t W
  have hc : ∀ us : List Wd, (∀ u ∈ us, u.length ≤ 100) → cost us ≤ 101 * us.length := fun us => by
    induction us with
    | nil => intro _; simp [cost]
    | cons u us ih =>
      intro hu
      have h1 := hu u (List.mem_cons_self ..)
      have h2 := ih (fun x hx => hu x (List.mem_cons_of_mem _ hx))
      rw [cost_c, List.length_cons]; omega
  have h2 := hc W h.2
  have h3 : 101 * W.length ≤ 101 * m := Nat.mul_le_mul_left _ h.1
  omega
theorem rput_w {base : Nat} {w : World} {v : Value} {t : Wd} {W : List Wd} {m p n : Nat} {a : Option Addr} {cap : Nat} (us : List Wd) (h : Tx base w v (W.foldl jn t)) (hW : Ws W m) (hU : Ws us p) (hs : SB w a us) (hn : us.length = n) (few : n ≤ 100) (hb : t.length + 101 * m ≤ 100000000) :
    Calls Tryz.prog 52 #[v, .slice a n cap] w fun e w' => ∃ a' n' c', e = .returned (.slice a' n' c') ∧ Hid (Tx base w' (.slice a' n' c') ((W ++ us).foldl jn t)) ∧ Hid (Ws (W ++ us) (m + p)) ∧ Hid (Wb base w w') := by
  refine (rput_any us h hs hn few hU.2 (Nat.le_trans (hW.le t) hb)).mono ?_
  rintro e w' ⟨v', rfl, hT, hO⟩
  rw [← List.foldl_append] at hT
  obtain ⟨a', c', rfl⟩ := hT.slice
  exact ⟨a', _, c', rfl, hT, hW.app hU, hO⟩
theorem nm100 {s : Wd} (h : isNm s = true) : s.length ≤ 100 := by have := nm_len h; omega
theorem itoa100 {n : Int} (h : okN n = true) : (Lib.itoa n).length ≤ 100 := by
  have := itoa_len (in_small h); omega
theorem rdec_any {n : Int} (h : okN n = true) (w : World) : Calls Tryz.prog 34 #[.int .i64 n] w fun e w' => e = .returned (.string (bs (Lib.itoa n))) ∧ Only Nil w w' := by
  obtain ⟨h1, h2⟩ := (okN_iff n).1 h
  obtain ⟨u, rfl⟩ : ∃ u : Nat, n = (u : Int) := ⟨n.toNat, by omega⟩
  exact decimal_itoa u (by omega) w
theorem part100 {x : Eff} {c : UInt8} (h : okPart x c = true) : (partW x c).length ≤ 100 := by
  unfold okPart at h; unfold partW
  by_cases c1 : c = 114
  · simp only [if_pos c1] at h ⊢; exact nm100 h
  · simp only [if_neg c1] at h ⊢
    by_cases c2 : c = 115
    · simp only [if_pos c2] at h ⊢; exact nm100 h
    · simp only [if_neg c2] at h ⊢
      by_cases c3 : c = 110
      · simp only [if_pos c3] at h ⊢; exact nm100 h
      · simp only [if_neg c3] at h ⊢
        by_cases c4 : c = 100
        · simp only [if_pos c4] at h ⊢; exact itoa100 h
        · simp only [if_neg c4] at h ⊢
          rcases okV_cases h with ⟨e, h⟩ | ⟨e, _⟩ | ⟨e, _⟩
          · rw [e]; show (Lib.itoa x.n).length ≤ 100; exact itoa100 h
          · rw [e]; exact (by decide : w_keep.length ≤ 100)
          · rw [e]; exact (by decide : w_less.length ≤ 100)
theorem parts_few (z : Int) : (parts z).length ≤ 3 := by unfold parts; (repeat' split) <;> decide
theorem ix_byte (l : Wd) (i : Nat) (c : UInt8) (h : l[i]? = some c) (w : World) : (Instr.index 9 (.string (bs l)) (.int .i64 (i : Int))).run Tryz.prog w = .ok (.int .u8 (c.toNat : Int)) w := by
  obtain ⟨h1, h2⟩ := List.getElem?_eq_some_iff.1 h
  have e : (bs l)[i]'(by simpa using h1) = c := by rw [← h2]; exact List.getElem_toArray (by simpa using h1)
  simp [go_sem, Tryz.underlying9, h1, e]
set_option maxRecDepth 100000 in
set_option maxHeartbeats 8000000 in
theorem rrow_any {D base : Nat} {w : World} {v : Value} {t : Wd} {W0 : List Wd} {m0 : Nat} (h : Tx base w v (W0.foldl jn t)) (hW0 : Ws W0 m0) (x : Rw) (sl : Value) (hx : XE D w sl x.effs) (hD : D ≤ base) (ok : okR x = true) (hb : x.effs.length ≤ 65000) (hl : t.length + 101 * (m0 + 5 + 5 * x.effs.length) ≤ 100000000) :
    Calls Tryz.prog 53 #[v, .agg #[.string (bs x.tag), .bool x.only, .int .i64 x.n, sl]] w fun e w' => ∃ a' n' c', e = .returned (.slice a' n' c') ∧ Hid (Tx base w' (.slice a' n' c') ((W0 ++ wordsR x).foldl jn t)) ∧ Hid (Ws (W0 ++ wordsR x) (m0 + 5 + 5 * x.effs.length)) ∧ Hid (Wb base w w') := by
  obtain ⟨sa, sc, rfl⟩ := hx.slice
  obtain ⟨va, vc, rfl⟩ := h.slice
  obtain ⟨w1, hw1⟩ : ∃ w1, w1 = w.alloc (.cells #[.string (bs x.tag), .bool x.only, .int .i64 x.n, .slice sa x.effs.length sc] 72) := ⟨_, rfl⟩
  have o1 : Only Nil w w1 := hw1 ▸ (Only.refl Nil w).alloc _
  have O1 := Lib.hid (show Wb base w w1 from Wb.ofNil o1)
  have BX := Lib.hid (show Bx w1 w.heap.size [.string (bs x.tag), .bool x.only, .int .i64 x.n, .slice sa x.effs.length sc] 72 from hw1 ▸ bx_new w _ _)
  have HX := Lib.hid (hx.keep o1 (nilS · D))
  have T0 := Lib.hid (h.keep o1)
  have HW0 := Lib.hid hW0
  have HDB := Lib.hid hD
  rw [show okR x = (okH x && x.effs.all okE) from rfl, Bool.and_eq_true] at ok
  have HOH := Lib.hid ok.1
  have HOE := Lib.hid (List.all_eq_true.1 ok.2)
  have eW := hw1.symm
  have hb' : (x.effs.length : Int) ≤ 65000 := by omega
  have hsplit : wordsR x = headW x ++ ([w_open] ++ (x.effs.flatMap wordsE ++ [w_close])) := rfl
  have HSP := Lib.hid hsplit
  clear h hW0 hx hD ok hw1 o1 hb hsplit
  generalize hn : x.effs.length = n at *
  have HN := Lib.hid hn
  have HBD := Lib.hid hl
  clear hn hl
  generalize hvl : (W0.foldl jn t).length = vl at *
  clear hvl
  go_enter Tryz.func53, Tryz.ntmps53
  go_upto_region 1 with (fail)
  (try rw [eW]); clear eW
  generalize w.heap.size = B at *
  have c0 := BX.out.cell 0 (v := .string (bs x.tag)) rfl
  obtain ⟨on, hon⟩ : ∃ on, x.only = on := ⟨_, rfl⟩
  have HON := Lib.hid hon
  have c2 := BX.out.cell 2 (v := .int .i64 x.n) rfl
  have OZ := Lib.hid (Wb.refl base w1)
  have CK := Lib.hid (show ∀ w', Wb base w1 w' → w'.cell? ⟨B, 0, none⟩ = some (.string (bs x.tag)) ∧ w'.cell? ⟨B, 1, none⟩ = some (.bool on) ∧ w'.cell? ⟨B, 2, none⟩ = some (.int .i64 x.n) ∧ w'.cell? ⟨B, 3, none⟩ = some (.slice sa n sc) from fun w' o => ⟨(BX.out.wb o (by decide)).cell 0 rfl, hon ▸ (BX.out.wb o (by decide)).cell 1 rfl, (BX.out.wb o (by decide)).cell 2 rfl, (BX.out.wb o (by decide)).cell 3 rfl⟩)
  clear hon
  have c0 := (CK.out _ (Wb.refl _ _)).1
  by_cases ht : x.tag = []
  focus
    have he : (bs x.tag).toList.isEmpty = true := (emp_bs _).trans (decide_eq_true ht)
    have HU := Lib.hid (show Ws [w_any] 2 from ⟨by decide, fun u hu => by rw [List.mem_singleton.1 hu]; decide⟩)
    have HHW := Lib.hid (show headW x = [w_any] ++ (if x.only then [Lib.itoa x.n] else []) from by
      unfold headW
      cases hon : x.only with
      | true =>
        have := HOH.out
        unfold okH at this
        rw [hon, ht] at this; cases this
      | false => simp [ht])
    clear ht
    have PC := Lib.hid (show Calls Tryz.prog 52 #[.slice va vl vc, .slice (some ⟨w1.heap.size, 0, none⟩) 1 1] (w1.alloc (.cells #[.string ⟨#[97, 110, 121]⟩] 9)) fun e w' => ∃ a' n' c', e = .returned (.slice a' n' c') ∧ Hid (Tx base w' (.slice a' n' c') ((W0 ++ [w_any]).foldl jn t)) ∧ Hid (Ws (W0 ++ [w_any]) (m0 + 2)) ∧ Hid (Wb base (w1.alloc (.cells #[.string ⟨#[97, 110, 121]⟩] 9)) w') from rput_w [w_any] (T0.out.keep ((Only.refl Nil w1).alloc _)) HW0.out HU.out (sb_new w1 [w_any]) rfl (by simp) (by have := HBD.out; omega))
    go_wp2_with fail
    clear he c0 c2
    refine PC.out.mono ?_
    rintro e wn ⟨b1, b2, b3, rfl, TN, WN, ON⟩
    have OQ := Lib.hid (OZ.out.trans ((Wb.ofNil ((Only.refl Nil _).alloc _)).trans ON.out))
    clear ON PC HU
    have c1 := (CK.out _ OQ.out).2.1
    have c2 := (CK.out _ OQ.out).2.2.1
    generalize [w_any] = HW at *
    go_upto_if 22 with (fail)
  rotate_left
  focus
    have he : (bs x.tag).toList.isEmpty = false := (emp_bs _).trans (decide_eq_false ht)
    have hnm : isNm x.tag = true := by
      have := HOH.out
      unfold okH at this
      cases hon : x.only with
      | true => rw [hon] at this; simp at this; exact this.1
      | false => rw [hon] at this; simp [ht] at this; exact this.2
    have HU := Lib.hid (show Ws [w_on, x.tag] 2 from Ws.two (by decide) (nm100 hnm))
    have HHW := Lib.hid (show headW x = [w_on, x.tag] ++ (if x.only then [Lib.itoa x.n] else []) from by
      unfold headW
      cases hon : x.only with
      | true => rfl
      | false => simp [ht])
    clear ht hnm
    have PC := Lib.hid (show Calls Tryz.prog 52 #[.slice va vl vc, .slice (some ⟨w1.heap.size, 0, none⟩) 2 2] (w1.alloc (.cells #[.string ⟨#[111, 110]⟩, .string (bs x.tag)] 9)) fun e w' => ∃ a' n' c', e = .returned (.slice a' n' c') ∧ Hid (Tx base w' (.slice a' n' c') ((W0 ++ [w_on, x.tag]).foldl jn t)) ∧ Hid (Ws (W0 ++ [w_on, x.tag]) (m0 + 2)) ∧ Hid (Wb base (w1.alloc (.cells #[.string ⟨#[111, 110]⟩, .string (bs x.tag)] 9)) w') from rput_w [w_on, x.tag] (T0.out.keep ((Only.refl Nil w1).alloc _)) HW0.out HU.out (sb_new w1 [w_on, x.tag]) rfl (by simp) (by have := HBD.out; omega))
    go_wp2_with fail
    clear he c0 c2
    refine PC.out.mono ?_
    rintro e wn ⟨b1, b2, b3, rfl, TN, WN, ON⟩
    have OQ := Lib.hid (OZ.out.trans ((Wb.ofNil ((Only.refl Nil _).alloc _)).trans ON.out))
    clear ON PC HU
    have c1 := (CK.out _ OQ.out).2.1
    have c2 := (CK.out _ OQ.out).2.2.1
    generalize [w_on, x.tag] = HW at *
    go_upto_if 22 with (fail)
  all_goals
    generalize wn = w3 at *
    go_cut [0, 22] (fun s0 _ wx => ∃ (a' : Option Addr) (n' c' : Nat), s0 = .slice a' n' c' ∧ Hid (Tx base wx (.slice a' n' c') ((W0 ++ headW x).foldl jn t)) ∧ Hid (Ws (W0 ++ headW x) (m0 + 3)) ∧ Hid (Wb base w1 wx))
    case first =>
      cases on with
      | true =>
        have hon := HON.out
        have hok : okN x.n = true := by
          have := HOH.out
          unfold okH at this
          rw [hon] at this; simp at this; exact this.2
        have HU := Lib.hid (show Ws [Lib.itoa x.n] 1 from Ws.one (itoa100 hok))
        have HEQ := Lib.hid (show W0 ++ headW x = W0 ++ HW ++ [Lib.itoa x.n] from by rw [HHW.out, hon, List.append_assoc]; rfl)
        have HDE := Lib.hid (fun w => rdec_any hok w)
        clear hok hon
        go_wp2_with (first
          | (go_at_call 34; refine (HDE.out _).mono ?_; rintro e wd ⟨rfl, od⟩; have TD := Lib.hid (TN.out.keep od); have PD := Lib.hid (OQ.out.trans (Wb.ofNil od)); clear od)
          | (go_at_call 52; refine (rput_w [Lib.itoa x.n] (TD.out.keep ((Only.refl Nil _).alloc _)) WN.out HU.out (sb_new _ _) rfl (by simp) (by have := HBD.out; omega)).mono ?_; rintro e wn ⟨b1, b2, b3, rfl, TM, WM, ON⟩; have OP := Lib.hid (PD.out.trans ((Wb.ofNil ((Only.refl Nil _).alloc _)).trans ON.out)); clear ON))
        go_meet
        rw [HEQ.out]
        exact ⟨b1, b2, b3, rfl, TM, WM, OP⟩
      | false =>
        have hon := HON.out
        have HEQ := Lib.hid (show W0 ++ headW x = W0 ++ HW from by rw [HHW.out, hon]; simp)
        clear hon
        go_wp2
        go_meet
        rw [HEQ.out]
        exact ⟨b1, b2, b3, rfl, TN, ⟨by have := WN.out.1; omega, WN.out.2⟩, OQ⟩
    case rest =>
      clear TN WN OQ c1 c2 HHW
      obtain ⟨a1, n1, z1, rfl, T1, W1, P1⟩ := hcut
      generalize wc = w2 at *
      have HU := Lib.hid (show Ws [w_open] 1 from Ws.one (by decide))
      go_upto_region 7 with (go_at_call 52; refine (rput_w [w_open] (T1.out.keep ((Only.refl Nil _).alloc _)) W1.out HU.out (sb_new _ _) rfl (by simp) (by have := HBD.out; omega)).mono ?_; rintro e wm ⟨d1, d2, d3, rfl, TM, WM, ON⟩; have OP := Lib.hid (P1.out.trans ((Wb.ofNil ((Only.refl Nil _).alloc _)).trans ON.out)); clear ON)
      clear T1 W1 P1 HU
      generalize wm = wa at *
      have HV := Lib.hid (show W0 ++ wordsR x = (W0 ++ headW x ++ [w_open]) ++ (x.effs.flatMap wordsE ++ [w_close]) from by rw [HSP.out]; simp)
      generalize W0 ++ headW x ++ [w_open] = V at *
      go_wp2
      go_loopw [0, 5, 6, 7, 8, 9] (fun s0 s5 _ _ _ _ wr => ∃ (k : Nat) (a' : Option Addr) (n' c' : Nat), s0 = .slice a' n' c' ∧ s5 = .int .i64 (k : Int) ∧ k ≤ n ∧ Hid (Tx base wr (.slice a' n' c') ((V ++ (x.effs.take k).flatMap wordsE).foldl jn t)) ∧ Hid (Ws (V ++ (x.effs.take k).flatMap wordsE) (m0 + 4 + 5 * k)) ∧ Hid (Wb base w1 wr))
        (fun _ s5 _ _ _ _ _ => n - (intOf s5).toNat)
      case atStart => exact ⟨0, d1, d2, d3, rfl, rfl, Nat.zero_le _, by rw [List.take_zero, List.flatMap_nil, List.append_nil]; exact TM, by rw [List.take_zero, List.flatMap_nil, List.append_nil]; exact WM, OP⟩
      case round =>
        obtain ⟨k, e1, e2, e3, rfl, rfl, hk, TN, WN, OQ⟩ := hrel
        have c3 := (CK.out _ OQ.out).2.2.2
        by_cases hkn : k < n
        · obtain ⟨q', off', rfl, hlt', hc'⟩ := (HX.out.keep OQ.out (Wb.old HDB.out)).at_ HN.out k hkn
          have hkl : k < x.effs.length := by rw [HN.out]; exact hkn
          have hoe := HOE.out _ (List.getElem_mem hkl)
          have HFL := Lib.hid (flat_snoc wordsE hkl)
          generalize x.effs[k] = z at *
          have g0 : wr.cell? ⟨q', off' + k * 7, none⟩ = some (.int .i64 z.act) := hc' 0 (by decide)
          have g1 : wr.cell? ⟨q', off' + k * 7 + 1, none⟩ = some (.string (bs z.ref)) := hc' 1 (by decide)
          have g2 : wr.cell? ⟨q', off' + k * 7 + 2, none⟩ = some (.string (bs z.slot)) := hc' 2 (by decide)
          have g3 : wr.cell? ⟨q', off' + k * 7 + 3, none⟩ = some (.string (bs z.name)) := hc' 3 (by decide)
          have g4 : wr.cell? ⟨q', off' + k * 7 + 4, none⟩ = some (.int .i64 z.val) := hc' 4 (by decide)
          have g5 : wr.cell? ⟨q', off' + k * 7 + 5, none⟩ = some (.int .i64 z.n) := hc' 5 (by decide)
          have g6 : wr.cell? ⟨q', off' + k * 7 + 6, none⟩ = some (.int .i64 z.delay) := hc' 6 (by decide)
          clear hc' hkl
          obtain ⟨⟨i, hi, hza, hpk⟩, hpa, _⟩ := okE_parts hoe
          have HPA := Lib.hid hpa
          have HPL := Lib.hid (show ∀ c ∈ parts z.act, (partW z c).length ≤ 100 from fun c hc => part100 (List.all_eq_true.1 hpa c hc))
          have HP3 := Lib.hid (parts_few z.act)
          have hp3 : ((parts z.act).length : Int) ≤ 3 := by have := HP3.out; omega
          have hzs : (bs (parts z.act)).size = (parts z.act).length := bs_size _
          have HVB := Lib.hid (fun w => rverb_any z.act w)
          have HUV := Lib.hid (show Ws [pickW effw (z.act - 1)] 1 from Ws.one (pickW_len effw_len _))
          clear hi hza hpk hpa hoe
          have oE : Only Nil wr (wr.alloc (.cells #[.int .i64 z.act, .string (bs z.ref), .string (bs z.slot), .string (bs z.name), .int .i64 z.val, .int .i64 z.n, .int .i64 z.delay] 76)) := (Only.refl Nil wr).alloc _
          have OW := Lib.hid (OQ.out.trans (Wb.ofNil oE))
          have TW := Lib.hid (TN.out.keep oE)
          have BE := Lib.hid (show Bx (wr.alloc (.cells #[.int .i64 z.act, .string (bs z.ref), .string (bs z.slot), .string (bs z.name), .int .i64 z.val, .int .i64 z.n, .int .i64 z.delay] 76)) wr.heap.size [.int .i64 z.act, .string (bs z.ref), .string (bs z.slot), .string (bs z.name), .int .i64 z.val, .int .i64 z.n, .int .i64 z.delay] 76 from bx_new wr _ _)
          clear oE TN OQ
          go_upto_region 11 with (fail)
          generalize wr.alloc (.cells #[.int .i64 z.act, .string (bs z.ref), .string (bs z.slot), .string (bs z.name), .int .i64 z.val, .int .i64 z.n, .int .i64 z.delay] 76) = wq at *
          generalize wr.heap.size = R at *
          clear g0 g1 g2 g3 g4 g5 g6 c3 hlt'
          have EK := Lib.hid (show ∀ w', Wb base wq w' → w'.cell? ⟨R, 1, none⟩ = some (.string (bs z.ref)) ∧ w'.cell? ⟨R, 2, none⟩ = some (.string (bs z.slot)) ∧ w'.cell? ⟨R, 3, none⟩ = some (.string (bs z.name)) ∧ w'.cell? ⟨R, 4, none⟩ = some (.int .i64 z.val) ∧ w'.cell? ⟨R, 5, none⟩ = some (.int .i64 z.n) ∧ w'.cell? ⟨R, 6, none⟩ = some (.int .i64 z.delay) from fun w' o => ⟨(BE.out.wb o (by decide)).cell 1 rfl, (BE.out.wb o (by decide)).cell 2 rfl, (BE.out.wb o (by decide)).cell 3 rfl, (BE.out.wb o (by decide)).cell 4 rfl, (BE.out.wb o (by decide)).cell 5 rfl, (BE.out.wb o (by decide)).cell 6 rfl⟩)
          have g0 := BE.out.cell 0 (v := .int .i64 z.act) rfl
          have OZ2 := Lib.hid (Wb.refl base wq)
          have hkn' := hkn
          go_upto_region 13 with (first
            | (go_at_call 80; refine (HVB.out _).mono ?_; rintro e wv ⟨rfl, rfl⟩)
            | (go_at_call 52; refine (rput_w [pickW effw (z.act - 1)] (TW.out.keep ((Only.refl Nil _).alloc _)) WN.out HUV.out (sb_new _ _) rfl (by simp) (by have := HBD.out; omega)).mono ?_; rintro e wm ⟨d1, d2, d3, rfl, TM, WM, ON⟩; have OP := Lib.hid (OZ2.out.trans ((Wb.ofNil ((Only.refl Nil _).alloc _)).trans ON.out)); clear ON))
          clear g0 HUV TW WN HVB
          generalize wm = wo at *
          go_wp2
          go_loopw [0, 9] (fun s0 s9 wr => ∃ (j : Nat) (a' : Option Addr) (n' c' : Nat), s0 = .slice a' n' c' ∧ s9 = .int .i64 (j : Int) ∧ j ≤ (parts z.act).length ∧ Hid (Tx base wr (.slice a' n' c') ((V ++ (x.effs.take k).flatMap wordsE ++ [pickW effw (z.act - 1)] ++ ((parts z.act).take j).map (partW z)).foldl jn t)) ∧ Hid (Ws (V ++ (x.effs.take k).flatMap wordsE ++ [pickW effw (z.act - 1)] ++ ((parts z.act).take j).map (partW z)) (m0 + 4 + 5 * k + 1 + j)) ∧ Hid (Wb base wq wr))
            (fun _ s9 _ => (parts z.act).length - (intOf s9).toNat)
          case atStart => exact ⟨0, d1, d2, d3, rfl, rfl, Nat.zero_le _, by rw [List.take_zero, List.map_nil, List.append_nil]; exact TM, by rw [List.take_zero, List.map_nil, List.append_nil]; exact WM, OP⟩
          case round =>
            obtain ⟨j, e1, e2, e3, rfl, rfl, hj, TN, WN, OQ⟩ := hrel
            obtain ⟨g1, g2, g3, g4, g5, g6⟩ := EK.out _ OQ.out
            by_cases hjn : j < (parts z.act).length
            · have hjl := hjn
              have hmem : (parts z.act)[j] ∈ parts z.act := List.getElem_mem hjl
              have hm5 := parts_mem z.act _ hmem
              have hp3 := HP3.out
              rcases hm5 with hcj | hcj | hcj | hcj | hcj
              · have HPS := Lib.hid (show ((parts z.act).take (j + 1)).map (partW z) = ((parts z.act).take j).map (partW z) ++ [z.ref] from by rw [List.take_succ_eq_append_getElem hjl, List.map_append]; congr 1; show [partW z _] = _; rw [hcj]; rfl)
                have HUP := Lib.hid (show Ws [z.ref] 1 from Ws.one (by have := HPL.out _ hmem; rw [hcj] at this; exact this))
                have hix := fun w => ix_byte (parts z.act) j 114 (by rw [List.getElem?_eq_getElem hjl, hcj]) w
                replace hix : ∀ w, (Instr.index 9 (.string (bs (parts z.act))) (.int .i64 (j : Int))).run Tryz.prog w = .ok (.int .u8 114) w := hix
                clear hcj hmem hjl
                go_wp2_with (go_at_call 52; refine (rput_w [z.ref] (TN.out.keep ((Only.refl Nil _).alloc _)) WN.out HUP.out (sb_new _ _) rfl (by simp) (by have := HBD.out; omega)).mono ?_; rintro e wm ⟨d1, d2, d3, rfl, TM, WM, ON⟩; have OP := Lib.hid (OQ.out.trans ((Wb.ofNil ((Only.refl Nil _).alloc _)).trans ON.out)); clear ON)
                go_roundw
                case rel => exact ⟨j + 1, d1, d2, d3, rfl, by go_num, by omega, by rw [HPS.out, ← List.append_assoc]; exact TM, by rw [HPS.out, ← List.append_assoc]; exact WM, OP⟩
                case measure => simp [intOf]; omega
              · have HPS := Lib.hid (show ((parts z.act).take (j + 1)).map (partW z) = ((parts z.act).take j).map (partW z) ++ [z.slot] from by rw [List.take_succ_eq_append_getElem hjl, List.map_append]; congr 1; show [partW z _] = _; rw [hcj]; rfl)
                have HUP := Lib.hid (show Ws [z.slot] 1 from Ws.one (by have := HPL.out _ hmem; rw [hcj] at this; exact this))
                have hix := fun w => ix_byte (parts z.act) j 115 (by rw [List.getElem?_eq_getElem hjl, hcj]) w
                replace hix : ∀ w, (Instr.index 9 (.string (bs (parts z.act))) (.int .i64 (j : Int))).run Tryz.prog w = .ok (.int .u8 115) w := hix
                clear hcj hmem hjl
                go_wp2_with (go_at_call 52; refine (rput_w [z.slot] (TN.out.keep ((Only.refl Nil _).alloc _)) WN.out HUP.out (sb_new _ _) rfl (by simp) (by have := HBD.out; omega)).mono ?_; rintro e wm ⟨d1, d2, d3, rfl, TM, WM, ON⟩; have OP := Lib.hid (OQ.out.trans ((Wb.ofNil ((Only.refl Nil _).alloc _)).trans ON.out)); clear ON)
                go_roundw
                case rel => exact ⟨j + 1, d1, d2, d3, rfl, by go_num, by omega, by rw [HPS.out, ← List.append_assoc]; exact TM, by rw [HPS.out, ← List.append_assoc]; exact WM, OP⟩
                case measure => simp [intOf]; omega
              · have HPS := Lib.hid (show ((parts z.act).take (j + 1)).map (partW z) = ((parts z.act).take j).map (partW z) ++ [z.name] from by rw [List.take_succ_eq_append_getElem hjl, List.map_append]; congr 1; show [partW z _] = _; rw [hcj]; rfl)
                have HUP := Lib.hid (show Ws [z.name] 1 from Ws.one (by have := HPL.out _ hmem; rw [hcj] at this; exact this))
                have hix := fun w => ix_byte (parts z.act) j 110 (by rw [List.getElem?_eq_getElem hjl, hcj]) w
                replace hix : ∀ w, (Instr.index 9 (.string (bs (parts z.act))) (.int .i64 (j : Int))).run Tryz.prog w = .ok (.int .u8 110) w := hix
                clear hcj hmem hjl
                go_wp2_with (go_at_call 52; refine (rput_w [z.name] (TN.out.keep ((Only.refl Nil _).alloc _)) WN.out HUP.out (sb_new _ _) rfl (by simp) (by have := HBD.out; omega)).mono ?_; rintro e wm ⟨d1, d2, d3, rfl, TM, WM, ON⟩; have OP := Lib.hid (OQ.out.trans ((Wb.ofNil ((Only.refl Nil _).alloc _)).trans ON.out)); clear ON)
                go_roundw
                case rel => exact ⟨j + 1, d1, d2, d3, rfl, by go_num, by omega, by rw [HPS.out, ← List.append_assoc]; exact TM, by rw [HPS.out, ← List.append_assoc]; exact WM, OP⟩
                case measure => simp [intOf]; omega
              · have HPS := Lib.hid (show ((parts z.act).take (j + 1)).map (partW z) = ((parts z.act).take j).map (partW z) ++ [Lib.itoa z.delay] from by rw [List.take_succ_eq_append_getElem hjl, List.map_append]; congr 1; show [partW z _] = _; rw [hcj]; rfl)
                have HUP := Lib.hid (show Ws [Lib.itoa z.delay] 1 from Ws.one (by have := HPL.out _ hmem; rw [hcj] at this; exact this))
                have hix := fun w => ix_byte (parts z.act) j 100 (by rw [List.getElem?_eq_getElem hjl, hcj]) w
                replace hix : ∀ w, (Instr.index 9 (.string (bs (parts z.act))) (.int .i64 (j : Int))).run Tryz.prog w = .ok (.int .u8 100) w := hix
                have hokd : okN z.delay = true := by have := List.all_eq_true.1 HPA.out _ hmem; rw [hcj] at this; exact this
                have HDE := Lib.hid (fun w => rdec_any hokd w)
                clear hokd
                clear hcj hmem hjl
                go_wp2_with (first
                  | (go_at_call 34; refine (HDE.out _).mono ?_; rintro e wd ⟨rfl, od⟩; have TD := Lib.hid (TN.out.keep od); have PD := Lib.hid (OQ.out.trans (Wb.ofNil od)); clear od)
                  | (go_at_call 52; refine (rput_w [Lib.itoa z.delay] (TD.out.keep ((Only.refl Nil _).alloc _)) WN.out HUP.out (sb_new _ _) rfl (by simp) (by have := HBD.out; omega)).mono ?_; rintro e wm ⟨d1, d2, d3, rfl, TM, WM, ON⟩; have OP := Lib.hid (PD.out.trans ((Wb.ofNil ((Only.refl Nil _).alloc _)).trans ON.out)); clear ON))
                go_roundw
                case rel => exact ⟨j + 1, d1, d2, d3, rfl, by go_num, by omega, by rw [HPS.out, ← List.append_assoc]; exact TM, by rw [HPS.out, ← List.append_assoc]; exact WM, OP⟩
                case measure => simp [intOf]; omega
              · have hokv : okV z.val z.n = true := by have := List.all_eq_true.1 HPA.out _ hmem; rw [hcj] at this; exact this
                rcases okV_cases hokv with ⟨hzv, hokn⟩ | ⟨hzv, hzn⟩ | ⟨hzv, hzn⟩
                · have HPS := Lib.hid (show ((parts z.act).take (j + 1)).map (partW z) = ((parts z.act).take j).map (partW z) ++ [Lib.itoa z.n] from by rw [List.take_succ_eq_append_getElem hjl, List.map_append]; congr 1; show [partW z _] = _; rw [hcj]; show [valW z.val z.n] = _; rw [hzv]; rfl)
                  have HUP := Lib.hid (show Ws [Lib.itoa z.n] 1 from Ws.one (by have := HPL.out _ hmem; rw [hcj] at this; have h2 : (valW z.val z.n).length ≤ 100 := this; rw [hzv] at h2; exact h2))
                  have hix := fun w => ix_byte (parts z.act) j 118 (by rw [List.getElem?_eq_getElem hjl, hcj]) w
                  replace hix : ∀ w, (Instr.index 9 (.string (bs (parts z.act))) (.int .i64 (j : Int))).run Tryz.prog w = .ok (.int .u8 118) w := hix
                  have HDE := Lib.hid (fun w => rdec_any hokn w)
                  clear hokn hokv
                  have hq0 : (z.val == 0) = false := by rw [hzv]; rfl
                  have hq1 : (z.val == 1) = false := by rw [hzv]; rfl
                  clear hcj hmem hjl hzv
                  go_wp2_with (first
                    | (go_at_call 34; refine (HDE.out _).mono ?_; rintro e wd ⟨rfl, od⟩; have TD := Lib.hid (TN.out.keep od); have PD := Lib.hid (OQ.out.trans (Wb.ofNil od)); clear od)
                    | (go_at_call 52; refine (rput_w [Lib.itoa z.n] (TD.out.keep ((Only.refl Nil _).alloc _)) WN.out HUP.out (sb_new _ _) rfl (by simp) (by have := HBD.out; omega)).mono ?_; rintro e wm ⟨d1, d2, d3, rfl, TM, WM, ON⟩; have OP := Lib.hid (PD.out.trans ((Wb.ofNil ((Only.refl Nil _).alloc _)).trans ON.out)); clear ON))
                  go_roundw
                  case rel => exact ⟨j + 1, d1, d2, d3, rfl, by go_num, by omega, by rw [HPS.out, ← List.append_assoc]; exact TM, by rw [HPS.out, ← List.append_assoc]; exact WM, OP⟩
                  case measure => simp [intOf]; omega
                · have HPS := Lib.hid (show ((parts z.act).take (j + 1)).map (partW z) = ((parts z.act).take j).map (partW z) ++ [w_keep] from by rw [List.take_succ_eq_append_getElem hjl, List.map_append]; congr 1; show [partW z _] = _; rw [hcj]; show [valW z.val z.n] = _; rw [hzv]; rfl)
                  have HUP := Lib.hid (show Ws [w_keep] 1 from Ws.one (by have := HPL.out _ hmem; rw [hcj] at this; have h2 : (valW z.val z.n).length ≤ 100 := this; rw [hzv] at h2; exact h2))
                  have hix := fun w => ix_byte (parts z.act) j 118 (by rw [List.getElem?_eq_getElem hjl, hcj]) w
                  replace hix : ∀ w, (Instr.index 9 (.string (bs (parts z.act))) (.int .i64 (j : Int))).run Tryz.prog w = .ok (.int .u8 118) w := hix
                  clear hokv hzn
                  have hq0 : (z.val == 0) = true := by rw [hzv]; rfl
                  clear hcj hmem hjl hzv
                  go_wp2_with (go_at_call 52; refine (rput_w [w_keep] (TN.out.keep ((Only.refl Nil _).alloc _)) WN.out HUP.out (sb_new _ _) rfl (by simp) (by have := HBD.out; omega)).mono ?_; rintro e wm ⟨d1, d2, d3, rfl, TM, WM, ON⟩; have OP := Lib.hid (OQ.out.trans ((Wb.ofNil ((Only.refl Nil _).alloc _)).trans ON.out)); clear ON)
                  go_roundw
                  case rel => exact ⟨j + 1, d1, d2, d3, rfl, by go_num, by omega, by rw [HPS.out, ← List.append_assoc]; exact TM, by rw [HPS.out, ← List.append_assoc]; exact WM, OP⟩
                  case measure => simp [intOf]; omega
                · have HPS := Lib.hid (show ((parts z.act).take (j + 1)).map (partW z) = ((parts z.act).take j).map (partW z) ++ [w_less] from by rw [List.take_succ_eq_append_getElem hjl, List.map_append]; congr 1; show [partW z _] = _; rw [hcj]; show [valW z.val z.n] = _; rw [hzv]; rfl)
                  have HUP := Lib.hid (show Ws [w_less] 1 from Ws.one (by have := HPL.out _ hmem; rw [hcj] at this; have h2 : (valW z.val z.n).length ≤ 100 := this; rw [hzv] at h2; exact h2))
                  have hix := fun w => ix_byte (parts z.act) j 118 (by rw [List.getElem?_eq_getElem hjl, hcj]) w
                  replace hix : ∀ w, (Instr.index 9 (.string (bs (parts z.act))) (.int .i64 (j : Int))).run Tryz.prog w = .ok (.int .u8 118) w := hix
                  clear hokv hzn
                  have hq0 : (z.val == 0) = false := by rw [hzv]; rfl
                  have hq1 : (z.val == 1) = true := by rw [hzv]; rfl
                  clear hcj hmem hjl hzv
                  go_wp2_with (go_at_call 52; refine (rput_w [w_less] (TN.out.keep ((Only.refl Nil _).alloc _)) WN.out HUP.out (sb_new _ _) rfl (by simp) (by have := HBD.out; omega)).mono ?_; rintro e wm ⟨d1, d2, d3, rfl, TM, WM, ON⟩; have OP := Lib.hid (OQ.out.trans ((Wb.ofNil ((Only.refl Nil _).alloc _)).trans ON.out)); clear ON)
                  go_roundw
                  case rel => exact ⟨j + 1, d1, d2, d3, rfl, by go_num, by omega, by rw [HPS.out, ← List.append_assoc]; exact TM, by rw [HPS.out, ← List.append_assoc]; exact WM, OP⟩
                  case measure => simp [intOf]; omega
            · obtain rfl : j = (parts z.act).length := by omega
              rw [List.take_length] at TN WN
              have HU2 := Lib.hid (show Ws [w_semi] 1 from Ws.one (by decide))
              have HEND := Lib.hid (show V ++ (x.effs.take (k + 1)).flatMap wordsE = V ++ (x.effs.take k).flatMap wordsE ++ [pickW effw (z.act - 1)] ++ (parts z.act).map (partW z) ++ [w_semi] from by rw [← HFL.out]; unfold wordsE; simp)
              have hp3' := HP3.out
              clear hjn
              go_wp2_with (go_at_call 52; refine (rput_w [w_semi] (TN.out.keep ((Only.refl Nil _).alloc _)) WN.out HU2.out (sb_new _ _) rfl (by simp) (by have := HBD.out; omega)).mono ?_; rintro e wm ⟨d1, d2, d3, rfl, TM, WM, ON⟩; have OP := Lib.hid (OQ.out.trans ((Wb.ofNil ((Only.refl Nil _).alloc _)).trans ON.out)); clear ON)
              go_roundw
              case rel => exact ⟨k + 1, d1, d2, d3, rfl, by go_num, by omega, by rw [HEND.out]; exact TM, by rw [HEND.out]; exact ⟨by have := WM.out.1; omega, WM.out.2⟩, Lib.hid (OW.out.trans OP.out)⟩
              case measure => simp [intOf]; omega
        · obtain rfl : k = n := by omega
          have ee : x.effs.take k = x.effs := List.take_of_length_le (by rw [HN.out]; exact Nat.le_refl _)
          rw [ee] at TN WN
          have HU2 := Lib.hid (show Ws [w_close] 1 from Ws.one (by decide))
          clear hkn ee
          go_wp2_with (go_at_call 52; refine (rput_w [w_close] (TN.out.keep ((Only.refl Nil _).alloc _)) WN.out HU2.out (sb_new _ _) rfl (by simp) (by have := HBD.out; omega)).mono ?_; rintro e wm ⟨d1, d2, d3, rfl, TM, WM, ON⟩; have OP := Lib.hid (OQ.out.trans ((Wb.ofNil ((Only.refl Nil _).alloc _)).trans ON.out)); clear ON)
          go_ret
          exact ⟨d1, d2, d3, rfl, by rw [HV.out, ← List.append_assoc]; exact TM, by rw [HV.out, ← List.append_assoc]; exact ⟨by have := WM.out.1; omega, WM.out.2⟩, Lib.hid (O1.out.trans OP.out)⟩
end Go.Proofs.YtdhokkmflccaaaaGreatDoor.Ps
