/- parse: a kind, read. -/
import Derived.Test.YtnkokonkbklelaaGreatDoorPsM4
import Derived.Test.YtnkokonkbklelaaGreatDoorLxM3
import Derived.Recover
import Derived.Defers
import Derived.Laws.Pointers
set_option linter.unusedVariables false
namespace Go.Proofs.YtnkokonkbklelaaGreatDoor.Ps
open Go.RowKit Go.Proofs.YtnkokonkbklelaaGreatDoor Lx

def DK (x : Kd) (v : Value) (w : World) : Prop := ∃ s1 s2, v = .agg #[.string (bs x.name), .int .i64 x.limit, .int .i64 x.within, s1, s2] ∧ MCs w s1 x.cases ∧ MStas w s2 x.states
theorem Own.keepRow {w0 w w5 : World} {R O : Nat} {cs : List Value} {t : TypeId} {a : Option Addr} {n c : Nat} (h : Own w0 R O cs t w) (fr : New w0 (.slice a n c)) (hne : ¬ RowOf a O) (o : Only (RowOf a) w w5) : Own w0 R O cs t w5 :=
  ⟨only_new h.only fr o, h.new, h.low, (o.block O (lt_of_block h.heap) hne).trans h.heap⟩
theorem MKds.own {w : World} {v : Value} {L : List Kd} (h : MKds w v L) : ∃ xs, w.ownsRow 0 40 5 v L.length xs := by
  obtain ⟨Z, _, h1, _⟩ := h; exact ⟨_, h1⟩
theorem MStas.own {w : World} {v : Value} {L : List Sta} (h : MStas w v L) : ∃ xs, w.ownsRow 0 43 2 v L.length xs := by
  obtain ⟨Z, _, h1, _⟩ := h; exact ⟨_, h1⟩
theorem MCs.own {w : World} {v : Value} {L : List Cs} (h : MCs w v L) : ∃ xs, w.ownsRow 0 72 2 v L.length xs := ⟨_, h⟩
theorem not_rowOf {w : World} {t t' : TypeId} {a : Option Addr} {O : Nat} {cs : Array Value} {m : Nat × Nat} (h : OfT t (RowOf a) w) (hb : w.heap[O]? = some (.cells cs t' m)) (ht : t ≠ t') : ¬ RowOf a O := fun hr => by
  obtain ⟨cs', m', h1⟩ := h O hr
  rw [hb] at h1
  injection h1 with h1
  injection h1 with _ e
  exact ht e.symm
theorem noCase_iff (T : Tks) : noCase T = true ↔ ¬ hw T ∈ [w_case, w_else] := by
  unfold noCase
  simp
theorem case_stop {T : Tks} (h : ¬ hw T ∈ [w_case, w_else]) : Many pCase noCase T = .ok [] T := by
  rw [Many_eq pCase_eats, if_pos ((noCase_iff T).2 h)]
theorem case_bad {T r : Tks} (h : hw T ∈ [w_case, w_else]) (hp : pCase T = .bad r) : Many pCase noCase T = .bad r := by
  rw [Many_eq pCase_eats, if_neg (fun e => (noCase_iff T).1 e h), hp]; rfl
theorem case_more {T r : Tks} {e : Cs} (h : hw T ∈ [w_case, w_else]) (hp : pCase T = .ok e r) : Many pCase noCase T = (Many pCase noCase r).bind fun l r' => .ok (e :: l) r' := by
  rw [Many_eq pCase_eats, if_neg (fun e => (noCase_iff T).1 e h), hp]; rfl
theorem state_stop {T : Tks} (h : hw T = w_close) : Many pState (isW w_close) T = .ok [] T := by
  rw [Many_eq pState_eats, if_pos (by unfold isW; rw [h]; rfl)]
theorem state_bad {T r : Tks} (h : ¬ hw T = w_close) (hp : pState T = .bad r) : Many pState (isW w_close) T = .bad r := by
  rw [Many_eq pState_eats, if_neg (by unfold isW; simpa using h), hp]; rfl
theorem state_more {T r : Tks} {e : Sta} (h : ¬ hw T = w_close) (hp : pState T = .ok e r) : Many pState (isW w_close) T = (Many pState (isW w_close) r).bind fun l r' => .ok (e :: l) r' := by
  rw [Many_eq pState_eats, if_neg (by unfold isW; simpa using h), hp]; rfl
theorem mcs_slice {w : World} {v : Value} {E : List Cs} (h : MCs w v E) : ∃ a n c, v = .slice a n c := by
  obtain ⟨a, c, h1⟩ := own_slice_n h
  exact ⟨a, _, c, h1⟩
def kdL (n : Wd) (a b : Int) (u v : Value) : List Value := [.string (bs n), .int .i64 a, .int .i64 b, u, v]

set_option linter.unusedSimpArgs false in
set_option maxRecDepth 100000 in
set_option maxHeartbeats 8000000 in
theorem kind_any {w : World} {R N : Nat} {T : Tks} (h : Rd w R N T) :
    Calls Tryz.prog 24 #[.pointer (some ⟨R, 0, none⟩)] w (RP DK w R N (pKind T)) := by
  obtain ⟨Q, hQ⟩ : ∃ Q : Ending → World → Prop, Q = RP DK w R N (pKind T) := ⟨_, rfl⟩
  rw [← hQ]
  have HQ := Lib.hid hQ
  have hlow := h.lt
  obtain ⟨wA, hwA, HA, oA⟩ := box2 (Only.refl (At R) w) h.lt (kdL [] 0 0 (.slice none 0 0) (.slice none 0 0)) 40
  have hwA' : wA = w.alloc (.cells #[.string ⟨#[]⟩, .int .i64 0, .int .i64 0, .slice none 0 0, .slice none 0 0] 40) := by rw [hwA]; rfl
  have HO := Lib.hid HA
  have HR := Lib.hid (h.keep oA)
  clear hwA HA h hQ
  go_enter Tryz.func24, Tryz.ntmps24
  go_upto_region 1 with (fail)
  rw [← hwA']; clear hwA' oA
  generalize hOO : w.heap.size = O at *
  have HOO := Lib.hid hOO
  clear hOO
  go_wp2_with fail
  refine (pass_any HR.out w_kind (by decide)).mono ?_
  rintro e w1 k1
  cases h1 : pass w_kind T with
  | bad r =>
    rw [h1] at k1
    obtain ⟨⟨b, rfl, hc, hq⟩, o1⟩ := k1
    go_wp2
    refine ⟨rfl, ?_⟩
    rw [HQ.out, pKind, h1]
    exact RP.bad hc hq (HO.out.only.trans o1)
  | ok u r =>
  rw [h1] at k1
  obtain ⟨⟨v, rfl, rfl⟩, R1, o1⟩ := k1
  have HR1 := Lib.hid R1
  have HO1 := Lib.hid (HO.out.keep o1)
  have HE := Lib.hid (show pKind T = _ by rw [pKind, h1, PR.bind_ok])
  clear R1 o1 h1 HO HR
  go_wp2_with fail
  refine (name_any HR1.out).mono ?_
  rintro e w2 k2
  cases h2 : tk 1 r with
  | bad r' =>
    rw [h2] at k2
    obtain ⟨⟨b, rfl, hc, hq⟩, o2⟩ := k2
    go_wp2
    refine ⟨rfl, ?_⟩
    rw [HQ.out, HE.out, h2]
    exact RP.bad hc hq (HO1.out.only.trans o2)
  | ok t r1 =>
  rw [h2] at k2
  obtain ⟨⟨v, rfl, rfl⟩, R2, o2⟩ := k2
  have O2 := HO1.out.keep o2
  obtain ⟨W3, hW3, H3, o3⟩ := box2 O2.only O2.low (kdL t.w 0 0 (.slice none 0 0) (.slice none 0 0)) 40
  have hW3' : W3 = w2.alloc (.cells #[.string (bs t.w), .int .i64 0, .int .i64 0, .slice none 0 0, .slice none 0 0] 40) := hW3
  have hOL : O ≠ w2.heap.size := by have := O2.lt; omega
  have HR3 := Lib.hid (R2.keep o3)
  have HO3 := Lib.hid (O2.keep (o3.nilTo _))
  have HL3 := Lib.hid H3
  have HE2 := Lib.hid (HE.out.trans (by rw [h2, PR.bind_ok]))
  clear R2 o2 h2 HO1 HR1 HE O2 H3 hW3
  go_upto_region 3 with (fail)
  rw [← hW3']; clear hW3' o3
  generalize w2.heap.size = L at *
  generalize t.w = nm at *
  go_wp2_with fail
  refine (pass_any HR3.out w_open (by decide)).mono ?_
  rintro e w4 k4
  cases h4 : pass w_open r1 with
  | bad r' =>
    rw [h4] at k4
    obtain ⟨⟨b, rfl, hc, hq⟩, o4⟩ := k4
    go_wp2
    refine ⟨rfl, ?_⟩
    rw [HQ.out, HE2.out, h4]
    exact RP.bad hc hq (HO3.out.only.trans o4)
  | ok u r2 =>
  rw [h4] at k4
  obtain ⟨⟨v, rfl, rfl⟩, R4, o4⟩ := k4
  have HR4 := Lib.hid R4
  have HO4 := Lib.hid (HO3.out.keep o4)
  have HL4 := Lib.hid (HL3.out.keep o4)
  have HE4 := Lib.hid (HE2.out.trans (by rw [h4, PR.bind_ok]))
  clear R4 o4 h4 HO3 HL3 HR3 HE2
  go_wp2_with fail
  refine (limit_any HR4.out).mono ?_
  rintro e w5 k5
  cases h5 : pLimit r2 with
  | bad r' =>
    rw [h5] at k5
    obtain ⟨⟨b, rfl, hc, hq⟩, o5⟩ := k5
    go_wp2
    refine ⟨rfl, ?_⟩
    rw [HQ.out, HE4.out, h5]
    exact RP.bad hc hq (HO4.out.only.trans o5)
  | ok lw r3 =>
  rw [h5] at k5
  obtain ⟨⟨v, rfl, rfl⟩, R5, o5⟩ := k5
  have L5 := HL4.out.keep o5
  have O5 := HO4.out.keep o5
  have c1 := L5.cell 1 (v := .int .i64 0) rfl
  have c2 := L5.cell 2 (v := .int .i64 0) rfl
  have f1 := L5.free 1
  have f2 := L5.free 2
  have L6 := L5.put 1 (.int .i64 lw.1)
  have L7 := Lib.hid (show Own w R L (kdL nm lw.1 lw.2 (.slice none 0 0) (.slice none 0 0)) 40 _ from L6.put 2 (.int .i64 lw.2))
  have s7 := ((Only.refl (At L) w5).setCell (p := ⟨L, 1, none⟩) rfl (.int .i64 lw.1)).setCell (p := ⟨L, 2, none⟩) rfl (.int .i64 lw.2)
  have O7 := Lib.hid (O5.other s7 (Ne.symm hOL) L5.new)
  have R7 := Lib.hid (R5.keepO s7 (Nat.lt_of_lt_of_le L5.low L5.new))
  have HE5 := Lib.hid (HE4.out.trans (by rw [h5, PR.bind_ok]))
  have hfew := R5.few
  clear R5 o5 h5 HO4 HL4 HR4 HE4 L5 O5 L6 s7
  generalize lw.1 = la at *
  generalize lw.2 = lb at *
  go_wp2
  go_loopw [] (fun wr => ∃ (X : List Cs) (T' : Tks) (a : Option Addr) (n c : Nat), X.length = n ∧ n + T'.length ≤ 20000 ∧ Hid (Own w R O (kdL [] 0 0 (.slice none 0 0) (.slice none 0 0)) 40 wr) ∧ Hid (Own w R L (kdL nm la lb (.slice a n c) (.slice none 0 0)) 40 wr) ∧ Hid (MCs wr (.slice a n c) X) ∧ Hid (New w (.slice a n c)) ∧ Hid (Rd wr R N T') ∧
      Hid (Many pCase noCase r3 = (Many pCase noCase T').bind fun l r' => .ok (X ++ l) r'))
    (fun wr => left R wr)
  case atStart =>
    refine ⟨[], r3, none, 0, 0, rfl, by omega, O7, L7, Lib.hid ⟨rfl, .inl ⟨rfl, rfl⟩⟩, Lib.hid (new_none w), R7, Lib.hid ?_⟩
    cases Many pCase noCase r3 <;> rfl
  case round =>
    obtain ⟨X, T', a, n, c, hn, hb, hO', hL', hM, hN, hR', hX⟩ := hrel
    clear R7 O7 L7 hfew c1 c2 f1 f2
    have HN := Lib.hid hn
    have HB := Lib.hid hb
    clear hn hb
    have oA : Only Nil wr (wr.alloc (.cells ([w_case, w_else].map fun s => Value.string (bs s)).toArray 9)) := (Only.refl Nil wr).alloc _
    go_wp2_with fail
    refine (comes_any (hR'.out.keep ((Only.refl Nil wr).alloc _)) (sin_new wr [w_case, w_else] _) rfl (by decide)).mono ?_
    rintro e w2 ⟨rfl, o2⟩
    have o2 := oA.trans o2
    have hleft := Lib.hid hR'.out.left
    have R2 := Lib.hid (hR'.out.keep o2)
    have M2 := Lib.hid (hM.out.keep o2 (ofT_nil 57 _) (by decide))
    have O2 := Lib.hid (hO'.out.keep (o2.nilTo _))
    have L2 := Lib.hid (hL'.out.keep (o2.nilTo _))
    clear oA o2 hR' hM hO' hL'
    by_cases hm : hw T' ∈ [w_case, w_else]
    · have hd : decide (hw T' ∈ [w_case, w_else]) = true := decide_eq_true hm
      have HMM := Lib.hid hm
      rw [hd]
      clear hm hd
      have l3 := L2.out.cell 3 (v := .slice a n c) rfl
      have od : Only Nil w2 w2.drew := (Only.refl Nil w2).drew
      have ld := only_cell0 od l3
      have Rd1 := Lib.hid (R2.out.keep od)
      cases hp : pCase T' with
      | bad r' =>
        have HX := Lib.hid (hX.out.trans (by rw [case_bad HMM.out hp]; rfl : _ = PR.bad r'))
        have HP := Lib.hid hp
        have O1 := Lib.hid (O2.out.only.trans (od.nilTo _))
        clear hX hp
        go_wp2_with fail
        refine wp_region_held_drew (S := fun _ => True) (by kernel_rfl) True.intro (fun hHeld => ?_)
        refine wpAnyH_take (i := 0) (v := ?vb0) rfl (by kernel_rfl) (by kernel_rfl) (by kernel_rfl) (fun _ _ _ h => h) (Or.inl ⟨by kernel_rfl, ?hb0⟩) (by assumption) ?rb0
        case hb0 => (intro w hSw; (try dsimp only at hSw); first | (go_simp; done) | (go_simp; with_reducible rfl))
        try simp only [Act.put, List.setIfInBounds_toArray, List.set_cons_zero, List.set_cons_succ]
        refine wpAnyH_take (i := 2) (v := ?vb2) rfl (by kernel_rfl) (by kernel_rfl) (by kernel_rfl) (fun _ _ _ h => h) (Or.inl ⟨by kernel_rfl, ?hb2⟩) (by assumption) ?rb2
        case hb2 => (intro w hSw; (try dsimp only at hSw); first | (go_simp; done) | (go_simp; with_reducible rfl))
        try simp only [Act.put, List.setIfInBounds_toArray, List.set_cons_zero, List.set_cons_succ]
        refine wpAnyH_ready (rs := [1, 3]) (by kernel_rfl) (by simp) ?_
        refine AllReadyH.cons rfl (fun K1 hK1 => ?_) (AllReadyH.cons rfl (fun K2 hK2 => ?_) AllReadyH.nil)
        · skip
          go_simp
          refine hK1.out _ _ ?s101 (fun hHeld1 => ?_)
          case s101 => exact True.intro
          clear hK1 K1
          try simp only [Act.put, List.setIfInBounds_toArray, List.set_cons_zero, List.set_cons_succ]
          refine wpAnyH_ready (rs := [3]) (by kernel_rfl) (by simp) ?_
          refine AllReadyH.cons rfl (fun K3 hK3 => ?_) AllReadyH.nil
          (go_simp; go_at_call 48; refine (case_any Rd1.out).mono ?_; rintro e w3 k3; rw [HP.out] at k3; obtain ⟨⟨b, rfl, hc, hq⟩, o3⟩ := k3; go_wp2_with fail)
          refine ⟨rfl, ?_⟩
          rw [HQ.out, HE5.out, HX.out]
          exact RP.bad hc hq (O1.out.trans o3)
        · skip
          (go_simp; go_at_call 48; refine (case_any Rd1.out).mono ?_; rintro e w3 k3; rw [HP.out] at k3; obtain ⟨⟨b, rfl, hc, hq⟩, o3⟩ := k3; go_wp2_with fail)
          refine ⟨rfl, ?_⟩
          rw [HQ.out, HE5.out, HX.out]
          exact RP.bad hc hq (O1.out.trans o3)
      | ok k r' =>
        have HX := Lib.hid (show Many pCase noCase r3 = (Many pCase noCase r').bind fun l r'' => .ok (X ++ [k] ++ l) r'' by
          rw [hX.out, case_more HMM.out hp]
          cases Many pCase noCase r' with
          | ok l s => simp
          | bad s => rfl)
        have HLT := Lib.hid (pCase_eats _ _ _ hp)
        have HP := Lib.hid hp
        have O1 := Lib.hid (O2.out.keep (od.nilTo _))
        have L1 := Lib.hid (L2.out.keep (od.nilTo _))
        have M1 := Lib.hid (M2.out.keep od (ofT_nil 57 _) (by decide))
        have KD := Lib.hid (show Calls Tryz.prog 48 #[.pointer (some ⟨R, 0, none⟩)] w2.drew (fun e w3 => ∃ v, e = .returned v ∧ DC k v w3 ∧ Rd w3 R N r' ∧ Only (At R) w2.drew w3) from (case_any Rd1.out).mono (fun e w3 k3 => by rw [HP.out] at k3; obtain ⟨⟨v, h1, h2⟩, h3, h4⟩ := k3; exact ⟨v, h1, h2, h3, h4⟩))
        clear hX hp od
        go_wp2_with fail
        refine wp_region_held_drew (S := fun _ => True) (by kernel_rfl) True.intro (fun hHeld => ?_)
        refine wpAnyH_take (i := 0) (v := ?vd0) rfl (by kernel_rfl) (by kernel_rfl) (by kernel_rfl) (fun _ _ _ h => h) (Or.inl ⟨by kernel_rfl, ?hd0⟩) (by assumption) ?rd0
        case hd0 => (intro w hSw; (try dsimp only at hSw); first | (go_simp; done) | (go_simp; with_reducible rfl))
        try simp only [Act.put, List.setIfInBounds_toArray, List.set_cons_zero, List.set_cons_succ]
        refine wpAnyH_take (i := 2) (v := ?vd2) rfl (by kernel_rfl) (by kernel_rfl) (by kernel_rfl) (fun _ _ _ h => h) (Or.inl ⟨by kernel_rfl, ?hd2⟩) (by assumption) ?rd2
        case hd2 => (intro w hSw; (try dsimp only at hSw); first | (go_simp; done) | (go_simp; with_reducible rfl))
        try simp only [Act.put, List.setIfInBounds_toArray, List.set_cons_zero, List.set_cons_succ]
        refine wpAnyH_ready (rs := [1, 3]) (by kernel_rfl) (by simp) ?_
        refine AllReadyH.cons rfl (fun K1 hK1 => ?_) (AllReadyH.cons rfl (fun K2 hK2 => ?_) AllReadyH.nil)
        · skip
          go_simp
          refine hK1.out _ _ ?s101 (fun hHeld1 => ?_)
          case s101 => exact True.intro
          clear hK1 K1
          try simp only [Act.put, List.setIfInBounds_toArray, List.set_cons_zero, List.set_cons_succ]
          refine wpAnyH_ready (rs := [3]) (by kernel_rfl) (by simp) ?_
          refine AllReadyH.cons rfl (fun K3 hK3 => ?_) AllReadyH.nil
          (go_simp; go_at_call 48; refine KD.out.mono ?_; rintro e w3 ⟨v, rfl, rfl, R3, o3⟩; have M3 := M1.out.keep o3 Rd1.out.ofT (by decide);  obtain ⟨a', c', w5, hr, hM5, hN5, o5⟩ := cs_pushed M3 HN.out hN.out (O1.out.only.trans o3).size (by have := HB.out; omega) k; obtain ⟨xs, hxs⟩ := M3.own; have hrw := ofT_row hxs; have L3 := L1.out.keep o3; have c3 := L3.cell 3 (v := .slice a n c) rfl; have c4 := only_cell0 ((Only.refl Nil w3).alloc (.cells #[.string (bs k.reason), .int .i64 k.act] 72)) c3; have nr : ¬ RowOf a L := not_rowOf hrw L3.heap (by decide); have nrO : ¬ RowOf a O := not_rowOf hrw (O1.out.keep o3).heap (by decide); have L5 := L3.keepRow hN.out nr o5; have O5 := (O1.out.keep o3).keepRow hN.out nrO o5; have R5 := R3.keepRow (by rw [HOO.out]; exact hlow) hN.out o5; have f5 := L5.free 3; have c5 := L5.cell 3 (v := .slice a n c) rfl; have L6 := Lib.hid (L5.put 3 (.slice a' (n + 1) c')); have s6 := ((Only.refl (At L) w5).setCell (p := ⟨L, 3, none⟩) rfl (.slice a' (n + 1) c')); have O6 := Lib.hid (O5.other s6 (Ne.symm hOL) L5.new); have R6 := Lib.hid (L5.rdPut (k := 3) (.slice a' (n + 1) c') R5);  have M6 := Lib.hid (hM5.out.keep s6 (ofT_at L5.heap) (by decide)); have hr' := Lib.hid hr; clear hr L3 L5 R3 o3 o5 hM5 R5 O5 M3 s6 hrw ; go_wp2_with fail)
          refine hK3.out _ _ ?s103 (fun hHeld3 => ?_)
          case s103 => exact True.intro
          clear hK3 K3
          try simp only [Act.put, List.setIfInBounds_toArray, List.set_cons_zero, List.set_cons_succ]
          refine wpAnyH_ready (rs := [4]) (by kernel_rfl) (by simp) ?_
          refine AllReadyH.cons rfl (fun K4 hK4 => ?_) AllReadyH.nil
          go_simp
          refine hK4.out _ _ ?s104 (fun hHeld4 => ?_)
          case s104 => exact True.intro
          clear hK4 K4
          try simp only [Act.put, List.setIfInBounds_toArray, List.set_cons_zero, List.set_cons_succ]
          refine wpAnyH_ready (rs := [5]) (by kernel_rfl) (by simp) ?_
          refine AllReadyH.cons rfl (fun K5 hK5 => ?_) AllReadyH.nil
          (refine step_append_run rfl (.tmp 22) (.tmp 25) 37 rfl _ _ rfl rfl _ _ hr'.out ?_)
          refine hK5.out _ _ ?s105 (fun hHeld5 => ?_)
          case s105 => exact True.intro
          clear hK5 K5
          try simp only [Act.put, List.setIfInBounds_toArray, List.set_cons_zero, List.set_cons_succ]
          refine wpAnyH_ready (rs := [6]) (by kernel_rfl) (by simp) ?_
          refine AllReadyH.cons rfl (fun K6 hK6 => ?_) AllReadyH.nil
          go_simp
          refine hK6.out _ _ ?s106 (fun hHeld6 => ?_)
          case s106 => exact True.intro
          clear hK6 K6
          try simp only [Act.put, List.setIfInBounds_toArray, List.set_cons_zero, List.set_cons_succ]
          refine wpAnyH_ready (rs := [7]) (by kernel_rfl) (by simp) ?_
          refine AllReadyH.cons rfl (fun K7 hK7 => ?_) AllReadyH.nil
          go_simp
          refine hK7.out _ _ ?s107 (fun hHeld7 => ?_)
          case s107 => exact True.intro
          clear hK7 K7
          try simp only [Act.put, List.setIfInBounds_toArray, List.set_cons_zero, List.set_cons_succ]
          refine wpAnyH_done (by kernel_rfl) ?_ _
          go_wp2_with fail
          go_roundw
          case rel => exact ⟨X ++ [k], r', a', n + 1, c', by rw [List.length_append, HN.out]; rfl, by have := HB.out; have := HLT.out; omega, O6, L6, M6, hN5, R6, HX⟩
          case measure => rw [R6.out.left, hleft.out]; exact HLT.out
        · skip
          (go_simp; go_at_call 48; refine KD.out.mono ?_; rintro e w3 ⟨v, rfl, rfl, R3, o3⟩; have M3 := M1.out.keep o3 Rd1.out.ofT (by decide);  obtain ⟨a', c', w5, hr, hM5, hN5, o5⟩ := cs_pushed M3 HN.out hN.out (O1.out.only.trans o3).size (by have := HB.out; omega) k; obtain ⟨xs, hxs⟩ := M3.own; have hrw := ofT_row hxs; have L3 := L1.out.keep o3; have c3 := L3.cell 3 (v := .slice a n c) rfl; have c4 := only_cell0 ((Only.refl Nil w3).alloc (.cells #[.string (bs k.reason), .int .i64 k.act] 72)) c3; have nr : ¬ RowOf a L := not_rowOf hrw L3.heap (by decide); have nrO : ¬ RowOf a O := not_rowOf hrw (O1.out.keep o3).heap (by decide); have L5 := L3.keepRow hN.out nr o5; have O5 := (O1.out.keep o3).keepRow hN.out nrO o5; have R5 := R3.keepRow (by rw [HOO.out]; exact hlow) hN.out o5; have f5 := L5.free 3; have c5 := L5.cell 3 (v := .slice a n c) rfl; have L6 := Lib.hid (L5.put 3 (.slice a' (n + 1) c')); have s6 := ((Only.refl (At L) w5).setCell (p := ⟨L, 3, none⟩) rfl (.slice a' (n + 1) c')); have O6 := Lib.hid (O5.other s6 (Ne.symm hOL) L5.new); have R6 := Lib.hid (L5.rdPut (k := 3) (.slice a' (n + 1) c') R5);  have M6 := Lib.hid (hM5.out.keep s6 (ofT_at L5.heap) (by decide)); have hr' := Lib.hid hr; clear hr L3 L5 R3 o3 o5 hM5 R5 O5 M3 s6 hrw ; go_wp2_with fail)
          refine hK2.out _ _ ?s102 (fun hHeld2 => ?_)
          case s102 => exact True.intro
          clear hK2 K2
          try simp only [Act.put, List.setIfInBounds_toArray, List.set_cons_zero, List.set_cons_succ]
          refine wpAnyH_ready (rs := [1, 4]) (by kernel_rfl) (by simp) ?_
          refine AllReadyH.cons rfl (fun K8 hK8 => ?_) (AllReadyH.cons rfl (fun K9 hK9 => ?_) AllReadyH.nil)
          · skip
            go_simp
            refine hK8.out _ _ ?s108 (fun hHeld8 => ?_)
            case s108 => exact True.intro
            clear hK8 K8
            try simp only [Act.put, List.setIfInBounds_toArray, List.set_cons_zero, List.set_cons_succ]
            refine wpAnyH_ready (rs := [4]) (by kernel_rfl) (by simp) ?_
            refine AllReadyH.cons rfl (fun K10 hK10 => ?_) AllReadyH.nil
            go_simp
            refine hK10.out _ _ ?s110 (fun hHeld10 => ?_)
            case s110 => exact True.intro
            clear hK10 K10
            try simp only [Act.put, List.setIfInBounds_toArray, List.set_cons_zero, List.set_cons_succ]
            refine wpAnyH_ready (rs := [5]) (by kernel_rfl) (by simp) ?_
            refine AllReadyH.cons rfl (fun K11 hK11 => ?_) AllReadyH.nil
            (refine step_append_run rfl (.tmp 22) (.tmp 25) 37 rfl _ _ rfl rfl _ _ hr'.out ?_)
            refine hK11.out _ _ ?s111 (fun hHeld11 => ?_)
            case s111 => exact True.intro
            clear hK11 K11
            try simp only [Act.put, List.setIfInBounds_toArray, List.set_cons_zero, List.set_cons_succ]
            refine wpAnyH_ready (rs := [6]) (by kernel_rfl) (by simp) ?_
            refine AllReadyH.cons rfl (fun K12 hK12 => ?_) AllReadyH.nil
            go_simp
            refine hK12.out _ _ ?s112 (fun hHeld12 => ?_)
            case s112 => exact True.intro
            clear hK12 K12
            try simp only [Act.put, List.setIfInBounds_toArray, List.set_cons_zero, List.set_cons_succ]
            refine wpAnyH_ready (rs := [7]) (by kernel_rfl) (by simp) ?_
            refine AllReadyH.cons rfl (fun K13 hK13 => ?_) AllReadyH.nil
            go_simp
            refine hK13.out _ _ ?s113 (fun hHeld13 => ?_)
            case s113 => exact True.intro
            clear hK13 K13
            try simp only [Act.put, List.setIfInBounds_toArray, List.set_cons_zero, List.set_cons_succ]
            refine wpAnyH_done (by kernel_rfl) ?_ _
            go_wp2_with fail
            go_roundw
            case rel => exact ⟨X ++ [k], r', a', n + 1, c', by rw [List.length_append, HN.out]; rfl, by have := HB.out; have := HLT.out; omega, O6, L6, M6, hN5, R6, HX⟩
            case measure => rw [R6.out.left, hleft.out]; exact HLT.out
          · skip
            go_simp
            refine hK9.out _ _ ?s109 (fun hHeld9 => ?_)
            case s109 => exact True.intro
            clear hK9 K9
            try simp only [Act.put, List.setIfInBounds_toArray, List.set_cons_zero, List.set_cons_succ]
            refine wpAnyH_ready (rs := [1]) (by kernel_rfl) (by simp) ?_
            refine AllReadyH.cons rfl (fun K14 hK14 => ?_) AllReadyH.nil
            go_simp
            refine hK14.out _ _ ?s114 (fun hHeld14 => ?_)
            case s114 => exact True.intro
            clear hK14 K14
            try simp only [Act.put, List.setIfInBounds_toArray, List.set_cons_zero, List.set_cons_succ]
            refine wpAnyH_ready (rs := [5]) (by kernel_rfl) (by simp) ?_
            refine AllReadyH.cons rfl (fun K15 hK15 => ?_) AllReadyH.nil
            (refine step_append_run rfl (.tmp 22) (.tmp 25) 37 rfl _ _ rfl rfl _ _ hr'.out ?_)
            refine hK15.out _ _ ?s115 (fun hHeld15 => ?_)
            case s115 => exact True.intro
            clear hK15 K15
            try simp only [Act.put, List.setIfInBounds_toArray, List.set_cons_zero, List.set_cons_succ]
            refine wpAnyH_ready (rs := [6]) (by kernel_rfl) (by simp) ?_
            refine AllReadyH.cons rfl (fun K16 hK16 => ?_) AllReadyH.nil
            go_simp
            refine hK16.out _ _ ?s116 (fun hHeld16 => ?_)
            case s116 => exact True.intro
            clear hK16 K16
            try simp only [Act.put, List.setIfInBounds_toArray, List.set_cons_zero, List.set_cons_succ]
            refine wpAnyH_ready (rs := [7]) (by kernel_rfl) (by simp) ?_
            refine AllReadyH.cons rfl (fun K17 hK17 => ?_) AllReadyH.nil
            go_simp
            refine hK17.out _ _ ?s117 (fun hHeld17 => ?_)
            case s117 => exact True.intro
            clear hK17 K17
            try simp only [Act.put, List.setIfInBounds_toArray, List.set_cons_zero, List.set_cons_succ]
            refine wpAnyH_done (by kernel_rfl) ?_ _
            go_wp2_with fail
            go_roundw
            case rel => exact ⟨X ++ [k], r', a', n + 1, c', by rw [List.length_append, HN.out]; rfl, by have := HB.out; have := HLT.out; omega, O6, L6, M6, hN5, R6, HX⟩
            case measure => rw [R6.out.left, hleft.out]; exact HLT.out
    · have hd : decide (hw T' ∈ [w_case, w_else]) = false := decide_eq_false hm
      have HX := Lib.hid (hX.out.trans (by rw [case_stop hm, PR.bind_ok, List.append_nil]))
      have HE6 := Lib.hid (HE5.out.trans (by rw [HX.out, PR.bind_ok]))
      rw [hd]
      clear hm hd hX HX HE5
      have hfew := R2.out.few
      generalize hca : (Value.slice a n c) = sC at *
      have HCA := Lib.hid hca
      clear hca hleft HB HN hN
      go_wp2
      go_loopw [] (fun wr => ∃ (S : List Sta) (T2 : Tks) (a : Option Addr) (n c : Nat), S.length = n ∧ n + T2.length ≤ 20000 ∧ Hid (Own w R O (kdL [] 0 0 (.slice none 0 0) (.slice none 0 0)) 40 wr) ∧ Hid (Own w R L (kdL nm la lb sC (.slice a n c)) 40 wr) ∧ Hid (MCs wr sC X) ∧ Hid (MStas wr (.slice a n c) S) ∧ Hid (New w (.slice a n c)) ∧ Hid (Rd wr R N T2) ∧
          Hid (Many pState (isW w_close) T' = (Many pState (isW w_close) T2).bind fun l r' => .ok (S ++ l) r'))
        (fun wr => left R wr)
      case atStart =>
        refine ⟨[], T', none, 0, 0, rfl, by omega, O2, L2, M2, Lib.hid ⟨[], rfl, ⟨rfl, .inl ⟨rfl, rfl⟩⟩, fun x hx => by cases hx⟩, Lib.hid (new_none w), R2, Lib.hid ?_⟩
        cases Many pState (isW w_close) T' <;> rfl
      case round =>
        obtain ⟨S, T2, a2, n2, c2, hn, hb, hO', hL', hMC, hM, hN, hR', hX⟩ := hrel
        clear R2 O2 L2 M2 hfew
        have HN := Lib.hid hn
        have HB := Lib.hid hb
        clear hn hb
        have oA : Only Nil wr (wr.alloc (.cells ([w_close].map fun s => Value.string (bs s)).toArray 9)) := (Only.refl Nil wr).alloc _
        go_wp2_with fail
        refine (comes_any (hR'.out.keep ((Only.refl Nil wr).alloc _)) (sin_new wr [w_close] _) rfl (by decide)).mono ?_
        rintro e w2 ⟨rfl, o2⟩
        have o2 := oA.trans o2
        have hleft := Lib.hid hR'.out.left
        have R2 := Lib.hid (hR'.out.keep o2)
        have MC2 := Lib.hid (hMC.out.keep o2 (ofT_nil 57 _) (by decide))
        have M2 := Lib.hid (hM.out.keep o2 (ofT_nil 57 _) (by decide) (by decide) (by decide))
        have O2 := Lib.hid (hO'.out.keep (o2.nilTo _))
        have L2 := Lib.hid (hL'.out.keep (o2.nilTo _))
        clear oA o2 hR' hM hO' hL' hMC
        by_cases hm : hw T2 = w_close
        · have hd : decide (hw T2 ∈ [w_close]) = true := by simp [hm]
          have HX := Lib.hid (hX.out.trans (by rw [state_stop hm, PR.bind_ok, List.append_nil]))
          have HE7 := Lib.hid (HE6.out.trans (by rw [HX.out, PR.bind_ok]))
          rw [hd]
          clear hm hd hX HX HE6
          go_wp2_with fail
          refine (pass_any R2.out w_close (by decide)).mono ?_
          rintro e w3 k3
          cases h6 : pass w_close T2 with
          | bad r' =>
            rw [h6] at k3
            obtain ⟨⟨b, rfl, hc, hq⟩, o3⟩ := k3
            go_wp2
            refine ⟨rfl, ?_⟩
            rw [HQ.out, HE7.out, h6]
            exact RP.bad hc hq (O2.out.only.trans o3)
          | ok u r6 =>
          rw [h6] at k3
          obtain ⟨⟨v, rfl, rfl⟩, R3, o3⟩ := k3
          have O3 := O2.out.keep o3
          have L3 := L2.out.keep o3
          have MC3 := MC2.out.keep o3 R2.out.ofT (by decide)
          have M3 := M2.out.keep o3 R2.out.ofT (by decide) (by decide) (by decide)
          have hca := HCA.out
          subst hca
          have c0 := L3.cell 0 (v := .string (bs nm)) rfl
          have c1 := L3.cell 1 (v := .int .i64 la) rfl
          have c2' := L3.cell 2 (v := .int .i64 lb) rfl
          have c3 := L3.cell 3 (v := .slice a n c) rfl
          have c4 := L3.cell 4 (v := .slice a2 n2 c2) rfl
          have b0 := O3.cell 0 (v := .string (bs [])) rfl
          have b1 := O3.cell 1 (v := .int .i64 0) rfl
          have b2 := O3.cell 2 (v := .int .i64 0) rfl
          have b3 := O3.cell 3 (v := .slice none 0 0) rfl
          have b4 := O3.cell 4 (v := .slice none 0 0) rfl
          have g0 := O3.free 0
          have g1 := O3.free 1
          have g2 := O3.free 2
          have g3 := O3.free 3
          have g4 := O3.free 4
          have X1 := Lib.hid (O3.set (kdL nm la lb (.slice a n c) (.slice a2 n2 c2)) rfl)
          have XR := Lib.hid (O3.rd 0 (kdL nm la lb (.slice a n c) (.slice a2 n2 c2)) R3)
          have XC := Lib.hid (MC3.keep (sets_only O 0 (kdL nm la lb (.slice a n c) (.slice a2 n2 c2)) _) (ofT_at O3.heap) (by decide))
          have XM := Lib.hid (M3.keep (sets_only O 0 (kdL nm la lb (.slice a n c) (.slice a2 n2 c2)) _) (ofT_at O3.heap) (by decide) (by decide) (by decide))
          have HP := Lib.hid h6
          clear O3 L3 MC3 M3 R3 o3 h6 O2 L2 MC2 M2 R2
          go_wp2
          refine bodyPost_ret (results_agg rfl _ _ O (kdL nm la lb (.slice a n c) (.slice a2 n2 c2)) Tryz.isAgg40 Tryz.sizeOf40 rfl X1.out.heap) rfl ?_
          rw [HQ.out, HE7.out, HP.out]
          exact ⟨⟨_, rfl, _, _, rfl, XC.out, XM.out⟩, XR.out, X1.out.only⟩
        · have hd : decide (hw T2 ∈ [w_close]) = false := by simp [hm]
          have HMM := Lib.hid hm
          rw [hd]
          clear hm hd
          have l4 := L2.out.cell 4 (v := .slice a2 n2 c2) rfl
          have od : Only Nil w2 w2.drew := (Only.refl Nil w2).drew
          have ld := only_cell0 od l4
          have Rd1 := Lib.hid (R2.out.keep od)
          cases hp : pState T2 with
          | bad r' =>
            have HX := Lib.hid (hX.out.trans (by rw [state_bad HMM.out hp]; rfl : _ = PR.bad r'))
            have HP := Lib.hid hp
            have O1 := Lib.hid (O2.out.only.trans (od.nilTo _))
            clear hX hp
            go_wp2_with fail
            refine wp_region_held_drew (S := fun _ => True) (by kernel_rfl) True.intro (fun hHeld => ?_)
            refine wpAnyH_take (i := 0) (v := ?vc0) rfl (by kernel_rfl) (by kernel_rfl) (by kernel_rfl) (fun _ _ _ h => h) (Or.inl ⟨by kernel_rfl, ?hc0⟩) (by assumption) ?rc0
            case hc0 => (intro w hSw; (try dsimp only at hSw); first | (go_simp; done) | (go_simp; with_reducible rfl))
            try simp only [Act.put, List.setIfInBounds_toArray, List.set_cons_zero, List.set_cons_succ]
            refine wpAnyH_take (i := 2) (v := ?vc2) rfl (by kernel_rfl) (by kernel_rfl) (by kernel_rfl) (fun _ _ _ h => h) (Or.inl ⟨by kernel_rfl, ?hc2⟩) (by assumption) ?rc2
            case hc2 => (intro w hSw; (try dsimp only at hSw); first | (go_simp; done) | (go_simp; with_reducible rfl))
            try simp only [Act.put, List.setIfInBounds_toArray, List.set_cons_zero, List.set_cons_succ]
            refine wpAnyH_ready (rs := [1, 3]) (by kernel_rfl) (by simp) ?_
            refine AllReadyH.cons rfl (fun K1 hK1 => ?_) (AllReadyH.cons rfl (fun K2 hK2 => ?_) AllReadyH.nil)
            · skip
              go_simp
              refine hK1.out _ _ ?s101 (fun hHeld1 => ?_)
              case s101 => exact True.intro
              clear hK1 K1
              try simp only [Act.put, List.setIfInBounds_toArray, List.set_cons_zero, List.set_cons_succ]
              refine wpAnyH_ready (rs := [3]) (by kernel_rfl) (by simp) ?_
              refine AllReadyH.cons rfl (fun K3 hK3 => ?_) AllReadyH.nil
              (go_simp; go_at_call 49; refine (state_any Rd1.out).mono ?_; rintro e w3 k3; rw [HP.out] at k3; obtain ⟨⟨b, rfl, hc, hq⟩, o3⟩ := k3; go_wp2_with fail)
              refine ⟨rfl, ?_⟩
              rw [HQ.out, HE6.out, HX.out]
              exact RP.bad hc hq (O1.out.trans o3)
            · skip
              (go_simp; go_at_call 49; refine (state_any Rd1.out).mono ?_; rintro e w3 k3; rw [HP.out] at k3; obtain ⟨⟨b, rfl, hc, hq⟩, o3⟩ := k3; go_wp2_with fail)
              refine ⟨rfl, ?_⟩
              rw [HQ.out, HE6.out, HX.out]
              exact RP.bad hc hq (O1.out.trans o3)
          | ok k r' =>
            have HX := Lib.hid (show Many pState (isW w_close) T' = (Many pState (isW w_close) r').bind fun l r'' => .ok (S ++ [k] ++ l) r'' by
              rw [hX.out, state_more HMM.out hp]
              cases Many pState (isW w_close) r' with
              | ok l s => simp
              | bad s => rfl)
            have HLT := Lib.hid (pState_eats _ _ _ hp)
            have HP := Lib.hid hp
            have O1 := Lib.hid (O2.out.keep (od.nilTo _))
            have L1 := Lib.hid (L2.out.keep (od.nilTo _))
            have MC1 := Lib.hid (MC2.out.keep od (ofT_nil 57 _) (by decide))
            have M1 := Lib.hid (M2.out.keep od (ofT_nil 57 _) (by decide) (by decide) (by decide))
            have KD := Lib.hid (show Calls Tryz.prog 49 #[.pointer (some ⟨R, 0, none⟩)] w2.drew (fun e w3 => ∃ v, e = .returned v ∧ DS k v w3 ∧ Rd w3 R N r' ∧ Only (At R) w2.drew w3) from (state_any Rd1.out).mono (fun e w3 k3 => by rw [HP.out] at k3; obtain ⟨⟨v, h1, h2⟩, h3, h4⟩ := k3; exact ⟨v, h1, h2, h3, h4⟩))
            clear hX hp od
            go_wp2_with fail
            refine wp_region_held_drew (S := fun _ => True) (by kernel_rfl) True.intro (fun hHeld => ?_)
            refine wpAnyH_take (i := 0) (v := ?ve0) rfl (by kernel_rfl) (by kernel_rfl) (by kernel_rfl) (fun _ _ _ h => h) (Or.inl ⟨by kernel_rfl, ?he0⟩) (by assumption) ?re0
            case he0 => (intro w hSw; (try dsimp only at hSw); first | (go_simp; done) | (go_simp; with_reducible rfl))
            try simp only [Act.put, List.setIfInBounds_toArray, List.set_cons_zero, List.set_cons_succ]
            refine wpAnyH_take (i := 2) (v := ?ve2) rfl (by kernel_rfl) (by kernel_rfl) (by kernel_rfl) (fun _ _ _ h => h) (Or.inl ⟨by kernel_rfl, ?he2⟩) (by assumption) ?re2
            case he2 => (intro w hSw; (try dsimp only at hSw); first | (go_simp; done) | (go_simp; with_reducible rfl))
            try simp only [Act.put, List.setIfInBounds_toArray, List.set_cons_zero, List.set_cons_succ]
            refine wpAnyH_ready (rs := [1, 3]) (by kernel_rfl) (by simp) ?_
            refine AllReadyH.cons rfl (fun K1 hK1 => ?_) (AllReadyH.cons rfl (fun K2 hK2 => ?_) AllReadyH.nil)
            · skip
              go_simp
              refine hK1.out _ _ ?s101 (fun hHeld1 => ?_)
              case s101 => exact True.intro
              clear hK1 K1
              try simp only [Act.put, List.setIfInBounds_toArray, List.set_cons_zero, List.set_cons_succ]
              refine wpAnyH_ready (rs := [3]) (by kernel_rfl) (by simp) ?_
              refine AllReadyH.cons rfl (fun K3 hK3 => ?_) AllReadyH.nil
              (go_simp; go_at_call 49; refine KD.out.mono ?_; rintro e w3 ⟨v, rfl, ⟨sl, rfl, hv⟩, R3, o3⟩; have M3 := M1.out.keep o3 Rd1.out.ofT (by decide) (by decide) (by decide); have MC3 := MC1.out.keep o3 Rd1.out.ofT (by decide); obtain ⟨a', c', w5, hr, hM5, hN5, o5⟩ := sta_pushed M3 HN.out hN.out (O1.out.only.trans o3).size (by have := HB.out; omega) k sl hv; obtain ⟨xs, hxs⟩ := M3.own; have hrw := ofT_row hxs; have L3 := L1.out.keep o3; have c3 := L3.cell 4 (v := .slice a2 n2 c2) rfl; have c4 := only_cell0 ((Only.refl Nil w3).alloc (.cells #[.string (bs k.name), sl] 43)) c3; have nr : ¬ RowOf a2 L := not_rowOf hrw L3.heap (by decide); have nrO : ¬ RowOf a2 O := not_rowOf hrw (O1.out.keep o3).heap (by decide); have L5 := L3.keepRow hN.out nr o5; have O5 := (O1.out.keep o3).keepRow hN.out nrO o5; have R5 := R3.keepRow (by rw [HOO.out]; exact hlow) hN.out o5; have f5 := L5.free 4; have c5 := L5.cell 4 (v := .slice a2 n2 c2) rfl; have L6 := Lib.hid (L5.put 4 (.slice a' (n2 + 1) c')); have s6 := ((Only.refl (At L) w5).setCell (p := ⟨L, 4, none⟩) rfl (.slice a' (n2 + 1) c')); have O6 := Lib.hid (O5.other s6 (Ne.symm hOL) L5.new); have R6 := Lib.hid (L5.rdPut (k := 4) (.slice a' (n2 + 1) c') R5); have MC6 := Lib.hid ((MC3.keep o5 hrw (by decide)).keep s6 (ofT_at L5.heap) (by decide)); have M6 := Lib.hid (hM5.out.keep s6 (ofT_at L5.heap) (by decide) (by decide) (by decide)); have hr' := Lib.hid hr; clear hr L3 L5 R3 o3 o5 hv hM5 R5 O5 M3 s6 hrw MC3; go_wp2_with fail)
              refine hK3.out _ _ ?s103 (fun hHeld3 => ?_)
              case s103 => exact True.intro
              clear hK3 K3
              try simp only [Act.put, List.setIfInBounds_toArray, List.set_cons_zero, List.set_cons_succ]
              refine wpAnyH_ready (rs := [4]) (by kernel_rfl) (by simp) ?_
              refine AllReadyH.cons rfl (fun K4 hK4 => ?_) AllReadyH.nil
              go_simp
              refine hK4.out _ _ ?s104 (fun hHeld4 => ?_)
              case s104 => exact True.intro
              clear hK4 K4
              try simp only [Act.put, List.setIfInBounds_toArray, List.set_cons_zero, List.set_cons_succ]
              refine wpAnyH_ready (rs := [5]) (by kernel_rfl) (by simp) ?_
              refine AllReadyH.cons rfl (fun K5 hK5 => ?_) AllReadyH.nil
              (refine step_append_run rfl (.tmp 33) (.tmp 36) 38 rfl _ _ rfl rfl _ _ hr'.out ?_)
              refine hK5.out _ _ ?s105 (fun hHeld5 => ?_)
              case s105 => exact True.intro
              clear hK5 K5
              try simp only [Act.put, List.setIfInBounds_toArray, List.set_cons_zero, List.set_cons_succ]
              refine wpAnyH_ready (rs := [6]) (by kernel_rfl) (by simp) ?_
              refine AllReadyH.cons rfl (fun K6 hK6 => ?_) AllReadyH.nil
              go_simp
              refine hK6.out _ _ ?s106 (fun hHeld6 => ?_)
              case s106 => exact True.intro
              clear hK6 K6
              try simp only [Act.put, List.setIfInBounds_toArray, List.set_cons_zero, List.set_cons_succ]
              refine wpAnyH_ready (rs := [7]) (by kernel_rfl) (by simp) ?_
              refine AllReadyH.cons rfl (fun K7 hK7 => ?_) AllReadyH.nil
              go_simp
              refine hK7.out _ _ ?s107 (fun hHeld7 => ?_)
              case s107 => exact True.intro
              clear hK7 K7
              try simp only [Act.put, List.setIfInBounds_toArray, List.set_cons_zero, List.set_cons_succ]
              refine wpAnyH_done (by kernel_rfl) ?_ _
              go_wp2_with fail
              go_roundw
              case rel => exact ⟨S ++ [k], r', a', n2 + 1, c', by rw [List.length_append, HN.out]; rfl, by have := HB.out; have := HLT.out; omega, O6, L6, MC6, M6, hN5, R6, HX⟩
              case measure => rw [R6.out.left, hleft.out]; exact HLT.out
            · skip
              (go_simp; go_at_call 49; refine KD.out.mono ?_; rintro e w3 ⟨v, rfl, ⟨sl, rfl, hv⟩, R3, o3⟩; have M3 := M1.out.keep o3 Rd1.out.ofT (by decide) (by decide) (by decide); have MC3 := MC1.out.keep o3 Rd1.out.ofT (by decide); obtain ⟨a', c', w5, hr, hM5, hN5, o5⟩ := sta_pushed M3 HN.out hN.out (O1.out.only.trans o3).size (by have := HB.out; omega) k sl hv; obtain ⟨xs, hxs⟩ := M3.own; have hrw := ofT_row hxs; have L3 := L1.out.keep o3; have c3 := L3.cell 4 (v := .slice a2 n2 c2) rfl; have c4 := only_cell0 ((Only.refl Nil w3).alloc (.cells #[.string (bs k.name), sl] 43)) c3; have nr : ¬ RowOf a2 L := not_rowOf hrw L3.heap (by decide); have nrO : ¬ RowOf a2 O := not_rowOf hrw (O1.out.keep o3).heap (by decide); have L5 := L3.keepRow hN.out nr o5; have O5 := (O1.out.keep o3).keepRow hN.out nrO o5; have R5 := R3.keepRow (by rw [HOO.out]; exact hlow) hN.out o5; have f5 := L5.free 4; have c5 := L5.cell 4 (v := .slice a2 n2 c2) rfl; have L6 := Lib.hid (L5.put 4 (.slice a' (n2 + 1) c')); have s6 := ((Only.refl (At L) w5).setCell (p := ⟨L, 4, none⟩) rfl (.slice a' (n2 + 1) c')); have O6 := Lib.hid (O5.other s6 (Ne.symm hOL) L5.new); have R6 := Lib.hid (L5.rdPut (k := 4) (.slice a' (n2 + 1) c') R5); have MC6 := Lib.hid ((MC3.keep o5 hrw (by decide)).keep s6 (ofT_at L5.heap) (by decide)); have M6 := Lib.hid (hM5.out.keep s6 (ofT_at L5.heap) (by decide) (by decide) (by decide)); have hr' := Lib.hid hr; clear hr L3 L5 R3 o3 o5 hv hM5 R5 O5 M3 s6 hrw MC3; go_wp2_with fail)
              refine hK2.out _ _ ?s102 (fun hHeld2 => ?_)
              case s102 => exact True.intro
              clear hK2 K2
              try simp only [Act.put, List.setIfInBounds_toArray, List.set_cons_zero, List.set_cons_succ]
              refine wpAnyH_ready (rs := [1, 4]) (by kernel_rfl) (by simp) ?_
              refine AllReadyH.cons rfl (fun K8 hK8 => ?_) (AllReadyH.cons rfl (fun K9 hK9 => ?_) AllReadyH.nil)
              · skip
                go_simp
                refine hK8.out _ _ ?s108 (fun hHeld8 => ?_)
                case s108 => exact True.intro
                clear hK8 K8
                try simp only [Act.put, List.setIfInBounds_toArray, List.set_cons_zero, List.set_cons_succ]
                refine wpAnyH_ready (rs := [4]) (by kernel_rfl) (by simp) ?_
                refine AllReadyH.cons rfl (fun K10 hK10 => ?_) AllReadyH.nil
                go_simp
                refine hK10.out _ _ ?s110 (fun hHeld10 => ?_)
                case s110 => exact True.intro
                clear hK10 K10
                try simp only [Act.put, List.setIfInBounds_toArray, List.set_cons_zero, List.set_cons_succ]
                refine wpAnyH_ready (rs := [5]) (by kernel_rfl) (by simp) ?_
                refine AllReadyH.cons rfl (fun K11 hK11 => ?_) AllReadyH.nil
                (refine step_append_run rfl (.tmp 33) (.tmp 36) 38 rfl _ _ rfl rfl _ _ hr'.out ?_)
                refine hK11.out _ _ ?s111 (fun hHeld11 => ?_)
                case s111 => exact True.intro
                clear hK11 K11
                try simp only [Act.put, List.setIfInBounds_toArray, List.set_cons_zero, List.set_cons_succ]
                refine wpAnyH_ready (rs := [6]) (by kernel_rfl) (by simp) ?_
                refine AllReadyH.cons rfl (fun K12 hK12 => ?_) AllReadyH.nil
                go_simp
                refine hK12.out _ _ ?s112 (fun hHeld12 => ?_)
                case s112 => exact True.intro
                clear hK12 K12
                try simp only [Act.put, List.setIfInBounds_toArray, List.set_cons_zero, List.set_cons_succ]
                refine wpAnyH_ready (rs := [7]) (by kernel_rfl) (by simp) ?_
                refine AllReadyH.cons rfl (fun K13 hK13 => ?_) AllReadyH.nil
                go_simp
                refine hK13.out _ _ ?s113 (fun hHeld13 => ?_)
                case s113 => exact True.intro
                clear hK13 K13
                try simp only [Act.put, List.setIfInBounds_toArray, List.set_cons_zero, List.set_cons_succ]
                refine wpAnyH_done (by kernel_rfl) ?_ _
                go_wp2_with fail
                go_roundw
                case rel => exact ⟨S ++ [k], r', a', n2 + 1, c', by rw [List.length_append, HN.out]; rfl, by have := HB.out; have := HLT.out; omega, O6, L6, MC6, M6, hN5, R6, HX⟩
                case measure => rw [R6.out.left, hleft.out]; exact HLT.out
              · skip
                go_simp
                refine hK9.out _ _ ?s109 (fun hHeld9 => ?_)
                case s109 => exact True.intro
                clear hK9 K9
                try simp only [Act.put, List.setIfInBounds_toArray, List.set_cons_zero, List.set_cons_succ]
                refine wpAnyH_ready (rs := [1]) (by kernel_rfl) (by simp) ?_
                refine AllReadyH.cons rfl (fun K14 hK14 => ?_) AllReadyH.nil
                go_simp
                refine hK14.out _ _ ?s114 (fun hHeld14 => ?_)
                case s114 => exact True.intro
                clear hK14 K14
                try simp only [Act.put, List.setIfInBounds_toArray, List.set_cons_zero, List.set_cons_succ]
                refine wpAnyH_ready (rs := [5]) (by kernel_rfl) (by simp) ?_
                refine AllReadyH.cons rfl (fun K15 hK15 => ?_) AllReadyH.nil
                (refine step_append_run rfl (.tmp 33) (.tmp 36) 38 rfl _ _ rfl rfl _ _ hr'.out ?_)
                refine hK15.out _ _ ?s115 (fun hHeld15 => ?_)
                case s115 => exact True.intro
                clear hK15 K15
                try simp only [Act.put, List.setIfInBounds_toArray, List.set_cons_zero, List.set_cons_succ]
                refine wpAnyH_ready (rs := [6]) (by kernel_rfl) (by simp) ?_
                refine AllReadyH.cons rfl (fun K16 hK16 => ?_) AllReadyH.nil
                go_simp
                refine hK16.out _ _ ?s116 (fun hHeld16 => ?_)
                case s116 => exact True.intro
                clear hK16 K16
                try simp only [Act.put, List.setIfInBounds_toArray, List.set_cons_zero, List.set_cons_succ]
                refine wpAnyH_ready (rs := [7]) (by kernel_rfl) (by simp) ?_
                refine AllReadyH.cons rfl (fun K17 hK17 => ?_) AllReadyH.nil
                go_simp
                refine hK17.out _ _ ?s117 (fun hHeld17 => ?_)
                case s117 => exact True.intro
                clear hK17 K17
                try simp only [Act.put, List.setIfInBounds_toArray, List.set_cons_zero, List.set_cons_succ]
                refine wpAnyH_done (by kernel_rfl) ?_ _
                go_wp2_with fail
                go_roundw
                case rel => exact ⟨S ++ [k], r', a', n2 + 1, c', by rw [List.length_append, HN.out]; rfl, by have := HB.out; have := HLT.out; omega, O6, L6, MC6, M6, hN5, R6, HX⟩
                case measure => rw [R6.out.left, hleft.out]; exact HLT.out
end Go.Proofs.YtnkokonkbklelaaGreatDoor.Ps

/- parse: a whole program, read. -/
set_option linter.unusedVariables false
namespace Go.Proofs.YtnkokonkbklelaaGreatDoor.Ps
open Go.RowKit Go.Proofs.YtnkokonkbklelaaGreatDoor Lx

def DP (x : List Kd) (v : Value) (w : World) : Prop := ∃ sl, v = .agg #[sl] ∧ MKds w sl x
theorem mkds_slice {w : World} {v : Value} {E : List Kd} (h : MKds w v E) : ∃ a n c, v = .slice a n c := by
  obtain ⟨Z, _, h1, _⟩ := h
  obtain ⟨a, c, h1⟩ := own_slice_n h1
  exact ⟨a, _, c, h1⟩
theorem pProg_bad {x : Tok × Nat} {T r : Tks} (h : pKind (x :: T) = .bad r) : pProg (x :: T) = .bad r := by rw [pProg_eq, if_neg (by simp), h]; rfl
theorem pProg_more {x : Tok × Nat} {T r : Tks} {k : Kd} (h : pKind (x :: T) = .ok k r) : pProg (x :: T) = (pProg r).bind fun l r' => .ok (k :: l) r' := by rw [pProg_eq, if_neg (by simp), h]; rfl

set_option linter.unusedSimpArgs false in
set_option maxRecDepth 100000 in
set_option maxHeartbeats 8000000 in
theorem program_any {w : World} {R N : Nat} {T : Tks} (h : Rd w R N T) :
    Calls Tryz.prog 13 #[.pointer (some ⟨R, 0, none⟩)] w (RP DP w R N (pProg T)) := by
  obtain ⟨Q, hQ⟩ : ∃ Q : Ending → World → Prop, Q = RP DP w R N (pProg T) := ⟨_, rfl⟩
  rw [← hQ]
  have HQ := Lib.hid hQ
  have hlow := h.lt
  have hfew := h.few
  obtain ⟨wA, hwA, HA, oA⟩ := box2 (Only.refl (At R) w) h.lt [.slice none 0 0] 25
  obtain ⟨wB, hwB, HB, oB⟩ := box2 HA.only HA.low [.slice none 0 0] 25
  have hwB' : wB = (w.alloc (.cells #[.slice none 0 0] 25)).alloc (.cells #[.slice none 0 0] 25) := by rw [hwB, hwA]
  have HO := Lib.hid (HA.keep (oB.nilTo _))
  have HL := Lib.hid HB
  have HR := Lib.hid (h.keep (oA.trans oB))
  have hszA : wA.heap.size = w.heap.size + 1 := by rw [hwA]; simp
  have hOL : w.heap.size ≠ wA.heap.size := by rw [hszA]; omega
  rw [hszA] at HL hOL HB
  clear hwA hwB HA HB h hQ hszA
  go_enter Tryz.func13, Tryz.ntmps13
  go_wp2
  change Code.wp _ _ _ _ ((w.alloc (.cells #[.slice none 0 0] 25)).alloc (.cells #[.slice none 0 0] 25))
  rw [← hwB']; clear hwB' oA oB
  generalize hLL : w.heap.size + 1 = L at *
  generalize hOO : w.heap.size = O at *
  have HOO := Lib.hid hOO
  clear hLL hOO
  go_loopw [] (fun wr => ∃ (X : List Kd) (T' : Tks) (a : Option Addr) (n c : Nat), X.length = n ∧ n + T'.length ≤ 20000 ∧ Hid (Own w R O [.slice none 0 0] 25 wr) ∧ Hid (Own w R L [.slice a n c] 25 wr) ∧ Hid (MKds wr (.slice a n c) X) ∧ Hid (New w (.slice a n c)) ∧ Hid (Rd wr R N T') ∧
      Hid (pProg T = (pProg T').bind fun l r' => .ok (X ++ l) r'))
    (fun wr => left R wr)
  case atStart =>
    refine ⟨[], T, none, 0, 0, rfl, by omega, HO, HL, Lib.hid ⟨[], rfl, ⟨rfl, .inl ⟨rfl, rfl⟩⟩, fun x hx => by cases hx⟩, Lib.hid (new_none w), HR, Lib.hid ?_⟩
    cases pProg T <;> rfl
  case round =>
    obtain ⟨X, T', a, n, c, hn, hb, hO', hL', hM, hN, hR', hX⟩ := hrel
    clear HR HO HL hfew
    have HN := Lib.hid hn
    have HB := Lib.hid hb
    clear hn hb
    have hR2 := hR'.out
    obtain ⟨ra, rn, rc, hrb, hrn, hrc, hrt⟩ := hR2
    have r0 := cell2_0 hrb
    clear hrb hrt hrc
    have l0 := hL'.out.cell 0 (v := .slice a n c) rfl
    cases T' with
    | nil =>
      have hrn2 : rn = 0 := hrn.symm
      subst hrn2
      have HX := Lib.hid (hX.out.trans (by rw [pProg_nil, PR.bind_ok, List.append_nil]))
      have b0 := hO'.out.cell 0 (v := .slice none 0 0) rfl
      have g0 := hO'.out.free 0
      have X1 := Lib.hid (hO'.out.set [.slice a n c] rfl)
      have XR := Lib.hid (hO'.out.rd 0 [.slice a n c] hR'.out)
      have XM := Lib.hid (hM.out.keep (sets_only O 0 [.slice a n c] _) (ofT_at hO'.out.heap) (by decide) (by decide) (by decide) (by decide) (by decide))
      clear hrn hX
      go_wp2
      refine bodyPost_ret (results_agg rfl _ _ O [.slice a n c] Tryz.isAgg25 Tryz.sizeOf25 rfl X1.out.heap) rfl ?_
      rw [HQ.out, HX.out]
      exact ⟨⟨_, rfl, _, rfl, XM.out⟩, XR.out, X1.out.only⟩
    | cons x T'' =>
      have hpos : (0 : Int) < (rn : Int) := by have : rn = T''.length + 1 := hrn.symm; omega
      have hpos2 : 0 < rn := by omega
      have hleft := Lib.hid hR'.out.left
      clear hrn
      have od : Only Nil wr wr.drew := (Only.refl Nil wr).drew
      have Rd1 := Lib.hid (hR'.out.keep od)
      have ld := only_cell0 od l0
      cases hp : pKind (x :: T'') with
      | bad r' =>
        have HX := Lib.hid (hX.out.trans (by rw [pProg_bad hp]; rfl : _ = PR.bad r'))
        have HP := Lib.hid hp
        have O1 := Lib.hid (hO'.out.only.trans (od.nilTo _))
        clear hX hp
        go_wp2_with fail
        refine wp_region_held_drew (S := fun _ => True) (by kernel_rfl) True.intro (fun hHeld => ?_)
        refine wpAnyH_take (i := 0) (v := ?vb0) rfl (by kernel_rfl) (by kernel_rfl) (by kernel_rfl) (fun _ _ _ h => h) (Or.inl ⟨by kernel_rfl, ?hb0⟩) (by assumption) ?rb0
        case hb0 => (intro w hSw; (try dsimp only at hSw); first | (go_simp; done) | (go_simp; with_reducible rfl))
        try simp only [Act.put, List.setIfInBounds_toArray, List.set_cons_zero, List.set_cons_succ]
        refine wpAnyH_take (i := 2) (v := ?vb2) rfl (by kernel_rfl) (by kernel_rfl) (by kernel_rfl) (fun _ _ _ h => h) (Or.inl ⟨by kernel_rfl, ?hb2⟩) (by assumption) ?rb2
        case hb2 => (intro w hSw; (try dsimp only at hSw); first | (go_simp; done) | (go_simp; with_reducible rfl))
        try simp only [Act.put, List.setIfInBounds_toArray, List.set_cons_zero, List.set_cons_succ]
        refine wpAnyH_ready (rs := [1, 3]) (by kernel_rfl) (by simp) ?_
        refine AllReadyH.cons rfl (fun K1 hK1 => ?_) (AllReadyH.cons rfl (fun K2 hK2 => ?_) AllReadyH.nil)
        · skip
          go_simp
          refine hK1.out _ _ ?s101 (fun hHeld1 => ?_)
          case s101 => exact True.intro
          clear hK1 K1
          try simp only [Act.put, List.setIfInBounds_toArray, List.set_cons_zero, List.set_cons_succ]
          refine wpAnyH_ready (rs := [3]) (by kernel_rfl) (by simp) ?_
          refine AllReadyH.cons rfl (fun K3 hK3 => ?_) AllReadyH.nil
          (go_simp; go_at_call 24; refine (kind_any Rd1.out).mono ?_; rintro e w3 k3; rw [HP.out] at k3; obtain ⟨⟨b, rfl, hc, hq⟩, o3⟩ := k3; go_wp2_with fail)
          refine ⟨rfl, ?_⟩
          rw [HQ.out, HX.out]
          exact RP.bad hc hq (O1.out.trans o3)
        · skip
          (go_simp; go_at_call 24; refine (kind_any Rd1.out).mono ?_; rintro e w3 k3; rw [HP.out] at k3; obtain ⟨⟨b, rfl, hc, hq⟩, o3⟩ := k3; go_wp2_with fail)
          refine ⟨rfl, ?_⟩
          rw [HQ.out, HX.out]
          exact RP.bad hc hq (O1.out.trans o3)
      | ok k r' =>
        have HX := Lib.hid (show pProg T = (pProg r').bind fun l r'' => .ok (X ++ [k] ++ l) r'' by
          rw [hX.out, pProg_more hp]
          cases pProg r' with
          | ok l s => simp
          | bad s => rfl)
        have HLT := Lib.hid (pKind_eats _ _ _ hp)
        have HP := Lib.hid hp
        have O1 := Lib.hid (hO'.out.keep (od.nilTo _))
        have L1 := Lib.hid (hL'.out.keep (od.nilTo _))
        have M1 := Lib.hid (hM.out.keep od (ofT_nil 57 _) (by decide) (by decide) (by decide) (by decide) (by decide))
        have KD := Lib.hid (show Calls Tryz.prog 24 #[.pointer (some ⟨R, 0, none⟩)] wr.drew (fun e w3 => ∃ v, e = .returned v ∧ DK k v w3 ∧ Rd w3 R N r' ∧ Only (At R) wr.drew w3) from (kind_any Rd1.out).mono (fun e w3 k3 => by rw [HP.out] at k3; obtain ⟨⟨v, h1, h2⟩, h3, h4⟩ := k3; exact ⟨v, h1, h2, h3, h4⟩))
        clear hX hp od
        go_wp2_with fail
        refine wp_region_held_drew (S := fun _ => True) (by kernel_rfl) True.intro (fun hHeld => ?_)
        refine wpAnyH_take (i := 0) (v := ?vc0) rfl (by kernel_rfl) (by kernel_rfl) (by kernel_rfl) (fun _ _ _ h => h) (Or.inl ⟨by kernel_rfl, ?hc0⟩) (by assumption) ?rc0
        case hc0 => (intro w hSw; (try dsimp only at hSw); first | (go_simp; done) | (go_simp; with_reducible rfl))
        try simp only [Act.put, List.setIfInBounds_toArray, List.set_cons_zero, List.set_cons_succ]
        refine wpAnyH_take (i := 2) (v := ?vc2) rfl (by kernel_rfl) (by kernel_rfl) (by kernel_rfl) (fun _ _ _ h => h) (Or.inl ⟨by kernel_rfl, ?hc2⟩) (by assumption) ?rc2
        case hc2 => (intro w hSw; (try dsimp only at hSw); first | (go_simp; done) | (go_simp; with_reducible rfl))
        try simp only [Act.put, List.setIfInBounds_toArray, List.set_cons_zero, List.set_cons_succ]
        refine wpAnyH_ready (rs := [1, 3]) (by kernel_rfl) (by simp) ?_
        refine AllReadyH.cons rfl (fun K1 hK1 => ?_) (AllReadyH.cons rfl (fun K2 hK2 => ?_) AllReadyH.nil)
        · skip
          go_simp
          refine hK1.out _ _ ?s101 (fun hHeld1 => ?_)
          case s101 => exact True.intro
          clear hK1 K1
          try simp only [Act.put, List.setIfInBounds_toArray, List.set_cons_zero, List.set_cons_succ]
          refine wpAnyH_ready (rs := [3]) (by kernel_rfl) (by simp) ?_
          refine AllReadyH.cons rfl (fun K3 hK3 => ?_) AllReadyH.nil
          (go_simp; go_at_call 24; refine KD.out.mono ?_; rintro e w3 ⟨v, rfl, ⟨s1, s2, rfl, hv1, hv2⟩, R3, o3⟩; obtain ⟨a', c', w5, hr, hM5, hN5, o5⟩ := kd_pushed (M1.out.keep o3 Rd1.out.ofT (by decide) (by decide) (by decide) (by decide) (by decide)) HN.out hN.out (O1.out.only.trans o3).size (by have := HB.out; omega) k s1 s2 hv1 hv2; have L3 := L1.out.keep o3; have c3 := L3.cell 0 (v := .slice a n c) rfl; have c4 := only_cell0 ((Only.refl Nil w3).alloc (.cells #[.string (bs k.name), .int .i64 k.limit, .int .i64 k.within, s1, s2] 40)) c3; obtain ⟨xs, hxs⟩ := (M1.out.keep o3 Rd1.out.ofT (by decide) (by decide) (by decide) (by decide) (by decide)).own; have hrw := ofT_row hxs; have nr : ¬ RowOf a L := not_rowOf hrw L3.heap (by decide); have nrO : ¬ RowOf a O := not_rowOf hrw (O1.out.keep o3).heap (by decide); have L5 := L3.keepRow hN.out nr o5; have O5 := Lib.hid ((O1.out.keep o3).keepRow hN.out nrO o5); have R5 := Lib.hid (R3.keepRow (by rw [HOO.out]; exact hlow) hN.out o5); have f5 := L5.free 0; have c5 := L5.cell 0 (v := .slice a n c) rfl; have L6 := Lib.hid (L5.put 0 (.slice a' (n + 1) c')); have O6 := Lib.hid (O5.out.other ((Only.refl (At L) w5).setCell (p := ⟨L, 0, none⟩) rfl (.slice a' (n + 1) c')) (Ne.symm hOL) L5.new); have R6 := Lib.hid (L5.rdPut (k := 0) (.slice a' (n + 1) c') R5.out); have M6 := Lib.hid (hM5.out.keep ((Only.refl (At L) w5).setCell (p := ⟨L, 0, none⟩) rfl (.slice a' (n + 1) c')) (ofT_at L5.heap) (by decide) (by decide) (by decide) (by decide) (by decide)); have hr' := Lib.hid hr; clear hr L3 L5 R3 o3 o5 hv1 hv2 hM5 R5 O5; go_wp2_with fail)
          refine hK3.out _ _ ?s103 (fun hHeld3 => ?_)
          case s103 => exact True.intro
          clear hK3 K3
          try simp only [Act.put, List.setIfInBounds_toArray, List.set_cons_zero, List.set_cons_succ]
          refine wpAnyH_ready (rs := [4]) (by kernel_rfl) (by simp) ?_
          refine AllReadyH.cons rfl (fun K4 hK4 => ?_) AllReadyH.nil
          go_simp
          refine hK4.out _ _ ?s104 (fun hHeld4 => ?_)
          case s104 => exact True.intro
          clear hK4 K4
          try simp only [Act.put, List.setIfInBounds_toArray, List.set_cons_zero, List.set_cons_succ]
          refine wpAnyH_ready (rs := [5]) (by kernel_rfl) (by simp) ?_
          refine AllReadyH.cons rfl (fun K5 hK5 => ?_) AllReadyH.nil
          (refine step_append_run rfl (.tmp 11) (.tmp 14) 23 rfl _ _ rfl rfl _ _ hr'.out ?_)
          refine hK5.out _ _ ?s105 (fun hHeld5 => ?_)
          case s105 => exact True.intro
          clear hK5 K5
          try simp only [Act.put, List.setIfInBounds_toArray, List.set_cons_zero, List.set_cons_succ]
          refine wpAnyH_ready (rs := [6]) (by kernel_rfl) (by simp) ?_
          refine AllReadyH.cons rfl (fun K6 hK6 => ?_) AllReadyH.nil
          go_simp
          refine hK6.out _ _ ?s106 (fun hHeld6 => ?_)
          case s106 => exact True.intro
          clear hK6 K6
          try simp only [Act.put, List.setIfInBounds_toArray, List.set_cons_zero, List.set_cons_succ]
          refine wpAnyH_ready (rs := [7]) (by kernel_rfl) (by simp) ?_
          refine AllReadyH.cons rfl (fun K7 hK7 => ?_) AllReadyH.nil
          go_simp
          refine hK7.out _ _ ?s107 (fun hHeld7 => ?_)
          case s107 => exact True.intro
          clear hK7 K7
          try simp only [Act.put, List.setIfInBounds_toArray, List.set_cons_zero, List.set_cons_succ]
          refine wpAnyH_done (by kernel_rfl) ?_ _
          go_wp2_with fail
          go_roundw
          case rel => exact ⟨X ++ [k], r', a', n + 1, c', by rw [List.length_append, HN.out]; rfl, by have := HB.out; have := HLT.out; omega, O6, L6, M6, hN5, R6, HX⟩
          case measure => rw [R6.out.left, hleft.out]; exact HLT.out
        · skip
          (go_simp; go_at_call 24; refine KD.out.mono ?_; rintro e w3 ⟨v, rfl, ⟨s1, s2, rfl, hv1, hv2⟩, R3, o3⟩; obtain ⟨a', c', w5, hr, hM5, hN5, o5⟩ := kd_pushed (M1.out.keep o3 Rd1.out.ofT (by decide) (by decide) (by decide) (by decide) (by decide)) HN.out hN.out (O1.out.only.trans o3).size (by have := HB.out; omega) k s1 s2 hv1 hv2; have L3 := L1.out.keep o3; have c3 := L3.cell 0 (v := .slice a n c) rfl; have c4 := only_cell0 ((Only.refl Nil w3).alloc (.cells #[.string (bs k.name), .int .i64 k.limit, .int .i64 k.within, s1, s2] 40)) c3; obtain ⟨xs, hxs⟩ := (M1.out.keep o3 Rd1.out.ofT (by decide) (by decide) (by decide) (by decide) (by decide)).own; have hrw := ofT_row hxs; have nr : ¬ RowOf a L := not_rowOf hrw L3.heap (by decide); have nrO : ¬ RowOf a O := not_rowOf hrw (O1.out.keep o3).heap (by decide); have L5 := L3.keepRow hN.out nr o5; have O5 := Lib.hid ((O1.out.keep o3).keepRow hN.out nrO o5); have R5 := Lib.hid (R3.keepRow (by rw [HOO.out]; exact hlow) hN.out o5); have f5 := L5.free 0; have c5 := L5.cell 0 (v := .slice a n c) rfl; have L6 := Lib.hid (L5.put 0 (.slice a' (n + 1) c')); have O6 := Lib.hid (O5.out.other ((Only.refl (At L) w5).setCell (p := ⟨L, 0, none⟩) rfl (.slice a' (n + 1) c')) (Ne.symm hOL) L5.new); have R6 := Lib.hid (L5.rdPut (k := 0) (.slice a' (n + 1) c') R5.out); have M6 := Lib.hid (hM5.out.keep ((Only.refl (At L) w5).setCell (p := ⟨L, 0, none⟩) rfl (.slice a' (n + 1) c')) (ofT_at L5.heap) (by decide) (by decide) (by decide) (by decide) (by decide)); have hr' := Lib.hid hr; clear hr L3 L5 R3 o3 o5 hv1 hv2 hM5 R5 O5; go_wp2_with fail)
          refine hK2.out _ _ ?s102 (fun hHeld2 => ?_)
          case s102 => exact True.intro
          clear hK2 K2
          try simp only [Act.put, List.setIfInBounds_toArray, List.set_cons_zero, List.set_cons_succ]
          refine wpAnyH_ready (rs := [1, 4]) (by kernel_rfl) (by simp) ?_
          refine AllReadyH.cons rfl (fun K8 hK8 => ?_) (AllReadyH.cons rfl (fun K9 hK9 => ?_) AllReadyH.nil)
          · skip
            go_simp
            refine hK8.out _ _ ?s108 (fun hHeld8 => ?_)
            case s108 => exact True.intro
            clear hK8 K8
            try simp only [Act.put, List.setIfInBounds_toArray, List.set_cons_zero, List.set_cons_succ]
            refine wpAnyH_ready (rs := [4]) (by kernel_rfl) (by simp) ?_
            refine AllReadyH.cons rfl (fun K10 hK10 => ?_) AllReadyH.nil
            go_simp
            refine hK10.out _ _ ?s110 (fun hHeld10 => ?_)
            case s110 => exact True.intro
            clear hK10 K10
            try simp only [Act.put, List.setIfInBounds_toArray, List.set_cons_zero, List.set_cons_succ]
            refine wpAnyH_ready (rs := [5]) (by kernel_rfl) (by simp) ?_
            refine AllReadyH.cons rfl (fun K11 hK11 => ?_) AllReadyH.nil
            (refine step_append_run rfl (.tmp 11) (.tmp 14) 23 rfl _ _ rfl rfl _ _ hr'.out ?_)
            refine hK11.out _ _ ?s111 (fun hHeld11 => ?_)
            case s111 => exact True.intro
            clear hK11 K11
            try simp only [Act.put, List.setIfInBounds_toArray, List.set_cons_zero, List.set_cons_succ]
            refine wpAnyH_ready (rs := [6]) (by kernel_rfl) (by simp) ?_
            refine AllReadyH.cons rfl (fun K12 hK12 => ?_) AllReadyH.nil
            go_simp
            refine hK12.out _ _ ?s112 (fun hHeld12 => ?_)
            case s112 => exact True.intro
            clear hK12 K12
            try simp only [Act.put, List.setIfInBounds_toArray, List.set_cons_zero, List.set_cons_succ]
            refine wpAnyH_ready (rs := [7]) (by kernel_rfl) (by simp) ?_
            refine AllReadyH.cons rfl (fun K13 hK13 => ?_) AllReadyH.nil
            go_simp
            refine hK13.out _ _ ?s113 (fun hHeld13 => ?_)
            case s113 => exact True.intro
            clear hK13 K13
            try simp only [Act.put, List.setIfInBounds_toArray, List.set_cons_zero, List.set_cons_succ]
            refine wpAnyH_done (by kernel_rfl) ?_ _
            go_wp2_with fail
            go_roundw
            case rel => exact ⟨X ++ [k], r', a', n + 1, c', by rw [List.length_append, HN.out]; rfl, by have := HB.out; have := HLT.out; omega, O6, L6, M6, hN5, R6, HX⟩
            case measure => rw [R6.out.left, hleft.out]; exact HLT.out
          · skip
            go_simp
            refine hK9.out _ _ ?s109 (fun hHeld9 => ?_)
            case s109 => exact True.intro
            clear hK9 K9
            try simp only [Act.put, List.setIfInBounds_toArray, List.set_cons_zero, List.set_cons_succ]
            refine wpAnyH_ready (rs := [1]) (by kernel_rfl) (by simp) ?_
            refine AllReadyH.cons rfl (fun K14 hK14 => ?_) AllReadyH.nil
            go_simp
            refine hK14.out _ _ ?s114 (fun hHeld14 => ?_)
            case s114 => exact True.intro
            clear hK14 K14
            try simp only [Act.put, List.setIfInBounds_toArray, List.set_cons_zero, List.set_cons_succ]
            refine wpAnyH_ready (rs := [5]) (by kernel_rfl) (by simp) ?_
            refine AllReadyH.cons rfl (fun K15 hK15 => ?_) AllReadyH.nil
            (refine step_append_run rfl (.tmp 11) (.tmp 14) 23 rfl _ _ rfl rfl _ _ hr'.out ?_)
            refine hK15.out _ _ ?s115 (fun hHeld15 => ?_)
            case s115 => exact True.intro
            clear hK15 K15
            try simp only [Act.put, List.setIfInBounds_toArray, List.set_cons_zero, List.set_cons_succ]
            refine wpAnyH_ready (rs := [6]) (by kernel_rfl) (by simp) ?_
            refine AllReadyH.cons rfl (fun K16 hK16 => ?_) AllReadyH.nil
            go_simp
            refine hK16.out _ _ ?s116 (fun hHeld16 => ?_)
            case s116 => exact True.intro
            clear hK16 K16
            try simp only [Act.put, List.setIfInBounds_toArray, List.set_cons_zero, List.set_cons_succ]
            refine wpAnyH_ready (rs := [7]) (by kernel_rfl) (by simp) ?_
            refine AllReadyH.cons rfl (fun K17 hK17 => ?_) AllReadyH.nil
            go_simp
            refine hK17.out _ _ ?s117 (fun hHeld17 => ?_)
            case s117 => exact True.intro
            clear hK17 K17
            try simp only [Act.put, List.setIfInBounds_toArray, List.set_cons_zero, List.set_cons_succ]
            refine wpAnyH_done (by kernel_rfl) ?_ _
            go_wp2_with fail
            go_roundw
            case rel => exact ⟨X ++ [k], r', a', n + 1, c', by rw [List.length_append, HN.out]; rfl, by have := HB.out; have := HLT.out; omega, O6, L6, M6, hN5, R6, HX⟩
            case measure => rw [R6.out.left, hleft.out]; exact HLT.out
end Go.Proofs.YtnkokonkbklelaaGreatDoor.Ps

/- parse: Program's deferred function: what was thrown is caught. -/
set_option linter.unusedVariables false
namespace Go.Proofs.YtnkokonkbklelaaGreatDoor.Ps
open Go.RowKit Go.Proofs.YtnkokonkbklelaaGreatDoor Lx

def At2 (a b : Nat) (q : Nat) : Prop := q = a ∨ q = b
theorem catch_none (p q : Addr) (w : World) :
    CallsD Tryz.prog 12 #[.pointer (some p), .pointer (some q)] .returning w fun e u' w' => e = .returned (.tuple #[]) ∧ u' = .returning ∧ w' = w := by
  have hz : ∀ w, (binOp .neq 20 .nilIface .nilIface).run Tryz.prog w = .ok (.bool false) w := fun w => by kernel_rfl
  refine callsD_of_wpS Tryz.func12 rfl fun c₀ cs hu => ?_
  apply wpS_seq
  apply wpS_region
  simp [wpOpsS, go_sem, recoverD, hu, Tryz.ntmps12, Exit.thenS]
  apply wpS_seq
  apply wpS_region
  simp [wpOpsS, go_sem, hz, Exit.thenS]
  refine wpS_cond (t := false) (by simp [Act.eval, Array.replicate]) ?_
  simp only [Bool.false_eq_true, if_false]
  refine wpS_of_wp (wp_skip ?_)
  cases c₀
  simp_all [bodyPostS, results, Tryz.results12]
theorem ta_fault (v : Value) (w : World) : (Instr.typeAssert (.iface 54 v) 20 54 false).run Tryz.prog w = .ok v w := by kernel_rfl
theorem mi_fault (v : Value) (w : World) : (Instr.makeInterface 54 v).run Tryz.prog w = .ok (.iface 54 v) w := by kernel_rfl
set_option maxRecDepth 100000 in
theorem catch_some (B1 B2 b : Nat) (x y : Value) (older : List PanicEntry) (w : World) (h1 : w.heap[B1]? = some (.cells #[x] 25 (0, 0))) (h2 : w.heap[B2]? = some (.cells #[y] 27 (0, 0))) (hne : B1 ≠ B2) :
    CallsD Tryz.prog 12 #[.pointer (some ⟨B1, 0, none⟩), .pointer (some ⟨B2, 0, none⟩)] (.panicking ({ v := .iface 54 (.pointer (some ⟨b, 0, none⟩)), recovered := false } :: older)) w fun e u' w' =>
      e = .returned (.tuple #[]) ∧ u' = .panicking ({ v := .iface 54 (.pointer (some ⟨b, 0, none⟩)), recovered := true } :: older) ∧
      w'.heap[B1]? = some (.cells #[.slice none 0 0] 25 (0, 0)) ∧ w'.heap[B2]? = some (.cells #[.iface 54 (.pointer (some ⟨b, 0, none⟩))] 27 (0, 0)) ∧ Only (At2 B1 B2) w w' := by
  have hz : ∀ w, (binOp .neq 20 (.iface 54 (.pointer (some ⟨b, 0, none⟩))) .nilIface).run Tryz.prog w = .ok (.bool true) w := fun w => by kernel_rfl
  refine callsD_of_wpS Tryz.func12 rfl fun c₀ cs hu => ?_
  apply wpS_seq
  apply wpS_region
  simp [wpOpsS, go_sem, recoverD, hu, Tryz.ntmps12, Exit.thenS]
  apply wpS_seq
  apply wpS_region
  simp [wpOpsS, go_sem, hz, Exit.thenS]
  refine wpS_cond (t := true) (by simp [Act.eval, Array.replicate]) ?_
  simp only [if_true]
  refine wpS_of_wp ?_
  have e0 := ta_fault (.pointer (some ⟨b, 0, none⟩))
  have c1 : w.cell? ⟨B1, 0, none⟩ = some x := by simp [World.cell?, h1]
  have c2 : w.cell? ⟨B2, 0, none⟩ = some y := by simp [World.cell?, h2]
  have f1 := frozen_blk h1 0
  have f2 := frozen_blk h2 0
  have lt1 := lt_of_block h1
  have lt2 := lt_of_block h2
  change Code.wp _ _ _ { tmps := #[.pointer (some ⟨B1, 0, none⟩), .pointer (some ⟨B2, 0, none⟩), .iface 54 (.pointer (some ⟨b, 0, none⟩)), .iface 54 (.pointer (some ⟨b, 0, none⟩)), .iface 54 (.pointer (some ⟨b, 0, none⟩)), .bool true, undef, undef, undef, undef], defers := [] } w
  have fin := Lib.hid (fun (w1 : World) (e : w1 = (w.drew.setCell ⟨B1, 0, none⟩ (.slice none 0 0)).setCell ⟨B2, 0, none⟩ (.iface 54 (.pointer (some ⟨b, 0, none⟩)))) => show w1.heap[B1]? = some (.cells #[.slice none 0 0] 25 (0, 0)) ∧ w1.heap[B2]? = some (.cells #[.iface 54 (.pointer (some ⟨b, 0, none⟩))] 27 (0, 0)) ∧ Only (At2 B1 B2) w w1 from by
    subst e
    have g1 : (w.drew.setCell ⟨B1, 0, none⟩ (.slice none 0 0)).heap[B1]? = some (.cells #[.slice none 0 0] 25 (0, 0)) := heap_setCell_self (o := 0) _ (w := w.drew) h1
    have o1 : Only (At2 B1 B2) w (w.drew.setCell ⟨B1, 0, none⟩ (.slice none 0 0)) := ((Only.refl (At2 B1 B2) w).drew).setCell (p := ⟨B1, 0, none⟩) (Or.inl rfl) _
    have g2 : (w.drew.setCell ⟨B1, 0, none⟩ (.slice none 0 0)).heap[B2]? = some (.cells #[y] 27 (0, 0)) := (((Only.refl (At B1) w).drew.setCell (p := ⟨B1, 0, none⟩) rfl _).block B2 lt2 (fun e => hne (by unfold At at e; exact e.symm))).trans h2
    refine ⟨?_, heap_setCell_self (o := 0) _ g2, o1.setCell (p := ⟨B2, 0, none⟩) (Or.inr rfl) _⟩
    exact (((Only.refl (At B2) (w.drew.setCell ⟨B1, 0, none⟩ (.slice none 0 0))).setCell (p := ⟨B2, 0, none⟩) rfl _).block B1 (by simpa using lt1) (fun e => hne (by unfold At at e; exact e))).trans g1)
  clear h1 h2
  refine wp_region_noPanic ?_
  go_region_with (fail)
  all_goals
    refine NoPanic.normal ?_
    have k := fin.out ((w.setCell ⟨B1, 0, none⟩ (.slice none 0 0)).setCell ⟨B2, 0, none⟩ (.iface 54 (.pointer (some ⟨b, 0, none⟩)))).drew rfl
    clear fin
    generalize ((w.setCell ⟨B1, 0, none⟩ (.slice none 0 0)).setCell ⟨B2, 0, none⟩ (.iface 54 (.pointer (some ⟨b, 0, none⟩)))).drew = w1 at *
    simp [bodyPostS, results, Tryz.results12]
    exact k
end Go.Proofs.YtnkokonkbklelaaGreatDoor.Ps
