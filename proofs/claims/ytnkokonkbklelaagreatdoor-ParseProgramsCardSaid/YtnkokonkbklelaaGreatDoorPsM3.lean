/- parse: an effect. -/
import Derived.Test.YtnkokonkbklelaaGreatDoorPsM2
import Derived.Lib.OthersKept
set_option linter.unusedVariables false
namespace Go.Proofs.YtnkokonkbklelaaGreatDoor.Ps
open Go.RowKit Go.Proofs.YtnkokonkbklelaaGreatDoor Lx

theorem parts_1 : parts 1 = [114, 110, 118] := rfl
set_option maxHeartbeats 1000000 in
theorem parts_any (z : Int) (w : World) : Calls Tryz.prog 117 #[.int .i64 z] w fun e w' => e = .returned (.string (bs (parts z))) ∧ w = w' := by
  by_cases h1 : z = 1
  · subst h1
    go_enter Tryz.func117, Tryz.ntmps117
    go_wp2
    go_ret
    exact ⟨rfl, rfl⟩
  by_cases h2 : z = 2
  · subst h2
    go_enter Tryz.func117, Tryz.ntmps117
    go_wp2
    go_ret
    exact ⟨rfl, rfl⟩
  by_cases h3 : z = 3
  · subst h3
    go_enter Tryz.func117, Tryz.ntmps117
    go_wp2
    go_ret
    exact ⟨rfl, rfl⟩
  by_cases h9 : z = 9
  · subst h9
    go_enter Tryz.func117, Tryz.ntmps117
    go_wp2
    go_ret
    exact ⟨rfl, rfl⟩
  by_cases h12 : z = 12
  · subst h12
    go_enter Tryz.func117, Tryz.ntmps117
    go_wp2
    go_ret
    exact ⟨rfl, rfl⟩
  by_cases h6 : z = 6
  · subst h6
    go_enter Tryz.func117, Tryz.ntmps117
    go_wp2
    go_ret
    exact ⟨rfl, rfl⟩
  by_cases h7 : z = 7
  · subst h7
    go_enter Tryz.func117, Tryz.ntmps117
    go_wp2
    go_ret
    exact ⟨rfl, rfl⟩
  by_cases h8 : z = 8
  · subst h8
    go_enter Tryz.func117, Tryz.ntmps117
    go_wp2
    go_ret
    exact ⟨rfl, rfl⟩
  by_cases h10 : z = 10
  · subst h10
    go_enter Tryz.func117, Tryz.ntmps117
    go_wp2
    go_ret
    exact ⟨rfl, rfl⟩
  have e : parts z = [] := by unfold parts; simp only [h1, h2, h3, h9, h12, h6, h7, h8, h10, if_false]
  have e1 : (z == 1) = false := by simpa using h1
  have e2 : (z == 2) = false := by simpa using h2
  have e3 : (z == 3) = false := by simpa using h3
  have e9 : (z == 9) = false := by simpa using h9
  have e12 : (z == 12) = false := by simpa using h12
  have e6 : (z == 6) = false := by simpa using h6
  have e7 : (z == 7) = false := by simpa using h7
  have e8 : (z == 8) = false := by simpa using h8
  have e10 : (z == 10) = false := by simpa using h10
  have HE := Lib.hid e
  clear h1 h2 h3 h9 h12 h6 h7 h8 h10 e
  go_enter Tryz.func117, Tryz.ntmps117
  go_wp2
  go_ret
  exact ⟨by rw [HE.out]; rfl, rfl⟩

/-! ### An effect's cells -/
def effC (e : Eff) : List Value := [.int .i64 e.act, .string (bs e.ref), .string (bs e.slot), .string (bs e.name), .int .i64 e.val, .int .i64 e.n, .int .i64 e.delay]
theorem Own.other {w0 w w' : World} {R O q : Nat} {cs : List Value} {t : TypeId} (h : Own w0 R O cs t w) (o : Only (At q) w w') (hq : q ≠ O) (hn : w0.heap.size ≤ q) : Own w0 R O cs t w' :=
  ⟨h.only.then o (fun k hk hlt => by unfold At at hk; omega), h.new, h.low, (o.block O (lt_of_block h.heap) (fun e => hq (by unfold At at e; exact e.symm))).trans h.heap⟩
theorem Own.put {w0 w : World} {R O : Nat} {cs : List Value} {t : TypeId} (h : Own w0 R O cs t w) (k : Nat) (v : Value) : Own w0 R O (cs.set k v) t (w.setCell ⟨O, k, none⟩ v) := by
  refine ⟨h.only.then ((Only.refl (At O) w).setCell (p := ⟨O, k, none⟩) rfl v) (fun q hq hlt => by have := h.new; unfold At at hq; omega), h.new, h.low, ?_⟩
  have := heap_setCell_self (o := k) v h.heap
  rw [List.setIfInBounds_toArray] at this
  exact this
theorem Own.ne {w0 w : World} {R O q : Nat} {cs cs' : List Value} {t t' : TypeId} (h : Own w0 R O cs t w) (k : Own w0 R q cs' t' w) (ht : t ≠ t') : O ≠ q := blk_ne h.heap k.heap ht
theorem Own.rdPut {w0 w : World} {R O N k : Nat} {cs : List Value} {t : TypeId} {T : Tks} (h : Own w0 R O cs t w) (v : Value) (hr : Rd w R N T) : Rd (w.setCell ⟨O, k, none⟩ v) R N T :=
  hr.keepO ((Only.refl (At O) w).setCell (p := ⟨O, k, none⟩) rfl v) (Nat.lt_of_lt_of_le h.low h.new)
theorem Own.lt {w0 w : World} {R O : Nat} {cs : List Value} {t : TypeId} (h : Own w0 R O cs t w) : O < w.heap.size := lt_of_block h.heap
/-- An iterator over p stands at k. -/
structure It (w0 : World) (I : Nat) (p : Wd) (k : Nat) (w : World) : Prop where
  new : w0.heap.size ≤ I
  heap : w.heap[I]? = some (.stringIter (bs p) k)
theorem It.keep {w0 w w' : World} {I k q : Nat} {p : Wd} (h : It w0 I p k w) (o : Only (At q) w w') (hq : q ≠ I) : It w0 I p k w' :=
  ⟨h.new, (o.block I (Array.getElem?_eq_some_iff.1 h.heap).1 (fun e => hq (by unfold At at e; exact e.symm))).trans h.heap⟩
theorem iterAt_only (w : World) (I : Nat) (s : ByteArray) (k : Nat) : Only (At I) w (w.iterAt I s k) :=
  ⟨rfl, rfl, rfl, by rw [Lib.iterAt_size]; exact Nat.le_refl _, fun j hj h => Lib.iterAt_other w I j s k (fun e => h e)⟩
theorem It.next {w0 w : World} {I k : Nat} {p : Wd} (h : It w0 I p k w) (k' : Nat) : It w0 I p k' (w.iterAt I (bs p) k') := ⟨h.new, Lib.iterAt_heap w I (bs p) k k' h.heap⟩
theorem It.pos {w0 w : World} {I k : Nat} {p : Wd} (h : It w0 I p k w) : w.iterPos I = k := by simp [World.iterPos, h.heap]
theorem It.ne {w0 w : World} {I k R O : Nat} {p : Wd} {cs : List Value} {t : TypeId} (h : It w0 I p k w) (o : Own w0 R O cs t w) : I ≠ O := by
  rintro rfl
  have := h.heap.symm.trans o.heap
  simp at this
theorem drop_c {p : Wd} {k : Nat} (h : k < p.length) : ∃ c, p.drop k = c :: p.drop (k + 1) ∧ (bs p)[k]'(by simpa using h) = c ∧ c ∈ p :=
  ⟨p[k], List.drop_eq_getElem_cons h, List.getElem_toArray (by simpa using h), List.getElem_mem h⟩
theorem It.run {w0 w : World} {I k : Nat} {p : Wd} (h : It w0 I p k w) (hk : k < p.length) (c : UInt8) (hc : (bs p)[k]'(by simpa using hk) = c) (hlow : c.toNat < 128) (ty : TypeId) :
    (Instr.next (.pointer (some ⟨I, 0, none⟩)) true ty).run Tryz.prog w = .ok (.tuple #[.bool true, .int .i64 k, .int .i32 c.toNat]) (w.iterAt I (bs p) (k + 1)) := by
  have := Lib.run_next_ascii_at (P := Tryz.prog) w I (bs p) k ty h.heap (by simpa using hk) (by rw [hc]; exact hlow)
  rw [hc] at this
  exact this
theorem It.over {w0 w : World} {I k : Nat} {p : Wd} (h : It w0 I p k w) (hk : ¬ k < p.length) (ty : TypeId) :
    (Instr.next (.pointer (some ⟨I, 0, none⟩)) true ty).run Tryz.prog w = .ok (.tuple #[.bool false]) w :=
  Lib.run_next_end_at (P := Tryz.prog) w I (bs p) k ty h.heap (by simpa using hk)
theorem parts_mem (z : Int) : ∀ c ∈ parts z, c = 114 ∨ c = 115 ∨ c = 110 ∨ c = 100 ∨ c = 118 := by
  intro c hc
  unfold parts at hc
  (repeat' split at hc) <;> simp at hc <;> (try rcases hc with rfl | rfl | rfl) <;> (try rcases hc with rfl | rfl) <;> simp_all
end Go.Proofs.YtnkokonkbklelaaGreatDoor.Ps

/- parse: an effect, read. -/
set_option linter.unusedVariables false
namespace Go.Proofs.YtnkokonkbklelaaGreatDoor.Ps
open Go.RowKit Go.Proofs.YtnkokonkbklelaaGreatDoor Lx

theorem pParts_r (l : List UInt8) (e : Eff) (T : Tks) : pParts (114 :: l) e T = (tk 1 T).bind fun t r => pParts l { e with ref := t.w } r := by
  show (pPart 114 e T).bind _ = _
  unfold pPart; rw [if_pos rfl]; cases tk 1 T <;> rfl
theorem pParts_s (l : List UInt8) (e : Eff) (T : Tks) : pParts (115 :: l) e T = (tk 1 T).bind fun t r => pParts l { e with slot := t.w } r := by
  show (pPart 115 e T).bind _ = _
  unfold pPart; rw [if_neg (by decide), if_pos rfl]; cases tk 1 T <;> rfl
theorem pParts_n (l : List UInt8) (e : Eff) (T : Tks) : pParts (110 :: l) e T = (tk 1 T).bind fun t r => pParts l { e with name := t.w } r := by
  show (pPart 110 e T).bind _ = _
  unfold pPart; rw [if_neg (by decide), if_neg (by decide), if_pos rfl]; cases tk 1 T <;> rfl
theorem pParts_d (l : List UInt8) (e : Eff) (T : Tks) : pParts (100 :: l) e T = (tk 2 T).bind fun t r => pParts l { e with delay := (t.n : Int) } r := by
  show (pPart 100 e T).bind _ = _
  unfold pPart; rw [if_neg (by decide), if_neg (by decide), if_neg (by decide), if_pos rfl]; cases tk 2 T <;> rfl
theorem pParts_v (l : List UInt8) (e : Eff) (T : Tks) : pParts (118 :: l) e T = (pVal T).bind fun v r => pParts l { e with val := v.1, n := v.2 } r := by
  show (pPart 118 e T).bind _ = _
  unfold pPart; rw [if_neg (by decide), if_neg (by decide), if_neg (by decide), if_neg (by decide)]; cases pVal T <;> rfl
theorem pEff_ch {T r : Tks} {i : Nat} {z : Int} (h : ch effw T = .ok i r) (hz : 1 + (i : Int) = z) : pEff T = (pParts (parts z) (eff0 z) r).bind fun e r' => (pass w_semi r').bind fun _ r'' => .ok e r'' := by
  unfold pEff
  rw [h, PR.bind_ok, show (i : Int) + 1 = z by omega]
def DE (e : Eff) (v : Value) (_ : World) : Prop := v = .agg (effC e).toArray

set_option maxRecDepth 100000 in
set_option maxHeartbeats 4000000 in
theorem effect_any {w : World} {R N : Nat} {T : Tks} (h : Rd w R N T) :
    Calls Tryz.prog 99 #[.pointer (some ⟨R, 0, none⟩)] w (RP DE w R N (pEff T)) := by
  obtain ⟨Q, hQ⟩ : ∃ Q : Ending → World → Prop, Q = RP DE w R N (pEff T) := ⟨_, rfl⟩
  rw [← hQ]
  have HQ := Lib.hid hQ
  obtain ⟨wB, hwB, HB, oB⟩ := box2 (Only.refl (At R) w) h.lt (effC (eff0 0)) 50
  have hwB' : wB = w.alloc (.cells #[.int .i64 0, .string ⟨#[]⟩, .string ⟨#[]⟩, .string ⟨#[]⟩, .int .i64 0, .int .i64 0, .int .i64 0] 50) := hwB
  have HR := Lib.hid (h.keep oB)
  have HH := Lib.hid HB
  clear hwB HB h hQ
  generalize hO : w.heap.size = O at *
  have HO := Lib.hid hO
  clear hO
  go_enter Tryz.func99, Tryz.ntmps99
  go_upto_region 1 with (fail)
  rw [HO.out, ← hwB']; clear hwB'
  go_wp2_with (go_at_call 116; refine (effects_any _).mono ?_; rintro e w1 ⟨a, c, rfl, s1, o1⟩)
  refine (choose_any (HR.out.keep o1) s1 rfl (by decide) (by decide)).mono ?_
  rintro e w2 k2
  cases hch : ch effw T with
  | bad r =>
    rw [hch] at k2
    obtain ⟨⟨b, rfl, hc, hq⟩, o2⟩ := k2
    go_wp2
    refine ⟨rfl, ?_⟩
    rw [HQ.out, pEff, hch]
    exact RP.bad hc hq ((HH.out.only.trans (o1.nilTo _)).trans o2)
  | ok i r =>
  rw [hch] at k2
  obtain ⟨⟨v, rfl, rfl⟩, R2, o2⟩ := k2
  have hi : i < 12 := ch_lt hch
  have hi' : (i : Int) < 12 := by omega
  obtain ⟨z, hz⟩ : ∃ z : Int, 1 + (i : Int) = z := ⟨_, rfl⟩
  have hz1 : z ≤ 12 := by omega
  have hz0 : 1 ≤ z := by omega
  have HE := Lib.hid (pEff_ch hch hz)
  have H2 := HH.out.keep ((o1.nilTo _).trans o2)
  obtain ⟨W3, hW3, H3, o3⟩ := box2 H2.only H2.low (effC (eff0 z)) 50
  have hW3' : W3 = w2.alloc (.cells #[.int .i64 z, .string ⟨#[]⟩, .string ⟨#[]⟩, .string ⟨#[]⟩, .int .i64 0, .int .i64 0, .int .i64 0] 50) := hW3
  have R3 := R2.keep o3
  have H23 := H2.keep (o3.nilTo _)
  have hOL : O ≠ w2.heap.size := by have := H2.lt; omega
  have l0 := H3.cell 0 (v := .int .i64 z) rfl
  clear hW3 hch R2 o2 o1 s1 hz1 hz0
  go_upto_region 2 with (fail)
  rw [← hW3']; clear hW3' o3
  generalize w2.heap.size = L at *
  have HX0 := Lib.hid (show pParts (parts z) (eff0 z) r = pParts ((parts z).drop 0) (eff0 z) r from rfl)
  have HM := Lib.hid (parts_mem z)
  have HP := parts_any z
  generalize parts z = p at *
  have hI : It w W3.heap.size p 0 (W3.iter (bs p) 0) := ⟨by have := H3.lt; have := H3.new; omega, World.iter_heap W3 (bs p) 0⟩
  have oI : Only Nil W3 (W3.iter (bs p) 0) := (Only.refl Nil W3).alloc _
  have HI := Lib.hid hI
  have I3 := Lib.hid (H3.keep (oI.nilTo _))
  have I23 := Lib.hid (H23.keep (oI.nilTo _))
  have IR := Lib.hid (R3.keep oI)
  clear hI oI H3 H23 R3 hz hi hi'
  go_wp2_with (go_at_call 117; refine (HP _).mono ?_; rintro e w' ⟨rfl, rfl⟩)
  clear HP
  change Code.wp _ _ _ _ (W3.iter (bs p) 0)
  generalize W3.heap.size = I at *
  generalize W3.iter (bs p) 0 = W4 at *
  have hpl : (bs p).size = p.length := bs_size p
  have HPL := Lib.hid hpl
  clear hpl
  go_loopw [] (fun wr => ∃ (k : Nat) (e : Eff) (T' : Tks), k ≤ p.length ∧ Hid (Own w R O (effC (eff0 0)) 50 wr) ∧ Hid (Own w R L (effC e) 50 wr) ∧ Hid (It w I p k wr) ∧ Hid (Rd wr R N T') ∧ Hid (pParts p (eff0 z) r = pParts (p.drop k) e T'))
    (fun wr => p.length - wr.iterPos I)
  case atStart => exact ⟨0, eff0 z, r, Nat.zero_le _, I23, I3, HI, IR, HX0⟩
  case round =>
    obtain ⟨k, e0, T', hk, hO', hL', hIt, hR', hX⟩ := hrel
    clear I23 I3 HI IR HX0 l0
    by_cases hkl : k < p.length
    · obtain ⟨c, hd, hcb, hcm⟩ := drop_c hkl
      have hit := hIt.out.next (k + 1)
      have oi := iterAt_only wr I (bs p) (k + 1)
      have nIO := hIt.out.ne hO'.out
      have nIL := hIt.out.ne hL'.out
      have O1 := Lib.hid (hO'.out.other oi nIO hIt.out.new)
      have L1 := Lib.hid (hL'.out.other oi nIL hIt.out.new)
      have R1 := Lib.hid (hR'.out.keepO oi (Nat.lt_of_lt_of_le hO'.out.low hIt.out.new))
      have I1 := Lib.hid hit
      have hmu := Lib.hid hIt.out.pos
      have HD := Lib.hid (hX.out.trans (by rw [hd]))
      have hlow : c.toNat < 128 := by rcases HM.out c hcm with rfl | rfl | rfl | rfl | rfl <;> decide
      have hnx := fun ty => hIt.out.run hkl c hcb hlow ty
      have hcs := HM.out c hcm
      have HK := Lib.hid hkl
      clear oi hit hIt hO' hL' hR' hX hd hcb hcm hlow hkl hk
      generalize wr.iterAt I (bs p) (k + 1) = W5 at *
      rcases hcs with rfl | rfl | rfl | rfl | rfl
      · have ec : (((114 : UInt8).toNat : Nat) : Int) = 114 := rfl
        simp only [ec] at hnx
        clear ec
        go_wp2_with fail
        refine (name_any R1.out).mono ?_
        rintro e w6 k6
        cases hp : tk 1 T' with
        | bad r' =>
          rw [hp] at k6
          obtain ⟨⟨b, rfl, hc, hq⟩, o6⟩ := k6
          go_wp2
          refine ⟨rfl, ?_⟩
          rw [HQ.out, HE.out, HD.out, pParts_r, hp]
          exact RP.bad hc hq (O1.out.only.trans o6)
        | ok t r' =>
        rw [hp] at k6
        obtain ⟨⟨v, rfl, rfl⟩, R6, o6⟩ := k6
        have L6 := L1.out.keep o6
        have c1 := L6.cell 1 (v := .string (bs e0.ref)) rfl
        have f1 := L6.free 1
        have L7 := L6.put 1 (.string (bs t.w))
        have R7 := L6.rdPut (k := 1) (.string (bs t.w)) R6
        have O7 := ((O1.out.keep o6)).other ((Only.refl (At L) w6).setCell (p := ⟨L, 1, none⟩) rfl (.string (bs t.w))) (Ne.symm hOL) L1.out.new
        have I7 := (I1.out.keep o6 (by have := I1.out.new; have := L1.out.low; omega)).keep ((Only.refl (At L) w6).setCell (p := ⟨L, 1, none⟩) rfl (.string (bs t.w))) (Ne.symm nIL)
        have HR7 := Lib.hid R7
        have HO7 := Lib.hid O7
        have HI7 := Lib.hid I7
        have HL7 := Lib.hid (show Own w R L (effC { e0 with ref := t.w }) 50 _ from L7)
        have HX7 := Lib.hid (HD.out.trans (by rw [pParts_r, hp, PR.bind_ok]))
        clear R7 O7 I7 L6 L7 R6 o6 hp
        go_wp2
        go_roundw
        case rel => exact ⟨k + 1, { e0 with ref := t.w }, r', HK.out, HO7, HL7, HI7, HR7, HX7⟩
        case measure => rw [HI7.out.pos, hmu.out]; have := HK.out; omega
      · have ec : (((115 : UInt8).toNat : Nat) : Int) = 115 := rfl
        simp only [ec] at hnx
        clear ec
        go_wp2_with fail
        refine (name_any R1.out).mono ?_
        rintro e w6 k6
        cases hp : tk 1 T' with
        | bad r' =>
          rw [hp] at k6
          obtain ⟨⟨b, rfl, hc, hq⟩, o6⟩ := k6
          go_wp2
          refine ⟨rfl, ?_⟩
          rw [HQ.out, HE.out, HD.out, pParts_s, hp]
          exact RP.bad hc hq (O1.out.only.trans o6)
        | ok t r' =>
        rw [hp] at k6
        obtain ⟨⟨v, rfl, rfl⟩, R6, o6⟩ := k6
        have L6 := L1.out.keep o6
        have c2 := L6.cell 2 (v := .string (bs e0.slot)) rfl
        have f2 := L6.free 2
        have L7 := L6.put 2 (.string (bs t.w))
        have R7 := L6.rdPut (k := 2) (.string (bs t.w)) R6
        have O7 := ((O1.out.keep o6)).other ((Only.refl (At L) w6).setCell (p := ⟨L, 2, none⟩) rfl (.string (bs t.w))) (Ne.symm hOL) L1.out.new
        have I7 := (I1.out.keep o6 (by have := I1.out.new; have := L1.out.low; omega)).keep ((Only.refl (At L) w6).setCell (p := ⟨L, 2, none⟩) rfl (.string (bs t.w))) (Ne.symm nIL)
        have HR7 := Lib.hid R7
        have HO7 := Lib.hid O7
        have HI7 := Lib.hid I7
        have HL7 := Lib.hid (show Own w R L (effC { e0 with slot := t.w }) 50 _ from L7)
        have HX7 := Lib.hid (HD.out.trans (by rw [pParts_s, hp, PR.bind_ok]))
        clear R7 O7 I7 L6 L7 R6 o6 hp
        go_wp2
        go_roundw
        case rel => exact ⟨k + 1, { e0 with slot := t.w }, r', HK.out, HO7, HL7, HI7, HR7, HX7⟩
        case measure => rw [HI7.out.pos, hmu.out]; have := HK.out; omega
      · have ec : (((110 : UInt8).toNat : Nat) : Int) = 110 := rfl
        simp only [ec] at hnx
        clear ec
        go_wp2_with fail
        refine (name_any R1.out).mono ?_
        rintro e w6 k6
        cases hp : tk 1 T' with
        | bad r' =>
          rw [hp] at k6
          obtain ⟨⟨b, rfl, hc, hq⟩, o6⟩ := k6
          go_wp2
          refine ⟨rfl, ?_⟩
          rw [HQ.out, HE.out, HD.out, pParts_n, hp]
          exact RP.bad hc hq (O1.out.only.trans o6)
        | ok t r' =>
        rw [hp] at k6
        obtain ⟨⟨v, rfl, rfl⟩, R6, o6⟩ := k6
        have L6 := L1.out.keep o6
        have c3 := L6.cell 3 (v := .string (bs e0.name)) rfl
        have f3 := L6.free 3
        have L7 := L6.put 3 (.string (bs t.w))
        have R7 := L6.rdPut (k := 3) (.string (bs t.w)) R6
        have O7 := ((O1.out.keep o6)).other ((Only.refl (At L) w6).setCell (p := ⟨L, 3, none⟩) rfl (.string (bs t.w))) (Ne.symm hOL) L1.out.new
        have I7 := (I1.out.keep o6 (by have := I1.out.new; have := L1.out.low; omega)).keep ((Only.refl (At L) w6).setCell (p := ⟨L, 3, none⟩) rfl (.string (bs t.w))) (Ne.symm nIL)
        have HR7 := Lib.hid R7
        have HO7 := Lib.hid O7
        have HI7 := Lib.hid I7
        have HL7 := Lib.hid (show Own w R L (effC { e0 with name := t.w }) 50 _ from L7)
        have HX7 := Lib.hid (HD.out.trans (by rw [pParts_n, hp, PR.bind_ok]))
        clear R7 O7 I7 L6 L7 R6 o6 hp
        go_wp2
        go_roundw
        case rel => exact ⟨k + 1, { e0 with name := t.w }, r', HK.out, HO7, HL7, HI7, HR7, HX7⟩
        case measure => rw [HI7.out.pos, hmu.out]; have := HK.out; omega
      · have ec : (((100 : UInt8).toNat : Nat) : Int) = 100 := rfl
        simp only [ec] at hnx
        clear ec
        go_wp2_with fail
        refine (number_any R1.out).mono ?_
        rintro e w6 k6
        cases hp : tk 2 T' with
        | bad r' =>
          rw [hp] at k6
          obtain ⟨⟨b, rfl, hc, hq⟩, o6⟩ := k6
          go_wp2
          refine ⟨rfl, ?_⟩
          rw [HQ.out, HE.out, HD.out, pParts_d, hp]
          exact RP.bad hc hq (O1.out.only.trans o6)
        | ok t r' =>
        rw [hp] at k6
        obtain ⟨⟨v, rfl, rfl⟩, R6, o6⟩ := k6
        have L6 := L1.out.keep o6
        have c6 := L6.cell 6 (v := .int .i64 e0.delay) rfl
        have f6 := L6.free 6
        have L7 := L6.put 6 (.int .i64 (t.n : Int))
        have R7 := L6.rdPut (k := 6) (.int .i64 (t.n : Int)) R6
        have O7 := ((O1.out.keep o6)).other ((Only.refl (At L) w6).setCell (p := ⟨L, 6, none⟩) rfl (.int .i64 (t.n : Int))) (Ne.symm hOL) L1.out.new
        have I7 := (I1.out.keep o6 (by have := I1.out.new; have := L1.out.low; omega)).keep ((Only.refl (At L) w6).setCell (p := ⟨L, 6, none⟩) rfl (.int .i64 (t.n : Int))) (Ne.symm nIL)
        have HR7 := Lib.hid R7
        have HO7 := Lib.hid O7
        have HI7 := Lib.hid I7
        have HL7 := Lib.hid (show Own w R L (effC { e0 with delay := (t.n : Int) }) 50 _ from L7)
        have HX7 := Lib.hid (HD.out.trans (by rw [pParts_d, hp, PR.bind_ok]))
        clear R7 O7 I7 L6 L7 R6 o6 hp
        go_wp2
        go_roundw
        case rel => exact ⟨k + 1, { e0 with delay := (t.n : Int) }, r', HK.out, HO7, HL7, HI7, HR7, HX7⟩
        case measure => rw [HI7.out.pos, hmu.out]; have := HK.out; omega
      · have ec : (((118 : UInt8).toNat : Nat) : Int) = 118 := rfl
        simp only [ec] at hnx
        clear ec
        go_wp2_with fail
        refine (value_any R1.out).mono ?_
        rintro e w6 k6
        cases hp : pVal T' with
        | bad r' =>
          rw [hp] at k6
          obtain ⟨⟨b, rfl, hc, hq⟩, o6⟩ := k6
          go_wp2
          refine ⟨rfl, ?_⟩
          rw [HQ.out, HE.out, HD.out, pParts_v, hp]
          exact RP.bad hc hq (O1.out.only.trans o6)
        | ok t r' =>
        rw [hp] at k6
        obtain ⟨⟨v, rfl, rfl⟩, R6, o6⟩ := k6
        have L6 := L1.out.keep o6
        have c4 := L6.cell 4 (v := .int .i64 e0.val) rfl
        have f4 := L6.free 4
        have c5 := L6.cell 5 (v := .int .i64 e0.n) rfl
        have f5 := L6.free 5
        have L7 := L6.put 4 (.int .i64 t.1)
        have L8 := L7.put 5 (.int .i64 t.2)
        have R7 := L7.rdPut (k := 5) (.int .i64 t.2) (L6.rdPut (k := 4) (.int .i64 t.1) R6)
        have o7 := ((Only.refl (At L) w6).setCell (p := ⟨L, 4, none⟩) rfl (.int .i64 t.1)).setCell (p := ⟨L, 5, none⟩) rfl (.int .i64 t.2)
        have O7 := ((O1.out.keep o6)).other o7 (Ne.symm hOL) L1.out.new
        have I7 := (I1.out.keep o6 (by have := I1.out.new; have := L1.out.low; omega)).keep o7 (Ne.symm nIL)
        have HR7 := Lib.hid R7
        have HO7 := Lib.hid O7
        have HI7 := Lib.hid I7
        have HL7 := Lib.hid (show Own w R L (effC { e0 with val := t.1, n := t.2 }) 50 _ from L8)
        have HX7 := Lib.hid (HD.out.trans (by rw [pParts_v, hp, PR.bind_ok]))
        clear R7 O7 I7 L6 L7 R6 o6 hp L8 o7
        go_wp2
        go_roundw
        case rel => exact ⟨k + 1, { e0 with val := t.1, n := t.2 }, r', HK.out, HO7, HL7, HI7, HR7, HX7⟩
        case measure => rw [HI7.out.pos, hmu.out]; have := HK.out; omega
    · have hnx := fun ty => hIt.out.over hkl ty
      have hd : p.drop k = [] := List.drop_of_length_le (by omega)
      have HD := Lib.hid (hX.out.trans (by rw [hd]; rfl : _ = PR.ok e0 T'))
      clear hX hd
      have HK := Lib.hid hkl
      clear hkl hk
      go_wp2_with fail
      refine (pass_any hR'.out w_semi (by decide)).mono ?_
      rintro e w6 k6
      cases hp : pass w_semi T' with
      | bad r' =>
        rw [hp] at k6
        obtain ⟨⟨b, rfl, hc, hq⟩, o6⟩ := k6
        go_wp2
        refine ⟨rfl, ?_⟩
        rw [HQ.out, HE.out, HD.out, PR.bind_ok, hp]
        exact RP.bad hc hq (hO'.out.only.trans o6)
      | ok t r' =>
      rw [hp] at k6
      obtain ⟨⟨v, rfl, rfl⟩, R6, o6⟩ := k6
      have O6 := hO'.out.keep o6
      have L6 := hL'.out.keep o6
      have c0 := L6.cell 0 (v := .int .i64 e0.act) rfl
      have c1 := L6.cell 1 (v := .string (bs e0.ref)) rfl
      have c2 := L6.cell 2 (v := .string (bs e0.slot)) rfl
      have c3 := L6.cell 3 (v := .string (bs e0.name)) rfl
      have c4 := L6.cell 4 (v := .int .i64 e0.val) rfl
      have c5 := L6.cell 5 (v := .int .i64 e0.n) rfl
      have c6 := L6.cell 6 (v := .int .i64 e0.delay) rfl
      have d0 := O6.cell 0 (v := .int .i64 0) rfl
      have d1 := O6.cell 1 (v := .string (bs [])) rfl
      have d2 := O6.cell 2 (v := .string (bs [])) rfl
      have d3 := O6.cell 3 (v := .string (bs [])) rfl
      have d4 := O6.cell 4 (v := .int .i64 0) rfl
      have d5 := O6.cell 5 (v := .int .i64 0) rfl
      have d6 := O6.cell 6 (v := .int .i64 0) rfl
      have f0 := O6.free 0
      have f1 := O6.free 1
      have f2 := O6.free 2
      have f3 := O6.free 3
      have f4 := O6.free 4
      have f5 := O6.free 5
      have f6 := O6.free 6
      have H7 := O6.set (effC e0) rfl
      have HR7 := Lib.hid (O6.rd 0 (effC e0) R6)
      have H7' := Lib.hid H7
      have HP := Lib.hid hp
      clear H7 O6 L6 R6 o6 hp
      go_wp2
      refine bodyPost_ret (results_agg rfl _ _ O (effC e0) Tryz.isAgg50 Tryz.sizeOf50 rfl H7'.out.heap) rfl ?_
      rw [HQ.out, HE.out, HD.out, PR.bind_ok, HP.out]
      exact ⟨⟨_, rfl, rfl⟩, HR7.out, H7'.out.only⟩
end Go.Proofs.YtnkokonkbklelaaGreatDoor.Ps
