/- parse: the document's Same. -/
import Derived.Test.YtnkokonkbklelaaGreatDoorPsGr
set_option linter.unusedVariables false
namespace Go.Proofs.YtnkokonkbklelaaGreatDoor.Ps
open Go.RowKit Go.Proofs.YtnkokonkbklelaaGreatDoor Lx

def rowV (x : Rw) (u : Value) : List Value := [.string (bs x.tag), .bool x.only, .int .i64 x.n, u]
/-- Two blocks made at once, in either order. -/
theorem two_ab (w : World) (c d : List Value) (t : TypeId) : Bx ((w.alloc (.cells c.toArray t)).alloc (.cells d.toArray t)) w.heap.size c t ∧ Bx ((w.alloc (.cells c.toArray t)).alloc (.cells d.toArray t)) (w.heap.size + 1) d t := by
  refine ⟨(bx_new w c t).keep ((Only.refl Nil _).alloc _), ?_⟩
  have := bx_new (w.alloc (.cells c.toArray t)) d t
  have hs : (w.alloc (.cells c.toArray t)).heap.size = w.heap.size + 1 := by simp
  rw [hs] at this; exact this
theorem upto_snoc {α : Type} {L M : List α} {k : Nat} {x : α} (h : ∀ j, j < k → L[j]? = M[j]?) (h1 : L[k]? = some x) (h2 : M[k]? = some x) : ∀ j, j < k + 1 → L[j]? = M[j]? := fun j hj => by
  rcases Nat.lt_or_ge j k with h' | h'
  · exact h j h'
  · obtain rfl : j = k := by omega
    rw [h1, h2]
theorem ne_at {α : Type} {L M : List α} {k : Nat} {x y : α} (h1 : L[k]? = some x) (h2 : M[k]? = some y) (h : ¬ x = y) : ¬ L = M := fun e => by
  rw [e, h2] at h1
  exact h (Option.some.inj h1).symm
set_option maxRecDepth 100000 in
set_option maxHeartbeats 8000000 in
theorem rsame_state {D D' : Nat} {w : World} {nm nm' : Wd} {L L' : List Rw} {s s' : Value} (h : XR D w s L) (h' : XR D' w s' L') (sm : L.length ≤ 65000 ∧ ∀ r ∈ L, smR r) {z : Bool} (hz : decide (nm = nm' ∧ L = L') = z) :
    Calls Tryz.prog 18 #[.agg #[.string (bs nm), s], .agg #[.string (bs nm'), s']] w fun e w' => e = .returned (.bool z) ∧ Only Nil w w' := by
  obtain ⟨sa, sc, rfl⟩ := h.slice
  obtain ⟨sa', sc', rfl⟩ := h'.slice
  by_cases hnm : nm = nm'
  case neg =>
    have hy := str_ne hnm
    have HX := Lib.hid (show z = false from hz.symm.trans (decide_eq_false (fun h => hnm h.1)))
    clear hnm hz h h' sm
    go_enter Tryz.func18, Tryz.ntmps18
    go_wp2
    go_ret
    exact ⟨by rw [HX.out]; rfl, ((Only.refl Nil w).alloc _).alloc _⟩
  subst hnm
  have hy := str_eq nm
  by_cases hlen : L.length = L'.length
  case neg =>
    have HX := Lib.hid (show z = false from hz.symm.trans (decide_eq_false (fun h => hlen (by rw [h.2]))))
    have hz1 : (((L.length : Nat) : Int) != (L'.length : Int)) = true := by simp; omega
    have hz2 : (L.length != L'.length) = true := by simpa using hlen
    clear hlen hz h h' sm
    go_enter Tryz.func18, Tryz.ntmps18
    go_wp2
    go_ret
    exact ⟨by rw [HX.out]; rfl, ((Only.refl Nil w).alloc _).alloc _⟩
  rw [← hlen] at h' ⊢
  have HZT := Lib.hid (show L = L' → z = true from fun e => hz.symm.trans (decide_eq_true ⟨rfl, e⟩))
  have HZN := Lib.hid (show ¬ L = L' → z = false from fun e => hz.symm.trans (decide_eq_false (fun h => e h.2)))
  have H1 := Lib.hid h
  have H2 := Lib.hid (show XR D' w (.slice sa' L.length sc') L' from h')
  have HSM := Lib.hid sm.2
  have hz1 : (((L.length : Nat) : Int) != (L.length : Int)) = false := by simp
  have hz2 : (L.length != L.length) = false := by simp
  have hb : (L.length : Int) ≤ 65000 := by have := sm.1; omega
  clear h h' hz sm
  generalize hn : L.length = n at *
  have HN := Lib.hid hn
  have HM := Lib.hid hlen.symm
  clear hn hlen
  obtain ⟨bA, bB⟩ := two_ab w [.string (bs nm), .slice sa n sc] [.string (bs nm), .slice sa' n sc'] 43
  have BA := Lib.hid bA
  have BB := Lib.hid bB
  have O1 := Lib.hid (show Only Nil w ((w.alloc (.cells ([.string (bs nm), .slice sa n sc] : List Value).toArray 43)).alloc (.cells ([.string (bs nm), .slice sa' n sc'] : List Value).toArray 43)) from ((Only.refl Nil w).alloc _).alloc _)
  clear bA bB
  go_enter Tryz.func18, Tryz.ntmps18
  go_upto_region 1 with (fail)
  change Hid (Bx ((w.alloc (.cells #[.string (bs nm), .slice sa n sc] 43)).alloc (.cells #[.string (bs nm), .slice sa' n sc'] 43)) _ _ _) at BA
  change Hid (Bx ((w.alloc (.cells #[.string (bs nm), .slice sa n sc] 43)).alloc (.cells #[.string (bs nm), .slice sa' n sc'] 43)) _ _ _) at BB
  change Hid (Only Nil w ((w.alloc (.cells #[.string (bs nm), .slice sa n sc] 43)).alloc (.cells #[.string (bs nm), .slice sa' n sc'] 43))) at O1
  generalize (w.alloc (.cells #[.string (bs nm), .slice sa n sc] 43)).alloc (.cells #[.string (bs nm), .slice sa' n sc'] 43) = w1 at *
  generalize w.heap.size = B at *
  have c0 := BA.out.cell 0 (v := .string (bs nm)) rfl
  have c1 := BA.out.cell 1 (v := .slice sa n sc) rfl
  have d0 := BB.out.cell 0 (v := .string (bs nm)) rfl
  have d1 := BB.out.cell 1 (v := .slice sa' n sc') rfl
  go_wp2
  go_loopw [5, 6, 7, 8] (fun s5 _ _ _ wr => ∃ k0 : Nat, s5 = .int .i64 (k0 : Int) ∧ k0 ≤ n ∧ Hid (∀ j, j < k0 → L[j]? = L'[j]?) ∧ Hid (Only Nil w1 wr))
    (fun s5 _ _ _ _ => n - (intOf s5).toNat)
  case atStart => exact ⟨0, rfl, Nat.zero_le _, Lib.hid (fun j hj => absurd hj (Nat.not_lt_zero j)), Lib.hid (Only.refl _ _)⟩
  case round =>
    obtain ⟨k0, rfl, hk0, hE0, hO⟩ := hrel
    clear c0 c1 d0 d1
    have c1 := (BA.out.keep hO.out).cell 1 (v := .slice sa n sc) rfl
    have d1 := (BB.out.keep hO.out).cell 1 (v := .slice sa' n sc') rfl
    by_cases hkn0 : k0 < n
    · obtain ⟨u0, ⟨b, off, rfl, hlt, hc⟩, g0⟩ := (H1.out.keep (O1.out.trans hO.out) (nilS · D)).at_ HN.out k0 hkn0
      obtain ⟨u0', ⟨b', off', rfl, hlt', hc'⟩, g0'⟩ := (H2.out.keep (O1.out.trans hO.out) (nilS · D')).at_ HM.out k0 hkn0
      have EL := Lib.hid (List.getElem?_eq_getElem (show k0 < L.length by rw [HN.out]; exact hkn0))
      have EM := Lib.hid (List.getElem?_eq_getElem (show k0 < L'.length by rw [HM.out]; exact hkn0))
      have hk1 : k0 < L.length := by rw [HN.out]; exact hkn0
      have hk2 : k0 < L'.length := by rw [HM.out]; exact hkn0
      have HSX := Lib.hid (HSM.out _ (List.getElem_mem hk1))
      generalize L[k0] = x at *
      generalize L'[k0] = y at *
      obtain ⟨p0, r0, rfl⟩ := g0.slice
      obtain ⟨p0', r0', rfl⟩ := g0'.slice
      have e0 : wr.cell? ⟨b, off + k0 * 4, none⟩ = some (.string (bs x.tag)) := hc 0 (by decide)
      have f0 : wr.cell? ⟨b', off' + k0 * 4, none⟩ = some (.string (bs y.tag)) := hc' 0 (by decide)
      have e1 : wr.cell? ⟨b, off + k0 * 4 + 1, none⟩ = some (.bool x.only) := hc 1 (by decide)
      have f1 : wr.cell? ⟨b', off' + k0 * 4 + 1, none⟩ = some (.bool y.only) := hc' 1 (by decide)
      have e2 : wr.cell? ⟨b, off + k0 * 4 + 2, none⟩ = some (.int .i64 x.n) := hc 2 (by decide)
      have f2 : wr.cell? ⟨b', off' + k0 * 4 + 2, none⟩ = some (.int .i64 y.n) := hc' 2 (by decide)
      have e3 : wr.cell? ⟨b, off + k0 * 4 + 3, none⟩ = some (.slice p0 x.effs.length r0) := hc 3 (by decide)
      have f3 : wr.cell? ⟨b', off' + k0 * 4 + 3, none⟩ = some (.slice p0' y.effs.length r0') := hc' 3 (by decide)
      have G1 := Lib.hid (fun w' (o : Only Nil wr w') => g0.keep o (nilS · D))
      have G2 := Lib.hid (fun w' (o : Only Nil wr w') => g0'.keep o (nilS · D'))
      clear hc hc' hk1 hk2 g0 g0'
      have lB := cellLt c1
      have lB' := cellLt d1
      have HZF := Lib.hid (show ¬ x = y → z = false from fun hne => HZN.out (ne_at EL.out EM.out hne))
      go_upto_region 6 with (fail)
      go_cut [6, 7] (fun s6 s7 wx => ∃ X Y : Nat, s6 = .pointer (some ⟨X, 0, none⟩) ∧ s7 = .pointer (some ⟨Y, 0, none⟩) ∧ Hid (Bx wx X (rowV x (.slice p0 x.effs.length r0)) 46) ∧ Hid (Bx wx Y (rowV y (.slice p0' y.effs.length r0')) 46) ∧ Hid (Only Nil wr wx))
      case first =>
        have ab := Lib.hid (two_ab wr.drew (rowV x (.slice p0 x.effs.length r0)) (rowV y (.slice p0' y.effs.length r0')) 46)
        have ba := Lib.hid (two_ab wr.drew (rowV y (.slice p0' y.effs.length r0')) (rowV x (.slice p0 x.effs.length r0)) 46)
        have ab' := Lib.hid (two_ab wr (rowV x (.slice p0 x.effs.length r0)) (rowV y (.slice p0' y.effs.length r0')) 46)
        have ba' := Lib.hid (two_ab wr (rowV y (.slice p0' y.effs.length r0')) (rowV x (.slice p0 x.effs.length r0)) 46)
        have nb1 := World.new_ne wr _ c1
        have nb2 := World.new_ne wr _ d1
        have nb3 := World.new_ne wr _ e0
        have nb4 := World.new_ne wr _ f0
        go_region_held3 (fun w' => w'.cell? ⟨B, 1, none⟩ = some (.slice (some ⟨b, off, none⟩) n sc) ∧ w'.cell? ⟨B + 1, 1, none⟩ = some (.slice (some ⟨b', off', none⟩) n sc') ∧
            w'.cell? ⟨b, off + k0 * 4, none⟩ = some (.string (bs x.tag)) ∧ w'.cell? ⟨b, off + k0 * 4 + 1, none⟩ = some (.bool x.only) ∧ w'.cell? ⟨b, off + k0 * 4 + 2, none⟩ = some (.int .i64 x.n) ∧ w'.cell? ⟨b, off + k0 * 4 + 3, none⟩ = some (.slice p0 x.effs.length r0) ∧
            w'.cell? ⟨b', off' + k0 * 4, none⟩ = some (.string (bs y.tag)) ∧ w'.cell? ⟨b', off' + k0 * 4 + 1, none⟩ = some (.bool y.only) ∧ w'.cell? ⟨b', off' + k0 * 4 + 2, none⟩ = some (.int .i64 y.n) ∧ w'.cell? ⟨b', off' + k0 * 4 + 3, none⟩ = some (.slice p0' y.effs.length r0'))
          (first | exact ⟨c1, d1, e0, e1, e2, e3, f0, f1, f2, f3⟩ | go_keep)
          (fail)
        all_goals
          go_wp2_with (fail)
          go_meet
          first
            | exact ⟨_, _, rfl, rfl, Lib.hid ab.out.1, Lib.hid ab.out.2, Lib.hid (((Only.refl Nil wr).drew.alloc _).alloc _)⟩
            | exact ⟨_, _, rfl, rfl, Lib.hid ba.out.2, Lib.hid ba.out.1, Lib.hid (((Only.refl Nil wr).drew.alloc _).alloc _)⟩
            | exact ⟨_, _, rfl, rfl, Lib.hid (ab'.out.1.keep (Only.refl Nil _).drew), Lib.hid (ab'.out.2.keep (Only.refl Nil _).drew), Lib.hid (((Only.refl Nil wr).alloc _).alloc _).drew⟩
            | exact ⟨_, _, rfl, rfl, Lib.hid (ba'.out.2.keep (Only.refl Nil _).drew), Lib.hid (ba'.out.1.keep (Only.refl Nil _).drew), Lib.hid (((Only.refl Nil wr).alloc _).alloc _).drew⟩
      case rest =>
        obtain ⟨X, Y, rfl, rfl, BX, BY, OX⟩ := hcut
        clear lB lB' hlt hlt' e0 e1 e2 e3 f0 f1 f2 f3 c1 d1
        have HO6 := Lib.hid (hO.out.trans OX.out)
        have GG1 := Lib.hid (G1.out _ OX.out)
        have GG2 := Lib.hid (G2.out _ OX.out)
        have x0 := BX.out.cell 0 (v := .string (bs x.tag)) rfl
        have x1 := BX.out.cell 1 (v := .bool x.only) rfl
        have x2 := BX.out.cell 2 (v := .int .i64 x.n) rfl
        have q1 := BX.out.cell 3 (v := .slice p0 x.effs.length r0) rfl
        have y0 := BY.out.cell 0 (v := .string (bs y.tag)) rfl
        have y1 := BY.out.cell 1 (v := .bool y.only) rfl
        have y2 := BY.out.cell 2 (v := .int .i64 y.n) rfl
        have q2 := BY.out.cell 3 (v := .slice p0' y.effs.length r0') rfl
        clear G1 G2
        generalize wc = wo at *
        by_cases ht : x.tag = y.tag
        case neg =>
          have hq := str_ne ht
          have HX := Lib.hid (HZF.out (fun h => ht (by rw [h])))
          clear ht
          go_wp2
          go_ret
          exact ⟨by rw [HX.out]; rfl, O1.out.trans HO6.out⟩
        rw [← ht] at y0
        have hq0 := str_eq x.tag
        by_cases hon : x.only = y.only
        case neg =>
          have hq : (x.only == y.only) = false := by simpa using hon
          have hq' : (x.only != y.only) = true := by simpa using hon
          have HX := Lib.hid (HZF.out (fun h => hon (by rw [h])))
          clear hon ht
          go_wp2
          go_ret
          exact ⟨by rw [HX.out]; rfl, O1.out.trans HO6.out⟩
        rw [← hon] at y1
        by_cases hnn : x.n = y.n
        case neg =>
          have hq : (x.n == y.n) = false := by simpa using hnn
          have hq' : (x.n != y.n) = true := by simpa using hnn
          have HX := Lib.hid (HZF.out (fun h => hnn (by rw [h])))
          clear hon ht hnn
          go_wp2
          go_ret
          exact ⟨by rw [HX.out]; rfl, O1.out.trans HO6.out⟩
        rw [← hnn] at y2
        by_cases hle : x.effs.length = y.effs.length
        case neg =>
          have hq1 : (((x.effs.length : Nat) : Int) != (y.effs.length : Int)) = true := by simp; omega
          have hq2 : (x.effs.length != y.effs.length) = true := by simpa using hle
          have HX := Lib.hid (HZF.out (fun h => hle (by rw [h])))
          clear hon ht hnn hle
          go_wp2
          go_ret
          exact ⟨by rw [HX.out]; rfl, O1.out.trans HO6.out⟩
        have HT := Lib.hid (And.intro ht (And.intro hon hnn))
        rw [← hle] at q2 GG2
        have hql : (((x.effs.length : Nat) : Int) != (x.effs.length : Int)) = false := by simp
        have hql2 : (x.effs.length != x.effs.length) = false := by simp
        have hbe : (x.effs.length : Int) ≤ 65000 := by have := HSX.out; unfold smR at this; omega
        clear ht hon hnn
        have G1 : Hid (XE D wo (.slice p0 x.effs.length r0) x.effs) := GG1
        have G2 : Hid (XE D' wo (.slice p0' x.effs.length r0') y.effs) := GG2
        generalize hne : x.effs.length = ne at *
        have N1 := Lib.hid hne
        have N2 := Lib.hid hle.symm
        clear hne hle GG1 GG2 BX BY
        go_wp2
        go_loopw [8] (fun s wr => ∃ k : Nat, k ≤ ne ∧ s = .int .i64 (k : Int) ∧ Hid (∀ j, j < k → x.effs[j]? = y.effs[j]?) ∧ Hid (Only Nil wo wr))
          (fun s _ => ne - (intOf s).toNat)
        case atStart => exact ⟨0, Nat.zero_le _, rfl, Lib.hid (fun j hj => absurd hj (Nat.not_lt_zero j)), Lib.hid (Only.refl _ _)⟩
        case round =>
          obtain ⟨k, hk, rfl, hE, hO'⟩ := hrel
          have f1 := only_cell0 hO'.out q1
          have f2 := only_cell0 hO'.out q2
          by_cases hkn : k < ne
          · obtain ⟨b, off, rfl, hlt, hc⟩ := (G1.out.keep hO'.out (nilS · D)).at_ N1.out k hkn
            obtain ⟨b', off', rfl, hlt', hc'⟩ := (G2.out.keep hO'.out (nilS · D')).at_ N2.out k hkn
            have EL := Lib.hid (List.getElem?_eq_getElem (show k < x.effs.length by rw [N1.out]; exact hkn))
            have EM := Lib.hid (List.getElem?_eq_getElem (show k < y.effs.length by rw [N2.out]; exact hkn))
            have hk1 : k < x.effs.length := by rw [N1.out]; exact hkn
            have hk2 : k < y.effs.length := by rw [N2.out]; exact hkn
            generalize x.effs[k] = u at *
            generalize y.effs[k] = v at *
            clear hk1 hk2
            have a0 : wr.cell? ⟨b, off + k * 7, none⟩ = some (.int .i64 u.act) := hc 0 (by decide)
            have b0 : wr.cell? ⟨b', off' + k * 7, none⟩ = some (.int .i64 v.act) := hc' 0 (by decide)
            have a1 : wr.cell? ⟨b, off + k * 7 + 1, none⟩ = some (.string (bs u.ref)) := hc 1 (by decide)
            have b1 : wr.cell? ⟨b', off' + k * 7 + 1, none⟩ = some (.string (bs v.ref)) := hc' 1 (by decide)
            have a2 : wr.cell? ⟨b, off + k * 7 + 2, none⟩ = some (.string (bs u.slot)) := hc 2 (by decide)
            have b2 : wr.cell? ⟨b', off' + k * 7 + 2, none⟩ = some (.string (bs v.slot)) := hc' 2 (by decide)
            have a3 : wr.cell? ⟨b, off + k * 7 + 3, none⟩ = some (.string (bs u.name)) := hc 3 (by decide)
            have b3 : wr.cell? ⟨b', off' + k * 7 + 3, none⟩ = some (.string (bs v.name)) := hc' 3 (by decide)
            have a4 : wr.cell? ⟨b, off + k * 7 + 4, none⟩ = some (.int .i64 u.val) := hc 4 (by decide)
            have b4 : wr.cell? ⟨b', off' + k * 7 + 4, none⟩ = some (.int .i64 v.val) := hc' 4 (by decide)
            have a5 : wr.cell? ⟨b, off + k * 7 + 5, none⟩ = some (.int .i64 u.n) := hc 5 (by decide)
            have b5 : wr.cell? ⟨b', off' + k * 7 + 5, none⟩ = some (.int .i64 v.n) := hc' 5 (by decide)
            have a6 : wr.cell? ⟨b, off + k * 7 + 6, none⟩ = some (.int .i64 u.delay) := hc 6 (by decide)
            have b6 : wr.cell? ⟨b', off' + k * 7 + 6, none⟩ = some (.int .i64 v.delay) := hc' 6 (by decide)
            clear hc hc'
            have hg := guard_eff
            by_cases huv : u = v
            · subst huv
              have hne := neq_eff u u
              simp only [decide_true, Bool.not_true] at hne
              have HX := Lib.hid (upto_snoc hE.out EL.out EM.out)
              have od := Lib.hid (hO'.out.trans (Only.refl Nil wr).drew)
              go_upto_region 12 with (fail)
              go_region_with (fail)
              all_goals
                go_wp2
                go_roundw
                case rel => exact ⟨k + 1, by omega, by go_num, HX, od⟩
                case measure => simp [intOf]; omega
            · have hne := neq_eff u v
              simp only [huv, decide_false, Bool.not_false] at hne
              have HX := Lib.hid (ne_at EL.out EM.out huv)
              have od := Lib.hid (hO'.out.trans (Only.refl Nil wr).drew)
              clear huv
              go_upto_region 12 with (fail)
              go_region_with (fail)
              all_goals
                go_wp2
                go_ret
                exact ⟨by rw [HZF.out (fun h => HX.out ((Rw_eq x y).1 h).2.2.2)]; rfl, (O1.out.trans HO6.out).trans od.out⟩
          · obtain rfl : k = ne := by omega
            have HQ := Lib.hid (eq_upto N1.out N2.out hE.out)
            have HOO := Lib.hid hO'.out
            clear hkn hE hO' f2 q1 q2
            have HXY := Lib.hid (show x = y from (Rw_eq x y).2 ⟨HT.out.1, HT.out.2.1, HT.out.2.2, HQ.out⟩)
            have HX := Lib.hid (upto_snoc (x := x) hE0.out EL.out (HXY.out ▸ EM.out))
            have od := Lib.hid (HO6.out.trans HOO.out)
            go_wp2
            go_roundw
            case rel => exact ⟨k0 + 1, by go_num, by omega, HX, od⟩
            case measure => simp [intOf]; omega
    · obtain rfl : k0 = n := by omega
      have HX := Lib.hid (HZT.out (eq_upto HN.out HM.out hE0.out))
      clear hkn0 hE0
      go_wp2
      go_ret
      exact ⟨by rw [HX.out]; rfl, O1.out.trans hO.out⟩
set_option maxRecDepth 100000 in
set_option maxHeartbeats 8000000 in
theorem rsame_any {D D' : Nat} {w : World} {L L' : List Kd} {s s' : Value} (h : XK D w s L) (h' : XK D' w s' L') (sm : smP L) :
    Calls Tryz.prog 9 #[.agg #[s], .agg #[s']] w fun e w' => e = .returned (.bool (decide (L = L'))) ∧ Only Nil w w' := by
  obtain ⟨sa, sc, rfl⟩ := h.slice
  obtain ⟨sa', sc', rfl⟩ := h'.slice
  obtain ⟨z, hz⟩ : ∃ z, decide (L = L') = z := ⟨_, rfl⟩
  rw [hz]
  by_cases hlen : L.length = L'.length
  case neg =>
    have HX := Lib.hid (show z = false from hz.symm.trans (decide_eq_false (fun h => hlen (by rw [h]))))
    have hz1 : (((L.length : Nat) : Int) != (L'.length : Int)) = true := by simp; omega
    have hz2 : (L.length != L'.length) = true := by simpa using hlen
    clear hlen hz h h' sm
    go_enter Tryz.func9, Tryz.ntmps9
    go_wp2
    go_ret
    exact ⟨by rw [HX.out]; rfl, ((Only.refl Nil w).alloc _).alloc _⟩
  rw [← hlen] at h' ⊢
  have HZT := Lib.hid (show L = L' → z = true from fun e => hz.symm.trans (decide_eq_true e))
  have HZN := Lib.hid (show ¬ L = L' → z = false from fun e => hz.symm.trans (decide_eq_false e))
  have H1 := Lib.hid h
  have H2 := Lib.hid (show XK D' w (.slice sa' L.length sc') L' from h')
  have HSM := Lib.hid sm.2
  have hz1 : (((L.length : Nat) : Int) != (L.length : Int)) = false := by simp
  have hz2 : (L.length != L.length) = false := by simp
  have hb : (L.length : Int) ≤ 65000 := by have := sm.1; omega
  clear h h' hz sm
  generalize hn : L.length = n at *
  have HN := Lib.hid hn
  have HM := Lib.hid hlen.symm
  clear hn hlen
  obtain ⟨bA, bB⟩ := two_ab w [.slice sa n sc] [.slice sa' n sc'] 25
  have BA := Lib.hid bA
  have BB := Lib.hid bB
  have O1 := Lib.hid (show Only Nil w ((w.alloc (.cells ([.slice sa n sc] : List Value).toArray 25)).alloc (.cells ([.slice sa' n sc'] : List Value).toArray 25)) from ((Only.refl Nil w).alloc _).alloc _)
  clear bA bB
  go_enter Tryz.func9, Tryz.ntmps9
  go_upto_region 1 with (fail)
  change Hid (Bx ((w.alloc (.cells #[.slice sa n sc] 25)).alloc (.cells #[.slice sa' n sc'] 25)) _ _ _) at BA
  change Hid (Bx ((w.alloc (.cells #[.slice sa n sc] 25)).alloc (.cells #[.slice sa' n sc'] 25)) _ _ _) at BB
  change Hid (Only Nil w ((w.alloc (.cells #[.slice sa n sc] 25)).alloc (.cells #[.slice sa' n sc'] 25))) at O1
  generalize (w.alloc (.cells #[.slice sa n sc] 25)).alloc (.cells #[.slice sa' n sc'] 25) = w1 at *
  generalize w.heap.size = B at *
  have c1 := BA.out.cell 0 (v := .slice sa n sc) rfl
  have d1 := BB.out.cell 0 (v := .slice sa' n sc') rfl
  go_wp2
  go_loopw [5, 6, 7, 8, 9] (fun s5 _ _ _ _ wr => ∃ k0 : Nat, s5 = .int .i64 (k0 : Int) ∧ k0 ≤ n ∧ Hid (∀ j, j < k0 → L[j]? = L'[j]?) ∧ Hid (Only Nil w1 wr))
    (fun s5 _ _ _ _ _ => n - (intOf s5).toNat)
  case atStart => exact ⟨0, rfl, Nat.zero_le _, Lib.hid (fun j hj => absurd hj (Nat.not_lt_zero j)), Lib.hid (Only.refl _ _)⟩
  case round =>
    obtain ⟨k0, rfl, hk0, hE0, hO⟩ := hrel
    clear c1 d1
    have c1 := (BA.out.keep hO.out).cell 0 (v := .slice sa n sc) rfl
    have d1 := (BB.out.keep hO.out).cell 0 (v := .slice sa' n sc') rfl
    by_cases hkn0 : k0 < n
    · obtain ⟨u0, v0, ⟨b, off, rfl, hlt, hc⟩, g0, j0⟩ := (H1.out.keep (O1.out.trans hO.out) (nilS · D)).at_ HN.out k0 hkn0
      obtain ⟨u0', v0', ⟨b', off', rfl, hlt', hc'⟩, g0', j0'⟩ := (H2.out.keep (O1.out.trans hO.out) (nilS · D')).at_ HM.out k0 hkn0
      have EL := Lib.hid (List.getElem?_eq_getElem (show k0 < L.length by rw [HN.out]; exact hkn0))
      have EM := Lib.hid (List.getElem?_eq_getElem (show k0 < L'.length by rw [HM.out]; exact hkn0))
      have hk1 : k0 < L.length := by rw [HN.out]; exact hkn0
      have hk2 : k0 < L'.length := by rw [HM.out]; exact hkn0
      have HSX := Lib.hid (HSM.out _ (List.getElem_mem hk1))
      generalize L[k0] = x at *
      generalize L'[k0] = y at *
      obtain ⟨p0, r0, rfl⟩ := g0.slice
      obtain ⟨p0', r0', rfl⟩ := g0'.slice
      obtain ⟨p1, r1, rfl⟩ := j0.slice
      obtain ⟨p1', r1', rfl⟩ := j0'.slice
      have e0 : wr.cell? ⟨b, off + k0 * 5, none⟩ = some (.string (bs x.name)) := hc 0 (by decide)
      have e1 : wr.cell? ⟨b, off + k0 * 5 + 1, none⟩ = some (.int .i64 x.limit) := hc 1 (by decide)
      have e2 : wr.cell? ⟨b, off + k0 * 5 + 2, none⟩ = some (.int .i64 x.within) := hc 2 (by decide)
      have e3 : wr.cell? ⟨b, off + k0 * 5 + 3, none⟩ = some (.slice p0 x.cases.length r0) := hc 3 (by decide)
      have e4 : wr.cell? ⟨b, off + k0 * 5 + 4, none⟩ = some (.slice p1 x.states.length r1) := hc 4 (by decide)
      have f0 : wr.cell? ⟨b', off' + k0 * 5, none⟩ = some (.string (bs y.name)) := hc' 0 (by decide)
      have f1 : wr.cell? ⟨b', off' + k0 * 5 + 1, none⟩ = some (.int .i64 y.limit) := hc' 1 (by decide)
      have f2 : wr.cell? ⟨b', off' + k0 * 5 + 2, none⟩ = some (.int .i64 y.within) := hc' 2 (by decide)
      have f3 : wr.cell? ⟨b', off' + k0 * 5 + 3, none⟩ = some (.slice p0' y.cases.length r0') := hc' 3 (by decide)
      have f4 : wr.cell? ⟨b', off' + k0 * 5 + 4, none⟩ = some (.slice p1' y.states.length r1') := hc' 4 (by decide)
      have G1 := Lib.hid (fun w' (o : Only Nil wr w') => g0.keep o (nilS · D))
      have G2 := Lib.hid (fun w' (o : Only Nil wr w') => g0'.keep o (nilS · D'))
      have J1 := Lib.hid (fun w' (o : Only Nil wr w') => j0.keep o (nilS · D))
      have J2 := Lib.hid (fun w' (o : Only Nil wr w') => j0'.keep o (nilS · D'))
      clear hc hc' hk1 hk2 g0 g0' j0 j0'
      have lB := cellLt c1
      have lB' := cellLt d1
      have HZF := Lib.hid (show ¬ x = y → z = false from fun hne => HZN.out (ne_at EL.out EM.out hne))
      go_upto_region 6 with (fail)
      go_cut [6, 7] (fun s6 s7 wx => ∃ X Y : Nat, s6 = .pointer (some ⟨X, 0, none⟩) ∧ s7 = .pointer (some ⟨Y, 0, none⟩) ∧ Hid (Bx wx X (kdL x.name x.limit x.within (.slice p0 x.cases.length r0) (.slice p1 x.states.length r1)) 40) ∧ Hid (Bx wx Y (kdL y.name y.limit y.within (.slice p0' y.cases.length r0') (.slice p1' y.states.length r1')) 40) ∧ Hid (Only Nil wr wx))
      case first =>
        have ab := Lib.hid (two_ab wr.drew (kdL x.name x.limit x.within (.slice p0 x.cases.length r0) (.slice p1 x.states.length r1)) (kdL y.name y.limit y.within (.slice p0' y.cases.length r0') (.slice p1' y.states.length r1')) 40)
        have ba := Lib.hid (two_ab wr.drew (kdL y.name y.limit y.within (.slice p0' y.cases.length r0') (.slice p1' y.states.length r1')) (kdL x.name x.limit x.within (.slice p0 x.cases.length r0) (.slice p1 x.states.length r1)) 40)
        have ab' := Lib.hid (two_ab wr (kdL x.name x.limit x.within (.slice p0 x.cases.length r0) (.slice p1 x.states.length r1)) (kdL y.name y.limit y.within (.slice p0' y.cases.length r0') (.slice p1' y.states.length r1')) 40)
        have ba' := Lib.hid (two_ab wr (kdL y.name y.limit y.within (.slice p0' y.cases.length r0') (.slice p1' y.states.length r1')) (kdL x.name x.limit x.within (.slice p0 x.cases.length r0) (.slice p1 x.states.length r1)) 40)
        have nb1 := World.new_ne wr _ c1
        have nb2 := World.new_ne wr _ d1
        have nb3 := World.new_ne wr _ e0
        have nb4 := World.new_ne wr _ f0
        go_region_held3 (fun w' => w'.cell? ⟨B, 0, none⟩ = some (.slice (some ⟨b, off, none⟩) n sc) ∧ w'.cell? ⟨B + 1, 0, none⟩ = some (.slice (some ⟨b', off', none⟩) n sc') ∧
            w'.cell? ⟨b, off + k0 * 5, none⟩ = some (.string (bs x.name)) ∧ w'.cell? ⟨b, off + k0 * 5 + 1, none⟩ = some (.int .i64 x.limit) ∧ w'.cell? ⟨b, off + k0 * 5 + 2, none⟩ = some (.int .i64 x.within) ∧ w'.cell? ⟨b, off + k0 * 5 + 3, none⟩ = some (.slice p0 x.cases.length r0) ∧ w'.cell? ⟨b, off + k0 * 5 + 4, none⟩ = some (.slice p1 x.states.length r1) ∧ w'.cell? ⟨b', off' + k0 * 5, none⟩ = some (.string (bs y.name)) ∧ w'.cell? ⟨b', off' + k0 * 5 + 1, none⟩ = some (.int .i64 y.limit) ∧ w'.cell? ⟨b', off' + k0 * 5 + 2, none⟩ = some (.int .i64 y.within) ∧ w'.cell? ⟨b', off' + k0 * 5 + 3, none⟩ = some (.slice p0' y.cases.length r0') ∧ w'.cell? ⟨b', off' + k0 * 5 + 4, none⟩ = some (.slice p1' y.states.length r1'))
          (first | exact ⟨c1, d1, e0, e1, e2, e3, e4, f0, f1, f2, f3, f4⟩ | go_keep)
          (fail)
        all_goals
          go_wp2_with (fail)
          go_meet
          first
            | exact ⟨_, _, rfl, rfl, Lib.hid ab.out.1, Lib.hid ab.out.2, Lib.hid (((Only.refl Nil wr).drew.alloc _).alloc _)⟩
            | exact ⟨_, _, rfl, rfl, Lib.hid ba.out.2, Lib.hid ba.out.1, Lib.hid (((Only.refl Nil wr).drew.alloc _).alloc _)⟩
            | exact ⟨_, _, rfl, rfl, Lib.hid (ab'.out.1.keep (Only.refl Nil _).drew), Lib.hid (ab'.out.2.keep (Only.refl Nil _).drew), Lib.hid (((Only.refl Nil wr).alloc _).alloc _).drew⟩
            | exact ⟨_, _, rfl, rfl, Lib.hid (ba'.out.2.keep (Only.refl Nil _).drew), Lib.hid (ba'.out.1.keep (Only.refl Nil _).drew), Lib.hid (((Only.refl Nil wr).alloc _).alloc _).drew⟩
      case rest =>
        obtain ⟨X, Y, rfl, rfl, BX, BY, OX⟩ := hcut
        clear lB lB' hlt hlt' e0 e1 e2 e3 e4 f0 f1 f2 f3 f4 c1 d1
        have HO6 := Lib.hid (hO.out.trans OX.out)
        have GG1 := Lib.hid (G1.out _ OX.out)
        have GG2 := Lib.hid (G2.out _ OX.out)
        have JJ1 := Lib.hid (J1.out _ OX.out)
        have JJ2 := Lib.hid (J2.out _ OX.out)
        have x0 := BX.out.cell 0 (v := .string (bs x.name)) rfl
        have x1 := BX.out.cell 1 (v := .int .i64 x.limit) rfl
        have x2 := BX.out.cell 2 (v := .int .i64 x.within) rfl
        have q1 := BX.out.cell 3 (v := .slice p0 x.cases.length r0) rfl
        have m1 := BX.out.cell 4 (v := .slice p1 x.states.length r1) rfl
        have y0 := BY.out.cell 0 (v := .string (bs y.name)) rfl
        have y1 := BY.out.cell 1 (v := .int .i64 y.limit) rfl
        have y2 := BY.out.cell 2 (v := .int .i64 y.within) rfl
        have q2 := BY.out.cell 3 (v := .slice p0' y.cases.length r0') rfl
        have m2 := BY.out.cell 4 (v := .slice p1' y.states.length r1') rfl
        clear G1 G2 J1 J2
        generalize wc = wo at *
        by_cases ht : x.name = y.name
        case neg =>
          have hq := str_ne ht
          have HX := Lib.hid (HZF.out (fun h => ht (by rw [h])))
          clear ht
          go_wp2
          go_ret
          exact ⟨by rw [HX.out]; rfl, O1.out.trans HO6.out⟩
        rw [← ht] at y0
        have hq0 := str_eq x.name
        by_cases hon : x.limit = y.limit
        case neg =>
          have hq : (x.limit == y.limit) = false := by simpa using hon
          have hq' : (x.limit != y.limit) = true := by simpa using hon
          have HX := Lib.hid (HZF.out (fun h => hon (by rw [h])))
          clear hon ht
          go_wp2
          go_ret
          exact ⟨by rw [HX.out]; rfl, O1.out.trans HO6.out⟩
        rw [← hon] at y1
        by_cases hnn : x.within = y.within
        case neg =>
          have hq : (x.within == y.within) = false := by simpa using hnn
          have hq' : (x.within != y.within) = true := by simpa using hnn
          have HX := Lib.hid (HZF.out (fun h => hnn (by rw [h])))
          clear hon ht hnn
          go_wp2
          go_ret
          exact ⟨by rw [HX.out]; rfl, O1.out.trans HO6.out⟩
        rw [← hnn] at y2
        by_cases hle : x.cases.length = y.cases.length
        case neg =>
          have hq1 : (((x.cases.length : Nat) : Int) != (y.cases.length : Int)) = true := by simp; omega
          have hq2 : (x.cases.length != y.cases.length) = true := by simpa using hle
          have HX := Lib.hid (HZF.out (fun h => hle (by rw [h])))
          clear hon ht hnn hle
          go_wp2
          go_ret
          exact ⟨by rw [HX.out]; rfl, O1.out.trans HO6.out⟩
        rw [← hle] at q2 GG2
        have hql : (((x.cases.length : Nat) : Int) != (x.cases.length : Int)) = false := by simp
        have hql2 : (x.cases.length != x.cases.length) = false := by simp
        by_cases hls : x.states.length = y.states.length
        case neg =>
          have hq1 : (((x.states.length : Nat) : Int) != (y.states.length : Int)) = true := by simp; omega
          have hq2 : (x.states.length != y.states.length) = true := by simpa using hls
          have HX := Lib.hid (HZF.out (fun h => hls (by rw [h])))
          clear hon ht hnn hle hls
          go_wp2
          go_ret
          exact ⟨by rw [HX.out]; rfl, O1.out.trans HO6.out⟩
        have HT := Lib.hid (And.intro ht (And.intro hon hnn))
        rw [← hls] at m2 JJ2
        have hqs : (((x.states.length : Nat) : Int) != (x.states.length : Int)) = false := by simp
        have hqs2 : (x.states.length != x.states.length) = false := by simp
        have hbe : (x.cases.length : Int) ≤ 65000 := by have := HSX.out.1; omega
        have hbs : (x.states.length : Int) ≤ 65000 := by have := HSX.out.2.1; omega
        clear ht hon hnn
        have G1 : Hid (XC D wo (.slice p0 x.cases.length r0) x.cases) := GG1
        have G2 : Hid (XC D' wo (.slice p0' x.cases.length r0') y.cases) := GG2
        have J1 : Hid (XS D wo (.slice p1 x.states.length r1) x.states) := JJ1
        have J2 : Hid (XS D' wo (.slice p1' x.states.length r1') y.states) := JJ2
        generalize hne : x.cases.length = nC at *
        generalize hns : x.states.length = nS at *
        have N1 := Lib.hid hne
        have N2 := Lib.hid hle.symm
        have N3 := Lib.hid hns
        have N4 := Lib.hid hls.symm
        have QS := Lib.hid (fun w' (o : Only Nil wo w') => only_cell0 o m1)
        have QS' := Lib.hid (fun w' (o : Only Nil wo w') => only_cell0 o m2)
        clear hne hle GG1 GG2 BX BY hns hls JJ1 JJ2
        go_wp2
        go_loopw [8] (fun s wr => ∃ k : Nat, k ≤ nC ∧ s = .int .i64 (k : Int) ∧ Hid (∀ j, j < k → x.cases[j]? = y.cases[j]?) ∧ Hid (Only Nil wo wr))
          (fun s _ => nC - (intOf s).toNat)
        case atStart => exact ⟨0, Nat.zero_le _, rfl, Lib.hid (fun j hj => absurd hj (Nat.not_lt_zero j)), Lib.hid (Only.refl _ _)⟩
        case round =>
          obtain ⟨k, hk, rfl, hE, hO'⟩ := hrel
          have f1 := only_cell0 hO'.out q1
          have f2 := only_cell0 hO'.out q2
          by_cases hkn : k < nC
          · obtain ⟨b, off, rfl, hlt, hc⟩ := (G1.out.keep hO'.out (nilS · D)).at_ N1.out k hkn
            obtain ⟨b', off', rfl, hlt', hc'⟩ := (G2.out.keep hO'.out (nilS · D')).at_ N2.out k hkn
            have EL := Lib.hid (List.getElem?_eq_getElem (show k < x.cases.length by rw [N1.out]; exact hkn))
            have EM := Lib.hid (List.getElem?_eq_getElem (show k < y.cases.length by rw [N2.out]; exact hkn))
            have hk1 : k < x.cases.length := by rw [N1.out]; exact hkn
            have hk2 : k < y.cases.length := by rw [N2.out]; exact hkn
            generalize x.cases[k] = u at *
            generalize y.cases[k] = v at *
            clear hk1 hk2
            have a0 : wr.cell? ⟨b, off + k * 2, none⟩ = some (.string (bs u.reason)) := hc 0 (by decide)
            have b0 : wr.cell? ⟨b', off' + k * 2, none⟩ = some (.string (bs v.reason)) := hc' 0 (by decide)
            have a1 : wr.cell? ⟨b, off + k * 2 + 1, none⟩ = some (.int .i64 u.act) := hc 1 (by decide)
            have b1 : wr.cell? ⟨b', off' + k * 2 + 1, none⟩ = some (.int .i64 v.act) := hc' 1 (by decide)
            clear hc hc'
            have hg := guard_cs
            by_cases huv : u = v
            · subst huv
              have hne := neq_cs u u
              simp only [decide_true, Bool.not_true] at hne
              have HX := Lib.hid (upto_snoc hE.out EL.out EM.out)
              have od := Lib.hid (hO'.out.trans (Only.refl Nil wr).drew)
              go_upto_region 12 with (fail)
              go_region_with (fail)
              all_goals
                go_wp2
                go_roundw
                case rel => exact ⟨k + 1, by omega, by go_num, HX, od⟩
                case measure => simp [intOf]; omega
            · have hne := neq_cs u v
              simp only [huv, decide_false, Bool.not_false] at hne
              have HX := Lib.hid (ne_at EL.out EM.out huv)
              have od := Lib.hid (hO'.out.trans (Only.refl Nil wr).drew)
              clear huv
              go_upto_region 12 with (fail)
              go_region_with (fail)
              all_goals
                go_wp2
                go_ret
                exact ⟨by rw [HZF.out (fun h => HX.out ((Kd_eq x y).1 h).2.2.2.1)]; rfl, (O1.out.trans HO6.out).trans od.out⟩
          · obtain rfl : k = nC := by omega
            have HQ := Lib.hid (eq_upto N1.out N2.out hE.out)
            have HOO := Lib.hid hO'.out
            clear hkn hE hO' f2 q1 q2
            have HCQ := HQ
            have HO7 := Lib.hid (HO6.out.trans HOO.out)
            have m1 := QS.out _ HOO.out
            have m2 := QS'.out _ HOO.out
            have QS2 := Lib.hid (fun w' (o : Only Nil wr w') => only_cell0 o m1)
            have QS2' := Lib.hid (fun w' (o : Only Nil wr w') => only_cell0 o m2)
            have J3 := Lib.hid (J1.out.keep HOO.out (nilS · D))
            have J4 := Lib.hid (J2.out.keep HOO.out (nilS · D'))
            clear HOO HO6 QS QS' J1 J2 HQ
            have J1 := J3
            have J2 := J4
            have QS := QS2
            have QS' := QS2'
            have HO6 := HO7
            clear J3 J4 QS2 QS2' HO7
            generalize wr = wo at *
            go_wp2
            go_loopw [9] (fun s wr => ∃ k : Nat, k ≤ nS ∧ s = .int .i64 (k : Int) ∧ Hid (∀ j, j < k → x.states[j]? = y.states[j]?) ∧ Hid (Only Nil wo wr))
              (fun s _ => nS - (intOf s).toNat)
            case atStart => exact ⟨0, Nat.zero_le _, rfl, Lib.hid (fun j hj => absurd hj (Nat.not_lt_zero j)), Lib.hid (Only.refl _ _)⟩
            case round =>
              obtain ⟨k, hk, rfl, hE, hO'⟩ := hrel
              clear m1 m2
              have m1 := QS.out _ hO'.out
              have m2 := QS'.out _ hO'.out
              by_cases hkn : k < nS
              · obtain ⟨t0, ⟨b, off, rfl, hlt, hc⟩, gg⟩ := (J1.out.keep hO'.out (nilS · D)).at_ N3.out k hkn
                obtain ⟨t0', ⟨b', off', rfl, hlt', hc'⟩, gg'⟩ := (J2.out.keep hO'.out (nilS · D')).at_ N4.out k hkn
                have EL3 := Lib.hid (List.getElem?_eq_getElem (show k < x.states.length by rw [N3.out]; exact hkn))
                have EM3 := Lib.hid (List.getElem?_eq_getElem (show k < y.states.length by rw [N4.out]; exact hkn))
                have hk1 : k < x.states.length := by rw [N3.out]; exact hkn
                have hk2 : k < y.states.length := by rw [N4.out]; exact hkn
                have HSU := Lib.hid (HSX.out.2.2 _ (List.getElem_mem hk1))
                generalize x.states[k] = u at *
                generalize y.states[k] = v at *
                clear hk1 hk2
                obtain ⟨t1, t2, rfl⟩ := gg.slice
                obtain ⟨t1', t2', rfl⟩ := gg'.slice
                have a0 : wr.cell? ⟨b, off + k * 2, none⟩ = some (.string (bs u.name)) := hc 0 (by decide)
                have a1 : wr.cell? ⟨b, off + k * 2 + 1, none⟩ = some (.slice t1 u.rows.length t2) := hc 1 (by decide)
                have b0 : wr.cell? ⟨b', off' + k * 2, none⟩ = some (.string (bs v.name)) := hc' 0 (by decide)
                have b1 : wr.cell? ⟨b', off' + k * 2 + 1, none⟩ = some (.slice t1' v.rows.length t2') := hc' 1 (by decide)
                have GG := Lib.hid gg
                have GG' := Lib.hid gg'
                clear hc hc' gg gg'
                by_cases huv : u = v
                · have hd := Lib.hid (show decide (u.name = v.name ∧ u.rows = v.rows) = true from decide_eq_true (by rw [huv]; exact ⟨rfl, rfl⟩))
                  have HX := Lib.hid (upto_snoc hE.out EL3.out (huv ▸ EM3.out))
                  clear huv
                  go_upto_region 17 with (fail)
                  go_region_held3 (fun w' => w'.cell? ⟨X, 4, none⟩ = some (.slice (some ⟨b, off, none⟩) nS r1) ∧ w'.cell? ⟨Y, 4, none⟩ = some (.slice (some ⟨b', off', none⟩) nS r1') ∧ w'.cell? ⟨b, off + k * 2, none⟩ = some (.string (bs u.name)) ∧ w'.cell? ⟨b, off + k * 2 + 1, none⟩ = some (.slice t1 u.rows.length t2) ∧ w'.cell? ⟨b', off' + k * 2, none⟩ = some (.string (bs v.name)) ∧ w'.cell? ⟨b', off' + k * 2 + 1, none⟩ = some (.slice t1' v.rows.length t2'))
                    (first | exact ⟨m1, m2, a0, a1, b0, b1⟩ | exact ⟨z0, z1, z2, z3, z4, z5⟩ | go_keep)
                    ((go_at_call 18; refine (rsame_state (z := true) (GG.out.keep (Only.refl Nil wr).drew (nilS · D)) (GG'.out.keep (Only.refl Nil wr).drew (nilS · D')) HSU.out hd.out).mono ?_; rintro e w8 ⟨rfl, o8⟩; have z0 := only_cell0 (w := wr.drew) o8 m1; have z1 := only_cell0 (w := wr.drew) o8 m2; have z2 := only_cell0 (w := wr.drew) o8 a0; have z3 := only_cell0 (w := wr.drew) o8 a1; have z4 := only_cell0 (w := wr.drew) o8 b0; have z5 := only_cell0 (w := wr.drew) o8 b1; have O8 := Lib.hid (hO'.out.trans ((Only.refl Nil wr).drew.trans o8)); clear o8))
                  all_goals
                    go_wp2
                    go_roundw
                    case rel => exact ⟨k + 1, by omega, by go_num, HX, O8⟩
                    case measure => simp [intOf]; omega
                · have hd := Lib.hid (show decide (u.name = v.name ∧ u.rows = v.rows) = false from decide_eq_false (fun h => huv ((Sta_eq u v).2 h)))
                  have HX := Lib.hid (ne_at EL3.out EM3.out huv)
                  clear huv
                  go_upto_region 17 with (fail)
                  go_region_held3 (fun w' => w'.cell? ⟨X, 4, none⟩ = some (.slice (some ⟨b, off, none⟩) nS r1) ∧ w'.cell? ⟨Y, 4, none⟩ = some (.slice (some ⟨b', off', none⟩) nS r1') ∧ w'.cell? ⟨b, off + k * 2, none⟩ = some (.string (bs u.name)) ∧ w'.cell? ⟨b, off + k * 2 + 1, none⟩ = some (.slice t1 u.rows.length t2) ∧ w'.cell? ⟨b', off' + k * 2, none⟩ = some (.string (bs v.name)) ∧ w'.cell? ⟨b', off' + k * 2 + 1, none⟩ = some (.slice t1' v.rows.length t2'))
                    (first | exact ⟨m1, m2, a0, a1, b0, b1⟩ | exact ⟨z0, z1, z2, z3, z4, z5⟩ | go_keep)
                    ((go_at_call 18; refine (rsame_state (z := false) (GG.out.keep (Only.refl Nil wr).drew (nilS · D)) (GG'.out.keep (Only.refl Nil wr).drew (nilS · D')) HSU.out hd.out).mono ?_; rintro e w8 ⟨rfl, o8⟩; have z0 := only_cell0 (w := wr.drew) o8 m1; have z1 := only_cell0 (w := wr.drew) o8 m2; have z2 := only_cell0 (w := wr.drew) o8 a0; have z3 := only_cell0 (w := wr.drew) o8 a1; have z4 := only_cell0 (w := wr.drew) o8 b0; have z5 := only_cell0 (w := wr.drew) o8 b1; have O8 := Lib.hid (hO'.out.trans ((Only.refl Nil wr).drew.trans o8)); clear o8))
                  all_goals
                    go_wp2
                    go_ret
                    exact ⟨by rw [HZF.out (fun h => HX.out ((Kd_eq x y).1 h).2.2.2.2)]; rfl, (O1.out.trans HO6.out).trans O8.out⟩
              · obtain rfl : k = nS := by omega
                have HXY := Lib.hid (show x = y from (Kd_eq x y).2 ⟨HT.out.1, HT.out.2.1, HT.out.2.2, HCQ.out, eq_upto N3.out N4.out hE.out⟩)
                have HX := Lib.hid (upto_snoc (x := x) hE0.out EL.out (HXY.out ▸ EM.out))
                have od := Lib.hid (HO6.out.trans hO'.out)
                clear hkn hE
                go_wp2
                go_roundw
                case rel => exact ⟨k0 + 1, by go_num, by omega, HX, od⟩
                case measure => simp [intOf]; omega
    · obtain rfl : k0 = n := by omega
      have HX := Lib.hid (HZT.out (eq_upto HN.out HM.out hE0.out))
      clear hkn0 hE0
      go_wp2
      go_ret
      exact ⟨by rw [HX.out]; rfl, O1.out.trans hO.out⟩
end Go.Proofs.YtnkokonkbklelaaGreatDoor.Ps
