/- parse: rows, states, kinds and programs compared. -/
import Derived.Test.YtdhokkmflccaaaaGreatDoorPsM7
import Derived.Shelf.Abstract
set_option linter.unusedVariables false
namespace Go.Proofs.YtdhokkmflccaaaaGreatDoor.Ps
open Go.RowKit Go.Proofs.YtdhokkmflccaaaaGreatDoor Lx

theorem two_box (w w1 : World) (c1 c2 : Array Value) (t : TypeId) (o : Only Nil ((w.alloc (.cells c1 t)).alloc (.cells c2 t)) w1) (k : Nat) (x y : Value) (h1 : c1[k]? = some x) (h2 : c2[k]? = some y) :
    w1.cell? ⟨w.heap.size, k, none⟩ = some x ∧ w1.cell? ⟨w.heap.size + 1, k, none⟩ = some y := by
  have hs : (w.alloc (.cells c1 t)).heap.size = w.heap.size + 1 := by simp
  have g1 : ((w.alloc (.cells c1 t)).alloc (.cells c2 t)).heap[w.heap.size]? = some (.cells c1 t (0, 0)) := by
    rw [Below.heap_alloc _ _ _ (by rw [hs]; omega)]; exact heap_new w _
  have g2 : ((w.alloc (.cells c1 t)).alloc (.cells c2 t)).heap[w.heap.size + 1]? = some (.cells c2 t (0, 0)) := by
    rw [← hs]; exact heap_new _ _
  refine ⟨only_cell0 o ?_, only_cell0 o ?_⟩
  · simp only [World.cell?, g1]; simpa using h1
  · simp only [World.cell?, g2]; simpa using h2
theorem str_ne {a b : Wd} (h : ¬ a = b) : ((bs a).toList == (bs b).toList) = false := by rw [bs_beq]; exact decide_eq_false h
theorem str_eq (a : Wd) : ((bs a).toList == (bs a).toList) = true := by simp

set_option maxRecDepth 100000 in
set_option maxHeartbeats 4000000 in
theorem same_row {D D' : Nat} {w : World} {tg : Wd} {tg' : Wd} {on : Bool} {on' : Bool} {nn : Int} {nn' : Int} {L0 : List Eff} {L0' : List Eff} {s0 : Value} {s0' : Value} (h0 : XE D w s0 L0) (h0' : XE D' w s0' L0') (b0 : L0.length ≤ 65000) {z : Bool} (hz0 : decide (tg = tg' ∧ on = on' ∧ nn = nn' ∧ L0 = L0') = z) :
    Calls Tryz.prog 125 #[.agg #[.string (bs tg), .bool on, .int .i64 nn, s0], .agg #[.string (bs tg'), .bool on', .int .i64 nn', s0']] w fun e w' => e = .returned (.bool z) ∧ Only Nil w w' := by
  obtain ⟨a0, c0, rfl⟩ := h0.slice
  obtain ⟨a0', c0', rfl⟩ := h0'.slice
  have H0 := Lib.hid h0
  have H0' := Lib.hid h0'
  have HB0 := Lib.hid b0
  clear b0
  clear h0 h0'
  by_cases hq_tg : tg = tg'
  case neg =>
    have hz := str_ne hq_tg
    have HX := Lib.hid (show z = false from hz0.symm.trans (decide_eq_false (fun h => hq_tg h.1)))
    clear hq_tg hz0
    go_enter Tryz.func125, Tryz.ntmps125
    go_wp2
    go_ret
    exact ⟨by rw [HX.out]; rfl, ((Only.refl Nil w).alloc _).alloc _⟩
  subst hq_tg
  by_cases hq_on : on = on'
  case neg =>
    have hz : (on == on') = false := by simpa using hq_on
    have HX := Lib.hid (show z = false from hz0.symm.trans (decide_eq_false (fun h => hq_on h.2.1)))
    clear hq_on hz0
    have hy0 := str_eq tg
    go_enter Tryz.func125, Tryz.ntmps125
    go_wp2
    go_ret
    exact ⟨by rw [HX.out]; rfl, ((Only.refl Nil w).alloc _).alloc _⟩
  subst hq_on
  by_cases hq_nn : nn = nn'
  case neg =>
    have hz : (nn == nn') = false := by simpa using hq_nn
    have HX := Lib.hid (show z = false from hz0.symm.trans (decide_eq_false (fun h => hq_nn h.2.2.1)))
    clear hq_nn hz0
    have hy0 := str_eq tg
    go_enter Tryz.func125, Tryz.ntmps125
    go_wp2
    go_ret
    exact ⟨by rw [HX.out]; rfl, ((Only.refl Nil w).alloc _).alloc _⟩
  subst hq_nn
  have hy0 := str_eq tg
  by_cases hl0 : L0 = L0'
  case neg =>
    have HQ0 := Lib.hid (decide_eq_false hl0)
    have HX := Lib.hid (show z = false from hz0.symm.trans (decide_eq_false (fun h => hl0 h.2.2.2)))
    clear hl0 hz0
    go_enter Tryz.func125, Tryz.ntmps125
    go_wp2_with fail
    refine (equal_eff (H0.out.keep (((Only.refl Nil w).alloc _).alloc _) (nilS · D)) (H0'.out.keep (((Only.refl Nil w).alloc _).alloc _) (nilS · D')) HB0.out).mono ?_
    rintro e w1 ⟨rfl, o1⟩
    have OO1 := Lib.hid ((((Only.refl Nil w).alloc _).alloc _).trans o1)
    clear o1
    rw [HQ0.out]
    go_wp2
    go_ret
    exact ⟨by rw [HX.out]; rfl, OO1.out⟩
  have HQ0 := Lib.hid (decide_eq_true hl0)
  have HL0 := Lib.hid hl0
  clear hl0
  have HX := Lib.hid (show z = true from hz0.symm.trans (decide_eq_true ⟨rfl, rfl, rfl, HL0.out⟩))
  clear hz0
  go_enter Tryz.func125, Tryz.ntmps125
  go_wp2_with fail
  refine (equal_eff (H0.out.keep (((Only.refl Nil w).alloc _).alloc _) (nilS · D)) (H0'.out.keep (((Only.refl Nil w).alloc _).alloc _) (nilS · D')) HB0.out).mono ?_
  rintro e w1 ⟨rfl, o1⟩
  have OO1 := Lib.hid ((((Only.refl Nil w).alloc _).alloc _).trans o1)
  clear o1
  rw [HQ0.out]
  go_wp2
  go_ret
  exact ⟨by rw [HX.out]; rfl, OO1.out⟩

theorem Rw_eq (x y : Rw) : (x = y) ↔ (x.tag = y.tag ∧ x.only = y.only ∧ x.n = y.n ∧ x.effs = y.effs) := by cases x; cases y; simp
set_option maxRecDepth 100000 in
set_option maxHeartbeats 4000000 in
theorem equalF_row {D D' : Nat} {w : World} {v v' : Value} {L M : List Rw} (h1 : XR D w v L) (h2 : XR D' w v' M) (hb : L.length ≤ 65000) (hsm : ∀ x ∈ L, smR x) :
    Calls Tryz.prog 124 #[v, v', .func (.func 125) #[] #[]] w fun e w' => e = .returned (.bool (decide (L = M))) ∧ Only Nil w w' := by
  obtain ⟨a, c, rfl⟩ := h1.slice
  obtain ⟨a', c', rfl⟩ := h2.slice
  have eg := enters_of Tryz.func125 (by kernel_rfl) rfl
  have H1 := Lib.hid h1
  by_cases hlen : L.length = M.length
  · have h2' := Lib.hid (hlen ▸ h2)
    have HSM := Lib.hid hsm
    clear hsm
    rw [← hlen]
    have hz : (((L.length : Nat) : Int) != (L.length : Int)) = false := by simp
    have hz2 : (L.length != L.length) = false := by simp
    generalize hn : L.length = n at *
    have HN := Lib.hid hn
    have HM := Lib.hid hlen
    have hb' : (n : Int) ≤ 65000 := by omega
    clear hlen hn h1 h2 hb
    go_enter Tryz.func124, Tryz.ntmps124
    go_wp2
    go_loopw [17] (fun s17 wr => ∃ (k : Nat), k ≤ n ∧ s17 = .int .i64 (k : Int) ∧ Hid (∀ j, j < k → L[j]? = M[j]?) ∧ Hid (Only Nil w wr))
      (fun s17 _ => n - (intOf s17).toNat)
    case atStart => exact ⟨0, Nat.zero_le _, rfl, Lib.hid (fun j hj => absurd hj (Nat.not_lt_zero j)), Lib.hid (Only.refl _ _)⟩
    case round =>
      obtain ⟨k, hk, rfl, hE, hO⟩ := hrel
      by_cases hkn : k < n
      · obtain ⟨u0, ⟨b, off, rfl, hlt, hc⟩, g0⟩ := (H1.out.keep hO.out (nilS · D)).at_ HN.out k hkn
        obtain ⟨u0', ⟨b', off', rfl, hlt', hc'⟩, g0'⟩ := (h2'.out.keep hO.out (nilS · D')).at_ HM.out.symm k hkn
        have eL : L[k]? = some (L[k]'(by rw [HN.out]; exact hkn)) := List.getElem?_eq_getElem (by rw [HN.out]; exact hkn)
        have eM : M[k]? = some (M[k]'(by rw [← HM.out]; exact hkn)) := List.getElem?_eq_getElem (by rw [← HM.out]; exact hkn)
        have hmem : L[k]'(by rw [HN.out]; exact hkn) ∈ L := List.getElem_mem _
        have EL := Lib.hid eL
        have EM := Lib.hid eM
        have EMM := Lib.hid hmem
        generalize L[k]'(by rw [HN.out]; exact hkn) = x at *
        generalize M[k]'(by rw [← HM.out]; exact hkn) = y at *
        clear eL eM hmem
        have e0 : wr.cell? ⟨b, off + k * 4, none⟩ = some (.string (bs x.tag)) := hc 0 (by decide)
        have d0 : wr.cell? ⟨b', off' + k * 4, none⟩ = some (.string (bs y.tag)) := hc' 0 (by decide)
        have e1 : wr.cell? ⟨b, off + k * 4 + 1, none⟩ = some (.bool x.only) := hc 1 (by decide)
        have d1 : wr.cell? ⟨b', off' + k * 4 + 1, none⟩ = some (.bool y.only) := hc' 1 (by decide)
        have e2 : wr.cell? ⟨b, off + k * 4 + 2, none⟩ = some (.int .i64 x.n) := hc 2 (by decide)
        have d2 : wr.cell? ⟨b', off' + k * 4 + 2, none⟩ = some (.int .i64 y.n) := hc' 2 (by decide)
        have e3 : wr.cell? ⟨b, off + k * 4 + 3, none⟩ = some (u0) := hc 3 (by decide)
        have d3 : wr.cell? ⟨b', off' + k * 4 + 3, none⟩ = some (u0') := hc' 3 (by decide)
        obtain ⟨p0, q0, rfl⟩ := g0.slice
        obtain ⟨p0', q0', rfl⟩ := g0'.slice
        have G0 := Lib.hid g0
        have G0' := Lib.hid g0'
        clear hc hc' g0 g0'
        by_cases hxy : x = y
        · have hd := Lib.hid (show decide (x.tag = y.tag ∧ x.only = y.only ∧ x.n = y.n ∧ x.effs = y.effs) = true from decide_eq_true ((Rw_eq x y).1 hxy))
          have HX := Lib.hid (show ∀ j, j < k + 1 → L[j]? = M[j]? from fun j hj => by
            rcases Nat.lt_or_ge j k with h | h
            · exact hE.out j h
            · obtain rfl : j = k := by omega
              rw [EL.out, EM.out, hxy])
          clear hxy
          go_wp2_with fail
          refine (same_row (z := true) (G0.out.keep (((Only.refl Nil wr).alloc _).alloc _) (nilS · D)) (G0'.out.keep (((Only.refl Nil wr).alloc _).alloc _) (nilS · D')) (HSM.out x EMM.out) hd.out).mono ?_
          rintro e w2 ⟨rfl, o2⟩
          have o2' := Lib.hid (hO.out.trans ((((Only.refl Nil wr).alloc _).alloc _).trans o2))
          clear hd o2
          go_wp2
          go_roundw
          case rel => exact ⟨k + 1, by omega, by go_num, HX, o2'⟩
          case measure => simp [intOf]; omega
        · have hd := Lib.hid (show decide (x.tag = y.tag ∧ x.only = y.only ∧ x.n = y.n ∧ x.effs = y.effs) = false from decide_eq_false (fun h => hxy ((Rw_eq x y).2 h)))
          have HX := Lib.hid (show ¬ L = M from fun h => by
            have := EL.out
            rw [h, EM.out] at this
            exact hxy (Option.some.inj this).symm)
          clear hxy
          go_wp2_with fail
          refine (same_row (z := false) (G0.out.keep (((Only.refl Nil wr).alloc _).alloc _) (nilS · D)) (G0'.out.keep (((Only.refl Nil wr).alloc _).alloc _) (nilS · D')) (HSM.out x EMM.out) hd.out).mono ?_
          rintro e w2 ⟨rfl, o2⟩
          have o2' := Lib.hid (hO.out.trans ((((Only.refl Nil wr).alloc _).alloc _).trans o2))
          clear hd o2
          go_wp2
          go_ret
          exact ⟨by rw [decide_eq_false HX.out]; rfl, o2'.out⟩
      · have e : k = n := by omega
        subst e
        have HX := Lib.hid (eq_upto HN.out HM.out.symm hE.out)
        clear hkn hE
        go_wp2
        go_ret
        exact ⟨by rw [decide_eq_true HX.out]; rfl, hO.out⟩
  · have HX := Lib.hid (show ¬ L = M from fun h => hlen (by rw [h]))
    have hz : (((L.length : Nat) : Int) != (M.length : Int)) = true := by simp; omega
    have hz2 : (L.length != M.length) = true := by simpa using hlen
    clear h1 h2 H1 hlen hb hsm
    generalize L.length = n at *
    generalize M.length = m at *
    go_enter Tryz.func124, Tryz.ntmps124
    go_wp2
    go_ret
    exact ⟨by rw [decide_eq_false HX.out]; rfl, Only.refl _ _⟩

set_option maxRecDepth 100000 in
set_option maxHeartbeats 4000000 in
theorem same_state {D D' : Nat} {w : World} {nm : Wd} {nm' : Wd} {L0 : List Rw} {L0' : List Rw} {s0 : Value} {s0' : Value} (h0 : XR D w s0 L0) (h0' : XR D' w s0' L0') (b0 : L0.length ≤ 65000 ∧ ∀ r ∈ L0, smR r) {z : Bool} (hz0 : decide (nm = nm' ∧ L0 = L0') = z) :
    Calls Tryz.prog 83 #[.agg #[.string (bs nm), s0], .agg #[.string (bs nm'), s0']] w fun e w' => e = .returned (.bool z) ∧ Only Nil w w' := by
  obtain ⟨a0, c0, rfl⟩ := h0.slice
  obtain ⟨a0', c0', rfl⟩ := h0'.slice
  have H0 := Lib.hid h0
  have H0' := Lib.hid h0'
  have HB0 := Lib.hid b0
  clear b0
  clear h0 h0'
  by_cases hq_nm : nm = nm'
  case neg =>
    have hz := str_ne hq_nm
    have HX := Lib.hid (show z = false from hz0.symm.trans (decide_eq_false (fun h => hq_nm h.1)))
    clear hq_nm hz0
    go_enter Tryz.func83, Tryz.ntmps83
    go_wp2
    go_ret
    exact ⟨by rw [HX.out]; rfl, ((Only.refl Nil w).alloc _).alloc _⟩
  subst hq_nm
  have hy0 := str_eq nm
  by_cases hl0 : L0 = L0'
  case neg =>
    have HQ0 := Lib.hid (decide_eq_false hl0)
    have HX := Lib.hid (show z = false from hz0.symm.trans (decide_eq_false (fun h => hl0 h.2)))
    clear hl0 hz0
    go_enter Tryz.func83, Tryz.ntmps83
    go_wp2_with fail
    refine (equalF_row (H0.out.keep (((Only.refl Nil w).alloc _).alloc _) (nilS · D)) (H0'.out.keep (((Only.refl Nil w).alloc _).alloc _) (nilS · D')) HB0.out.1 HB0.out.2).mono ?_
    rintro e w1 ⟨rfl, o1⟩
    have OO1 := Lib.hid ((((Only.refl Nil w).alloc _).alloc _).trans o1)
    clear o1
    rw [HQ0.out]
    go_wp2
    go_ret
    exact ⟨by rw [HX.out]; rfl, OO1.out⟩
  have HQ0 := Lib.hid (decide_eq_true hl0)
  have HL0 := Lib.hid hl0
  clear hl0
  have HX := Lib.hid (show z = true from hz0.symm.trans (decide_eq_true ⟨rfl, HL0.out⟩))
  clear hz0
  go_enter Tryz.func83, Tryz.ntmps83
  go_wp2_with fail
  refine (equalF_row (H0.out.keep (((Only.refl Nil w).alloc _).alloc _) (nilS · D)) (H0'.out.keep (((Only.refl Nil w).alloc _).alloc _) (nilS · D')) HB0.out.1 HB0.out.2).mono ?_
  rintro e w1 ⟨rfl, o1⟩
  have OO1 := Lib.hid ((((Only.refl Nil w).alloc _).alloc _).trans o1)
  clear o1
  rw [HQ0.out]
  go_wp2
  go_ret
  exact ⟨by rw [HX.out]; rfl, OO1.out⟩

theorem Sta_eq (x y : Sta) : (x = y) ↔ (x.name = y.name ∧ x.rows = y.rows) := by cases x; cases y; simp
set_option maxRecDepth 100000 in
set_option maxHeartbeats 4000000 in
theorem equalF_state {D D' : Nat} {w : World} {v v' : Value} {L M : List Sta} (h1 : XS D w v L) (h2 : XS D' w v' M) (hb : L.length ≤ 65000) (hsm : ∀ x ∈ L, smS x) :
    Calls Tryz.prog 82 #[v, v', .func (.func 83) #[] #[]] w fun e w' => e = .returned (.bool (decide (L = M))) ∧ Only Nil w w' := by
  obtain ⟨a, c, rfl⟩ := h1.slice
  obtain ⟨a', c', rfl⟩ := h2.slice
  have eg := enters_of Tryz.func83 (by kernel_rfl) rfl
  have H1 := Lib.hid h1
  by_cases hlen : L.length = M.length
  · have h2' := Lib.hid (hlen ▸ h2)
    have HSM := Lib.hid hsm
    clear hsm
    rw [← hlen]
    have hz : (((L.length : Nat) : Int) != (L.length : Int)) = false := by simp
    have hz2 : (L.length != L.length) = false := by simp
    generalize hn : L.length = n at *
    have HN := Lib.hid hn
    have HM := Lib.hid hlen
    have hb' : (n : Int) ≤ 65000 := by omega
    clear hlen hn h1 h2 hb
    go_enter Tryz.func82, Tryz.ntmps82
    go_wp2
    go_loopw [17] (fun s17 wr => ∃ (k : Nat), k ≤ n ∧ s17 = .int .i64 (k : Int) ∧ Hid (∀ j, j < k → L[j]? = M[j]?) ∧ Hid (Only Nil w wr))
      (fun s17 _ => n - (intOf s17).toNat)
    case atStart => exact ⟨0, Nat.zero_le _, rfl, Lib.hid (fun j hj => absurd hj (Nat.not_lt_zero j)), Lib.hid (Only.refl _ _)⟩
    case round =>
      obtain ⟨k, hk, rfl, hE, hO⟩ := hrel
      by_cases hkn : k < n
      · obtain ⟨u0, ⟨b, off, rfl, hlt, hc⟩, g0⟩ := (H1.out.keep hO.out (nilS · D)).at_ HN.out k hkn
        obtain ⟨u0', ⟨b', off', rfl, hlt', hc'⟩, g0'⟩ := (h2'.out.keep hO.out (nilS · D')).at_ HM.out.symm k hkn
        have eL : L[k]? = some (L[k]'(by rw [HN.out]; exact hkn)) := List.getElem?_eq_getElem (by rw [HN.out]; exact hkn)
        have eM : M[k]? = some (M[k]'(by rw [← HM.out]; exact hkn)) := List.getElem?_eq_getElem (by rw [← HM.out]; exact hkn)
        have hmem : L[k]'(by rw [HN.out]; exact hkn) ∈ L := List.getElem_mem _
        have EL := Lib.hid eL
        have EM := Lib.hid eM
        have EMM := Lib.hid hmem
        generalize L[k]'(by rw [HN.out]; exact hkn) = x at *
        generalize M[k]'(by rw [← HM.out]; exact hkn) = y at *
        clear eL eM hmem
        have e0 : wr.cell? ⟨b, off + k * 2, none⟩ = some (.string (bs x.name)) := hc 0 (by decide)
        have d0 : wr.cell? ⟨b', off' + k * 2, none⟩ = some (.string (bs y.name)) := hc' 0 (by decide)
        have e1 : wr.cell? ⟨b, off + k * 2 + 1, none⟩ = some (u0) := hc 1 (by decide)
        have d1 : wr.cell? ⟨b', off' + k * 2 + 1, none⟩ = some (u0') := hc' 1 (by decide)
        obtain ⟨p0, q0, rfl⟩ := g0.slice
        obtain ⟨p0', q0', rfl⟩ := g0'.slice
        have G0 := Lib.hid g0
        have G0' := Lib.hid g0'
        clear hc hc' g0 g0'
        by_cases hxy : x = y
        · have hd := Lib.hid (show decide (x.name = y.name ∧ x.rows = y.rows) = true from decide_eq_true ((Sta_eq x y).1 hxy))
          have HX := Lib.hid (show ∀ j, j < k + 1 → L[j]? = M[j]? from fun j hj => by
            rcases Nat.lt_or_ge j k with h | h
            · exact hE.out j h
            · obtain rfl : j = k := by omega
              rw [EL.out, EM.out, hxy])
          clear hxy
          go_wp2_with fail
          refine (same_state (z := true) (G0.out.keep (((Only.refl Nil wr).alloc _).alloc _) (nilS · D)) (G0'.out.keep (((Only.refl Nil wr).alloc _).alloc _) (nilS · D')) (HSM.out x EMM.out) hd.out).mono ?_
          rintro e w2 ⟨rfl, o2⟩
          have o2' := Lib.hid (hO.out.trans ((((Only.refl Nil wr).alloc _).alloc _).trans o2))
          clear hd o2
          go_wp2
          go_roundw
          case rel => exact ⟨k + 1, by omega, by go_num, HX, o2'⟩
          case measure => simp [intOf]; omega
        · have hd := Lib.hid (show decide (x.name = y.name ∧ x.rows = y.rows) = false from decide_eq_false (fun h => hxy ((Sta_eq x y).2 h)))
          have HX := Lib.hid (show ¬ L = M from fun h => by
            have := EL.out
            rw [h, EM.out] at this
            exact hxy (Option.some.inj this).symm)
          clear hxy
          go_wp2_with fail
          refine (same_state (z := false) (G0.out.keep (((Only.refl Nil wr).alloc _).alloc _) (nilS · D)) (G0'.out.keep (((Only.refl Nil wr).alloc _).alloc _) (nilS · D')) (HSM.out x EMM.out) hd.out).mono ?_
          rintro e w2 ⟨rfl, o2⟩
          have o2' := Lib.hid (hO.out.trans ((((Only.refl Nil wr).alloc _).alloc _).trans o2))
          clear hd o2
          go_wp2
          go_ret
          exact ⟨by rw [decide_eq_false HX.out]; rfl, o2'.out⟩
      · have e : k = n := by omega
        subst e
        have HX := Lib.hid (eq_upto HN.out HM.out.symm hE.out)
        clear hkn hE
        go_wp2
        go_ret
        exact ⟨by rw [decide_eq_true HX.out]; rfl, hO.out⟩
  · have HX := Lib.hid (show ¬ L = M from fun h => hlen (by rw [h]))
    have hz : (((L.length : Nat) : Int) != (M.length : Int)) = true := by simp; omega
    have hz2 : (L.length != M.length) = true := by simpa using hlen
    clear h1 h2 H1 hlen hb hsm
    generalize L.length = n at *
    generalize M.length = m at *
    go_enter Tryz.func82, Tryz.ntmps82
    go_wp2
    go_ret
    exact ⟨by rw [decide_eq_false HX.out]; rfl, Only.refl _ _⟩

set_option maxRecDepth 100000 in
set_option maxHeartbeats 4000000 in
theorem same_kind {D D' : Nat} {w : World} {nm : Wd} {nm' : Wd} {li : Int} {li' : Int} {wi : Int} {wi' : Int} {L0 : List Cs} {L0' : List Cs} {L1 : List Sta} {L1' : List Sta} {s0 : Value} {s0' : Value} {s1 : Value} {s1' : Value} (h0 : XC D w s0 L0) (h1 : XS D w s1 L1) (h0' : XC D' w s0' L0') (h1' : XS D' w s1' L1') (b0 : L0.length ≤ 65000) (b1 : L1.length ≤ 65000 ∧ ∀ r ∈ L1, smS r) {z : Bool} (hz0 : decide (nm = nm' ∧ li = li' ∧ wi = wi' ∧ L0 = L0' ∧ L1 = L1') = z) :
    Calls Tryz.prog 55 #[.agg #[.string (bs nm), .int .i64 li, .int .i64 wi, s0, s1], .agg #[.string (bs nm'), .int .i64 li', .int .i64 wi', s0', s1']] w fun e w' => e = .returned (.bool z) ∧ Only Nil w w' := by
  obtain ⟨a0, c0, rfl⟩ := h0.slice
  obtain ⟨a0', c0', rfl⟩ := h0'.slice
  have H0 := Lib.hid h0
  have H0' := Lib.hid h0'
  have HB0 := Lib.hid b0
  clear b0
  obtain ⟨a1, c1, rfl⟩ := h1.slice
  obtain ⟨a1', c1', rfl⟩ := h1'.slice
  have H1 := Lib.hid h1
  have H1' := Lib.hid h1'
  have HB1 := Lib.hid b1
  clear b1
  clear h0 h0' h1 h1'
  by_cases hq_nm : nm = nm'
  case neg =>
    have hz := str_ne hq_nm
    have HX := Lib.hid (show z = false from hz0.symm.trans (decide_eq_false (fun h => hq_nm h.1)))
    clear hq_nm hz0
    go_enter Tryz.func55, Tryz.ntmps55
    go_wp2
    go_ret
    exact ⟨by rw [HX.out]; rfl, ((Only.refl Nil w).alloc _).alloc _⟩
  subst hq_nm
  by_cases hq_li : li = li'
  case neg =>
    have hz : (li == li') = false := by simpa using hq_li
    have HX := Lib.hid (show z = false from hz0.symm.trans (decide_eq_false (fun h => hq_li h.2.1)))
    clear hq_li hz0
    have hy0 := str_eq nm
    go_enter Tryz.func55, Tryz.ntmps55
    go_wp2
    go_ret
    exact ⟨by rw [HX.out]; rfl, ((Only.refl Nil w).alloc _).alloc _⟩
  subst hq_li
  by_cases hq_wi : wi = wi'
  case neg =>
    have hz : (wi == wi') = false := by simpa using hq_wi
    have HX := Lib.hid (show z = false from hz0.symm.trans (decide_eq_false (fun h => hq_wi h.2.2.1)))
    clear hq_wi hz0
    have hy0 := str_eq nm
    go_enter Tryz.func55, Tryz.ntmps55
    go_wp2
    go_ret
    exact ⟨by rw [HX.out]; rfl, ((Only.refl Nil w).alloc _).alloc _⟩
  subst hq_wi
  have hy0 := str_eq nm
  by_cases hl0 : L0 = L0'
  case neg =>
    have HQ0 := Lib.hid (decide_eq_false hl0)
    have HX := Lib.hid (show z = false from hz0.symm.trans (decide_eq_false (fun h => hl0 h.2.2.2.1)))
    clear hl0 hz0
    go_enter Tryz.func55, Tryz.ntmps55
    go_wp2_with fail
    refine (equal_cs (H0.out.keep (((Only.refl Nil w).alloc _).alloc _) (nilS · D)) (H0'.out.keep (((Only.refl Nil w).alloc _).alloc _) (nilS · D')) HB0.out).mono ?_
    rintro e w1 ⟨rfl, o1⟩
    have OO1 := Lib.hid ((((Only.refl Nil w).alloc _).alloc _).trans o1)
    clear o1
    rw [HQ0.out]
    go_wp2
    go_ret
    exact ⟨by rw [HX.out]; rfl, OO1.out⟩
  have HQ0 := Lib.hid (decide_eq_true hl0)
  have HL0 := Lib.hid hl0
  clear hl0
  by_cases hl1 : L1 = L1'
  case neg =>
    have HQ1 := Lib.hid (decide_eq_false hl1)
    have HX := Lib.hid (show z = false from hz0.symm.trans (decide_eq_false (fun h => hl1 h.2.2.2.2)))
    clear hl1 hz0
    go_enter Tryz.func55, Tryz.ntmps55
    go_wp2_with fail
    refine (equal_cs (H0.out.keep (((Only.refl Nil w).alloc _).alloc _) (nilS · D)) (H0'.out.keep (((Only.refl Nil w).alloc _).alloc _) (nilS · D')) HB0.out).mono ?_
    rintro e w1 ⟨rfl, o1⟩
    have OO1 := Lib.hid ((((Only.refl Nil w).alloc _).alloc _).trans o1)
    obtain ⟨m1, m2⟩ := two_box w _ _ _ _ o1 4 (.slice a1 L1.length c1) (.slice a1' L1'.length c1') rfl rfl
    clear o1
    rw [HQ0.out]
    go_wp2_with fail
    refine (equalF_state (H1.out.keep (OO1.out) (nilS · D)) (H1'.out.keep (OO1.out) (nilS · D')) HB1.out.1 HB1.out.2).mono ?_
    rintro e w2 ⟨rfl, o2⟩
    have OO2 := Lib.hid ((OO1.out).trans o2)
    clear o2
    rw [HQ1.out]
    go_wp2
    go_ret
    exact ⟨by rw [HX.out]; rfl, OO2.out⟩
  have HQ1 := Lib.hid (decide_eq_true hl1)
  have HL1 := Lib.hid hl1
  clear hl1
  have HX := Lib.hid (show z = true from hz0.symm.trans (decide_eq_true ⟨rfl, rfl, rfl, HL0.out, HL1.out⟩))
  clear hz0
  go_enter Tryz.func55, Tryz.ntmps55
  go_wp2_with fail
  refine (equal_cs (H0.out.keep (((Only.refl Nil w).alloc _).alloc _) (nilS · D)) (H0'.out.keep (((Only.refl Nil w).alloc _).alloc _) (nilS · D')) HB0.out).mono ?_
  rintro e w1 ⟨rfl, o1⟩
  have OO1 := Lib.hid ((((Only.refl Nil w).alloc _).alloc _).trans o1)
  obtain ⟨m1, m2⟩ := two_box w _ _ _ _ o1 4 (.slice a1 L1.length c1) (.slice a1' L1'.length c1') rfl rfl
  clear o1
  rw [HQ0.out]
  go_wp2_with fail
  refine (equalF_state (H1.out.keep (OO1.out) (nilS · D)) (H1'.out.keep (OO1.out) (nilS · D')) HB1.out.1 HB1.out.2).mono ?_
  rintro e w2 ⟨rfl, o2⟩
  have OO2 := Lib.hid ((OO1.out).trans o2)
  clear o2
  rw [HQ1.out]
  go_wp2
  go_ret
  exact ⟨by rw [HX.out]; rfl, OO2.out⟩

theorem Kd_eq (x y : Kd) : (x = y) ↔ (x.name = y.name ∧ x.limit = y.limit ∧ x.within = y.within ∧ x.cases = y.cases ∧ x.states = y.states) := by cases x; cases y; simp
set_option maxRecDepth 100000 in
set_option maxHeartbeats 4000000 in
theorem equalF_kind {D D' : Nat} {w : World} {v v' : Value} {L M : List Kd} (h1 : XK D w v L) (h2 : XK D' w v' M) (hb : L.length ≤ 65000) (hsm : ∀ x ∈ L, smK x) :
    Calls Tryz.prog 54 #[v, v', .func (.func 55) #[] #[]] w fun e w' => e = .returned (.bool (decide (L = M))) ∧ Only Nil w w' := by
  obtain ⟨a, c, rfl⟩ := h1.slice
  obtain ⟨a', c', rfl⟩ := h2.slice
  have eg := enters_of Tryz.func55 (by kernel_rfl) rfl
  have H1 := Lib.hid h1
  by_cases hlen : L.length = M.length
  · have h2' := Lib.hid (hlen ▸ h2)
    have HSM := Lib.hid hsm
    clear hsm
    rw [← hlen]
    have hz : (((L.length : Nat) : Int) != (L.length : Int)) = false := by simp
    have hz2 : (L.length != L.length) = false := by simp
    generalize hn : L.length = n at *
    have HN := Lib.hid hn
    have HM := Lib.hid hlen
    have hb' : (n : Int) ≤ 65000 := by omega
    clear hlen hn h1 h2 hb
    go_enter Tryz.func54, Tryz.ntmps54
    go_wp2
    go_loopw [17] (fun s17 wr => ∃ (k : Nat), k ≤ n ∧ s17 = .int .i64 (k : Int) ∧ Hid (∀ j, j < k → L[j]? = M[j]?) ∧ Hid (Only Nil w wr))
      (fun s17 _ => n - (intOf s17).toNat)
    case atStart => exact ⟨0, Nat.zero_le _, rfl, Lib.hid (fun j hj => absurd hj (Nat.not_lt_zero j)), Lib.hid (Only.refl _ _)⟩
    case round =>
      obtain ⟨k, hk, rfl, hE, hO⟩ := hrel
      by_cases hkn : k < n
      · obtain ⟨u0, u1, ⟨b, off, rfl, hlt, hc⟩, g0, g1⟩ := (H1.out.keep hO.out (nilS · D)).at_ HN.out k hkn
        obtain ⟨u0', u1', ⟨b', off', rfl, hlt', hc'⟩, g0', g1'⟩ := (h2'.out.keep hO.out (nilS · D')).at_ HM.out.symm k hkn
        have eL : L[k]? = some (L[k]'(by rw [HN.out]; exact hkn)) := List.getElem?_eq_getElem (by rw [HN.out]; exact hkn)
        have eM : M[k]? = some (M[k]'(by rw [← HM.out]; exact hkn)) := List.getElem?_eq_getElem (by rw [← HM.out]; exact hkn)
        have hmem : L[k]'(by rw [HN.out]; exact hkn) ∈ L := List.getElem_mem _
        have EL := Lib.hid eL
        have EM := Lib.hid eM
        have EMM := Lib.hid hmem
        generalize L[k]'(by rw [HN.out]; exact hkn) = x at *
        generalize M[k]'(by rw [← HM.out]; exact hkn) = y at *
        clear eL eM hmem
        have e0 : wr.cell? ⟨b, off + k * 5, none⟩ = some (.string (bs x.name)) := hc 0 (by decide)
        have d0 : wr.cell? ⟨b', off' + k * 5, none⟩ = some (.string (bs y.name)) := hc' 0 (by decide)
        have e1 : wr.cell? ⟨b, off + k * 5 + 1, none⟩ = some (.int .i64 x.limit) := hc 1 (by decide)
        have d1 : wr.cell? ⟨b', off' + k * 5 + 1, none⟩ = some (.int .i64 y.limit) := hc' 1 (by decide)
        have e2 : wr.cell? ⟨b, off + k * 5 + 2, none⟩ = some (.int .i64 x.within) := hc 2 (by decide)
        have d2 : wr.cell? ⟨b', off' + k * 5 + 2, none⟩ = some (.int .i64 y.within) := hc' 2 (by decide)
        have e3 : wr.cell? ⟨b, off + k * 5 + 3, none⟩ = some (u0) := hc 3 (by decide)
        have d3 : wr.cell? ⟨b', off' + k * 5 + 3, none⟩ = some (u0') := hc' 3 (by decide)
        have e4 : wr.cell? ⟨b, off + k * 5 + 4, none⟩ = some (u1) := hc 4 (by decide)
        have d4 : wr.cell? ⟨b', off' + k * 5 + 4, none⟩ = some (u1') := hc' 4 (by decide)
        obtain ⟨p0, q0, rfl⟩ := g0.slice
        obtain ⟨p0', q0', rfl⟩ := g0'.slice
        have G0 := Lib.hid g0
        have G0' := Lib.hid g0'
        obtain ⟨p1, q1, rfl⟩ := g1.slice
        obtain ⟨p1', q1', rfl⟩ := g1'.slice
        have G1 := Lib.hid g1
        have G1' := Lib.hid g1'
        clear hc hc' g0 g0' g1 g1'
        by_cases hxy : x = y
        · have hd := Lib.hid (show decide (x.name = y.name ∧ x.limit = y.limit ∧ x.within = y.within ∧ x.cases = y.cases ∧ x.states = y.states) = true from decide_eq_true ((Kd_eq x y).1 hxy))
          have HX := Lib.hid (show ∀ j, j < k + 1 → L[j]? = M[j]? from fun j hj => by
            rcases Nat.lt_or_ge j k with h | h
            · exact hE.out j h
            · obtain rfl : j = k := by omega
              rw [EL.out, EM.out, hxy])
          clear hxy
          go_wp2_with fail
          refine (same_kind (z := true) (G0.out.keep (((Only.refl Nil wr).alloc _).alloc _) (nilS · D)) (G1.out.keep (((Only.refl Nil wr).alloc _).alloc _) (nilS · D)) (G0'.out.keep (((Only.refl Nil wr).alloc _).alloc _) (nilS · D')) (G1'.out.keep (((Only.refl Nil wr).alloc _).alloc _) (nilS · D')) (HSM.out x EMM.out).1 (HSM.out x EMM.out).2 hd.out).mono ?_
          rintro e w2 ⟨rfl, o2⟩
          have o2' := Lib.hid (hO.out.trans ((((Only.refl Nil wr).alloc _).alloc _).trans o2))
          clear hd o2
          go_wp2
          go_roundw
          case rel => exact ⟨k + 1, by omega, by go_num, HX, o2'⟩
          case measure => simp [intOf]; omega
        · have hd := Lib.hid (show decide (x.name = y.name ∧ x.limit = y.limit ∧ x.within = y.within ∧ x.cases = y.cases ∧ x.states = y.states) = false from decide_eq_false (fun h => hxy ((Kd_eq x y).2 h)))
          have HX := Lib.hid (show ¬ L = M from fun h => by
            have := EL.out
            rw [h, EM.out] at this
            exact hxy (Option.some.inj this).symm)
          clear hxy
          go_wp2_with fail
          refine (same_kind (z := false) (G0.out.keep (((Only.refl Nil wr).alloc _).alloc _) (nilS · D)) (G1.out.keep (((Only.refl Nil wr).alloc _).alloc _) (nilS · D)) (G0'.out.keep (((Only.refl Nil wr).alloc _).alloc _) (nilS · D')) (G1'.out.keep (((Only.refl Nil wr).alloc _).alloc _) (nilS · D')) (HSM.out x EMM.out).1 (HSM.out x EMM.out).2 hd.out).mono ?_
          rintro e w2 ⟨rfl, o2⟩
          have o2' := Lib.hid (hO.out.trans ((((Only.refl Nil wr).alloc _).alloc _).trans o2))
          clear hd o2
          go_wp2
          go_ret
          exact ⟨by rw [decide_eq_false HX.out]; rfl, o2'.out⟩
      · have e : k = n := by omega
        subst e
        have HX := Lib.hid (eq_upto HN.out HM.out.symm hE.out)
        clear hkn hE
        go_wp2
        go_ret
        exact ⟨by rw [decide_eq_true HX.out]; rfl, hO.out⟩
  · have HX := Lib.hid (show ¬ L = M from fun h => hlen (by rw [h]))
    have hz : (((L.length : Nat) : Int) != (M.length : Int)) = true := by simp; omega
    have hz2 : (L.length != M.length) = true := by simpa using hlen
    clear h1 h2 H1 hlen hb hsm
    generalize L.length = n at *
    generalize M.length = m at *
    go_enter Tryz.func54, Tryz.ntmps54
    go_wp2
    go_ret
    exact ⟨by rw [decide_eq_false HX.out]; rfl, Only.refl _ _⟩

set_option maxHeartbeats 1000000 in
theorem same_any {D D' : Nat} {w : World} {v v' : Value} {L M : List Kd} (h1 : XK D w v L) (h2 : XK D' w v' M) (hs : smP L) :
    Calls Tryz.prog 26 #[.agg #[v], .agg #[v']] w fun e w' => e = .returned (.bool (decide (L = M))) ∧ Only Nil w w' := by
  obtain ⟨a, c, rfl⟩ := h1.slice
  obtain ⟨a', c', rfl⟩ := h2.slice
  have H1 := Lib.hid h1
  have H2 := Lib.hid h2
  have HS := Lib.hid hs
  clear h1 h2 hs
  have oB : Only Nil w ((w.alloc (.cells #[.slice a L.length c] 25)).alloc (.cells #[.slice a' M.length c'] 25)) := ((Only.refl Nil w).alloc _).alloc _
  have OB := Lib.hid oB
  have K1 := Lib.hid (H1.out.keep oB (nilS · D))
  have K2 := Lib.hid (H2.out.keep oB (nilS · D'))
  clear oB
  go_enter Tryz.func26, Tryz.ntmps26
  go_wp2_with (go_at_call 54; refine (equalF_kind K1.out K2.out HS.out.1 HS.out.2).mono ?_; rintro e w1 ⟨rfl, o1⟩)
  go_ret
  exact ⟨rfl, OB.out.trans o1⟩
end Go.Proofs.YtdhokkmflccaaaaGreatDoor.Ps
