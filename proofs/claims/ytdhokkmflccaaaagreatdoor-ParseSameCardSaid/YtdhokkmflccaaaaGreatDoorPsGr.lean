/- parse: the document's Great: what isn't great is small. -/
import Derived.Test.YtdhokkmflccaaaaGreatDoorPsMc
import Derived.Lib.MinMax
set_option linter.unusedVariables false
namespace Go.Proofs.YtdhokkmflccaaaaGreatDoor.Ps
open Go.RowKit Go.Proofs.YtdhokkmflccaaaaGreatDoor Lx

theorem take_all_snoc {α : Type} {Q : α → Prop} {L : List α} {k : Nat} (h : k < L.length) (h1 : ∀ x ∈ L.take k, Q x) (h2 : Q L[k]) : ∀ x ∈ L.take (k + 1), Q x := by
  intro x hx
  rw [List.take_succ_eq_append_getElem h] at hx
  rcases List.mem_append.1 hx with hx | hx
  · exact h1 x hx
  · rw [List.mem_singleton.1 hx]; exact h2
theorem min_lo (x : Nat) : (0 : Int) ≤ min (x : Int) 20000 ∧ min (x : Int) 20000 ≤ 20000 := by omega

set_option maxRecDepth 100000 in
set_option maxHeartbeats 8000000 in
theorem great_any {D : Nat} {w : World} (P : List Kd) (sl : Value) (hx : XK D w sl P) (wf : wfP P) (sz : szP P) :
    Calls Tryz.prog 22 #[.agg #[sl]] w fun e w' => ∃ g : Bool, e = .returned (.bool g) ∧ (g = false → smP P) ∧ Only Nil w w' := by
  obtain ⟨sa, sc, rfl⟩ := hx.slice
  have HX := Lib.hid hx
  have HW := Lib.hid wf
  have HZ := Lib.hid sz.2
  have hN : (P.length : Int) ≤ 140737488355328 := by have := sz.1; omega
  clear hx wf sz
  generalize hn : P.length = N at *
  have HN := Lib.hid hn
  clear hn
  have HB := Lib.hid (bx_new w [.slice sa N sc] 25)
  have O1 := Lib.hid ((Only.refl Nil w).alloc (.cells #[.slice sa N sc] 25))
  go_enter Tryz.func22, Tryz.ntmps22
  go_upto_region 2 with (fail)
  change Hid (Bx (w.alloc (.cells #[.slice sa N sc] 25)) w.heap.size [.slice sa N sc] 25) at HB
  generalize w.alloc (.cells #[.slice sa N sc] 25) = w1 at *
  generalize w.heap.size = B at *
  go_wp2
  go_loopw [3, 4, 5, 6, 7, 8, 9, 10, 11] (fun s3 s4 _ _ _ _ _ _ _ wr => ∃ (n i : Nat), s3 = .int .i64 (n : Int) ∧ s4 = .int .i64 (i : Int) ∧ i ≤ N ∧ Hid (i ≤ n ∧ n ≤ 100000) ∧ Hid (n ≤ 20000 → ∀ k ∈ P.take i, smK k) ∧ Hid (Only Nil w1 wr))
    (fun _ s4 _ _ _ _ _ _ _ _ => N - (intOf s4).toNat)
  case atStart => exact ⟨0, 0, rfl, rfl, Nat.zero_le _, Lib.hid ⟨by omega, by omega⟩, Lib.hid (fun _ k hk => by simp at hk), Lib.hid (Only.refl _ _)⟩
  case round =>
    obtain ⟨n, i, rfl, rfl, hi, hI, hG, hO⟩ := hrel
    have c0 := (HB.out.keep hO.out).cell 0 (v := .slice sa N sc) rfl
    have hn1 := hI.out.2
    by_cases hiN : i < N
    · by_cases hn : n ≤ 20000
      · obtain ⟨s1, s2, ⟨q, off, rfl, hlt, hc⟩, gC, gS⟩ := (HX.out.keep (O1.out.trans hO.out) (nilS · D)).at_ HN.out i hiN
        have hkl : i < P.length := by rw [HN.out]; exact hiN
        have HWK := Lib.hid (HW.out _ (List.getElem_mem hkl))
        have HZK := Lib.hid (HZ.out _ (List.getElem_mem hkl))
        have HSN := Lib.hid (fun h1 h2 => take_all_snoc (Q := smK) hkl h1 h2)
        have HGI := Lib.hid (hG.out hn)
        generalize P[i] = x at *
        have e0 : wr.cell? ⟨q, off + i * 5, none⟩ = some (.string (bs x.name)) := hc 0 (by decide)
        have e1 : wr.cell? ⟨q, off + i * 5 + 1, none⟩ = some (.int .i64 x.limit) := hc 1 (by decide)
        have e2 : wr.cell? ⟨q, off + i * 5 + 2, none⟩ = some (.int .i64 x.within) := hc 2 (by decide)
        have e3 : wr.cell? ⟨q, off + i * 5 + 3, none⟩ = some s1 := hc 3 (by decide)
        have e4 : wr.cell? ⟨q, off + i * 5 + 4, none⟩ = some s2 := hc 4 (by decide)
        obtain ⟨a1, c1, rfl⟩ := gC.slice
        obtain ⟨a2, c2, rfl⟩ := gS.slice
        have oK : Only Nil wr (wr.alloc (.cells (kdL x.name x.limit x.within (.slice a1 x.cases.length c1) (.slice a2 x.states.length c2)).toArray 66)) := (Only.refl Nil wr).alloc _
        have OK := Lib.hid (hO.out.trans oK)
        have GC := Lib.hid (gC.keep oK (nilS · D))
        have GS := Lib.hid (gS.keep oK (nilS · D))
        have BK := Lib.hid (bx_new wr (kdL x.name x.limit x.within (.slice a1 x.cases.length c1) (.slice a2 x.states.length c2)) 66)
        have hzn : (bs x.name).size = x.name.length := bs_size _
        obtain ⟨m1, hm1, hm2⟩ : ∃ m1 : Nat, min (x.name.length : Int) 20000 = (m1 : Int) ∧ m1 ≤ 20000 := ⟨(min (x.name.length : Int) 20000).toNat, by omega, by omega⟩
        clear hc gC gS hkl oK hG hO hi
        have hCl : (x.cases.length : Int) ≤ 140737488355328 := by have := HZK.out.1; omega
        have hSl : (x.states.length : Int) ≤ 140737488355328 := by have := HZK.out.2.1; omega
        go_upto_region 6 with (fail)
        change Hid (Only Nil w1 (wr.alloc (.cells #[.string (bs x.name), .int .i64 x.limit, .int .i64 x.within, .slice a1 x.cases.length c1, .slice a2 x.states.length c2] 66))) at OK
        change Hid (Bx (wr.alloc (.cells #[.string (bs x.name), .int .i64 x.limit, .int .i64 x.within, .slice a1 x.cases.length c1, .slice a2 x.states.length c2] 66)) wr.heap.size _ _) at BK
        change Hid (XC D (wr.alloc (.cells #[.string (bs x.name), .int .i64 x.limit, .int .i64 x.within, .slice a1 x.cases.length c1, .slice a2 x.states.length c2] 66)) _ _) at GC
        change Hid (XS D (wr.alloc (.cells #[.string (bs x.name), .int .i64 x.limit, .int .i64 x.within, .slice a1 x.cases.length c1, .slice a2 x.states.length c2] 66)) _ _) at GS
        generalize wr.alloc (.cells #[.string (bs x.name), .int .i64 x.limit, .int .i64 x.within, .slice a1 x.cases.length c1, .slice a2 x.states.length c2] 66) = wk at *
        generalize wr.heap.size = K at *
        clear e0 e1 e2 e3 e4 c0
        have k0 := BK.out.cell 0 (v := .string (bs x.name)) rfl
        have k3 := BK.out.cell 3 (v := .slice a1 x.cases.length c1) rfl
        generalize hnC : x.cases.length = nC at *
        generalize hnS : x.states.length = nS at *
        have HNC := Lib.hid hnC
        have HNS := Lib.hid hnS
        clear hnC hnS
        go_wp2
        go_loopw [3, 6] (fun s3 s6 wr => ∃ (n' j : Nat), s3 = .int .i64 (n' : Int) ∧ s6 = .int .i64 (j : Int) ∧ j ≤ nC ∧ Hid (n + 1 + j ≤ n' ∧ n' ≤ 100000) ∧ wk = wr)
          (fun _ s6 _ => nC - (intOf s6).toNat)
        case atStart => exact ⟨n + 1 + m1, 0, by go_num, rfl, Nat.zero_le _, Lib.hid ⟨by omega, by omega⟩, rfl⟩
        case round =>
          obtain ⟨n', j, rfl, rfl, hj, hJ, rfl⟩ := hrel
          clear k0 hzn hm1 hm2
          have hJ2 := hJ.out.2
          by_cases hjC : j < nC
          · by_cases hn' : n' ≤ 20000
            · obtain ⟨q, off, rfl, hlt, hc⟩ := GC.out.at_ HNC.out j hjC
              have hjl : j < x.cases.length := by rw [HNC.out]; exact hjC
              generalize x.cases[j] = y at *
              have e0 : wk.cell? ⟨q, off + j * 2, none⟩ = some (.string (bs y.reason)) := hc 0 (by decide)
              have hzn : (bs y.reason).size = y.reason.length := bs_size _
              obtain ⟨m1, hm1, hm2⟩ : ∃ m1 : Nat, min (y.reason.length : Int) 20000 = (m1 : Int) ∧ m1 ≤ 20000 := ⟨(min (y.reason.length : Int) 20000).toNat, by omega, by omega⟩
              clear hc
              go_wp2
              go_roundw
              case rel => exact ⟨n' + 1 + m1, j + 1, by go_num, by go_num, by omega, Lib.hid (by have := hJ.out; omega), trivial⟩
              case measure => simp [intOf]; omega
            · have HQ := Lib.hid (show n' ≤ 20000 → nC ≤ 20000 from fun h => absurd h hn')
              have HP' := Lib.hid (show n + 1 ≤ n' by have := hJ.out; omega)
              clear hJ
              have k4 := BK.out.cell 4 (v := .slice a2 nS c2) rfl
              go_wp2
              go_loopw [3, 7, 8, 9, 10, 11] (fun s3 s7 _ _ _ _ wr => ∃ (n2 j2 : Nat), s3 = .int .i64 (n2 : Int) ∧ s7 = .int .i64 (j2 : Int) ∧ j2 ≤ nS ∧ Hid (n' + j2 ≤ n2 ∧ n2 ≤ 100000) ∧ Hid (n2 ≤ 20000 → ∀ s ∈ x.states.take j2, smS s) ∧ Hid (Only Nil wk wr))
                (fun _ s7 _ _ _ _ _ => nS - (intOf s7).toNat)
              case atStart => exact ⟨n', 0, rfl, rfl, Nat.zero_le _, Lib.hid ⟨by omega, by omega⟩, Lib.hid (fun _ s hs => by simp at hs), Lib.hid (Only.refl _ _)⟩
              case round =>
                obtain ⟨n2, j2, rfl, rfl, hj2, hJ, hG, hO⟩ := hrel
                have hJ2' := hJ.out.2
                have b4 := (BK.out.keep hO.out).cell 4 (v := .slice a2 nS c2) rfl
                clear k4 k3
                by_cases hjS : j2 < nS
                · by_cases hn2 : n2 ≤ 20000
                  · obtain ⟨s1, ⟨q, off, rfl, hlt, hc⟩, gR⟩ := (GS.out.keep hO.out (nilS · D)).at_ HNS.out j2 hjS
                    have hkl : j2 < x.states.length := by rw [HNS.out]; exact hjS
                    have HZS := Lib.hid (HZK.out.2.2 _ (List.getElem_mem hkl))
                    have HSS := Lib.hid (fun h1 h2 => take_all_snoc (Q := smS) hkl h1 h2)
                    have HGJ := Lib.hid (hG.out hn2)
                    generalize x.states[j2] = y at *
                    have e0 : wr.cell? ⟨q, off + j2 * 2, none⟩ = some (.string (bs y.name)) := hc 0 (by decide)
                    have e1 : wr.cell? ⟨q, off + j2 * 2 + 1, none⟩ = some s1 := hc 1 (by decide)
                    obtain ⟨a3, c3, rfl⟩ := gR.slice
                    have GR := Lib.hid gR
                    have hzn : (bs y.name).size = y.name.length := bs_size _
                    obtain ⟨m1, hm1, hm2⟩ : ∃ m1 : Nat, min (y.name.length : Int) 20000 = (m1 : Int) ∧ m1 ≤ 20000 := ⟨(min (y.name.length : Int) 20000).toNat, by omega, by omega⟩
                    have hRl : (y.rows.length : Int) ≤ 140737488355328 := by have := HZS.out.1; omega
                    clear hc gR hkl hG
                    generalize hnR : y.rows.length = nR at *
                    have HNR := Lib.hid hnR
                    clear hnR
                    generalize wr = wo at *
                    go_wp2
                    go_loopw [3, 9, 10, 11] (fun s3 s9 _ _ wr => ∃ (n3 j3 : Nat), s3 = .int .i64 (n3 : Int) ∧ s9 = .int .i64 (j3 : Int) ∧ j3 ≤ nR ∧ Hid (n2 + 1 + j3 ≤ n3 ∧ n3 ≤ 100000) ∧ Hid (n3 ≤ 20000 → ∀ s ∈ y.rows.take j3, smR s) ∧ Hid (Only Nil wo wr))
                      (fun _ s9 _ _ _ => nR - (intOf s9).toNat)
                    case atStart => exact ⟨n2 + 1 + m1, 0, by go_num, rfl, Nat.zero_le _, Lib.hid ⟨by omega, by omega⟩, Lib.hid (fun _ s hs => by simp at hs), Lib.hid (Only.refl _ _)⟩
                    case round =>
                      obtain ⟨n3, j3, rfl, rfl, hj3, hJ3, hG3, hO3⟩ := hrel
                      clear e0 e1 hzn hm1 hm2 b4
                      have hJ3' := hJ3.out.2
                      by_cases hjR : j3 < nR
                      · by_cases hn3 : n3 ≤ 20000
                        · obtain ⟨s1, ⟨q, off, rfl, hlt, hc⟩, gE⟩ := (GR.out.keep hO3.out (nilS · D)).at_ HNR.out j3 hjR
                          have hkl : j3 < y.rows.length := by rw [HNR.out]; exact hjR
                          have HZR := Lib.hid (HZS.out.2 _ (List.getElem_mem hkl))
                          have HSR := Lib.hid (fun h1 h2 => take_all_snoc (Q := smR) hkl h1 h2)
                          have HGR := Lib.hid (hG3.out hn3)
                          generalize y.rows[j3] = z at *
                          have e0 : wr.cell? ⟨q, off + j3 * 4, none⟩ = some (.string (bs z.tag)) := hc 0 (by decide)
                          have e3 : wr.cell? ⟨q, off + j3 * 4 + 3, none⟩ = some s1 := hc 3 (by decide)
                          obtain ⟨a4, c4, rfl⟩ := gE.slice
                          have GE := Lib.hid gE
                          have hzn : (bs z.tag).size = z.tag.length := bs_size _
                          obtain ⟨m1, hm1, hm2⟩ : ∃ m1 : Nat, min (z.tag.length : Int) 20000 = (m1 : Int) ∧ m1 ≤ 20000 := ⟨(min (z.tag.length : Int) 20000).toNat, by omega, by omega⟩
                          have hEl : (z.effs.length : Int) ≤ 140737488355328 := by have := HZR.out; unfold szR at this; omega
                          clear hc gE hkl hG3
                          generalize hnE : z.effs.length = nE at *
                          have HNE := Lib.hid hnE
                          have CE := Lib.hid (show ∀ w', Only Nil wr w' → w'.cell? ⟨q, off + j3 * 4 + 3, none⟩ = some (.slice a4 nE c4) from fun w' o => only_cell0 o e3)
                          clear hnE
                          generalize wr = wp at *
                          go_wp2
                          go_loopw [3, 10, 11] (fun s3 s10 _ wr => ∃ (n4 j4 : Nat), s3 = .int .i64 (n4 : Int) ∧ s10 = .int .i64 (j4 : Int) ∧ j4 ≤ nE ∧ Hid (n3 + 1 + j4 ≤ n4 ∧ n4 ≤ 100000) ∧ Hid (Only Nil wp wr))
                            (fun _ s10 _ _ => nE - (intOf s10).toNat)
                          case atStart => exact ⟨n3 + 1 + m1, 0, by go_num, rfl, Nat.zero_le _, Lib.hid ⟨by omega, by omega⟩, Lib.hid (Only.refl _ _)⟩
                          case round =>
                            obtain ⟨n4, j4, rfl, rfl, hj4, hJ4, hO4⟩ := hrel
                            clear e0 e3 hzn hm1 hm2
                            have hJ4' := hJ4.out.2
                            have f3 := CE.out _ hO4.out
                            by_cases hjE : j4 < nE
                            · by_cases hn4 : n4 ≤ 20000
                              · obtain ⟨q', off', rfl, hlt', hc'⟩ := (GE.out.keep hO4.out (nilS · D)).at_ HNE.out j4 hjE
                                have hjl : j4 < z.effs.length := by rw [HNE.out]; exact hjE
                                generalize z.effs[j4] = u at *
                                have g0 : wr.cell? ⟨q', off' + j4 * 7, none⟩ = some (.int .i64 u.act) := hc' 0 (by decide)
                                have g1 : wr.cell? ⟨q', off' + j4 * 7 + 1, none⟩ = some (.string (bs u.ref)) := hc' 1 (by decide)
                                have g2 : wr.cell? ⟨q', off' + j4 * 7 + 2, none⟩ = some (.string (bs u.slot)) := hc' 2 (by decide)
                                have g3 : wr.cell? ⟨q', off' + j4 * 7 + 3, none⟩ = some (.string (bs u.name)) := hc' 3 (by decide)
                                have g4 : wr.cell? ⟨q', off' + j4 * 7 + 4, none⟩ = some (.int .i64 u.val) := hc' 4 (by decide)
                                have g5 : wr.cell? ⟨q', off' + j4 * 7 + 5, none⟩ = some (.int .i64 u.n) := hc' 5 (by decide)
                                have g6 : wr.cell? ⟨q', off' + j4 * 7 + 6, none⟩ = some (.int .i64 u.delay) := hc' 6 (by decide)
                                have z1 : (bs u.ref).size = u.ref.length := bs_size _
                                have z2 : (bs u.slot).size = u.slot.length := bs_size _
                                have z3 : (bs u.name).size = u.name.length := bs_size _
                                obtain ⟨m1, hm1, hm1'⟩ : ∃ m1 : Nat, min (u.ref.length : Int) 20000 = (m1 : Int) ∧ m1 ≤ 20000 := ⟨(min (u.ref.length : Int) 20000).toNat, by omega, by omega⟩
                                obtain ⟨m2, hm2, hm2'⟩ : ∃ m1 : Nat, min (u.slot.length : Int) 20000 = (m1 : Int) ∧ m1 ≤ 20000 := ⟨(min (u.slot.length : Int) 20000).toNat, by omega, by omega⟩
                                obtain ⟨m3, hm3, hm3'⟩ : ∃ m1 : Nat, min (u.name.length : Int) 20000 = (m1 : Int) ∧ m1 ≤ 20000 := ⟨(min (u.name.length : Int) 20000).toNat, by omega, by omega⟩
                                clear hc'
                                go_wp2
                                go_roundw
                                case rel => exact ⟨n4 + 1 + m1 + m2 + m3, j4 + 1, by go_num, by go_num, by omega, Lib.hid (by have := hJ4.out; omega), Lib.hid (hO4.out.trans ((Only.refl Nil wr).alloc _))⟩
                                case measure => simp [intOf]; omega
                              · have HSZ := Lib.hid (show n4 ≤ 20000 → smR z from fun h => absurd h hn4)
                                go_wp2
                                go_roundw
                                case rel => exact ⟨n4, j3 + 1, rfl, by go_num, by omega, Lib.hid (by have := hJ3.out; have := hJ4.out; omega), Lib.hid (fun h => HSR.out HGR.out (HSZ.out h)), Lib.hid (hO3.out.trans hO4.out)⟩
                                case measure => simp [intOf]; omega
                            · have HSZ := Lib.hid (show n4 ≤ 20000 → smR z from fun h => by unfold smR; rw [HNE.out]; have := hJ4.out; omega)
                              obtain rfl : j4 = nE := by omega
                              go_wp2
                              go_roundw
                              case rel => exact ⟨n4, j3 + 1, rfl, by go_num, by omega, Lib.hid (by have := hJ3.out; have := hJ4.out; omega), Lib.hid (fun h => HSR.out HGR.out (HSZ.out h)), Lib.hid (hO3.out.trans hO4.out)⟩
                              case measure => simp [intOf]; omega
                        · have HSY := Lib.hid (show n3 ≤ 20000 → smS y from fun h => absurd h hn3)
                          go_wp2
                          go_roundw
                          case rel => exact ⟨n3, j2 + 1, rfl, by go_num, by omega, Lib.hid (by have := hJ.out; have := hJ3.out; omega), Lib.hid (fun h => HSS.out HGJ.out (HSY.out h)), Lib.hid (hO.out.trans hO3.out)⟩
                          case measure => simp [intOf]; omega
                      · have HSY := Lib.hid (show n3 ≤ 20000 → smS y from fun h => ⟨by rw [HNR.out]; have := hJ3.out; omega, fun s hs => hG3.out h s (by rw [List.take_of_length_le (by rw [HNR.out]; omega)]; exact hs)⟩)
                        obtain rfl : j3 = nR := by omega
                        go_wp2
                        go_roundw
                        case rel => exact ⟨n3, j2 + 1, rfl, by go_num, by omega, Lib.hid (by have := hJ.out; have := hJ3.out; omega), Lib.hid (fun h => HSS.out HGJ.out (HSY.out h)), Lib.hid (hO.out.trans hO3.out)⟩
                        case measure => simp [intOf]; omega
                  · have HSK := Lib.hid (show n2 ≤ 20000 → smK x from fun h => absurd h hn2)
                    go_wp2
                    go_roundw
                    case rel => exact ⟨n2, i + 1, rfl, by go_num, by omega, Lib.hid (by have := hJ.out; have := HP'.out; have := hI.out; omega), Lib.hid (fun h => HSN.out HGI.out (HSK.out h)), Lib.hid (OK.out.trans hO.out)⟩
                    case measure => simp [intOf]; omega
                · have HSK := Lib.hid (show n2 ≤ 20000 → smK x from fun h => ⟨by rw [HNC.out]; have := HQ.out (by have := hJ.out; omega); omega, by rw [HNS.out]; have := hJ.out; omega, fun s hs => hG.out h s (by rw [List.take_of_length_le (by rw [HNS.out]; omega)]; exact hs)⟩)
                  obtain rfl : j2 = nS := by omega
                  go_wp2
                  go_roundw
                  case rel => exact ⟨n2, i + 1, rfl, by go_num, by omega, Lib.hid (by have := hJ.out; have := HP'.out; have := hI.out; omega), Lib.hid (fun h => HSN.out HGI.out (HSK.out h)), Lib.hid (OK.out.trans hO.out)⟩
                  case measure => simp [intOf]; omega
          · have HQ := Lib.hid (show n' ≤ 20000 → nC ≤ 20000 from fun h => by have := hJ.out; omega)
            have HP' := Lib.hid (show n + 1 ≤ n' by have := hJ.out; omega)
            obtain rfl : j = nC := by omega
            clear hJ
            have k4 := BK.out.cell 4 (v := .slice a2 nS c2) rfl
            go_wp2
            go_loopw [3, 7, 8, 9, 10, 11] (fun s3 s7 _ _ _ _ wr => ∃ (n2 j2 : Nat), s3 = .int .i64 (n2 : Int) ∧ s7 = .int .i64 (j2 : Int) ∧ j2 ≤ nS ∧ Hid (n' + j2 ≤ n2 ∧ n2 ≤ 100000) ∧ Hid (n2 ≤ 20000 → ∀ s ∈ x.states.take j2, smS s) ∧ Hid (Only Nil wk wr))
              (fun _ s7 _ _ _ _ _ => nS - (intOf s7).toNat)
            case atStart => exact ⟨n', 0, rfl, rfl, Nat.zero_le _, Lib.hid ⟨by omega, by omega⟩, Lib.hid (fun _ s hs => by simp at hs), Lib.hid (Only.refl _ _)⟩
            case round =>
              obtain ⟨n2, j2, rfl, rfl, hj2, hJ, hG, hO⟩ := hrel
              have hJ2' := hJ.out.2
              have b4 := (BK.out.keep hO.out).cell 4 (v := .slice a2 nS c2) rfl
              clear k4 k3
              by_cases hjS : j2 < nS
              · by_cases hn2 : n2 ≤ 20000
                · obtain ⟨s1, ⟨q, off, rfl, hlt, hc⟩, gR⟩ := (GS.out.keep hO.out (nilS · D)).at_ HNS.out j2 hjS
                  have hkl : j2 < x.states.length := by rw [HNS.out]; exact hjS
                  have HZS := Lib.hid (HZK.out.2.2 _ (List.getElem_mem hkl))
                  have HSS := Lib.hid (fun h1 h2 => take_all_snoc (Q := smS) hkl h1 h2)
                  have HGJ := Lib.hid (hG.out hn2)
                  generalize x.states[j2] = y at *
                  have e0 : wr.cell? ⟨q, off + j2 * 2, none⟩ = some (.string (bs y.name)) := hc 0 (by decide)
                  have e1 : wr.cell? ⟨q, off + j2 * 2 + 1, none⟩ = some s1 := hc 1 (by decide)
                  obtain ⟨a3, c3, rfl⟩ := gR.slice
                  have GR := Lib.hid gR
                  have hzn : (bs y.name).size = y.name.length := bs_size _
                  obtain ⟨m1, hm1, hm2⟩ : ∃ m1 : Nat, min (y.name.length : Int) 20000 = (m1 : Int) ∧ m1 ≤ 20000 := ⟨(min (y.name.length : Int) 20000).toNat, by omega, by omega⟩
                  have hRl : (y.rows.length : Int) ≤ 140737488355328 := by have := HZS.out.1; omega
                  clear hc gR hkl hG
                  generalize hnR : y.rows.length = nR at *
                  have HNR := Lib.hid hnR
                  clear hnR
                  generalize wr = wo at *
                  go_wp2
                  go_loopw [3, 9, 10, 11] (fun s3 s9 _ _ wr => ∃ (n3 j3 : Nat), s3 = .int .i64 (n3 : Int) ∧ s9 = .int .i64 (j3 : Int) ∧ j3 ≤ nR ∧ Hid (n2 + 1 + j3 ≤ n3 ∧ n3 ≤ 100000) ∧ Hid (n3 ≤ 20000 → ∀ s ∈ y.rows.take j3, smR s) ∧ Hid (Only Nil wo wr))
                    (fun _ s9 _ _ _ => nR - (intOf s9).toNat)
                  case atStart => exact ⟨n2 + 1 + m1, 0, by go_num, rfl, Nat.zero_le _, Lib.hid ⟨by omega, by omega⟩, Lib.hid (fun _ s hs => by simp at hs), Lib.hid (Only.refl _ _)⟩
                  case round =>
                    obtain ⟨n3, j3, rfl, rfl, hj3, hJ3, hG3, hO3⟩ := hrel
                    clear e0 e1 hzn hm1 hm2 b4
                    have hJ3' := hJ3.out.2
                    by_cases hjR : j3 < nR
                    · by_cases hn3 : n3 ≤ 20000
                      · obtain ⟨s1, ⟨q, off, rfl, hlt, hc⟩, gE⟩ := (GR.out.keep hO3.out (nilS · D)).at_ HNR.out j3 hjR
                        have hkl : j3 < y.rows.length := by rw [HNR.out]; exact hjR
                        have HZR := Lib.hid (HZS.out.2 _ (List.getElem_mem hkl))
                        have HSR := Lib.hid (fun h1 h2 => take_all_snoc (Q := smR) hkl h1 h2)
                        have HGR := Lib.hid (hG3.out hn3)
                        generalize y.rows[j3] = z at *
                        have e0 : wr.cell? ⟨q, off + j3 * 4, none⟩ = some (.string (bs z.tag)) := hc 0 (by decide)
                        have e3 : wr.cell? ⟨q, off + j3 * 4 + 3, none⟩ = some s1 := hc 3 (by decide)
                        obtain ⟨a4, c4, rfl⟩ := gE.slice
                        have GE := Lib.hid gE
                        have hzn : (bs z.tag).size = z.tag.length := bs_size _
                        obtain ⟨m1, hm1, hm2⟩ : ∃ m1 : Nat, min (z.tag.length : Int) 20000 = (m1 : Int) ∧ m1 ≤ 20000 := ⟨(min (z.tag.length : Int) 20000).toNat, by omega, by omega⟩
                        have hEl : (z.effs.length : Int) ≤ 140737488355328 := by have := HZR.out; unfold szR at this; omega
                        clear hc gE hkl hG3
                        generalize hnE : z.effs.length = nE at *
                        have HNE := Lib.hid hnE
                        have CE := Lib.hid (show ∀ w', Only Nil wr w' → w'.cell? ⟨q, off + j3 * 4 + 3, none⟩ = some (.slice a4 nE c4) from fun w' o => only_cell0 o e3)
                        clear hnE
                        generalize wr = wp at *
                        go_wp2
                        go_loopw [3, 10, 11] (fun s3 s10 _ wr => ∃ (n4 j4 : Nat), s3 = .int .i64 (n4 : Int) ∧ s10 = .int .i64 (j4 : Int) ∧ j4 ≤ nE ∧ Hid (n3 + 1 + j4 ≤ n4 ∧ n4 ≤ 100000) ∧ Hid (Only Nil wp wr))
                          (fun _ s10 _ _ => nE - (intOf s10).toNat)
                        case atStart => exact ⟨n3 + 1 + m1, 0, by go_num, rfl, Nat.zero_le _, Lib.hid ⟨by omega, by omega⟩, Lib.hid (Only.refl _ _)⟩
                        case round =>
                          obtain ⟨n4, j4, rfl, rfl, hj4, hJ4, hO4⟩ := hrel
                          clear e0 e3 hzn hm1 hm2
                          have hJ4' := hJ4.out.2
                          have f3 := CE.out _ hO4.out
                          by_cases hjE : j4 < nE
                          · by_cases hn4 : n4 ≤ 20000
                            · obtain ⟨q', off', rfl, hlt', hc'⟩ := (GE.out.keep hO4.out (nilS · D)).at_ HNE.out j4 hjE
                              have hjl : j4 < z.effs.length := by rw [HNE.out]; exact hjE
                              generalize z.effs[j4] = u at *
                              have g0 : wr.cell? ⟨q', off' + j4 * 7, none⟩ = some (.int .i64 u.act) := hc' 0 (by decide)
                              have g1 : wr.cell? ⟨q', off' + j4 * 7 + 1, none⟩ = some (.string (bs u.ref)) := hc' 1 (by decide)
                              have g2 : wr.cell? ⟨q', off' + j4 * 7 + 2, none⟩ = some (.string (bs u.slot)) := hc' 2 (by decide)
                              have g3 : wr.cell? ⟨q', off' + j4 * 7 + 3, none⟩ = some (.string (bs u.name)) := hc' 3 (by decide)
                              have g4 : wr.cell? ⟨q', off' + j4 * 7 + 4, none⟩ = some (.int .i64 u.val) := hc' 4 (by decide)
                              have g5 : wr.cell? ⟨q', off' + j4 * 7 + 5, none⟩ = some (.int .i64 u.n) := hc' 5 (by decide)
                              have g6 : wr.cell? ⟨q', off' + j4 * 7 + 6, none⟩ = some (.int .i64 u.delay) := hc' 6 (by decide)
                              have z1 : (bs u.ref).size = u.ref.length := bs_size _
                              have z2 : (bs u.slot).size = u.slot.length := bs_size _
                              have z3 : (bs u.name).size = u.name.length := bs_size _
                              obtain ⟨m1, hm1, hm1'⟩ : ∃ m1 : Nat, min (u.ref.length : Int) 20000 = (m1 : Int) ∧ m1 ≤ 20000 := ⟨(min (u.ref.length : Int) 20000).toNat, by omega, by omega⟩
                              obtain ⟨m2, hm2, hm2'⟩ : ∃ m1 : Nat, min (u.slot.length : Int) 20000 = (m1 : Int) ∧ m1 ≤ 20000 := ⟨(min (u.slot.length : Int) 20000).toNat, by omega, by omega⟩
                              obtain ⟨m3, hm3, hm3'⟩ : ∃ m1 : Nat, min (u.name.length : Int) 20000 = (m1 : Int) ∧ m1 ≤ 20000 := ⟨(min (u.name.length : Int) 20000).toNat, by omega, by omega⟩
                              clear hc'
                              go_wp2
                              go_roundw
                              case rel => exact ⟨n4 + 1 + m1 + m2 + m3, j4 + 1, by go_num, by go_num, by omega, Lib.hid (by have := hJ4.out; omega), Lib.hid (hO4.out.trans ((Only.refl Nil wr).alloc _))⟩
                              case measure => simp [intOf]; omega
                            · have HSZ := Lib.hid (show n4 ≤ 20000 → smR z from fun h => absurd h hn4)
                              go_wp2
                              go_roundw
                              case rel => exact ⟨n4, j3 + 1, rfl, by go_num, by omega, Lib.hid (by have := hJ3.out; have := hJ4.out; omega), Lib.hid (fun h => HSR.out HGR.out (HSZ.out h)), Lib.hid (hO3.out.trans hO4.out)⟩
                              case measure => simp [intOf]; omega
                          · have HSZ := Lib.hid (show n4 ≤ 20000 → smR z from fun h => by unfold smR; rw [HNE.out]; have := hJ4.out; omega)
                            obtain rfl : j4 = nE := by omega
                            go_wp2
                            go_roundw
                            case rel => exact ⟨n4, j3 + 1, rfl, by go_num, by omega, Lib.hid (by have := hJ3.out; have := hJ4.out; omega), Lib.hid (fun h => HSR.out HGR.out (HSZ.out h)), Lib.hid (hO3.out.trans hO4.out)⟩
                            case measure => simp [intOf]; omega
                      · have HSY := Lib.hid (show n3 ≤ 20000 → smS y from fun h => absurd h hn3)
                        go_wp2
                        go_roundw
                        case rel => exact ⟨n3, j2 + 1, rfl, by go_num, by omega, Lib.hid (by have := hJ.out; have := hJ3.out; omega), Lib.hid (fun h => HSS.out HGJ.out (HSY.out h)), Lib.hid (hO.out.trans hO3.out)⟩
                        case measure => simp [intOf]; omega
                    · have HSY := Lib.hid (show n3 ≤ 20000 → smS y from fun h => ⟨by rw [HNR.out]; have := hJ3.out; omega, fun s hs => hG3.out h s (by rw [List.take_of_length_le (by rw [HNR.out]; omega)]; exact hs)⟩)
                      obtain rfl : j3 = nR := by omega
                      go_wp2
                      go_roundw
                      case rel => exact ⟨n3, j2 + 1, rfl, by go_num, by omega, Lib.hid (by have := hJ.out; have := hJ3.out; omega), Lib.hid (fun h => HSS.out HGJ.out (HSY.out h)), Lib.hid (hO.out.trans hO3.out)⟩
                      case measure => simp [intOf]; omega
                · have HSK := Lib.hid (show n2 ≤ 20000 → smK x from fun h => absurd h hn2)
                  go_wp2
                  go_roundw
                  case rel => exact ⟨n2, i + 1, rfl, by go_num, by omega, Lib.hid (by have := hJ.out; have := HP'.out; have := hI.out; omega), Lib.hid (fun h => HSN.out HGI.out (HSK.out h)), Lib.hid (OK.out.trans hO.out)⟩
                  case measure => simp [intOf]; omega
              · have HSK := Lib.hid (show n2 ≤ 20000 → smK x from fun h => ⟨by rw [HNC.out]; have := HQ.out (by have := hJ.out; omega); omega, by rw [HNS.out]; have := hJ.out; omega, fun s hs => hG.out h s (by rw [List.take_of_length_le (by rw [HNS.out]; omega)]; exact hs)⟩)
                obtain rfl : j2 = nS := by omega
                go_wp2
                go_roundw
                case rel => exact ⟨n2, i + 1, rfl, by go_num, by omega, Lib.hid (by have := hJ.out; have := HP'.out; have := hI.out; omega), Lib.hid (fun h => HSN.out HGI.out (HSK.out h)), Lib.hid (OK.out.trans hO.out)⟩
                case measure => simp [intOf]; omega
      · go_wp2
        go_ret
        exact ⟨_, rfl, fun h => by simp at h <;> omega, O1.out.trans hO.out⟩
    · obtain rfl : i = N := by omega
      clear hiN
      by_cases hn : n ≤ 20000
      · have HS := Lib.hid (show smP P from ⟨by rw [HN.out]; have := hI.out; omega, fun k hk => hG.out hn k (by rw [← HN.out, List.take_length]; exact hk)⟩)
        go_wp2
        go_ret
        exact ⟨_, rfl, fun _ => HS.out, O1.out.trans hO.out⟩
      · go_wp2
        go_ret
        exact ⟨_, rfl, fun h => by simp at h; omega, O1.out.trans hO.out⟩
end Go.Proofs.YtdhokkmflccaaaaGreatDoor.Ps
