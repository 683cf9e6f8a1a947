/- tree, the document's: Below; what the law's same tells. -/
import Derived.Test.YtkeaenkkencmdaaTrQ
set_option linter.unusedSimpArgs false
set_option linter.unusedVariables false
namespace Go.Proofs.Ytkeaenkkencmdaa.Tr
open Go.RowKit Go.Proofs.Ytkeaenkkencmdaa

/-- A row behind another one. -/
theorem pushes {w0 w : World} {a b : Option Addr} {n c m d : Nat} {X Y : List Int} (h : Fr w0 w (.slice a n c) X) (hn : X.length = n) (hy : w.ownsRow 0 3 1 (.slice b m d) Y.length (iv Y)) (hm : Y.length = m) (h0 : 0 < m) (few : n + m ≤ 60000) :
    ∃ a' c' w5, Hid ((Builtin.append_ #[40, 40] 40 #[.slice a n c, .slice b m d]).run Try.prog w = .ok (.slice a' (n + m) c') w5) ∧ Hid (Fr w0 w5 (.slice a' (n + m) c') (X ++ Y)) := by
  obtain ⟨i0, hi0, hz0, hz1, hz2⟩ := info_parts Try.infoI
  subst hn hm
  have hx : w.ownsRow w0.heap.size 3 1 (.slice a X.length c) X.length (iv X) := by
    refine ⟨h.row.1, h.row.2.imp id ?_⟩
    rintro ⟨g, c, cur, e, _, r⟩
    refine ⟨g, c, cur, e, h.new g ?_, r⟩
    rw [e]; rfl
  rcases hy.2 with ⟨e, _⟩ | ⟨g, cap, cur, e, _, hg, _⟩
  · simp only [Value.slice.injEq] at e; omega
  · simp only [Value.slice.injEq] at e
    obtain ⟨rfl, _, rfl⟩ := e
    obtain ⟨v', w', hr, ho, hgr, _⟩ := run_append_own (P := Try.prog) (w := w) w0.heap.size 40 40 3 i0 (.int .i64 0) 1 8 Try.underlying40 hi0 hz0 hz1 hz2 rfl (by decide) (.slice a X.length c) X.length (iv X) hx ⟨g, 0, none⟩ Y.length d (iv Y) (by rw [iv_length]; omega)
      (fun j u hj => by
        have hj' : j < Y.length := by have := (List.getElem?_eq_some_iff.1 hj).1; rw [iv_length] at this; exact this
        rw [add_lit0, Nat.zero_add, hy.cellAt j (by omega)]; exact hj)
      (by intro v hv; simp [iv] at hv; obtain ⟨x, _, rfl⟩ := hv; rfl) (by unfold maxLen; omega) (by omega) h.only.size
    obtain ⟨a', c', rfl⟩ := own_slice_n ho
    refine ⟨a', c', w', Lib.hid hr, Lib.hid ⟨?_, fun q hq => (ho.lt q hq.symm).1, ?_⟩⟩
    · rw [List.length_append, iv_append]
      exact ⟨ho.1, ho.2.imp id (fun ⟨g, c, cur, h1, _, r⟩ => ⟨g, c, cur, h1, Nat.zero_le _, r⟩)⟩
    · refine h.only.then (Only.ofGrown hgr) (fun i hi hlt => ?_)
      have := h.new i hi
      omega

set_option maxRecDepth 100000 in
set_option maxHeartbeats 4000000 in
theorem rbelow_any {T : List Mb} (G : Good T) (few : T.length ≤ 1000) (k : Nat) :
    ∀ (x : Int) (w : World) (a : Option Addr) (n c : Nat), MIn w a T → T.length = n → has T x = true → T.length ≤ k + pos T x → (bel k T x).length ≤ 60000 →
      Calls Try.prog 27 #[.slice a n c, .int .i64 x] w fun e w' => Ans w w' e (bel k T x) := by
  induction k with
  | zero =>
    intro x w a n c _ _ hx hk
    have := pos_lt.1 hx
    omega
  | succ k ih =>
    intro x w a n c hM hn hx hk hb
    have hIH := Lib.hid ih
    have HX := Lib.hid (rat_any (c := c) hM hn (by omega) x)
    have HK := Lib.hid (rkids_any (c := c) hM hn (by omega) x)
    rw [atI_ge hx] at HX
    rw [show kidsT T x = kids T x from by unfold kidsT; rw [if_pos hx]] at HK
    have HM := Lib.hid hM
    have HN := Lib.hid hn
    have few' : (n : Int) ≤ 1000 := by omega
    have hkid := Lib.hid (fun (z : Int) (hz : z ∈ kids T x) => show has T z = true ∧ T.length ≤ k + pos T z ∧ 1 ≤ (bel k T z).length from by
      have h1 := G.kidpos hx hz
      have h2 := pos_lt.1 h1.1
      exact ⟨h1.1, by omega, List.length_pos_of_mem (bel_self (T := T) (n := k) (x := z) (by omega))⟩)
    have hbb : bel (k + 1) T x = (kids T x).flatMap (bel k T) ++ [x] := rfl
    have hpos := pos_le T x
    have hkl : (kids T x).length ≤ 1000 := by
      have := nodup_le (kids T x) (T.map (fun m => m.1)) G.knodup (fun y hy => has_mem.1 (kids_in G hy))
      simp at this
      omega
    rw [hbb] at hb ⊢
    have HB := Lib.hid (show ((kids T x).flatMap (bel k T)).length + 1 ≤ 60000 from by simpa using hb)
    clear ih hM hn hbb hb hk hx
    generalize kids T x = K at *
    go_enter Try.func27, Try.ntmps27
    go_upto_region 5 with (first
      | (go_at_call 22; (with_reducible refine HX.out.mono ?_); rintro e w1 ⟨rfl, rfl⟩)
      | (go_at_call 23; (with_reducible refine HK.out.mono ?_); rintro e w2 ⟨a1, n1, c1, rfl, hn1, F1⟩))
    have l1 := Lib.hid hn1
    have RK := Lib.hid (own_ints F1.out.row)
    have O2 := Lib.hid F1.out.only
    have n1le : (n1 : Int) ≤ 1000 := by omega
    clear HX HK hn1 F1
    go_wp2_with (fail)
    go_loopw [5, 7] (fun s5 s7 wr => ∃ (i p d : Nat) (aa : Option Addr), i ≤ n1 ∧ p ≤ 60000 ∧ s7 = .int .i64 (i : Int) ∧ s5 = .slice aa p d ∧ Hid (Fr w2 wr (.slice aa p d) ((K.take i).flatMap (bel k T)) ∧ ((K.take i).flatMap (bel k T)).length = p))
      (fun _ s7 _ => n1 - (intOf s7).toNat)
    case atStart => exact ⟨0, 0, 0, none, Nat.zero_le _, Nat.zero_le _, rfl, rfl, Lib.hid ⟨Fr.none (Only.refl _ _), rfl⟩⟩
    case round =>
      obtain ⟨i, p, d, aa, hi, hp, rfl, rfl, H⟩ := hrel
      by_cases hin : i < n1
      · have hin' : (i : Int) < (n1 : Int) := by omega
        obtain ⟨g, rfl, _, hc⟩ := (RK.out.nil H.out.1.only) i (by rw [l1.out]; exact hin)
        have x0 := hc i (by rw [l1.out]; exact hin)
        obtain ⟨z, hz⟩ : ∃ z, z = K.getD i 0 := ⟨_, rfl⟩
        rw [← hz] at x0
        have hzm : z ∈ K := by
          have h1 : i < K.length := by rw [l1.out]; exact hin
          rw [hz, show K.getD i 0 = K[i] from by simp [List.getD, h1]]
          exact List.getElem_mem h1
        have htk : K.take (i + 1) = K.take i ++ [z] := by
          have h1 : i < K.length := by rw [l1.out]; exact hin
          rw [List.take_succ_eq_append_getElem h1, hz]; simp [List.getD, h1]
        have hfm := Lib.hid (show (K.take (i + 1)).flatMap (bel k T) = (K.take i).flatMap (bel k T) ++ bel k T z from by rw [htk]; simp)
        obtain ⟨k1, k2, k3⟩ := hkid.out z hzm
        have hle : p + (bel k T z).length < 60000 := by
          have h1 : ((K.take (i + 1)).flatMap (bel k T)).length ≤ (K.flatMap (bel k T)).length := by
            have : K.flatMap (bel k T) = (K.take (i + 1)).flatMap (bel k T) ++ (K.drop (i + 1)).flatMap (bel k T) := by rw [← List.flatMap_append, List.take_append_drop]
            rw [this]; simp
          rw [hfm.out, List.length_append, H.out.2] at h1
          have := HB.out
          omega
        have CB := Lib.hid ((hIH.out z wr a n c (HM.out.nil (O2.out.trans H.out.1.only)) HN.out k1 k2 (by omega)).mono (R' := fun e w' => ∃ (a2 : Option Addr) (n2 c2 : Nat), e = .returned (.slice a2 n2 c2) ∧ ∃ a' c' w5, Hid ((Builtin.append_ #[40, 40] 40 #[.slice aa p d, .slice a2 n2 c2]).run Try.prog w' = .ok (.slice a' (p + n2) c') w5) ∧ p + n2 ≤ 60000 ∧ Hid (Fr w2 w5 (.slice a' (p + n2) c') ((K.take (i + 1)).flatMap (bel k T)) ∧ ((K.take (i + 1)).flatMap (bel k T)).length = p + n2)) fun e w' h => by
          obtain ⟨a2, n2, c2, he, hn2, F2⟩ := h
          obtain ⟨a', c', w5, hr5, hF⟩ := pushes (H.out.1.nil F2.out.only) H.out.2 F2.out.row hn2 (by omega) (by omega)
          exact ⟨a2, n2, c2, he, a', c', w5, hr5, by omega, Lib.hid ⟨by rw [hfm.out]; exact hF.out, by rw [hfm.out, List.length_append, H.out.2, hn2]⟩⟩)
        clear hc hz hzm htk hfm k1 k2 k3 hle
        go_wp2_with (first
          | (go_at_call 27; (with_reducible refine CB.out.mono ?_); rintro e w3 ⟨a2, n2, c2, rfl, a', c', w5, hr5, hpn, HN5⟩)
          | (at_builtin; refine Lib.wpList_append_run _ rfl (.tmp 21) (.tmp 27) 40 40 rfl _ _ rfl rfl _ _ hr5.out ?_))
        go_roundw
        case rel => exact ⟨i + 1, p + n2, c', a', by omega, hpn, by go_num, rfl, HN5⟩
        case measure => simp [intOf]; omega
      · obtain rfl : i = n1 := by omega
        have hk0 : ¬ (i : Int) < (i : Int) := by omega
        have HF := Lib.hid (show Fr w2 wr (.slice aa p d) (K.flatMap (bel k T)) ∧ (K.flatMap (bel k T)).length = p from by
          have := H.out
          rw [show K.take i = K from by rw [← l1.out]; exact List.take_length] at this
          exact this)
        obtain ⟨a', c', w5, hr5, hG⟩ := push HF.out.1.row HF.out.2 x (by omega)
        have HE := Lib.hid (show Fr w w5 (.slice a' (p + 1) c') (K.flatMap (bel k T) ++ [x]) from (HF.out.1.grown hG).less O2.out)
        have HL := Lib.hid (show (K.flatMap (bel k T) ++ [x]).length = p + 1 from by rw [List.length_append, HF.out.2]; rfl)
        clear hG
        go_wp2_with (at_builtin; refine Lib.wpList_append_run _ rfl (.tmp 29) (.tmp 31) 40 40 rfl _ _ rfl rfl _ _ hr5.out ?_)
        go_ret
        exact ⟨a', _, c', rfl, HL.out, HE⟩

set_option maxRecDepth 100000 in
theorem rbel_any {w : World} {a : Option Addr} {n c : Nat} {T : List Mb} (G : Good T) (hM : MIn w a T) (hn : T.length = n) (few : n ≤ 1000) (x : Int) :
    Calls Try.prog 27 #[.slice a n c, .int .i64 x] w fun e w' => Ans w w' e (belT T x) := by
  cases hx : has T x with
  | true =>
    rw [show belT T x = bel T.length T x from by unfold belT; rw [if_pos hx]]
    have h1 := belT_len G x
    rw [show belT T x = bel T.length T x from by unfold belT; rw [if_pos hx]] at h1
    exact rbelow_any G (by omega) T.length x w a n c hM hn hx (by omega) (by omega)
  | false =>
    have HX := Lib.hid (rat_any (c := c) hM hn few x)
    rw [atI_lt hx] at HX
    rw [show belT T x = [] from by unfold belT; rw [if_neg (by rw [hx]; decide)]]
    clear hM hx
    go_enter Try.func27, Try.ntmps27
    go_wp2_with (go_at_call 22; (with_reducible refine HX.out.mono ?_); rintro e w1 ⟨rfl, rfl⟩)
    go_ret
    exact ⟨none, 0, 0, rfl, rfl, Lib.hid (Fr.none (Only.refl _ _))⟩
end Go.Proofs.Ytkeaenkkencmdaa.Tr
