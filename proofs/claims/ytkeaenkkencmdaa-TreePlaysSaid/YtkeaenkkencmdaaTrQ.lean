/- tree, the document's: Cut, Path. -/
import Derived.Test.YtkeaenkkencmdaaTrO
set_option linter.unusedSimpArgs false
set_option linter.unusedVariables false
namespace Go.Proofs.Ytkeaenkkencmdaa.Tr
open Go.RowKit Go.Proofs.Ytkeaenkkencmdaa

theorem del_take (T : List Mb) (x : Int) {i : Nat} (hi : i < T.length) : del (T.take (i + 1)) x = del (T.take i) x ++ (if (T.getD i default).1 = x then [] else [T.getD i default]) := by
  rw [List.take_succ_eq_append_getElem hi]
  have : T.getD i default = T[i] := by simp [List.getD, hi]
  rw [this]
  unfold del
  rw [List.filter_append]
  congr 1
  by_cases e : T[i].1 = x
  · rw [if_pos e, List.filter_cons_of_neg (by simp [e])]; rfl
  · rw [if_neg e, List.filter_cons_of_pos (by simp [e])]; rfl

set_option maxRecDepth 100000 in
set_option maxHeartbeats 2000000 in
theorem rcut_any {w : World} {a : Option Addr} {n c : Nat} {T : List Mb} (h : w.ownsRow 0 38 2 (.slice a n c) T.length (ms T)) (h0 : T = [] → Value.slice a n c = .slice none 0 0) (hn : T.length = n) (few : n ≤ 1000) (x : Int) :
    Calls Try.prog 9 #[.slice a n c, .int .i64 x] w fun e w' => Out w w' (.slice a n c) e (cutT T x) (cutE T x) := by
  have hin := own_min h
  have HX := Lib.hid (rat_any (c := c) hin hn few x)
  have HK := Lib.hid (rkids_any (c := c) hin hn few x)
  have no := Lib.hid (fun (he : cutE T x ≠ 0) (w' : World) (o : Only Nil w w') => show Rs w w' (.slice a n c) (.slice a n c) (cutT T x) ∧ (cutT T x).length = n from by
    unfold cutT; rw [if_neg he]; exact ⟨⟨own_keep h o (fun _ _ h => h), h0, fun g hg => .inl hg, o⟩, hn⟩)
  have few' : (n : Int) ≤ 1000 := by omega
  have hpos := pos_le T x
  cases hx : has T x with
  | false =>
    have hE : cutE T x = 2 := by unfold cutE; rw [if_pos hx]
    have nn := Lib.hid (no.out (by rw [hE]; decide) w (Only.refl _ _))
    rw [hE]
    rw [atI_lt hx] at HX
    clear h h0 hE no hin hx
    go_enter Try.func9, Try.ntmps9
    go_wp2_with (go_at_call 22; (with_reducible refine HX.out.mono ?_); rintro e w1 ⟨rfl, rfl⟩)
    go_ret2
    exact ⟨a, n, c, rfl, nn.out.2, Lib.hid nn.out.1⟩
  | true =>
    rw [atI_ge hx] at HX
    have hkt : kidsT T x = kids T x := by unfold kidsT; rw [if_pos hx]
    rw [hkt] at HK
    cases hk : kids T x with
    | cons z R =>
      have hE : cutE T x = 6 := by unfold cutE; rw [if_neg (by rw [hx]; decide), if_neg (by rw [hk]; simp)]
      have nn := Lib.hid (fun w' o => no.out (by rw [hE]; decide) w' o)
      rw [hE]
      have HK2 : Hid (Calls Try.prog 23 #[.slice a n c, .int .i64 x] w fun e w' => ∃ (a1 : Option Addr) (n1 c1 : Nat), e = .returned (.slice a1 n1 c1) ∧ (0 : Int) < (n1 : Int) ∧ Only Nil w w') := by
        refine Lib.hid (HK.out.mono fun e w' h => ?_)
        obtain ⟨a1, n1, c1, he, hn1, hF⟩ := h
        refine ⟨a1, n1, c1, he, ?_, hF.out.only⟩
        rw [hk] at hn1
        simp at hn1
        omega
      clear h h0 hE no hin hx HK hkt hk
      go_enter Try.func9, Try.ntmps9
      go_wp2_with (first
        | (go_at_call 22; (with_reducible refine HX.out.mono ?_); rintro e w1 ⟨rfl, rfl⟩)
        | (go_at_call 23; (with_reducible refine HK2.out.mono ?_); rintro e w2 ⟨a1, n1, c1, rfl, hn1, o2⟩))
      go_ret2
      exact ⟨a, n, c, rfl, (nn.out w2 o2).2, Lib.hid (nn.out w2 o2).1⟩
    | nil =>
      have hE : cutE T x = 0 := cutE_0.2 ⟨hx, hk⟩
      rw [hE, cutT_eq hE]
      have HK2 : Hid (Calls Try.prog 23 #[.slice a n c, .int .i64 x] w fun e w' => ∃ (a1 : Option Addr) (c1 : Nat), e = .returned (.slice a1 0 c1) ∧ Only Nil w w') := by
        refine Lib.hid (HK.out.mono fun e w' h => ?_)
        obtain ⟨a1, n1, c1, he, hn1, hF⟩ := h
        rw [hk] at hn1
        simp at hn1
        subst hn1
        exact ⟨a1, c1, he, hF.out.only⟩
      have HM := Lib.hid hin
      have HN := Lib.hid hn
      clear h h0 hE no hin hx HK hkt hk hn
      go_enter Try.func9, Try.ntmps9
      go_wp2_with (first
        | (go_at_call 22; (with_reducible refine HX.out.mono ?_); rintro e w1 ⟨rfl, rfl⟩)
        | (go_at_call 23; (with_reducible refine HK2.out.mono ?_); rintro e w2 ⟨a1, c1, rfl, o2⟩))
      have O2 := Lib.hid o2
      clear o2 HX HK2
      go_loopw [6, 7] (fun s6 s7 wr => ∃ (i p k : Nat) (aa : Option Addr), i ≤ n ∧ s7 = .int .i64 (i : Int) ∧ s6 = .slice aa p k ∧ Hid (Rs w wr (.slice none 0 0) (.slice aa p k) (del (T.take i) x) ∧ (del (T.take i) x).length = p))
        (fun _ s7 _ => n - (intOf s7).toNat)
      case atStart => exact ⟨0, 0, 0, none, Nat.zero_le _, rfl, rfl, Lib.hid ⟨⟨World.ownsRow_nil _ _ _ _, fun _ => rfl, fun g hg => .inl hg, O2.out⟩, rfl⟩⟩
      case round =>
        obtain ⟨i, p, k, aa, hi, rfl, rfl, H⟩ := hrel
        by_cases hin : i < n
        · have hin' : (i : Int) < (n : Int) := by omega
          obtain ⟨b, rfl, hb, hc⟩ := (HM.out.nil H.out.1.only) i (by rw [HN.out]; exact hin)
          obtain ⟨x0, x1⟩ := hc i (by rw [HN.out]; exact hin)
          have hs := Lib.hid (del_take T x (i := i) (by rw [HN.out]; exact hin))
          have hle := Lib.hid (show (del (T.take i) x).length ≤ i from Nat.le_trans (List.length_filter_le _ _) (List.length_take_le i T))
          obtain ⟨m, hm⟩ : ∃ m, m = T.getD i default := ⟨_, rfl⟩
          rw [← hm] at x0 x1 hs
          clear hc hb hm
          by_cases e : m.1 = x
          · have t1 : (m.1 != x) = false := by simp [e]
            have hs2 := Lib.hid (show del (T.take (i + 1)) x = del (T.take i) x from by rw [hs.out, if_pos e, List.append_nil])
            clear e hs
            go_wp2_with (fail)
            go_roundw
            case rel => exact ⟨i + 1, p, k, aa, by omega, by go_num, rfl, Lib.hid ⟨by rw [hs2.out]; exact H.out.1, by rw [hs2.out]; exact H.out.2⟩⟩
            case measure => simp [intOf]; omega
          · have t1 : (m.1 != x) = true := by simp [e]
            have hs2 := Lib.hid (show del (T.take (i + 1)) x = del (T.take i) x ++ [m] from by rw [hs.out, if_neg e])
            obtain ⟨a', c', w5, hr5, hR⟩ := H.out.1.push H.out.2 m (by have := hle.out; have := H.out.2; omega)
            clear e hs
            go_wp2_with (at_builtin; refine Lib.wpList_append_run _ rfl (.tmp 32) (.tmp 37) 26 26 rfl _ _ rfl rfl _ _ hr5.out ?_)
            go_roundw
            case rel => exact ⟨i + 1, p + 1, c', a', by omega, by go_num, rfl, Lib.hid ⟨by rw [hs2.out]; exact hR.out, by rw [hs2.out, List.length_append, H.out.2]; rfl⟩⟩
            case measure => simp [intOf]; omega
        · obtain rfl : i = n := by omega
          have hk : ¬ (i : Int) < (i : Int) := by omega
          have HE := Lib.hid (show Rs w wr (.slice none 0 0) (.slice aa p k) (del T x) ∧ (del T x).length = p from by have := H.out; rw [show T.take i = T from by rw [← HN.out]; exact List.take_length] at this; exact this)
          go_wp2_with (fail)
          go_ret2
          exact ⟨aa, p, k, rfl, HE.out.2, Lib.hid ⟨HE.out.1.row, HE.out.1.nil0, fun g hg => (HE.out.1.fr g hg).elim (fun e => by simp [Value.ownBlock] at e) .inr, HE.out.1.only⟩⟩

set_option maxRecDepth 100000 in
set_option maxHeartbeats 2000000 in
theorem rpath_any {w : World} {a : Option Addr} {n c : Nat} {T : List Mb} (G : Good T) (h : MIn w a T) (hn : T.length = n) (few : n ≤ 1000) (x : Int) :
    Calls Try.prog 26 #[.slice a n c, .int .i64 x] w fun e w' => Ans w w' e (path T x) := by
  have HA := Lib.hid (fun (w' : World) (o : Only Nil w w') (y : Int) => rat_any (c := c) (h.nil o) hn few y)
  have HM := Lib.hid h
  have HN := Lib.hid hn
  have few' : (n : Int) ≤ 1000 := by omega
  have hstep := Lib.hid (fun (y : Int) (m : Nat) (hy : has T y = true) (hm : pos T y < m) => show ∃ m', up m T y = y :: up m' T (par T y) ∧ (has T (par T y) = true → pos T (par T y) < m') from by
    cases m with
    | zero => omega
    | succ m =>
      refine ⟨m, by rw [up, if_pos hy], fun h => ?_⟩
      rcases G.par hy with e | e
      · rw [e, G.zero] at h; simp at h
      · omega)
  have hstop := Lib.hid (fun (y : Int) (m : Nat) (hy : has T y = false) => show up m T y = [] from by
    cases m with
    | zero => rfl
    | succ m => rw [up, if_neg (by rw [hy]; decide)])
  have hul := Lib.hid (show (up T.length T x).length ≤ n from by rw [← hn]; exact up_len _ _)
  have hp0 := Lib.hid (fun (y : Int) (hy : has T y = true) => pos_lt.1 hy)
  unfold path
  generalize hUU : up T.length T x = U at *
  have hU := Lib.hid hUU
  clear h hn hUU
  go_enter Try.func26, Try.ntmps26
  go_upto_region 3 with (go_at_call 22; (with_reducible refine (HA.out _ (Only.refl _ _) x).mono ?_); rintro e w1 ⟨rfl, rfl⟩)
  go_loopw [5, 6] (fun s5 s6 wr => ∃ (p k : Nat) (aa : Option Addr) (y : Int), p ≤ 1000 ∧ s5 = .slice aa p k ∧ s6 = .int .i64 (atI T y) ∧ Hid (∃ done m, U = done ++ up m T y ∧ (has T y = true → pos T y < m) ∧ done.length = p ∧ Fr w wr (.slice aa p k) done))
    (fun s5 _ _ => 1000 - lenV s5)
  case atStart => exact ⟨0, 0, none, x, by omega, rfl, rfl, Lib.hid ⟨[], _, hU.out.symm, fun h => hp0.out x h, rfl, Fr.none (Only.refl _ _)⟩⟩
  case round =>
    obtain ⟨p, k, aa, y, hp, rfl, rfl, H⟩ := hrel
    cases hy : has T y with
    | false =>
      rw [atI_lt hy]
      have HF := Lib.hid (show U.length = p ∧ Fr w wr (.slice aa p k) U from by
        obtain ⟨done, m, e, _, hd, F⟩ := H.out
        rw [hstop.out y m hy, List.append_nil] at e
        rw [e]
        exact ⟨hd, F⟩)
      have hp' : (p : Int) ≤ 1000 := by omega
      have R1 := Lib.hid (own_ints HF.out.2.row)
      clear hy H
      obtain ⟨V, hV⟩ : ∃ V, V = wr := ⟨_, rfl⟩
      subst hV
      go_wp2_with (fail)
      go_loopw [7, 8] (fun s7 s8 wq => ∃ (j m : Nat) (ab : Option Addr), j ≤ p ∧ s7 = .slice ab j m ∧ s8 = .int .i64 ((p : Int) - 1 - (j : Int)) ∧ Hid (Fr V wq (.slice ab j m) (U.reverse.take j)))
        (fun s7 _ _ => p - lenV s7)
      case atStart => exact ⟨0, 0, none, Nat.zero_le _, rfl, by simp, Lib.hid (Fr.none (Only.refl _ _))⟩
      case round =>
        obtain ⟨j, m, ab, hj, rfl, rfl, HB⟩ := hrel
        by_cases hjp : j < p
        · obtain ⟨q, hq⟩ : ∃ q, q = p - 1 - j := ⟨_, rfl⟩
          have hqi : (p : Int) - 1 - (j : Int) = (q : Int) := by omega
          have hqp : (q : Int) < (p : Int) := by omega
          have hq0 : (0 : Int) ≤ (q : Int) := by omega
          obtain ⟨g, rfl, _, hc⟩ := (R1.out.nil HB.out.only) q (by rw [HF.out.1]; omega)
          have x0 := hc q (by rw [HF.out.1]; omega)
          have hrev := Lib.hid (show U.reverse.take (j + 1) = U.reverse.take j ++ [U.getD q 0] from by
            have h1 : j < U.reverse.length := by rw [List.length_reverse, HF.out.1]; exact hjp
            have h2 : q < U.length := by rw [HF.out.1]; omega
            rw [List.take_succ_eq_append_getElem h1, List.getElem_reverse]
            congr 2
            rw [List.getD_eq_getElem?_getD, List.getElem?_eq_getElem h2, Option.getD_some]
            congr 1
            rw [HF.out.1]; omega)
          have hlen := Lib.hid (show (U.reverse.take j).length = j from by rw [List.length_take, List.length_reverse, HF.out.1]; omega)
          have HQ := Lib.hid hqi
          obtain ⟨a', c', w5, hr5, hG⟩ := push HB.out.row hlen.out (U.getD q 0) (by omega)
          have HG := Lib.hid (show Fr V w5 (.slice a' (j + 1) c') (U.reverse.take (j + 1)) from by
            rw [hrev.out]
            exact HB.out.grown hG)
          rw [hqi]
          clear hc hq hqi hG hrev
          generalize U.getD q 0 = z at *
          go_wp2_with (at_builtin; refine Lib.wpList_append_run _ rfl (.tmp 36) (.tmp 41) 40 40 rfl _ _ rfl rfl _ _ hr5.out ?_)
          go_roundw
          case rel => exact ⟨j + 1, c', a', by omega, rfl, by have := HQ.out; simp; omega, HG⟩
          case measure => simp [lenV]; omega
        · obtain rfl : j = p := by omega
          have hk : ¬ (0 : Int) ≤ (j : Int) - 1 - (j : Int) := by omega
          have HE := Lib.hid (show Fr w wr (.slice ab j m) U.reverse from by
            have := HB.out.less HF.out.2.only
            rw [show U.reverse.take j = U.reverse from by rw [← HF.out.1, ← List.length_reverse]; exact List.take_length] at this
            exact this)
          go_wp2_with (fail)
          go_ret
          exact ⟨ab, j, m, rfl, by rw [List.length_reverse]; exact HF.out.1, HE⟩
    | true =>
      rw [atI_ge hy]
      have hpl := hp0.out y hy
      obtain ⟨q, hq⟩ : ∃ q, q = pos T y := ⟨_, rfl⟩
      have hat := Lib.hid (at_pos hy)
      rw [← hq] at hpl hat ⊢
      have hqn : q < n := by rw [← HN.out]; exact hpl
      have hqn' : (q : Int) < (n : Int) := by omega
      have hO := Lib.hid (show Only Nil w wr from by obtain ⟨_, _, _, _, _, F⟩ := H.out; exact F.only)
      obtain ⟨g, rfl, _, hc⟩ := (HM.out.nil hO.out) q hpl
      have HC := Lib.hid (fun (w' : World) (o : Only Nil w w') => show w'.cell? ⟨g, q * 2, none⟩ = some (.int .i64 y) ∧ w'.cell? ⟨g, q * 2 + 1, none⟩ = some (.int .i64 (par T y)) from by
        obtain ⟨g', e, _, hc'⟩ := (HM.out.nil o) q hpl
        injection e with e
        injection e with e
        subst e
        have := hc' q hpl
        rw [hat.out.1, hat.out.2] at this
        exact this)
      obtain ⟨x0, _⟩ := HC.out wr hO.out
      have hp1 : p < 1000 := by
        obtain ⟨done, m, e, hm, hd, F⟩ := H.out
        obtain ⟨m', e2, _⟩ := hstep.out y m hy (hm hy)
        have := hul.out
        rw [e, e2] at this
        simp at this
        omega
      have HP : Hid (∃ a' c' w5, Hid ((Builtin.append_ #[40, 40] 40 #[.slice aa p k, .slice (some ⟨wr.heap.size, 0, none⟩) 1 1]).run Try.prog (wr.alloc (.cells #[.int .i64 y] 3)) = .ok (.slice a' (p + 1) c') w5) ∧
          Hid (∃ done m, U = done ++ up m T (par T y) ∧ (has T (par T y) = true → pos T (par T y) < m) ∧ done.length = p + 1 ∧ Fr w w5 (.slice a' (p + 1) c') done)) := by
        obtain ⟨done, m, e, hm, hd, F⟩ := H.out
        obtain ⟨m', e2, e4⟩ := hstep.out y m hy (hm hy)
        obtain ⟨a', c', w5, hr, hg⟩ := push F.row hd y (by omega)
        exact Lib.hid ⟨a', c', w5, hr, Lib.hid ⟨done ++ [y], m', by rw [e, e2]; simp, e4, by simp [hd], F.grown hg⟩⟩
      obtain ⟨a', c', w5, hr, HN5⟩ := HP.out
      have hO5 := Lib.hid (show Only Nil w w5 from by obtain ⟨_, _, _, _, _, F⟩ := HN5.out; exact F.only)
      obtain ⟨_, k1⟩ := HC.out w5 hO5.out
      have AC := Lib.hid (HA.out w5 hO5.out (par T y))
      clear HP hc hq hpl hy H
      go_wp2_with (first
        | (at_builtin; refine Lib.wpList_append_run _ rfl (.tmp 21) (.tmp 27) 40 40 rfl _ _ rfl rfl _ _ hr.out ?_)
        | (go_at_call 22; (with_reducible refine AC.out.mono ?_); rintro e w' ⟨rfl, rfl⟩))
      go_roundw
      case rel => exact ⟨p + 1, c', a', par T y, by omega, rfl, rfl, HN5⟩
      case measure => simp [lenV]; omega
end Go.Proofs.Ytkeaenkkencmdaa.Tr
