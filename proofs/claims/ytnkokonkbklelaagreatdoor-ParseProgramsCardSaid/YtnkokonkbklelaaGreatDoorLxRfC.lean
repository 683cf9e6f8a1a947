/- lex, the document's: All. -/
import Derived.Test.YtnkokonkbklelaaGreatDoorLxM5
import Derived.Test.YtnkokonkbklelaaGreatDoorLxM2
namespace Go.Proofs.YtnkokonkbklelaaGreatDoor.Lx
open Go.RowKit Go.Proofs.YtnkokonkbklelaaGreatDoor

theorem step_tok {l : List UInt8} {i : Nat} {X : List (Tok × Nat)} {t : Tok} (hi : i < l.length) (h1 : kN (l[i]'hi).toNat ≠ 1) (h6 : kN (l[i]'hi).toNat ≠ 6) (ht : tok (l.drop i) = (0, t))
    (hX : LX l.length l = (X ++ (LX l.length (l.drop i)).1, (LX l.length (l.drop i)).2)) :
    LX l.length l = ((X ++ [(t, i)]) ++ (LX l.length (l.drop (i + t.w.length))).1, (LX l.length (l.drop (i + t.w.length))).2) := by
  have hd := drop_cons hi
  have hs := kN_first h1 h6 (l.drop (i + 1))
  rw [← hd] at hs
  have e := LX_tok (N := l.length) (hs.trans hd) (by rw [← hd, ht])
  rw [← hd, ht] at e
  have hq : l.length - ((l.drop (i + 1)).length + 1) = i := by rw [List.length_drop]; omega
  rw [hq] at e
  rw [hX, e, List.append_assoc, List.drop_drop]
  rfl
theorem step_bad {l : List UInt8} {i z : Nat} {X : List (Tok × Nat)} (hi : i < l.length) (h1 : kN (l[i]'hi).toNat ≠ 1) (h6 : kN (l[i]'hi).toNat ≠ 6) (ht : (tok (l.drop i)).1 = z) (hz : z ≠ 0)
    (hX : LX l.length l = (X ++ (LX l.length (l.drop i)).1, (LX l.length (l.drop i)).2)) : LX l.length l = (X, z, i) := by
  have hd := drop_cons hi
  have hs := kN_first h1 h6 (l.drop (i + 1))
  rw [← hd] at hs
  have e := LX_bad (N := l.length) (hs.trans hd) (by rw [← hd, ht]; exact hz)
  rw [← hd, ht] at e
  have hq : l.length - ((l.drop (i + 1)).length + 1) = i := by rw [List.length_drop]; omega
  rw [hq] at e
  rw [hX, e, List.append_nil]
theorem step_skip {l : List UInt8} {i j : Nat} {X : List (Tok × Nat)} (h : sk false (l.drop i) = sk false (l.drop j))
    (hX : LX l.length l = (X ++ (LX l.length (l.drop i)).1, (LX l.length (l.drop i)).2)) : LX l.length l = (X ++ (LX l.length (l.drop j)).1, (LX l.length (l.drop j)).2) := by
  rw [hX, LX_sk _ _ _ h]

theorem pn_at {p : UInt8 → Bool} {l : List UInt8} {i j : Nat} (hij : i ≤ j) (h : j < i + pn p (l.drop i)) : ∃ hj : j < l.length, p (l[j]'hj) = true := by
  obtain ⟨hk, hp⟩ := pn_in p (l.drop i) (j - i) (by omega)
  have hj : j < l.length := by rw [List.length_drop] at hk; omega
  refine ⟨hj, ?_⟩
  have e : (l.drop i)[j - i]'hk = l[j]'hj := by
    rw [List.getElem_drop]
    congr 1
    omega
  rw [← e]; exact hp
theorem pn_stop {p : UInt8 → Bool} {l : List UInt8} {i : Nat} (h : i + pn p (l.drop i) < l.length) : p (l[i + pn p (l.drop i)]'h) = false := by
  have hk : pn p (l.drop i) < (l.drop i).length := by rw [List.length_drop]; omega
  have := pn_end p (l.drop i) hk
  rw [List.getElem_drop] at this
  exact this
theorem pn_up {p : UInt8 → Bool} {l : List UInt8} {i : Nat} (hi : i ≤ l.length) : i + pn p (l.drop i) ≤ l.length := by
  have := pn_le p (l.drop i)
  rw [List.length_drop] at this
  omega
theorem pn_word {p : UInt8 → Bool} {l : List UInt8} {i : Nat} : (l.take (i + pn p (l.drop i))).drop i = (l.drop i).takeWhile p := by
  rw [List.drop_take, Nat.add_sub_cancel_left, pn_take]
theorem pn_pos {p : UInt8 → Bool} {l : List UInt8} {i : Nat} (hi : i < l.length) (h : p (l[i]'hi) = true) : 1 ≤ pn p (l.drop i) := by
  rw [drop_cons hi, pn, List.takeWhile_cons, if_pos h]; simp

theorem dig_plain {l : List UInt8} {i : Nat} (hi : i < l.length) (hk : kN (l[i]'hi).toNat = 3) (hs : ∀ hq : i + pn isDi (l.drop i) < l.length, isWd (l[i + pn isDi (l.drop i)]'hq) = false) :
    tok (l.drop i) = if vl 0 ((l.drop i).takeWhile isDi) ≤ 65535 then (0, ⟨2, (l.drop i).takeWhile isDi, vl 0 ((l.drop i).takeWhile isDi)⟩) else (21, default) := by
  have hs' : ∀ hk : pn isDi (l.drop i) < (l.drop i).length, isWd ((l.drop i)[pn isDi (l.drop i)]'hk) = false := fun hk => by
    rw [List.getElem_drop]; exact hs (by rw [List.length_drop] at hk; omega)
  rw [← pn_take]
  rw [drop_cons hi] at hs' ⊢
  exact num_plain hk hs'
theorem dig_run {l : List UInt8} {i : Nat} (hi : i < l.length) (hk : kN (l[i]'hi).toNat = 3) (hq : i + pn isDi (l.drop i) < l.length) (hw : isWd (l[i + pn isDi (l.drop i)]'hq) = true) : (tok (l.drop i)).1 = 21 := by
  have hk2 : pn isDi (l.drop i) < (l.drop i).length := by rw [List.length_drop]; omega
  have hw' : isWd ((l.drop i)[pn isDi (l.drop i)]'hk2) = true := by rw [List.getElem_drop]; exact hw
  clear hw
  generalize hm : l.drop i = m at *
  have hd := hm.symm.trans (drop_cons hi)
  subst hd
  exact num_run hk hk2 hw'
theorem dig_big {l : List UInt8} {i : Nat} (hi : i < l.length) (hk : kN (l[i]'hi).toNat = 3) (hb : 65535 < vl 0 ((l.drop i).takeWhile isDi)) : (tok (l.drop i)).1 = 21 := by
  by_cases hq : i + pn isDi (l.drop i) < l.length
  · cases hw : isWd (l[i + pn isDi (l.drop i)]'hq) with
    | true => exact dig_run hi hk hq hw
    | false => rw [dig_plain hi hk (fun _ => hw), if_neg (by omega)]
  · rw [dig_plain hi hk (fun h => absurd h hq), if_neg (by omega)]

/-- What the document's All answers. -/
inductive RPost (w : World) (l : List UInt8) (e : Ending) (w' : World) : Prop
  | ok (a : Option Addr) (n c : Nat) : (whole l).2.1 = 0 → (whole l).1.length = n → e = .returned (.tuple #[.slice a n c, .int .i64 0, .int .i64 (-1)]) → Rs w w' (.slice a n c) (whole l).1 → RPost w l e w'
  | bad : (whole l).2.1 ≠ 0 → e = .returned (.tuple #[.slice none 0 0, .int .i64 (whole l).2.1, .int .i64 (whole l).2.2]) → Only Nil w w' → RPost w l e w'

set_option maxRecDepth 100000 in
set_option maxHeartbeats 1000000 in
theorem rall_long (l : List UInt8) (w : World) (h : 16384 < l.length) (hl : l.length ≤ 140737488355328) : Calls Tryz.prog 14 #[.string (bs l)] w (RPost w l) := by
  have e : whole l = ([], 5, 0) := if_pos h
  have hz : (bs l).size = l.length := bs_size l
  have HE := Lib.hid e
  clear e
  go_enter Tryz.func14, Tryz.ntmps14
  go_wp2
  go_ret3
  exact .bad (by rw [HE.out]; decide) (by rw [HE.out]; rfl) (Only.refl _ _)

set_option maxRecDepth 100000 in
set_option maxHeartbeats 8000000 in
theorem rall_short (l : List UInt8) (w : World) (h : l.length ≤ 16384) : Calls Tryz.prog 14 #[.string (bs l)] w (RPost w l) := by
  have e : whole l = LX l.length l := if_neg (by omega)
  have hz : (bs l).size = l.length := bs_size l
  have HE := Lib.hid e
  clear e
  go_enter Tryz.func14, Tryz.ntmps14
  go_wp2_with fail
  go_loopw [5, 6] (fun s5 s6 wr => ∃ (i n : Nat) (X : List (Tok × Nat)) (a : Option Addr) (c : Nat), s5 = .slice a n c ∧ s6 = .int .i64 (i : Int) ∧ X.length = n ∧ n ≤ i ∧ i ≤ l.length ∧
      Hid (LX l.length l = (X ++ (LX l.length (l.drop i)).1, (LX l.length (l.drop i)).2)) ∧ Rs w wr (.slice a n c) X) (fun _ s6 _ => l.length - (intOf s6).toNat)
  case atStart => exact ⟨0, 0, [], none, 0, rfl, rfl, rfl, Nat.le_refl _, Nat.zero_le _, Lib.hid (by simp), rs_none (Only.refl _ _)⟩
  case round =>
    obtain ⟨i, n, X, a, c, rfl, rfl, hn, hni, hi, hX, hR⟩ := hrel
    have HN := Lib.hid hn
    have HR := Lib.hid hR
    clear hn hR
    by_cases hlt : i < l.length
    · have hix := fun w => ix_any l i hlt w
      have HD := Lib.hid (drop_cons hlt)
      have ST := Lib.hid (fun (t : Tok) h1 h6 ht => step_tok (X := X) (t := t) hlt h1 h6 ht hX.out)
      have SB := Lib.hid (fun (z : Nat) h1 h6 ht hz => step_bad (X := X) (z := z) hlt h1 h6 ht hz hX.out)
      generalize hch : l[i]'hlt = ch at *
      generalize hk : kN ch.toNat = k at *
      have HK := Lib.hid hk
      have HCH := Lib.hid hch
      have IS := Lib.hid (fun w => is_k ch k HK.out w)
      clear hk hch
      have hk6 : k ≤ 6 := by rw [← HK.out]; exact kN_le _
      have hkc : k = 1 ∨ k = 6 ∨ k = 5 ∨ k = 2 ∨ k = 3 ∨ k = 0 ∨ k = 4 := by omega
      rcases hkc with rfl | rfl | rfl | rfl | rfl | rfl | rfl
      · -- a blank
        go_wp2_with (go_at_call 25; refine (IS.out _).mono ?_; rintro e w1 ⟨rfl, rfl⟩)
        go_roundw
        case rel => exact ⟨i + 1, n, X, a, c, rfl, by go_num, HN.out, by omega, by omega, Lib.hid (step_skip (by rw [HD.out, sk_f, if_pos (kN_1 HK.out)]) hX.out), HR.out⟩
        case measure => simp [intOf]; omega
      · -- a remark
        have hi10 : (ch == 10) = false := by rw [kN_6 HK.out]; decide
        have HI := Lib.hid hi10
        clear hi10
        generalize wr = wo at *
        go_wp2_with (go_at_call 25; refine (IS.out _).mono ?_; rintro e w1 ⟨rfl, rfl⟩)
        clear hix
        go_loop [6] (fun s6 => ∃ j : Nat, i ≤ j ∧ j ≤ l.length ∧ s6 = .int .i64 (j : Int) ∧ Hid (sk false (l.drop i) = sk true (l.drop j))) (fun s6 => l.length - (intOf s6).toNat)
        case atStart => exact ⟨i, Nat.le_refl _, hi, rfl, Lib.hid (by rw [HD.out, kN_6 HK.out, sk_hash, sk_t, if_neg (by decide)])⟩
        case round =>
          obtain ⟨j, hij, hjl, rfl, hJ⟩ := hrel
          by_cases hj : j < l.length
          · have hjx := fun w => ix_any l j hj w
            have DJ := Lib.hid (drop_cons hj)
            have HJi : Hid (j = i → l[j]'hj = ch) := Lib.hid (fun e => by subst e; exact HCH.out)
            generalize l[j]'hj = d at *
            cases hd : (d == 10) with
            | true =>
              obtain rfl : d = 10 := eq_of_beq hd
              clear hd
              have hji : i < j := by
                rcases Nat.lt_or_ge i j with h | h
                · exact h
                · have e := HJi.out (by omega)
                  have := HI.out
                  rw [← e] at this; exact absurd this (by decide)
              have hd1 : (((10 : UInt8).toNat : Int) != 10) = false := by decide
              go_wp2
              go_roundw
              case rel => exact ⟨j, n, X, a, c, rfl, rfl, HN.out, by omega, hjl, Lib.hid (step_skip (by rw [hJ.out, DJ.out, sk_t, if_pos (by decide), sk_f, if_pos (by decide)]) hX.out), HR.out⟩
              case measure => simp [intOf]; omega
            | false =>
              have hd1 : ((d.toNat : Int) != 10) = true := by
                have : ¬ (d.toNat : Int) = 10 := fun he => by
                  have : d = 10 := UInt8.toNat_inj.1 (by show d.toNat = 10; omega)
                  rw [this] at hd; cases hd
                simpa using this
              have HDd := Lib.hid hd
              clear hd
              go_wp2
              go_round
              case rel => exact ⟨j + 1, by omega, hj, by go_num, Lib.hid (by rw [hJ.out, DJ.out, sk_t, if_neg (by rw [HDd.out]; simp)])⟩
              case measure => simp [intOf]; omega
          · go_wp2
            go_roundw
            case rel => exact ⟨j, n, X, a, c, rfl, rfl, HN.out, by omega, hjl, Lib.hid (step_skip (by
              have : l.drop j = [] := List.drop_eq_nil_of_le (by omega)
              rw [hJ.out, this]; rfl) hX.out), HR.out⟩
            case measure => simp [intOf]; omega
      · -- a sign
        obtain ⟨a5, c5, w5, hr, hR5, _⟩ := HR.out.push HN.out (⟨3, [ch], 0⟩, i) (by omega) #[.int .i64 3, .string (bs [ch]), .int .i64 0, .int .i64 i] rfl
        have hr' := Lib.hid hr
        have hx : (bs l).extract i (i + 1) = bs [ch] := by rw [bs_extract, List.drop_take, HD.out, Nat.add_sub_cancel_left]; rfl
        clear hr
        go_wp2_with (first
          | (go_at_call 25; refine (IS.out _).mono ?_; rintro e w1 ⟨rfl, rfl⟩)
          | (at_builtin; refine Lib.wpList_append_run _ rfl (.tmp 45) (.tmp 52) 51 51 rfl _ _ rfl rfl _ _ hr'.out ?_))
        go_roundw
        case rel =>
          refine ⟨i + 1, n + 1, X ++ [(⟨3, [ch], 0⟩, i)], a5, c5, rfl, by go_num, ?_, by omega, by omega, Lib.hid ?_, hR5.out⟩
          · rw [List.length_append, HN.out]; rfl
          · exact ST.out ⟨3, [ch], 0⟩ (by decide) (by decide) (by rw [HD.out]; exact tok_sign HK.out _)
        case measure => simp [intOf]; omega
      · -- a letter
        have HP : Hid (1 ≤ pn isWd (l.drop i)) := Lib.hid (pn_pos hlt (by rw [HCH.out]; exact isWd_of_le (kN_2 HK.out)))
        have hup : i + pn isWd (l.drop i) ≤ l.length := pn_up hi
        generalize wr = wo at *
        go_wp2_with (go_at_call 25; refine (IS.out _).mono ?_; rintro e w1 ⟨rfl, rfl⟩)
        clear hix
        go_loop [6] (fun s6 => ∃ j : Nat, i ≤ j ∧ j ≤ i + pn isWd (l.drop i) ∧ s6 = .int .i64 (j : Int)) (fun s6 => l.length - (intOf s6).toNat)
        case atStart => exact ⟨i, Nat.le_refl _, by omega, rfl⟩
        case round =>
          obtain ⟨j, hij, hjl, rfl⟩ := hrel
          by_cases hj : j < i + pn isWd (l.drop i)
          · obtain ⟨hjN, hw⟩ := pn_at hij hj
            have hjx := fun w => ix_any l j hjN w
            have hk2 := (wd_iff _).1 hw
            generalize l[j]'hjN = d at *
            generalize hkd : kN d.toNat = kd at *
            have ISJ := Lib.hid (fun w => is_k d kd hkd w)
            clear hkd hw
            rcases hk2 with rfl | rfl | rfl
            all_goals
              go_wp2_with (go_at_call 25; refine (ISJ.out _).mono ?_; rintro e w1 ⟨rfl, rfl⟩)
              go_round
              case rel => exact ⟨j + 1, by omega, by omega, by go_num⟩
              case measure => simp [intOf]; omega
          · obtain rfl : j = i + pn isWd (l.drop i) := by omega
            by_cases hjN : i + pn isWd (l.drop i) < l.length
            · have hjx := fun w => ix_any l _ hjN w
              have hw := pn_stop hjN
              have hk2 : ¬ (kN (l[i + pn isWd (l.drop i)]'hjN).toNat = 2 ∨ kN (l[i + pn isWd (l.drop i)]'hjN).toNat = 3 ∨ kN (l[i + pn isWd (l.drop i)]'hjN).toNat = 4) := fun h => by
                rw [(wd_iff _).2 h] at hw; cases hw
              generalize l[i + pn isWd (l.drop i)]'hjN = d at *
              generalize hkd : kN d.toNat = kd at *
              have ISJ := Lib.hid (fun w => is_k d kd hkd w)
              have k2 : ((kd : Int) == 2) = false := by rw [beq_eq_false_iff_ne]; omega
              have k3 : ((kd : Int) == 3) = false := by rw [beq_eq_false_iff_ne]; omega
              have k4 : ((kd : Int) == 4) = false := by rw [beq_eq_false_iff_ne]; omega
              clear hkd hw hk2
              by_cases h16 : 16 < pn isWd (l.drop i)
              · have hg : decide ((16 : Int) < ((i + pn isWd (l.drop i) : Nat) : Int) - (i : Int)) = true := by simp; omega
                have H16 := Lib.hid h16
                clear h16
                have e2 : whole l = (X, 22, i) := HE.out.trans (SB.out 22 (by decide) (by decide) (by
                  rw [HD.out, tok_letter HK.out, ← HD.out, if_pos]; exact H16.out) (by decide))
                have E2 := Lib.hid e2
                clear e2
                generalize hq : i + pn isWd (l.drop i) = q at *
                have hge : (q : Int) - (i : Int) > 16 := by have := H16.out; omega
                clear hg
                go_wp2_with (go_at_call 25; refine (ISJ.out _).mono ?_; rintro e w1 ⟨rfl, rfl⟩)
                go_ret3
                exact .bad (by rw [E2.out]; exact (by decide : (22 : Nat) ≠ 0)) (by rw [E2.out]; rfl) HR.out.only
              · have e3 := ST.out ⟨1, (l.drop i).takeWhile isWd, 0⟩ (by decide) (by decide) (by
                  rw [HD.out, tok_letter HK.out, ← HD.out, if_neg]; exact h16)
                have hwl : ((l.drop i).takeWhile isWd).length = pn isWd (l.drop i) := rfl
                have E3 := Lib.hid e3
                have hx : (bs l).extract i (i + pn isWd (l.drop i)) = bs ((l.drop i).takeWhile isWd) := by rw [bs_extract, pn_word]
                have hpos := HP.out
                have WL := Lib.hid hwl
                clear e3 hwl
                generalize (l.drop i).takeWhile isWd = ws at *
                generalize hq : i + pn isWd (l.drop i) = q at *
                have HQ := Lib.hid hq
                have hge : (q : Int) - (i : Int) ≤ 16 := by omega
                have hiq : i < q := by omega
                obtain ⟨a5, c5, w5, hr, hR5, _⟩ := HR.out.push HN.out (⟨1, ws, 0⟩, i) (by omega) #[.int .i64 1, .string (bs ws), .int .i64 0, .int .i64 i] rfl
                have hr' := Lib.hid hr
                clear hr h16 hpos hq
                go_wp2_with (first
                  | (at_builtin; refine Lib.wpList_append_run _ rfl (.tmp 88) (.tmp 95) 51 51 rfl _ _ rfl rfl _ _ hr'.out ?_)
                  | (go_at_call 25; refine (ISJ.out _).mono ?_; rintro e w1 ⟨rfl, rfl⟩))
                go_roundw
                case rel =>
                  refine ⟨q, n + 1, X ++ [(⟨1, ws, 0⟩, i)], a5, c5, rfl, rfl, ?_, by omega, by omega, Lib.hid ?_, hR5.out⟩
                  · rw [List.length_append, HN.out]; rfl
                  · have := E3.out
                    rw [show i + (⟨1, ws, 0⟩ : Tok).w.length = q by rw [← HQ.out]; exact congrArg (i + ·) WL.out] at this
                    exact this
                case measure => simp [intOf]; omega
            · skip
              by_cases h16 : 16 < pn isWd (l.drop i)
              · have hg : decide ((16 : Int) < ((i + pn isWd (l.drop i) : Nat) : Int) - (i : Int)) = true := by simp; omega
                have H16 := Lib.hid h16
                clear h16
                have e2 : whole l = (X, 22, i) := HE.out.trans (SB.out 22 (by decide) (by decide) (by
                  rw [HD.out, tok_letter HK.out, ← HD.out, if_pos]; exact H16.out) (by decide))
                have E2 := Lib.hid e2
                clear e2
                generalize hq : i + pn isWd (l.drop i) = q at *
                have hge : (q : Int) - (i : Int) > 16 := by have := H16.out; omega
                clear hg
                go_wp2_with fail
                go_ret3
                exact .bad (by rw [E2.out]; exact (by decide : (22 : Nat) ≠ 0)) (by rw [E2.out]; rfl) HR.out.only
              · have e3 := ST.out ⟨1, (l.drop i).takeWhile isWd, 0⟩ (by decide) (by decide) (by
                  rw [HD.out, tok_letter HK.out, ← HD.out, if_neg]; exact h16)
                have hwl : ((l.drop i).takeWhile isWd).length = pn isWd (l.drop i) := rfl
                have E3 := Lib.hid e3
                have hx : (bs l).extract i (i + pn isWd (l.drop i)) = bs ((l.drop i).takeWhile isWd) := by rw [bs_extract, pn_word]
                have hpos := HP.out
                have WL := Lib.hid hwl
                clear e3 hwl
                generalize (l.drop i).takeWhile isWd = ws at *
                generalize hq : i + pn isWd (l.drop i) = q at *
                have HQ := Lib.hid hq
                have hge : (q : Int) - (i : Int) ≤ 16 := by omega
                have hiq : i < q := by omega
                obtain ⟨a5, c5, w5, hr, hR5, _⟩ := HR.out.push HN.out (⟨1, ws, 0⟩, i) (by omega) #[.int .i64 1, .string (bs ws), .int .i64 0, .int .i64 i] rfl
                have hr' := Lib.hid hr
                clear hr h16 hpos hq
                go_wp2_with (first
                  | (at_builtin; refine Lib.wpList_append_run _ rfl (.tmp 88) (.tmp 95) 51 51 rfl _ _ rfl rfl _ _ hr'.out ?_))
                go_roundw
                case rel =>
                  refine ⟨q, n + 1, X ++ [(⟨1, ws, 0⟩, i)], a5, c5, rfl, rfl, ?_, by omega, by omega, Lib.hid ?_, hR5.out⟩
                  · rw [List.length_append, HN.out]; rfl
                  · have := E3.out
                    rw [show i + (⟨1, ws, 0⟩ : Tok).w.length = q by rw [← HQ.out]; exact congrArg (i + ·) WL.out] at this
                    exact this
                case measure => simp [intOf]; omega
      · -- a digit
        have HP : Hid (1 ≤ pn isDi (l.drop i)) := Lib.hid (pn_pos hlt (by rw [HCH.out]; exact kN_3 HK.out))
        have hup : i + pn isDi (l.drop i) ≤ l.length := pn_up hi
        generalize wr = wo at *
        go_wp2_with (go_at_call 25; refine (IS.out _).mono ?_; rintro e w1 ⟨rfl, rfl⟩)
        clear hix
        go_loop [6, 8] (fun s6 s8 => ∃ j : Nat, i ≤ j ∧ j ≤ i + pn isDi (l.drop i) ∧ s6 = .int .i64 (j : Int) ∧ s8 = .int .i64 ((min (vl 0 ((l.take j).drop i)) 65536 : Nat) : Int)) (fun s6 _ => l.length - (intOf s6).toNat)
        case atStart => exact ⟨i, Nat.le_refl _, by omega, rfl, by
          rw [List.drop_take, Nat.sub_self]; rfl⟩
        case round =>
          obtain ⟨j, hij, hjl, rfl, rfl⟩ := hrel
          by_cases hj : j < i + pn isDi (l.drop i)
          · obtain ⟨hjN, hw⟩ := pn_at hij hj
            have hjx := fun w => ix_any l j hjN w
            have hsn : (l.take (j + 1)).drop i = (l.take j).drop i ++ [l[j]'hjN] := by
              rw [List.take_succ_eq_append_getElem hjN, List.drop_append_of_le_length (by rw [List.length_take]; omega)]
            have hvs := vl_snoc ((l.take j).drop i) (l[j]'hjN)
            rw [← hsn] at hvs
            generalize l[j]'hjN = d at *
            have hdd := (di_iff d).1 hw
            have hkd := di_kN hw
            have ISJ := Lib.hid (fun w => is_k d 3 hkd w)
            have HVS := Lib.hid hvs
            generalize hvo : vl 0 ((l.take j).drop i) = vo at *
            generalize hmo : min vo 65536 = mo at *
            have hmo1 : mo ≤ 65536 := by omega
            have HMO := Lib.hid hmo
            have hd1 : (48 : Int) ≤ (d.toNat : Int) := by omega
            have hd2 : (d.toNat : Int) ≤ 57 := by omega
            clear hkd hw hsn hvs hvo hmo hdd
            go_wp2_with (go_at_call 25; refine (ISJ.out _).mono ?_; rintro e w1 ⟨rfl, rfl⟩)
            go_round
            case rel =>
              refine ⟨j + 1, by omega, by omega, by go_num, ?_⟩
              have h1 := HVS.out
              have h2 := HMO.out
              rw [h1]
              congr 1
              omega
            case measure => simp [intOf]; omega
          · obtain rfl : j = i + pn isDi (l.drop i) := by omega
            rw [pn_word]
            have HK3 : Hid (kN (l[i]'hlt).toNat = 3) := Lib.hid (by rw [HCH.out]; exact HK.out)
            by_cases hbig : 65535 < vl 0 ((l.drop i).takeWhile isDi)
            · have E21 := Lib.hid (dig_big hlt HK3.out hbig)
              by_cases hjN : i + pn isDi (l.drop i) < l.length
              · have hjx := fun w => ix_any l _ hjN w
                have hnd := pn_stop hjN
                have hk3 : kN (l[i + pn isDi (l.drop i)]'hjN).toNat ≠ 3 := fun h => by rw [kN_3 h] at hnd; cases hnd
                generalize l[i + pn isDi (l.drop i)]'hjN = d at *
                generalize hkd : kN d.toNat = kd at *
                have ISJ := Lib.hid (fun w => is_k d kd hkd w)
                have k3 : ((kd : Int) == 3) = false := by rw [beq_eq_false_iff_ne]; omega
                generalize hm : min (vl 0 ((l.drop i).takeWhile isDi)) 65536 = mm at *
                have hmm : (65535 : Int) < (mm : Int) := by omega
                clear hm hbig hkd hnd hk3
                have e2 : whole l = (X, 21, i) := HE.out.trans (SB.out 21 (by decide) (by decide) E21.out (by decide))
                have E2 := Lib.hid e2
                clear e2
                have hiq : i ≤ i + pn isDi (l.drop i) := by omega
                generalize hq : i + pn isDi (l.drop i) = q at *
                clear hq
                go_wp2_with (go_at_call 25; refine (ISJ.out _).mono ?_; rintro e w1 ⟨rfl, rfl⟩)
                go_ret3
                exact .bad (by rw [E2.out]; exact (by decide : (21 : Nat) ≠ 0)) (by rw [E2.out]; rfl) HR.out.only
              · generalize hm : min (vl 0 ((l.drop i).takeWhile isDi)) 65536 = mm at *
                have hmm : (65535 : Int) < (mm : Int) := by omega
                clear hm hbig
                have e2 : whole l = (X, 21, i) := HE.out.trans (SB.out 21 (by decide) (by decide) E21.out (by decide))
                have E2 := Lib.hid e2
                clear e2
                go_wp2_with fail
                go_ret3
                exact .bad (by rw [E2.out]; exact (by decide : (21 : Nat) ≠ 0)) (by rw [E2.out]; rfl) HR.out.only
            · have hsm : min (vl 0 ((l.drop i).takeWhile isDi)) 65536 = vl 0 ((l.drop i).takeWhile isDi) := by omega
              by_cases hjN : i + pn isDi (l.drop i) < l.length
              · have hjx := fun w => ix_any l _ hjN w
                have hnd := pn_stop hjN
                cases hw : isWd (l[i + pn isDi (l.drop i)]'hjN) with
                | true =>
                  have E21 := Lib.hid (dig_run hlt HK3.out hjN hw)
                  have hk2 := (wd_iff _).1 hw
                  have hk3 : kN (l[i + pn isDi (l.drop i)]'hjN).toNat ≠ 3 := fun h => by rw [kN_3 h] at hnd; cases hnd
                  generalize l[i + pn isDi (l.drop i)]'hjN = d at *
                  generalize hkd : kN d.toNat = kd at *
                  have ISJ := Lib.hid (fun w => is_k d kd hkd w)
                  have hk24 : kd = 2 ∨ kd = 4 := by omega
                  have hvl : ((vl 0 ((l.drop i).takeWhile isDi) : Nat) : Int) ≤ 65535 := by omega
                  rw [hsm] at *
                  generalize vl 0 ((l.drop i).takeWhile isDi) = v at *
                  clear hkd hw hk2 hk3 hnd hsm hbig
                  rcases hk24 with rfl | rfl
                  all_goals
                    have e2 : whole l = (X, 21, i) := HE.out.trans (SB.out 21 (by decide) (by decide) E21.out (by decide))
                    have E2 := Lib.hid e2
                    clear e2
                    have hiq : i ≤ i + pn isDi (l.drop i) := by omega
                    generalize hq : i + pn isDi (l.drop i) = q at *
                    clear hq
                    go_wp2_with (go_at_call 25; refine (ISJ.out _).mono ?_; rintro e w1 ⟨rfl, rfl⟩)
                    go_ret3
                    exact .bad (by rw [E2.out]; exact (by decide : (21 : Nat) ≠ 0)) (by rw [E2.out]; rfl) HR.out.only
                | false =>
                  have ET := Lib.hid (show tok (l.drop i) = (0, ⟨2, (l.drop i).takeWhile isDi, vl 0 ((l.drop i).takeWhile isDi)⟩) by rw [dig_plain hlt HK3.out (fun _ => hw), if_pos (by omega)])
                  have hk2 : ¬ (kN (l[i + pn isDi (l.drop i)]'hjN).toNat = 2 ∨ kN (l[i + pn isDi (l.drop i)]'hjN).toNat = 3 ∨ kN (l[i + pn isDi (l.drop i)]'hjN).toNat = 4) := fun h => by
                    rw [(wd_iff _).2 h] at hw; cases hw
                  generalize l[i + pn isDi (l.drop i)]'hjN = d at *
                  generalize hkd : kN d.toNat = kd at *
                  have ISJ := Lib.hid (fun w => is_k d kd hkd w)
                  have k2 : ((kd : Int) == 2) = false := by rw [beq_eq_false_iff_ne]; omega
                  have k3 : ((kd : Int) == 3) = false := by rw [beq_eq_false_iff_ne]; omega
                  have k4 : ((kd : Int) == 4) = false := by rw [beq_eq_false_iff_ne]; omega
                  have hvl : ((vl 0 ((l.drop i).takeWhile isDi) : Nat) : Int) ≤ 65535 := by omega
                  clear hkd hw hk2 hnd hbig hsm
                  have e3 := ST.out _ (by decide) (by decide) ET.out
                  have E3 := Lib.hid e3
                  have hx : (bs l).extract i (i + pn isDi (l.drop i)) = bs ((l.drop i).takeWhile isDi) := by rw [bs_extract, pn_word]
                  have WL : Hid (((l.drop i).takeWhile isDi).length = pn isDi (l.drop i)) := Lib.hid rfl
                  have hpos := HP.out
                  clear e3 ET
                  have hmin : ((min (vl 0 ((l.drop i).takeWhile isDi)) 65536 : Nat) : Int) = (vl 0 ((l.drop i).takeWhile isDi) : Nat) := by omega
                  rw [hmin] at *
                  generalize (l.drop i).takeWhile isDi = ws at *
                  generalize hv : vl 0 ws = v at *
                  generalize hq : i + pn isDi (l.drop i) = q at *
                  have HQ := Lib.hid hq
                  have hiq : i < q := by omega
                  obtain ⟨a5, c5, w5, hr, hR5, _⟩ := HR.out.push HN.out (⟨2, ws, v⟩, i) (by omega) #[.int .i64 2, .string (bs ws), .int .i64 v, .int .i64 i] rfl
                  have hr' := Lib.hid hr
                  clear hr hpos hq hmin
                  go_wp2_with (first
                    | (at_builtin; refine Lib.wpList_append_run _ rfl (.tmp 144) (.tmp 152) 51 51 rfl _ _ rfl rfl _ _ hr'.out ?_)
                    | (go_at_call 25; refine (ISJ.out _).mono ?_; rintro e w1 ⟨rfl, rfl⟩))
                  go_roundw
                  case rel =>
                    refine ⟨q, n + 1, X ++ [(⟨2, ws, v⟩, i)], a5, c5, rfl, rfl, ?_, by omega, by omega, Lib.hid ?_, hR5.out⟩
                    · rw [List.length_append, HN.out]; rfl
                    · have := E3.out
                      rw [show i + (⟨2, ws, v⟩ : Tok).w.length = q by rw [← HQ.out]; exact congrArg (i + ·) WL.out] at this
                      exact this
                  case measure => simp [intOf]; omega
              · have ET := Lib.hid (show tok (l.drop i) = (0, ⟨2, (l.drop i).takeWhile isDi, vl 0 ((l.drop i).takeWhile isDi)⟩) by rw [dig_plain hlt HK3.out (fun h => absurd h hjN), if_pos (by omega)])
                have hvl : ((vl 0 ((l.drop i).takeWhile isDi) : Nat) : Int) ≤ 65535 := by omega
                clear hbig hsm
                have e3 := ST.out _ (by decide) (by decide) ET.out
                have E3 := Lib.hid e3
                have hx : (bs l).extract i (i + pn isDi (l.drop i)) = bs ((l.drop i).takeWhile isDi) := by rw [bs_extract, pn_word]
                have WL : Hid (((l.drop i).takeWhile isDi).length = pn isDi (l.drop i)) := Lib.hid rfl
                have hpos := HP.out
                clear e3 ET
                have hmin : ((min (vl 0 ((l.drop i).takeWhile isDi)) 65536 : Nat) : Int) = (vl 0 ((l.drop i).takeWhile isDi) : Nat) := by omega
                rw [hmin] at *
                generalize (l.drop i).takeWhile isDi = ws at *
                generalize hv : vl 0 ws = v at *
                generalize hq : i + pn isDi (l.drop i) = q at *
                have HQ := Lib.hid hq
                have hiq : i < q := by omega
                obtain ⟨a5, c5, w5, hr, hR5, _⟩ := HR.out.push HN.out (⟨2, ws, v⟩, i) (by omega) #[.int .i64 2, .string (bs ws), .int .i64 v, .int .i64 i] rfl
                have hr' := Lib.hid hr
                clear hr hpos hq hmin
                go_wp2_with (first
                  | (at_builtin; refine Lib.wpList_append_run _ rfl (.tmp 144) (.tmp 152) 51 51 rfl _ _ rfl rfl _ _ hr'.out ?_))
                go_roundw
                case rel =>
                  refine ⟨q, n + 1, X ++ [(⟨2, ws, v⟩, i)], a5, c5, rfl, rfl, ?_, by omega, by omega, Lib.hid ?_, hR5.out⟩
                  · rw [List.length_append, HN.out]; rfl
                  · have := E3.out
                    rw [show i + (⟨2, ws, v⟩ : Tok).w.length = q by rw [← HQ.out]; exact congrArg (i + ·) WL.out] at this
                    exact this
                case measure => simp [intOf]; omega
      · -- another byte
        go_wp2_with (go_at_call 25; refine (IS.out _).mono ?_; rintro e w1 ⟨rfl, rfl⟩)
        go_ret3
        have e2 : whole l = (X, 20, i) := HE.out.trans (SB.out 20 (by decide) (by decide) (by rw [HD.out]; exact tok_other (Or.inl HK.out) _) (by decide))
        exact .bad (by rw [e2]; exact (by decide : (20 : Nat) ≠ 0)) (by rw [e2]; rfl) HR.out.only
      · skip
        go_wp2_with (go_at_call 25; refine (IS.out _).mono ?_; rintro e w1 ⟨rfl, rfl⟩)
        go_ret3
        have e2 : whole l = (X, 20, i) := HE.out.trans (SB.out 20 (by decide) (by decide) (by rw [HD.out]; exact tok_other (Or.inr HK.out) _) (by decide))
        exact .bad (by rw [e2]; exact (by decide : (20 : Nat) ≠ 0)) (by rw [e2]; rfl) HR.out.only
    · go_wp2
      go_ret3
      obtain rfl : i = l.length := by omega
      have e1 : LX l.length (l.drop l.length) = ([], 0, 0) := by rw [List.drop_length]; exact LX_nil rfl
      have e2 : whole l = (X, 0, 0) := by rw [HE.out, hX.out, e1, List.append_nil]
      exact .ok a n c (by rw [e2]) (by rw [e2]; exact HN.out) rfl (by rw [e2]; exact HR.out)
end Go.Proofs.YtnkokonkbklelaaGreatDoor.Lx
