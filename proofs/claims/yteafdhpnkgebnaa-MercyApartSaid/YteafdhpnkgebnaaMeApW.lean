/- mercy: MercyApart's walk. -/
import Derived.Test.YteafdhpnkgebnaaMeI
import Derived.Test.YteafdhpnkgebnaaRowA
import Derived.StillTailTactics
set_option linter.unusedSimpArgs false
set_option linter.unusedVariables false
namespace Go.Proofs.Yteafdhpnkgebnaa.Me
open Go.RowKit Go.Proofs.Yteafdhpnkgebnaa

theorem below_ofA {w w' : World} (o : Only Nil w w') : Below w.heap.size w w' := o.below (Nat.le_refl _) (fun _ h => h.elim)
/-- Two budgets, side by side. -/
def Duo (W w : World) (Ha Hb n Na Nb : Nat) (win : Int) (A B : Int → List Int) : Prop :=
  ∃ Sa Sb : Nat → Prop, At w Sa Ha n Na win A ∧ At w Sb Hb n Nb win B ∧ (∀ q, Sa q → W.heap.size ≤ q) ∧ (∀ q, Sb q → W.heap.size ≤ q) ∧ (∀ q, Sa q → ¬ Sb q) ∧ Only Nil W w
section
variable {W w w' : World} {Ha Hb n Na Nb : Nat} {win : Int} {A B : Int → List Int}
theorem Duo.only (h : Duo W w Ha Hb n Na Nb win A B) : Only Nil W w := by obtain ⟨_, _, _, _, _, _, _, h⟩ := h; exact h
theorem Duo.nil (h : Duo W w Ha Hb n Na Nb win A B) (o : Only Nil w w') : Duo W w' Ha Hb n Na Nb win A B := by
  obtain ⟨Sa, Sb, h1, h2, h3, h4, h5, h6⟩ := h
  exact ⟨Sa, Sb, h1.nil o, h2.nil o, h3, h4, h5, h6.trans o⟩
theorem Duo.swap (h : Duo W w Ha Hb n Na Nb win A B) : Duo W w Hb Ha n Nb Na win B A := by
  obtain ⟨Sa, Sb, h1, h2, h3, h4, h5, h6⟩ := h
  exact ⟨Sb, Sa, h2, h1, h4, h3, fun q h1 h2 => h5 q h2 h1, h6⟩
theorem duo_turn {Sa Sb : Nat → Prop} {N' : Nat} {A' : Int → List Int} (h2 : At w Sb Hb n Nb win B) (h3 : ∀ q, Sa q → W.heap.size ≤ q) (h4 : ∀ q, Sb q → W.heap.size ≤ q) (h5 : ∀ q, Sa q → ¬ Sb q) (h6 : Only Nil W w) (h' : At w' (Plus Sa w w') Ha n N' win A') (o : Only Sa w w') : Duo W w' Ha Hb n N' Nb win A' B := by
  have hs := h6.size
  refine ⟨Plus Sa w w', Sb, h', h2.keep o (fun q hq hs => h5 q hs hq), fun q hq => ?_, h4, fun q hq hs => ?_, h6.then o (fun q hq hlt => by have := h3 q hq; omega)⟩
  · rcases hq with hq | hq
    · exact h3 q hq
    · omega
  · rcases hq with hq | hq
    · exact h5 q hq hs
    · have := h2.lt q hs; omega
theorem duo_ask (h : Duo W w Ha Hb n Na Nb win A B) (hN : Na ≤ 65000) (c : Int) (hc : (Lit.int .i64 c).wf = true) (now : Int) :
    Calls Try.prog 14 #[.pointer (some ⟨Ha, 0, none⟩), .int .i64 c, .int .i64 now] w fun e w' => e = .returned (.bool (decide (0 < left n win (A c) now))) ∧ Duo W w' Ha Hb n (Na + 1) Nb win (asked n win A c now) B := by
  obtain ⟨Sa, Sb, h1, h2, h3, h4, h5, h6⟩ := h
  exact (ask_any h1 hN c hc now).mono fun e w' ⟨he, h', o⟩ => ⟨he, duo_turn h2 h3 h4 h5 h6 h' o⟩
theorem duo_forget (h : Duo W w Ha Hb n Na Nb win A B) (c : Int) (hc : (Lit.int .i64 c).wf = true) :
    Calls Try.prog 12 #[.pointer (some ⟨Ha, 0, none⟩), .int .i64 c] w fun e w' => e = .returned (.tuple #[]) ∧ Duo W w' Ha Hb n Na Nb win (setV A c []) B := by
  obtain ⟨Sa, Sb, h1, h2, h3, h4, h5, h6⟩ := h
  exact (forget_any h1 c hc).mono fun e w' ⟨he, h', o⟩ => ⟨he, duo_turn h2 h3 h4 h5 h6 h' o⟩
theorem asked_other {c o now : Int} (h : c ≠ o) : asked n win A o now c = A c := by
  unfold asked
  split
  · exact setV_other _ _ h
  · rfl
theorem asked_same {c now : Int} (h : A c = B c) : asked n win A c now c = asked n win B c now c := by
  unfold asked
  rw [h]
  split
  · rw [setV_same, setV_same]
  · exact h
end
theorem duo_new (W : World) (w1 : World) (o1 : Only Nil W w1) (r u : Int) : Calls Try.prog 9 #[.int .i64 r, .int .i64 u] w1 fun e w2 => e = .returned (.pointer (some ⟨w1.heap.size + 1, 0, none⟩)) ∧ Only Nil w1 w2 ∧
    Hid (Calls Try.prog 9 #[.int .i64 r, .int .i64 u] w2 fun e w3 => e = .returned (.pointer (some ⟨w2.heap.size + 1, 0, none⟩)) ∧ Duo W w3 (w1.heap.size + 1) (w2.heap.size + 1) (kn r) 0 0 (kw u) (fun _ => []) (fun _ => [])) :=
  (new_any r u w1).mono fun e w2 ⟨he, h, o⟩ => ⟨he, o, Lib.hid ((new_any r u w2).mono fun e w3 ⟨he3, h3, o3⟩ => ⟨he3, _, _, h.nil o3, h3, fun q hq => by have := o1.size; omega, fun q hq => by have := o1.size; have := o.size; omega, fun q h1 h2 => by have := h.lt q h1; omega, (o1.trans o).trans o3⟩)⟩
theorem wf_at {L : List Int} (h : ∀ n ∈ L, (Lit.int .i64 n).wf = true) (j : Nat) (hj : j < L.length) : (Lit.int .i64 (L.getD j 0)).wf = true := by
  have e : L.getD j 0 = L[j] := by simp [hj]
  rw [e]; exact h _ (List.getElem_mem hj)
theorem cell_at {W w : World} {a : Option Addr} {L : List Int} (h : RowK .i64 W a L) (o : Only Nil W w) (j : Nat) (hj : j < L.length) : ∃ b off, a = some ⟨b, off, none⟩ ∧ ∀ w', Only Nil w w' → w'.cell? ⟨b, off + j, none⟩ = some (.int .i64 (L.getD j 0)) := by
  obtain ⟨b, off, ha, hlt, hc⟩ := h j hj
  refine ⟨b, off, ha, fun w' o' => ?_⟩
  exact (World.cell?_of_block (a := ⟨b, off + j, none⟩) ((o.trans o').block b hlt (fun h => h))).trans (hc j hj)

set_option maxRecDepth 100000 in
set_option maxHeartbeats 8000000 in
theorem apart_all (a0 a1 c : Int) (hc : (Lit.int .i64 c).wf = true) {W : World} {a b : Option Addr} {L M : List Int} {ca cb : Nat} (hL : RowK .i64 W a L) (hM : RowK .i64 W b M) (wL : ∀ n ∈ L, (Lit.int .i64 n).wf = true) (wM : ∀ n ∈ M, (Lit.int .i64 n).wf = true)
    (zL : L.length * 8 ≤ 140737488351232) (zM : M.length * 8 ≤ 140737488351232) :
    Calls Try.prog 6 #[.int .i64 a0, .int .i64 a1, .int .i64 c, .slice a L.length ca, .slice b M.length cb] W fun e w' => e = .returned (.bool true) ∧ Below W.heap.size W w' := by
  have HA := Lib.hid (alive_any W)
  have HN := Lib.hid (fun w1 (o1 : Only Nil W w1) => duo_new W w1 o1 a0 a1)
  have HC := Lib.hid hc
  have HL := Lib.hid hL
  have HM := Lib.hid hM
  have WM := Lib.hid wM
  obtain ⟨l, hl⟩ : ∃ l, l = L.length := ⟨_, rfl⟩
  obtain ⟨m, hm⟩ : ∃ m, m = M.length := ⟨_, rfl⟩
  have l63 : (l : Int) ≤ 140737488351232 := by omega
  have m63 : (m : Int) ≤ 140737488351232 := by omega
  rw [← hl, ← hm]
  have Hl := Lib.hid hl
  have Hm := Lib.hid hm
  clear hc hL hM wL wM zL zM hl hm
  go_enter Try.func6, Try.ntmps6
  go_upto_region 4 with (first
    | (go_at_call 8; (with_reducible refine HA.out.mono ?_); rintro e w1 ⟨rfl, o1⟩; have O1 := Lib.hid o1; clear o1 HA)
    | (go_at_call 9; (with_reducible refine (HN.out _ O1.out).mono ?_); rintro e w2 ⟨rfl, o2, h2⟩; have O2 := Lib.hid o2; clear o2)
    | (go_at_call 9; (with_reducible refine h2.out.mono ?_); rintro e w3 ⟨rfl, h3⟩; have k3 := Lib.hid h3; clear h3))
  clear h2 HN
  generalize w1.heap.size + 1 = Ha at *
  generalize w2.heap.size + 1 = Hb at *
  generalize kn a0 = n at *
  generalize kw a1 = win at *
  clear O1 O2
  go_wp2
  go_loopw [13] (fun s13 wr => ∃ (i Na Nb : Nat) (A B : Int → List Int), i ≤ 100 ∧ i ≤ l ∧ s13 = .int .i64 (i : Int) ∧ Hid (Duo W wr Ha Hb n Na Nb win A B ∧ A c = B c ∧ Na ≤ i ∧ Nb ≤ 21 * i))
    (fun s13 _ => l - (intOf s13).toNat)
  case atStart => exact ⟨0, 0, 0, _, _, by decide, Nat.zero_le _, rfl, Lib.hid ⟨k3.out, rfl, by decide, by decide⟩⟩
  case round =>
    obtain ⟨i, Na, Nb, A, B, hi, hil, rfl, K⟩ := hrel
    have hsm : (i : Int) ≤ 100 := by omega
    by_cases hin : i < l
    · have hin' : (i : Int) < (l : Int) := by omega
      by_cases h100 : i < 100
      · have h100' : (i : Int) < 100 := by omega
        go_upto_region 8 with (fail)
        go_loopw [14] (fun s14 wx => ∃ (k Nb : Nat) (B : Int → List Int), k ≤ 20 ∧ k ≤ m ∧ s14 = .int .i64 (k : Int) ∧ Hid (Duo W wx Ha Hb n Na Nb win A B ∧ A c = B c ∧ Na ≤ i ∧ Nb ≤ 21 * i + k))
          (fun s14 _ => m - (intOf s14).toNat)
        case atStart => exact ⟨0, Nb, B, by decide, Nat.zero_le _, rfl, Lib.hid ⟨K.out.1, K.out.2.1, K.out.2.2.1, by have := K.out.2.2.2; omega⟩⟩
        case round =>
          clear K
          obtain ⟨k, Nb, B, hk, hkm, rfl, K⟩ := hrel
          have hsk : (k : Int) ≤ 20 := by omega
          by_cases hkn : k < m
          · have hkn' : (k : Int) < (m : Int) := by omega
            by_cases h20 : k < 20
            · have h20' : (k : Int) < 20 := by omega
              obtain ⟨q, off, rfl, hq⟩ := cell_at HM.out (Only.refl Nil W) k (by rw [← Hm.out]; exact hkn)
              obtain ⟨o, ho⟩ : ∃ o, o = M.getD k 0 := ⟨_, rfl⟩
              have HO := Lib.hid (show (Lit.int .i64 o).wf = true from by rw [ho]; exact wf_at WM.out k (by rw [← Hm.out]; exact hkn))
              rw [← ho] at hq
              have x0 := hq wr K.out.1.only
              have HQ := Lib.hid hq
              clear ho hq
              by_cases hoc : o = c
              · have hoc' : (o != c) = false := by simp [hoc]
                go_wp2
                go_roundw
                case rel => exact ⟨k + 1, Nb, B, by omega, by omega, by go_num, Lib.hid ⟨K.out.1, K.out.2.1, K.out.2.2.1, by have := K.out.2.2.2; omega⟩⟩
                case measure => simp [intOf]; omega
              · have hoc' : (o != c) = true := by simp [hoc]
                go_upto_region 11 with (fail)
                have HA1 := Lib.hid (fun w' y (h : Duo W w' Ha Hb n Na Nb win A B) => (duo_ask h.swap (by have := K.out.2.2.2; omega) o HO.out y).mono (fun e w'' h2 => show ∃ r : Bool, e = .returned (.bool r) ∧ Duo W w'' Ha Hb n Na (Nb + 1) win A (asked n win B o y) from ⟨_, h2.1, h2.2.swap⟩))
                have HF1 := Lib.hid (fun w' B' (h : Duo W w' Ha Hb n Na (Nb + 1) win A B') => (duo_forget h.swap o HO.out).mono (fun e w'' h2 => show e = .returned (.tuple #[]) ∧ Duo W w'' Ha Hb n Na (Nb + 1) win A (setV B' o []) from ⟨h2.1, h2.2.swap⟩))
                have KD := Lib.hid K.out.1
                have KE := Lib.hid (show Na ≤ i ∧ Nb ≤ 21 * i + k from K.out.2.2)
                have KC := Lib.hid K.out.2.1
                have hco := Lib.hid (show c ≠ o from fun e => hoc e.symm)
                clear K hoc
                obtain ⟨q2, off2, rfl, hy⟩ := cell_at HL.out (Only.refl Nil W) i (by rw [← Hl.out]; exact hin)
                obtain ⟨y, hye⟩ : ∃ y, y = L.getD i 0 := ⟨_, rfl⟩
                rw [← hye] at hy
                have y0 := hy _ KD.out.only
                clear hy hye
                go_still_tail 9, (by kernel_rfl)
                change wpList _ _ _ _ _ (World.drew _)
                go_upto_region 12 with (go_at_call 14; (with_reducible refine (HA1.out _ y (KD.out.nil (Only.refl Nil _).drew)).mono ?_); rintro e w5 ⟨r, rfl, h5⟩; have k5 := Lib.hid h5; have HC5 := Lib.hid (show A c = asked n win B o y c from by rw [asked_other hco.out]; exact KC.out); clear h5)
                generalize asked n win B o y = B5 at *
                by_cases h3 : i % 3 = 2
                · have h3a : ((i : Int) % 3 == 2) = true := by simp; omega
                  have x5 := HQ.out w5 k5.out.only
                  go_wp2_with (go_at_call 12; (with_reducible refine (HF1.out _ _ k5.out).mono ?_); rintro e w6 ⟨rfl, h6⟩; have k6 := Lib.hid h6; clear h6)
                  go_roundw
                  case rel => exact ⟨k + 1, Nb + 1, setV B5 o [], by omega, by omega, by go_num, Lib.hid ⟨k6.out, by rw [setV_other _ _ hco.out]; exact HC5.out, KE.out.1, by have := KE.out; omega⟩⟩
                  case measure => simp [intOf]; omega
                · have h3a : ((i : Int) % 3 == 2) = false := by simp; omega
                  go_wp2
                  go_roundw
                  case rel => exact ⟨k + 1, Nb + 1, B5, by omega, by omega, by go_num, Lib.hid ⟨k5.out, HC5.out, KE.out.1, by have := KE.out; omega⟩⟩
                  case measure => simp [intOf]; omega
            · have h20' : ¬ (k : Int) < 20 := by omega
              go_upto_region 14 with (fail)
              have KD := Lib.hid K.out.1
              have KE := Lib.hid (show Na ≤ i ∧ Nb ≤ 21 * i + 20 from by have := K.out.2.2; omega)
              have KC := Lib.hid K.out.2.1
              clear K
              obtain ⟨q2, off2, rfl, hy⟩ := cell_at HL.out (Only.refl Nil W) i (by rw [← Hl.out]; exact hin)
              obtain ⟨y, hye⟩ : ∃ y, y = L.getD i 0 := ⟨_, rfl⟩
              rw [← hye] at hy
              have HY := Lib.hid hy
              have y0 := hy _ KD.out.only
              clear hy hye
              obtain ⟨r, hr⟩ : ∃ r, r = decide (0 < left n win (A c) y) := ⟨_, rfl⟩
              have AA := Lib.hid (fun w' (h : Duo W w' Ha Hb n Na Nb win A B) => (duo_ask h (by have := KE.out; omega) c HC.out y).mono (fun e w'' h2 => show e = .returned (.bool r) ∧ Duo W w'' Ha Hb n (Na + 1) Nb win (asked n win A c y) B from by rw [hr]; exact h2))
              have AB := Lib.hid (fun w' (h : Duo W w' Ha Hb n (Na + 1) Nb win (asked n win A c y) B) => (duo_ask h.swap (by have := KE.out; omega) c HC.out y).mono (fun e w'' (h2 : e = .returned (.bool (decide (0 < left n win (B c) y))) ∧ _) => show e = .returned (.bool r) ∧ Duo W w'' Ha Hb n (Na + 1) (Nb + 1) win (asked n win A c y) (asked n win B c y) from ⟨by rw [hr, KC.out]; exact h2.1, h2.2.swap⟩))
              have KS := Lib.hid (asked_same (n := n) (win := win) (now := y) KC.out)
              clear hr
              have hrr : (r != r) = false := by simp
              go_region_held3 (fun w' => w'.cell? ⟨q2, off2 + i, none⟩ = some (.int .i64 y))
                (first | exact y0 | exact ks | exact kt | go_keep)
                (first
                  | (go_at_call 14; go_loud ((with_reducible refine (AA.out _ (KD.out.nil (Only.refl Nil _).drew)).mono ?_); rintro e w7 ⟨rfl, h7⟩; have k7 := Lib.hid h7; have ks := HY.out _ h7.only; clear h7))
                  | (go_at_call 14; go_loud ((with_reducible refine (AB.out _ k7.out).mono ?_); rintro e w8 ⟨rfl, h8⟩; have k8 := Lib.hid h8; have kt := HY.out _ h8.only; clear h8)))
              all_goals (
                go_wp2
                go_roundw
                case rel => exact ⟨i + 1, Na + 1, Nb + 1, _, _, by omega, by omega, by go_num, Lib.hid ⟨by first | exact k8.out | exact k8.out.nil (Only.refl Nil _).drew | exact k8.out.nil ((Only.refl Nil _).drewN _), KS.out, by have := KE.out; omega, by have := KE.out; omega⟩⟩
                case measure => simp [intOf]; omega)
          · have hkn' : ¬ (k : Int) < (m : Int) := by omega
            go_upto_region 14 with (fail)
            have KD := Lib.hid K.out.1
            have KE := Lib.hid (show Na ≤ i ∧ Nb ≤ 21 * i + 20 from by have := K.out.2.2; omega)
            have KC := Lib.hid K.out.2.1
            clear K
            obtain ⟨q2, off2, rfl, hy⟩ := cell_at HL.out (Only.refl Nil W) i (by rw [← Hl.out]; exact hin)
            obtain ⟨y, hye⟩ : ∃ y, y = L.getD i 0 := ⟨_, rfl⟩
            rw [← hye] at hy
            have HY := Lib.hid hy
            have y0 := hy _ KD.out.only
            clear hy hye
            obtain ⟨r, hr⟩ : ∃ r, r = decide (0 < left n win (A c) y) := ⟨_, rfl⟩
            have AA := Lib.hid (fun w' (h : Duo W w' Ha Hb n Na Nb win A B) => (duo_ask h (by have := KE.out; omega) c HC.out y).mono (fun e w'' h2 => show e = .returned (.bool r) ∧ Duo W w'' Ha Hb n (Na + 1) Nb win (asked n win A c y) B from by rw [hr]; exact h2))
            have AB := Lib.hid (fun w' (h : Duo W w' Ha Hb n (Na + 1) Nb win (asked n win A c y) B) => (duo_ask h.swap (by have := KE.out; omega) c HC.out y).mono (fun e w'' (h2 : e = .returned (.bool (decide (0 < left n win (B c) y))) ∧ _) => show e = .returned (.bool r) ∧ Duo W w'' Ha Hb n (Na + 1) (Nb + 1) win (asked n win A c y) (asked n win B c y) from ⟨by rw [hr, KC.out]; exact h2.1, h2.2.swap⟩))
            have KS := Lib.hid (asked_same (n := n) (win := win) (now := y) KC.out)
            clear hr
            have hrr : (r != r) = false := by simp
            go_region_held3 (fun w' => w'.cell? ⟨q2, off2 + i, none⟩ = some (.int .i64 y))
              (first | exact y0 | exact ks | exact kt | go_keep)
              (first
                | (go_at_call 14; go_loud ((with_reducible refine (AA.out _ (KD.out.nil (Only.refl Nil _).drew)).mono ?_); rintro e w7 ⟨rfl, h7⟩; have k7 := Lib.hid h7; have ks := HY.out _ h7.only; clear h7))
                | (go_at_call 14; go_loud ((with_reducible refine (AB.out _ k7.out).mono ?_); rintro e w8 ⟨rfl, h8⟩; have k8 := Lib.hid h8; have kt := HY.out _ h8.only; clear h8)))
            all_goals (
              go_wp2
              go_roundw
              case rel => exact ⟨i + 1, Na + 1, Nb + 1, _, _, by omega, by omega, by go_num, Lib.hid ⟨by first | exact k8.out | exact k8.out.nil (Only.refl Nil _).drew | exact k8.out.nil ((Only.refl Nil _).drewN _), KS.out, by have := KE.out; omega, by have := KE.out; omega⟩⟩
              case measure => simp [intOf]; omega)
      · have h100' : ¬ (i : Int) < 100 := by omega
        go_wp2
        go_ret
        exact ⟨rfl, below_ofA K.out.1.only⟩
    · have hin' : ¬ (i : Int) < (l : Int) := by omega
      go_wp2
      go_ret
      exact ⟨rfl, below_ofA K.out.1.only⟩
end Go.Proofs.Yteafdhpnkgebnaa.Me
