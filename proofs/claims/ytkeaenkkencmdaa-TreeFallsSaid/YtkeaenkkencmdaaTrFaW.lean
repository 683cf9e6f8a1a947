/- tree: TreeFalls' walk. -/
import Derived.Test.YtkeaenkkencmdaaTrM
set_option linter.unusedSimpArgs false
set_option linter.unusedVariables false
namespace Go.Proofs.Ytkeaenkkencmdaa.Tr
open Go.RowKit Go.Proofs.Ytkeaenkkencmdaa

theorem belT_id {T : List Mb} (G : Good T) {x : Int} (h : has T x = true) : x ∈ belT T x := by
  unfold belT
  rw [if_pos h]
  have := pos_lt.1 h
  exact bel_self (by omega)
theorem belT_none {T : List Mb} {x : Int} (h : has T x = false) : belT T x = [] := by
  unfold belT
  rw [if_neg (by rw [h]; decide)]
theorem falls_end {T : List Mb} (G : Good T) (x : Int) : has (cuts T (belT T x)) x = false := by
  cases h : has (cuts T (belT T x)) x with
  | false => rfl
  | true =>
    obtain ⟨h1, h2⟩ := (has_cuts T _ x).1 h
    exact absurd (belT_id G h1) h2

set_option maxRecDepth 100000 in
set_option maxHeartbeats 4000000 in
theorem falls_all (x : Int) (wx : (Lit.int .i64 x).wf = true) {W : World} {a : Option Addr} {cap : Nat} {S : List Op} (hS : OpsIn W a S) (hr : S.length * 24 ≤ 140737488351232) :
    Calls Try.prog 4 #[.slice a S.length cap, .int .i64 x] W fun e w' => e = .returned (.bool true) ∧ Below W.heap.size W w' := by
  have HA := Lib.hid (alive_any W)
  have HS := Lib.hid hS
  obtain ⟨l, hl⟩ : ∃ l, l = S.length := ⟨_, rfl⟩
  have l63 : (l : Int) ≤ 140737488351232 := by omega
  rw [← hl]
  have HG := Lib.hid (fun (w1 : World) (o1 : Only Nil W w1) => grown_any (cap := cap) HS (Lib.hid hl) l63 o1)
  clear hS hr hl
  go_enter Try.func4, Try.ntmps4
  go_upto_region 4 with (first
    | (go_at_call 7; (with_reducible refine HA.out.mono ?_); rintro e w1 ⟨rfl, o1⟩; have O1 := Lib.hid o1; clear o1 HA)
    | (go_at_call 15; (with_reducible refine (HG.out _ O1.out).mono ?_); rintro e w2 ⟨tb, ni, ci, ai, rfl, hni, h2⟩; have k2 := h2; clear h2 HG O1))
  obtain ⟨T, hT⟩ : ∃ T, Hid (T.length ≤ 100 ∧ Good T ∧ ∃ L, Gw W w2 tb T (.slice ai ni ci) L) := by
    obtain ⟨T, L, g, _, h, _⟩ := k2.out
    exact ⟨T, Lib.hid ⟨h, g.st.good, L, g⟩⟩
  clear k2
  have tl : (T.length : Int) ≤ 100 := by have := hT.out.1; omega
  have tlN := Lib.hid (fun (w3 : World) (K : Nat → Prop) (h : St W K w3 tb T) => st_len h)
  have K0 : Hid (St W Nil w2 tb T) := by
    obtain ⟨_, _, L, g⟩ := hT.out
    exact Lib.hid (g.st.re (U := Nil) (K' := Nil) (Only.refl _ _) (fun q h => h.elim) (fun q h => h.elim) (fun q h => h.elim))
  have LN := Lib.hid (st_len K0.out)
  have BE := Lib.hid (st_below K0.out x wx (by have := hT.out.1; omega))
  obtain ⟨tn, htn⟩ : ∃ tn, tn = T.length := ⟨_, rfl⟩
  rw [← htn] at LN tl
  have Htn := Lib.hid htn
  clear htn
  go_upto_region 6 with (first
    | (go_at_call 13; (with_reducible refine LN.out.mono ?_); rintro e w3 ⟨rfl, rfl⟩)
    | (go_at_call 16; (with_reducible refine BE.out.mono ?_); rintro e w3 ⟨aa, n, c, rfl, hn, hF⟩))
  have hnl := Lib.hid hn
  have hle : n ≤ tn := by have := belT_len hT.out.2.1 x; rw [hnl.out, ← Htn.out] at this; exact this
  have hrow := Lib.hid (hF.out.row)
  have K3 : Hid (St W (OwnP (.slice aa n c)) w3 tb (cuts T ((belT T x).take 0))) := Lib.hid (K0.out.re (U := Nil) (K' := OwnP (.slice aa n c)) hF.out.only (fun q h => h.elim) (fun q h => h.elim) (fun q hq => ⟨.inr (hF.out.new q hq), hF.out.lt hq⟩))
  clear K0 hn hF LN BE
  go_wp2_with (fail)
  go_loopw [9] (fun s9 wr => ∃ (i : Nat), i ≤ n ∧ s9 = .int .i64 (i : Int) ∧ Hid (St W (OwnP (.slice aa n c)) wr tb (cuts T ((belT T x).take i)) ∧ wr.ownsRow 0 3 1 (.slice aa n c) (belT T x).length (iv (belT T x)) ∧ (cuts T ((belT T x).take i)).length + i = T.length))
    (fun s9 _ => n - (intOf s9).toNat)
  case atStart => exact ⟨0, Nat.zero_le _, rfl, Lib.hid ⟨K3.out, hrow.out, by simp [cuts]⟩⟩
  case round =>
    obtain ⟨i, hi, rfl, K⟩ := hrel
    have hismall : (i : Int) ≤ 100 := by omega
    by_cases hin : i < n
    · have hin' : (i : Int) < (n : Int) := by omega
      obtain ⟨g, rfl, hg, hcell⟩ := own_ints (n := n) K.out.2.1 i (by rw [hnl.out]; exact hin)
      have x1 := hcell i (by rw [hnl.out]; exact hin)
      obtain ⟨y, hy⟩ : ∃ y, y = (belT T x).getD i 0 := ⟨_, rfl⟩
      rw [← hy] at x1
      have hsp := Lib.hid (show belT T x = (belT T x).take i ++ y :: (belT T x).drop (i + 1) from by
        have h1 : i < (belT T x).length := by rw [hnl.out]; exact hin
        have h2 : y = (belT T x)[i] := by rw [hy]; simp [List.getD, h1]
        rw [h2, ← List.drop_eq_getElem_cons h1, List.take_append_drop])
      have htk := Lib.hid (show (belT T x).take (i + 1) = (belT T x).take i ++ [y] from by
        have h1 : i < (belT T x).length := by rw [hnl.out]; exact hin
        rw [List.take_succ_eq_append_getElem h1, hy]; simp [List.getD, h1])
      have hE := Lib.hid (falls hT.out.2.1 hsp.out)
      have hmem := Lib.hid (show has T y = true from belT_mem hT.out.2.1 (x := x) (by rw [hsp.out]; simp))
      have wy := Lib.hid (hT.out.2.1.wf hmem.out)
      have HK := Lib.hid (fun (w' : World) (o : Only (Free W (OwnP (.slice (some ⟨g, 0, none⟩) n c))) wr w') => show w'.ownsRow 0 3 1 (.slice (some ⟨g, 0, none⟩) n c) (belT T x).length (iv (belT T x)) ∧ w'.cell? ⟨g, i, none⟩ = some (.int .i64 y) from by
        have h1 := own_keep K.out.2.1 o (fun k hk hf => hf.2 hk)
        obtain ⟨g', e, _, hc'⟩ := own_ints (n := n) h1 i (by rw [hnl.out]; exact hin)
        injection e with e
        injection e with e
        subst e
        have h2 := hc' i (by rw [hnl.out]; exact hin)
        rw [← hy] at h2
        exact ⟨h1, h2⟩)
      have CT : Hid (Calls Try.prog 10 #[.pointer (some ⟨tb, 0, none⟩), .int .i64 y] wr fun e w' => e = .returned (.int .i64 0) ∧ w'.cell? ⟨g, i, none⟩ = some (.int .i64 y) ∧ Hid (St W (OwnP (.slice (some ⟨g, 0, none⟩) n c)) w' tb (cuts T ((belT T x).take (i + 1))) ∧ w'.ownsRow 0 3 1 (.slice (some ⟨g, 0, none⟩) n c) (belT T x).length (iv (belT T x)) ∧ (cuts T ((belT T x).take (i + 1))).length + (i + 1) = T.length)) := by
        refine Lib.hid ((st_cut K.out.1 y wy.out).mono fun e w' ⟨he, hst, ho⟩ => ?_)
        rw [hE.out] at he
        obtain ⟨h1, h2⟩ := HK.out w' ho
        have e1 : cuts T ((belT T x).take (i + 1)) = cutT (cuts T ((belT T x).take i)) y := by rw [htk.out, cuts_snoc, cutT_eq hE.out]
        have e2 := length_del K.out.1.good.nodup (cutE_0.1 hE.out).1
        rw [← cutT_eq hE.out, ← e1] at e2
        have e3 := K.out.2.2
        exact ⟨he, h2, Lib.hid ⟨by rw [e1]; exact hst, h1, by omega⟩⟩
      have HH := Lib.hid (fun (w' : World) (h : St W (OwnP (.slice (some ⟨g, 0, none⟩) n c)) w' tb (cuts T ((belT T x).take (i + 1)))) => show Calls Try.prog 17 #[.pointer (some ⟨tb, 0, none⟩), .int .i64 y] w' fun e w'' => e = .returned (.bool false) ∧ w' = w'' from by
        have e1 : has (cuts T ((belT T x).take (i + 1))) y = false := by
          cases h : has (cuts T ((belT T x).take (i + 1))) y with
          | false => rfl
          | true => exact absurd (show y ∈ (belT T x).take (i + 1) from by rw [htk.out]; simp) ((has_cuts _ _ _).1 h).2
        have := st_has h y wy.out
        rw [e1] at this
        exact this)
      clear hcell hy hg
      go_wp2_with (first
        | (go_at_call 10; (with_reducible refine CT.out.mono ?_); rintro e w4 ⟨rfl, z1, H4⟩)
        | (go_at_call 17; (with_reducible refine (HH.out _ H4.out.1).mono ?_); rintro e w5 ⟨rfl, rfl⟩))
      go_roundw
      case rel => exact ⟨i + 1, by omega, by go_num, H4⟩
      case measure => simp [intOf]; omega
    · obtain rfl : i = n := by omega
      have hk0 : ¬ (i : Int) < (i : Int) := by omega
      have htake := Lib.hid (show (belT T x).take i = belT T x from by rw [← hnl.out]; exact List.take_length)
      have KE : Hid (St W (OwnP (.slice aa i c)) wr tb (cuts T (belT T x)) ∧ (cuts T (belT T x)).length + i = T.length) := by
        have h1 := K.out.1
        have h2 := K.out.2.2
        rw [htake.out] at h1 h2
        exact Lib.hid ⟨h1, h2⟩
      have LN := Lib.hid (show Calls Try.prog 13 #[.pointer (some ⟨tb, 0, none⟩)] wr fun e w' => e = .returned (.int .i64 ((tn : Int) - (i : Int))) ∧ wr = w' from by
        have := st_len KE.out.1
        rw [show (((cuts T (belT T x)).length : Nat) : Int) = (tn : Int) - (i : Int) from by have := KE.out.2; have := Htn.out; omega] at this
        exact this)
      have hno := Lib.hid (falls_end hT.out.2.1 x)
      have HH := Lib.hid (show Calls Try.prog 17 #[.pointer (some ⟨tb, 0, none⟩), .int .i64 x] wr fun e w' => e = .returned (.bool false) ∧ wr = w' from by
        have := st_has KE.out.1 x wx
        rw [hno.out] at this
        exact this)
      have BE := Lib.hid (show Calls Try.prog 16 #[.pointer (some ⟨tb, 0, none⟩), .int .i64 x] wr fun e w' => ∃ (a2 : Option Addr) (c2 : Nat), e = .returned (.slice a2 0 c2) ∧ Only Nil W w' from by
        refine (st_below KE.out.1 x wx (by have := KE.out.2; have := hT.out.1; omega)).mono fun e w' h => ?_
        obtain ⟨a2, n2, c2, he, hn2, hF⟩ := h
        have : belT (cuts T (belT T x)) x = [] := belT_none hno.out
        rw [this] at hn2
        obtain rfl : n2 = 0 := by simpa using hn2.symm
        exact ⟨a2, c2, he, KE.out.1.only.trans hF.out.only⟩)
      have hi100 : (i : Int) ≤ (tn : Int) := by omega
      go_wp2_with (first
        | (go_at_call 13; (with_reducible refine LN.out.mono ?_); rintro e w4 ⟨rfl, rfl⟩)
        | (go_at_call 17; (with_reducible refine HH.out.mono ?_); rintro e w5 ⟨rfl, rfl⟩)
        | (go_at_call 16; (with_reducible refine BE.out.mono ?_); rintro e w6 ⟨a2, c2, rfl, o6⟩))
      go_ret
      exact ⟨rfl, o6.below (Nat.le_refl _) (fun _ h => h.elim)⟩
end Go.Proofs.Ytkeaenkkencmdaa.Tr
