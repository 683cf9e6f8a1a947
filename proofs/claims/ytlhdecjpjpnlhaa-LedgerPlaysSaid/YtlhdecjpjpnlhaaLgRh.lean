/- ledger, the document's: Held, Same. -/
import Derived.Test.YtlhdecjpjpnlhaaLgRg
namespace Go.Proofs.Ytlhdecjpjpnlhaa.Lg
open Go.RowKit Go.Proofs.Ytlhdecjpjpnlhaa

theorem hl_take {X : List Ms} {i : Nat} (h : i < X.length) : hl (X.take (i + 1)) = hl (X.take i) ++ (if held (X.getD i default).wh = true then [X.getD i default] else []) := by
  have e : X.take (i + 1) = X.take i ++ [X.getD i default] := by
    rw [List.take_add_one]
    simp [List.getD_eq_getElem?_getD, h]
  rw [e]
  unfold hl
  rw [List.filter_append, List.filter_cons]
  split <;> rfl

set_option maxRecDepth 100000 in
set_option maxHeartbeats 1000000 in
theorem rheld_any {w : World} {a : Option Addr} {X : List Ms} (h : RIn w a X) (cap : Nat) (hl0 : X.length ≤ 65000) :
    Calls Try.prog 16 #[.slice a X.length cap] w fun e w' => ∃ a' c', e = .returned (.slice a' (hl X).length c') ∧ Hid (Rs w w' (.slice none 0 0) (.slice a' (hl X).length c') (hl X)) := by
  have h' := Lib.hid h
  have hc := Lib.hid (fun (i : Nat) (hi : i < X.length) => hl_take hi)
  have hall := Lib.hid (show hl (X.take X.length) = hl X by rw [List.take_length])
  have hlt0 := Lib.hid (fun (i : Nat) => show (hl (X.take i)).length ≤ X.length from Nat.le_trans (cq_le _ _) (by rw [List.length_take]; omega))
  have start : Hid (Rs w w (.slice none 0 0) (.slice none 0 0) (hl (X.take 0))) := Lib.hid ⟨World.ownsRow_nil _ _ _ _, fun g hg => .inl hg, Only.refl _ _⟩
  clear h
  generalize hlen : X.length = len at *
  have hlen' := Lib.hid hlen
  clear hlen
  have hl' : (len : Int) ≤ 65000 := by omega
  go_enter Try.func16, Try.ntmps16
  go_wp2_with fail
  go_loopw [3, 4] (fun s3 s4 wr => ∃ (i n : Nat) (a' : Option Addr) (c' : Nat), i ≤ len ∧ s3 = .slice a' n c' ∧ s4 = .int .i64 (i : Int) ∧ Hid ((hl (X.take i)).length = n) ∧ Hid (Rs w wr (.slice none 0 0) (.slice a' n c') (hl (X.take i))))
    (fun _ s4 _ => len - (intOf s4).toNat)
  case atStart => exact ⟨0, 0, none, 0, Nat.zero_le _, rfl, rfl, Lib.hid rfl, start⟩
  case round =>
    obtain ⟨i, n, a', c', hi, rfl, rfl, hn, hR⟩ := hrel
    by_cases hlt : i < len
    · obtain ⟨b, ha, hb1, hb2⟩ := (h'.out.nil hR.out.only) i (by rw [hlen'.out]; exact hlt)
      subst ha
      obtain ⟨x6, x7⟩ := hb2 i (by rw [hlen'.out]; exact hlt)
      have e1 := hc.out i hlt
      have hli : (i : Int) < (len : Int) := by omega
      have hh := Lib.hid (holds_any (X.getD i default).wh wr)
      obtain ⟨a5, c5, w5, hr, hk⟩ := hR.out.push hn.out (X.getD i default) (by have := hlt0.out i; have := hn.out; omega) #[.int .u64 (X.getD i default).id, .int .i64 (X.getD i default).wh] rfl
      clear hb2 hb1
      cases hy : held (X.getD i default).wh
      · rw [hy] at hh e1
        rw [if_neg Bool.false_ne_true, List.append_nil] at e1
        have e1' := Lib.hid e1
        have hlt' := Lib.hid hlt
        clear hr hk e1 hlt hi hy
        generalize (X.getD i default).id = z at *
        generalize (X.getD i default).wh = z2 at *
        go_wp2_with (go_at_call 29; (with_reducible refine hh.out.mono ?_); rintro e w1 ⟨rfl, rfl⟩)
        go_roundw
        case rel => exact ⟨i + 1, n, a', c', hlt'.out, rfl, by go_num, Lib.hid (by rw [e1'.out]; exact hn.out), Lib.hid (by rw [e1'.out]; exact hR.out)⟩
        case measure => have := hlt'.out; simp [intOf]; omega
      · rw [hy] at hh e1
        rw [if_pos rfl] at e1
        rw [← e1] at hk
        have hn1 := Lib.hid (show (hl (X.take (i + 1))).length = n + 1 by rw [e1, List.length_append, hn.out]; rfl)
        have hr' := Lib.hid hr
        have hlt' := Lib.hid hlt
        clear hr e1 hlt hi hy
        generalize (X.getD i default).id = z at *
        generalize (X.getD i default).wh = z2 at *
        go_wp2_with (first
          | (go_at_call 29; (with_reducible refine hh.out.mono ?_); rintro e w1 ⟨rfl, rfl⟩)
          | (at_builtin; refine Lib.wpList_append_run _ rfl (.tmp 17) (.tmp 22) 26 26 rfl _ _ rfl rfl _ _ hr'.out ?_))
        go_roundw
        case rel => exact ⟨i + 1, n + 1, a5, c5, hlt'.out, rfl, by go_num, hn1, hk⟩
        case measure => have := hlt'.out; simp [intOf]; omega
    · obtain rfl : i = len := by omega
      have hk0 : ¬ (i : Int) < (i : Int) := by omega
      have hal := hall.out
      rw [hal] at hR hn
      have hn2 := hn.out
      subst hn2
      go_wp2
      go_ret
      exact ⟨a', c', rfl, hR⟩

set_option maxRecDepth 100000 in
theorem rsame_any {w : World} {a b : Option Addr} {X : List Ms} (h : RIn w a X) (h2 : RIn w b X) (ca cb : Nat) (hl : X.length ≤ 65000) :
    Calls Try.prog 14 #[.slice a X.length ca, .slice b X.length cb] w fun e w' => e = .returned (.bool true) ∧ Only Nil w w' := by
  have h' := Lib.hid h
  have h2' := Lib.hid h2
  clear h h2
  generalize hlen : X.length = len at *
  have hlen' := Lib.hid hlen
  clear hlen
  have hl' : (len : Int) ≤ 65000 := by omega
  go_enter Try.func14, Try.ntmps14
  go_wp2_with fail
  go_loopw [5] (fun s5 wr => ∃ (i : Nat), i ≤ len ∧ s5 = .int .i64 (i : Int) ∧ Hid (Only Nil w wr))
    (fun s5 _ => len - (intOf s5).toNat)
  case atStart => exact ⟨0, Nat.zero_le _, rfl, Lib.hid (Only.refl _ _)⟩
  case round =>
    obtain ⟨i, hi, rfl, ho⟩ := hrel
    by_cases hlt : i < len
    · obtain ⟨g, ha, _, hb2⟩ := (h'.out.nil ho.out) i (by rw [hlen'.out]; exact hlt)
      obtain ⟨g2, hb, _, hd2⟩ := (h2'.out.nil ho.out) i (by rw [hlen'.out]; exact hlt)
      subst ha hb
      obtain ⟨x6, x7⟩ := hb2 i (by rw [hlen'.out]; exact hlt)
      obtain ⟨y6, y7⟩ := hd2 i (by rw [hlen'.out]; exact hlt)
      have hli : (i : Int) < (len : Int) := by omega
      have hlt' := Lib.hid hlt
      clear hb2 hd2 hlt hi
      generalize (X.getD i default).id = z at *
      generalize (X.getD i default).wh = z2 at *
      go_wp2_with fail
      go_quiet (fail)
      go_wp2_with fail
      have o2 := Lib.hid (ho.out.drewN nq)
      go_roundw
      case rel => exact ⟨i + 1, hlt'.out, by go_num, o2⟩
      case measure => have := hlt'.out; simp [intOf]; omega
    · obtain rfl : i = len := by omega
      have hk0 : ¬ (i : Int) < (i : Int) := by omega
      go_wp2
      go_ret
      exact ⟨rfl, ho.out⟩
end Go.Proofs.Ytlhdecjpjpnlhaa.Lg
