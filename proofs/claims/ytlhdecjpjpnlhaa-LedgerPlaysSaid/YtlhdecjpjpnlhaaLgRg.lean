/- ledger, the document's: with, To, Move, Accept. -/
import Derived.Test.YtlhdecjpjpnlhaaLgRf
namespace Go.Proofs.Ytlhdecjpjpnlhaa.Lg
open Go.RowKit Go.Proofs.Ytlhdecjpjpnlhaa

theorem set_take {X : List Ms} {i : Nat} (h : i < X.length) (x p : Int) : setW (X.take (i + 1)) x p = setW (X.take i) x p ++ [at1 x p (X.getD i default)] := by
  have e : X.take (i + 1) = X.take i ++ [X.getD i default] := by
    rw [List.take_add_one]
    simp [List.getD_eq_getElem?_getD, h]
  rw [e]
  simp [setW]

set_option maxRecDepth 100000 in
set_option maxHeartbeats 1000000 in
theorem with_any {w : World} {a : Option Addr} {X : List Ms} (h : RIn w a X) (cap : Nat) (x p : Int) (hl : X.length ≤ 65000) :
    Calls Try.prog 33 #[.slice a X.length cap, .int .u64 x, .int .i64 p] w fun e w' => ∃ a' c', e = .returned (.slice a' X.length c') ∧ Hid (Rs w w' (.slice none 0 0) (.slice a' X.length c') (setW X x p)) := by
  have h' := Lib.hid h
  have hc := Lib.hid (fun (i : Nat) (hi : i < X.length) => set_take hi x p)
  have hall := Lib.hid (show setW (X.take X.length) x p = setW X x p by rw [List.take_length])
  have hlt0 := Lib.hid (fun (i : Nat) (hi : i ≤ X.length) => show (setW (X.take i) x p).length = i by rw [setW_length, List.length_take]; omega)
  have start : Hid (Rs w w (.slice none 0 0) (.slice none 0 0) (setW (X.take 0) x p)) := Lib.hid ⟨World.ownsRow_nil _ _ _ _, fun g hg => .inl hg, Only.refl _ _⟩
  clear h
  generalize hlen : X.length = len at *
  have hlen' := Lib.hid hlen
  clear hlen
  have hl' : (len : Int) ≤ 65000 := by omega
  go_enter Try.func33, Try.ntmps33
  go_wp2_with fail
  go_loopw [7, 8] (fun s7 s8 wr => ∃ (i : Nat) (a' : Option Addr) (c' : Nat), i ≤ len ∧ s7 = .slice a' i c' ∧ s8 = .int .i64 (i : Int) ∧ Hid (Rs w wr (.slice none 0 0) (.slice a' i c') (setW (X.take i) x p)))
    (fun _ s8 _ => len - (intOf s8).toNat)
  case atStart => exact ⟨0, none, 0, Nat.zero_le _, rfl, rfl, start⟩
  case round =>
    obtain ⟨i, a', c', hi, rfl, rfl, hR⟩ := hrel
    by_cases hlt : i < len
    · obtain ⟨b, ha, hb1, hb2⟩ := (h'.out.nil hR.out.only) i (by rw [hlen'.out]; exact hlt)
      subst ha
      obtain ⟨x6, x7⟩ := hb2 i (by rw [hlen'.out]; exact hlt)
      have e1 := hc.out i hlt
      have hil := hlt0.out i (by omega)
      have hli : (i : Int) < (len : Int) := by omega
      obtain ⟨a5, c5, w5, hr, hk⟩ := hR.out.push hil (at1 x p (X.getD i default)) (by omega) #[.int .u64 (at1 x p (X.getD i default)).id, .int .i64 (at1 x p (X.getD i default)).wh] rfl
      rw [← e1] at hk
      clear hb2 e1 hil hb1
      by_cases hy : (X.getD i default).id = x
      · have hy' : ((X.getD i default).id == x) = true := by rw [hy]; exact beq_self_eq_true x
        rw [show (at1 x p (X.getD i default)).id = x by rw [at1_id, hy], show (at1 x p (X.getD i default)).wh = p by unfold at1; rw [if_pos hy]] at hr
        have hr' := Lib.hid hr
        have hlt' := Lib.hid hlt
        generalize (X.getD i default).id = z at *
        clear hr hlt hi x7
        subst hy
        go_wp2_with (at_builtin; refine Lib.wpList_append_run _ rfl (.tmp 22) (.tmp 26) 26 26 rfl _ _ rfl rfl _ _ hr'.out ?_)
        go_roundw
        case rel => exact ⟨i + 1, a5, c5, hlt'.out, rfl, by go_num, hk⟩
        case measure => have := hlt'.out; simp [intOf]; omega
      · have hy' : ((X.getD i default).id == x) = false := by rw [beq_eq_false_iff_ne]; exact hy
        rw [show at1 x p (X.getD i default) = X.getD i default by unfold at1; rw [if_neg hy]] at hr
        have hr' := Lib.hid hr
        have hlt' := Lib.hid hlt
        generalize (X.getD i default).id = z at *
        generalize (X.getD i default).wh = z2 at *
        clear hr hlt hi hy
        go_wp2_with (at_builtin; refine Lib.wpList_append_run _ rfl (.tmp 28) (.tmp 33) 26 26 rfl _ _ rfl rfl _ _ hr'.out ?_)
        go_roundw
        case rel => exact ⟨i + 1, a5, c5, hlt'.out, rfl, by go_num, hk⟩
        case measure => have := hlt'.out; simp [intOf]; omega
    · obtain rfl : i = len := by omega
      have hk0 : ¬ (i : Int) < (i : Int) := by omega
      have hal := hall.out
      rw [hal] at hR
      go_wp2
      go_ret
      exact ⟨a', c', rfl, hR⟩

/-- A row of the messages L in v. -/
def Row (w : World) (v : Value) (L : List Ms) : Prop := w.ownsRow 0 43 2 v L.length (pls L)
theorem Row.nil {w w' : World} {v : Value} {L : List Ms} (h : Row w v L) (o : Only Nil w w') : Row w' v L := own_keep h o (fun _ _ h => h)

set_option maxRecDepth 100000 in
theorem to_any {w : World} {v : Value} {X : List Ms} (h : Row w v X) (x p : Int) (hl : X.length ≤ 65000) :
    Calls Try.prog 24 #[v, .int .u64 x, .int .i64 p] w fun e w' => ∃ v', e = .returned (.tuple #[v', .int .i64 (enE X x)]) ∧ Hid (Rs w w' v v' (enL X x p)) := by
  obtain ⟨a, c, rfl⟩ := own_slice_n h
  have hw := Lib.hid (rwhere_any (own_rin h) c x hl)
  have hh := Lib.hid (holds_any (whOf X x) w)
  have hwi := Lib.hid (with_any (own_rin h) c x p hl)
  have rs := Lib.hid (Rs.same h (Only.refl Nil w))
  have hlen := setW_length X x p
  unfold enE enL
  cases e0 : held (whOf X x)
  · rw [e0] at hh
    clear hwi hlen
    generalize whOf X x = y at *
    generalize X.length = n at *
    clear h
    go_enter Try.func24, Try.ntmps24
    go_wp2_with (first
      | (go_at_call 11; (with_reducible refine hw.out.mono ?_); rintro e w1 ⟨rfl, rfl⟩)
      | (go_at_call 29; (with_reducible refine hh.out.mono ?_); rintro e w1 ⟨rfl, rfl⟩))
    go_ret2
    exact ⟨_, rfl, rs⟩
  · rw [e0] at hh
    generalize whOf X x = y at *
    generalize setW X x p = Y at *
    generalize X.length = n at *
    clear h rs
    go_enter Try.func24, Try.ntmps24
    go_wp2_with (first
      | (go_at_call 11; (with_reducible refine hw.out.mono ?_); rintro e w1 ⟨rfl, rfl⟩)
      | (go_at_call 29; (with_reducible refine hh.out.mono ?_); rintro e w1 ⟨rfl, rfl⟩)
      | (go_at_call 33; (with_reducible refine hwi.out.mono ?_); rintro e w1 ⟨a', c', rfl, hR⟩))
    go_ret2
    exact ⟨_, rfl, Lib.hid ⟨hR.out.row, fun g hg => (hR.out.fr g hg).elim (fun h => by simp [Value.ownBlock] at h) .inr, hR.out.only⟩⟩

set_option maxRecDepth 100000 in
theorem rmove_any {w : World} {v : Value} {X : List Ms} (h : Row w v X) (x p : Int) (hl : X.length ≤ 65000) :
    Calls Try.prog 23 #[v, .int .u64 x, .int .i64 p] w fun e w' => ∃ v', e = .returned (.tuple #[v', .int .i64 (mvE X x p)]) ∧ Hid (Rs w w' v v' (mvL X x p)) := by
  obtain ⟨a, c, rfl⟩ := own_slice_n h
  have hh := Lib.hid (holds_any p w)
  have ht := Lib.hid (to_any h x p hl)
  have rs := Lib.hid (Rs.same h (Only.refl Nil w))
  cases e0 : held p
  · rw [e0] at hh
    have e1 : mvE X x p = 1 := by unfold mvE; rw [e0]; rfl
    have e2 : mvL X x p = X := by unfold mvL; rw [if_neg (fun h => by rw [e0] at h; exact Bool.false_ne_true h.1)]
    rw [e1, e2]
    clear ht e1 e2 h e0
    generalize X.length = n at *
    go_enter Try.func23, Try.ntmps23
    go_wp2_with (go_at_call 29; (with_reducible refine hh.out.mono ?_); rintro e w1 ⟨rfl, rfl⟩)
    go_ret2
    exact ⟨_, rfl, rs⟩
  · rw [e0] at hh
    have e1 : mvE X x p = enE X x := by unfold mvE enE; rw [e0]; rfl
    have e2 : mvL X x p = enL X x p := by
      unfold mvL enL
      by_cases hq : held (whOf X x) = true
      · rw [if_pos ⟨e0, hq⟩, if_pos hq]
      · rw [if_neg (fun h => hq h.2), if_neg hq]
    rw [e1, e2]
    generalize enE X x = ev at *
    generalize enL X x p = Y at *
    generalize X.length = n at *
    clear rs e1 e2 h e0
    go_enter Try.func23, Try.ntmps23
    go_wp2_with (first
      | (go_at_call 29; (with_reducible refine hh.out.mono ?_); rintro e w1 ⟨rfl, rfl⟩)
      | (go_at_call 24; (with_reducible refine ht.out.mono ?_); rintro e w1 ⟨v', rfl, hR⟩))
    go_ret2
    exact ⟨_, rfl, hR⟩

set_option maxRecDepth 100000 in
set_option maxHeartbeats 1000000 in
theorem raccept_any {w : World} {v : Value} {X : List Ms} (h : Row w v X) (g : Good X) (x p : Int) (ok : (Lit.int .u64 x).wf = true) (hl : X.length ≤ 65000) :
    Calls Try.prog 22 #[v, .int .u64 x, .int .i64 p] w fun e w' => ∃ v', e = .returned (.tuple #[v', .int .i64 (acE X x p)]) ∧ Hid (Rs w w' v v' (acL X x ok p)) := by
  obtain ⟨a, c, rfl⟩ := own_slice_n h
  have hh := Lib.hid (holds_any p w)
  have hw := Lib.hid (rwhere_any (own_rin h) c x hl)
  have hwi := Lib.hid (show Calls Try.prog 33 #[.slice a X.length c, .int .u64 x, .int .i64 0] w _ from with_any (own_rin h) c x 0 hl)
  have rs := Lib.hid (Rs.same h (Only.refl Nil w))
  cases e0 : held p
  · rw [e0] at hh
    have e1 : acE X x p = 1 := by unfold acE; rw [e0]; rfl
    have e2 : acL X x ok p = X := by unfold acL; rw [if_neg (fun h => by rw [e0] at h; exact Bool.false_ne_true h.1)]
    rw [e1, e2]
    clear hwi hw e1 e2 h e0
    generalize X.length = n at *
    go_enter Try.func22, Try.ntmps22
    go_wp2_with (go_at_call 29; (with_reducible refine hh.out.mono ?_); rintro e w1 ⟨rfl, rfl⟩)
    go_ret2
    exact ⟨_, rfl, rs⟩
  · rw [e0] at hh
    by_cases hz : whOf X x = 0
    · have e1 : acE X x p = 0 := by unfold acE; rw [e0, if_pos rfl, if_pos hz]
      have e2 : acL X x ok p = X ++ [⟨x, p, ok⟩] := by unfold acL; rw [if_pos ⟨e0, hz⟩]
      rw [e1, e2]
      have e3 : setW X x 0 = X := setW_none 0 (whOf_notin g hz)
      rw [e3] at hwi
      rw [hz] at hw
      have hpu := Lib.hid (fun (w1 : World) (a' : Option Addr) (c' : Nat) (hR : Rs w w1 (.slice none 0 0) (.slice a' X.length c') X) => hR.push rfl ⟨x, p, ok⟩ hl #[.int .u64 x, .int .i64 p] rfl)
      generalize X ++ [⟨x, p, ok⟩] = Y at *
      generalize X.length = n at *
      clear rs e1 e2 e3 h e0 hz g
      go_enter Try.func22, Try.ntmps22
      go_wp2_with (first
        | (go_at_call 29; (with_reducible refine hh.out.mono ?_); rintro e w1 ⟨rfl, rfl⟩)
        | (go_at_call 11; (with_reducible refine hw.out.mono ?_); rintro e w1 ⟨rfl, rfl⟩)
        | (go_at_call 33; (with_reducible refine hwi.out.mono ?_); rintro e w1 ⟨a', c', rfl, hR⟩; obtain ⟨a5, c5, w5, hr, hk⟩ := hpu.out _ _ _ hR.out; have hr' := Lib.hid hr; clear hr)
        | (at_builtin; refine Lib.wpList_append_run _ rfl (.tmp 19) (.tmp 23) 26 26 rfl _ _ rfl rfl _ _ hr'.out ?_))
      go_ret2
      exact ⟨_, rfl, Lib.hid ⟨hk.out.row, fun g hg => (hk.out.fr g hg).elim (fun h => by simp [Value.ownBlock] at h) .inr, hk.out.only⟩⟩
    · have e1 : acE X x p = 3 := by unfold acE; rw [e0, if_pos rfl, if_neg hz]
      have e2 : acL X x ok p = X := by unfold acL; rw [if_neg (fun h => hz h.2)]
      rw [e1, e2]
      have hz' : (whOf X x == 0) = false := by simpa using hz
      clear hwi e1 e2 h e0 hz
      generalize whOf X x = y at *
      generalize X.length = n at *
      go_enter Try.func22, Try.ntmps22
      go_wp2_with (first
        | (go_at_call 29; (with_reducible refine hh.out.mono ?_); rintro e w1 ⟨rfl, rfl⟩)
        | (go_at_call 11; (with_reducible refine hw.out.mono ?_); rintro e w1 ⟨rfl, rfl⟩))
      go_ret2
      exact ⟨_, rfl, rs⟩
end Go.Proofs.Ytlhdecjpjpnlhaa.Lg
