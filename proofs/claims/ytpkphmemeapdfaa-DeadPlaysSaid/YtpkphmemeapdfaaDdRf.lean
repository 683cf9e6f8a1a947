/- dead, the document's: Count, Kept, Recent, Same. -/
import Derived.Test.YtpkphmemeapdfaaDdH
namespace Go.Proofs.Ytpkphmemeapdfaa.Dd
open Go.RowKit Go.Proofs.Ytpkphmemeapdfaa

theorem own_lin {w : World} {base : Nat} {a : Option Addr} {n c : Nat} {X : List Lr} (h : w.ownsRow base 29 3 (.slice a n c) n (lrs X)) : LIn w a X := by
  have hl : X.length = n := by have := h.1; rw [lrs_length] at this; omega
  subst hl
  intro i hi
  rcases h.2 with ⟨_, h0⟩ | ⟨g, c', cur, hv, _, hg, _⟩
  · omega
  · simp only [Value.slice.injEq] at hv
    obtain ⟨rfl, _, rfl⟩ := hv
    refine ⟨g, 0, rfl, lt_of_block hg, fun j hj => ?_⟩
    have e := lrs_get X j hj
    simp only [Nat.zero_add]
    exact ⟨by rw [h.cellAt _ (by omega)]; exact e.1, by rw [h.cellAt _ (by omega)]; exact e.2.1, by rw [h.cellAt _ (by omega)]; exact e.2.2⟩
theorem row_lin {w : World} {R : Nat} {M : List Lr} (h : w.heap[R]? = some (.cells (lrs M).toArray 29 (0, 0))) : LIn w (some ⟨R, 0, none⟩) M := by
  intro i hi
  refine ⟨R, 0, rfl, lt_of_block h, fun j hj => ?_⟩
  obtain ⟨a, b, c⟩ := lrs_get M j hj
  simp only [Nat.zero_add]
  refine ⟨?_, ?_, ?_⟩ <;> rw [cell_of_row w R _ _ _ _ h, List.getElem?_toArray] <;> assumption

theorem rkept_any (r : Int) (w : World) : Calls Try.prog 19 #[.int .i64 r] w fun e w' => e = .returned (.int .i64 (kn r : Nat)) ∧ w = w' := by
  by_cases h1 : r < 0
  · have e : (kn r : Int) = 0 := by rw [kn_eq]; omega
    rw [e]
    go_enter Try.func19, Try.ntmps19
    go_wp2
    go_ret
    exact ⟨rfl, rfl⟩
  · by_cases h2 : 64 < r
    · have e : (kn r : Int) = 64 := by rw [kn_eq]; omega
      rw [e]
      go_enter Try.func19, Try.ntmps19
      go_wp2
      go_ret
      exact ⟨rfl, rfl⟩
    · have e : (kn r : Int) = r := by rw [kn_eq]; omega
      rw [e]
      clear e
      have h3 : 0 ≤ r := by omega
      have h4 : r ≤ 64 := by omega
      go_enter Try.func19, Try.ntmps19
      go_wp2
      go_ret
      exact ⟨rfl, rfl⟩

theorem cnt_take (X : List Lr) (x : Int) (i : Nat) (h : i < X.length) : cnt (X.take (i + 1)) x = cnt (X.take i) x + (if (X.getD i default).why = x then 1 else 0) := by
  have e : X.take (i + 1) = X.take i ++ [X.getD i default] := by
    rw [List.take_add_one]
    simp [List.getD_eq_getElem?_getD, h]
  rw [e, cnt_snoc]

set_option maxRecDepth 100000 in
theorem rcount_any {w : World} {a : Option Addr} {X : List Lr} (h : LIn w a X) (cap : Nat) (x : Int) (hl : X.length ≤ 65000) :
    Calls Try.prog 12 #[.slice a X.length cap, .int .i64 x] w fun e w' => e = .returned (.int .i64 (cnt X x : Nat)) ∧ w = w' := by
  have h' := Lib.hid h
  have hc := Lib.hid (cnt_take X x)
  have hle := Lib.hid (fun i => cnt_le (X.take i) x)
  have hall := Lib.hid (show cnt (X.take X.length) x = cnt X x by rw [List.take_length])
  clear h
  generalize hlen : X.length = len at *
  have hlen' := Lib.hid hlen
  clear hlen
  have hl' : (len : Int) ≤ 65000 := by omega
  go_enter Try.func12, Try.ntmps12
  go_wp2_with fail
  go_loopw [5, 6] (fun s5 s6 wr => ∃ (i : Nat), i ≤ len ∧ s5 = .int .i64 (cnt (X.take i) x : Nat) ∧ s6 = .int .i64 (i : Int) ∧ w = wr)
    (fun _ s6 _ => len - (intOf s6).toNat)
  case atStart => exact ⟨0, Nat.zero_le _, rfl, rfl, rfl⟩
  case round =>
    obtain ⟨i, hi, rfl, rfl, rfl⟩ := hrel
    by_cases hlt : i < len
    · obtain ⟨b, off, ha, hb1, hb2⟩ := h'.out i (by rw [hlen'.out]; exact hlt)
      subst ha
      obtain ⟨_, _, x7⟩ := hb2 i (by rw [hlen'.out]; exact hlt)
      have e1 := Lib.hid (hc.out i (by rw [hlen'.out] at *; exact hlt))
      have c1 : ((cnt (X.take i) x : Nat) : Int) ≤ 65000 := by
        have := hle.out i
        simp only [List.length_take] at this
        omega
      generalize cnt (X.take i) x = ci at *
      have hli : (i : Int) < (len : Int) := by omega
      clear hb2
      by_cases hy : (X.getD i default).why = x
      · have e2 := Lib.hid (show cnt (X.take (i + 1)) x = ci + 1 by rw [e1.out, if_pos hy])
        have hy' : ((X.getD i default).why == x) = true := by rw [hy]; exact beq_self_eq_true x
        generalize (X.getD i default).why = y at *
        subst hy
        go_wp2
        go_roundw
        case rel => exact ⟨i + 1, by omega, by rw [e2.out]; go_num, by go_num, trivial⟩
        case measure => simp [intOf]; omega
      · have e2 := Lib.hid (show cnt (X.take (i + 1)) x = ci by rw [e1.out, if_neg hy]; rfl)
        have hy' : ((X.getD i default).why == x) = false := by rw [beq_eq_false_iff_ne]; exact hy
        generalize (X.getD i default).why = y at *
        clear hy
        go_wp2
        go_roundw
        case rel => exact ⟨i + 1, by omega, by rw [e2.out], by go_num, trivial⟩
        case measure => simp [intOf]; omega
    · obtain rfl : i = len := by omega
      have hk0 : ¬ (i : Int) < (i : Int) := by omega
      have ha := hall.out
      clear hall hc hle
      generalize cnt (X.take i) x = ci at *
      go_wp2
      go_ret
      exact ⟨by rw [← ha]; rfl, rfl⟩

theorem kept_get {k : Nat} {X : List Lr} (j : Nat) : (kept k X).getD j default = X.getD (X.length - k + j) default := by
  unfold kept
  simp [List.getD_eq_getElem?_getD, List.getElem?_drop]
/-- The document's Recent answers where the last ones lie. -/
theorem rrecent_any {w : World} {a : Option Addr} {X : List Lr} (h : LIn w a X) (cap : Nat) (r : Int) (hl : X.length ≤ 65000) (hcap : X.length ≤ cap) (hc63 : cap ≤ 9223372036854775807) :
    Calls Try.prog 15 #[.slice a X.length cap, .int .i64 r] w fun e w' => ∃ a' c', e = .returned (.slice a' (kept (kn r) X).length c') ∧ LIn w a' (kept (kn r) X) ∧ w = w' := by
  have hk := Lib.hid (rkept_any r w)
  have k64 := kn_le r
  generalize kn r = k at *
  have k64' : (k : Int) ≤ 64 := by omega
  by_cases hlk : X.length ≤ k
  · have e : kept k X = X := by unfold kept; rw [show X.length - k = 0 by omega]; rfl
    rw [e]
    have h' := Lib.hid h
    clear h e
    generalize X.length = len at *
    go_enter Try.func15, Try.ntmps15
    go_wp2_with (go_at_call 19; (with_reducible refine hk.out.mono ?_); rintro e w1 ⟨rfl, rfl⟩)
    go_ret
    exact ⟨_, _, rfl, h'.out, rfl⟩
  · have hm : (kept k X).length = k := by rw [kept_length]; omega
    obtain ⟨b, off, ha, hb1, hb2⟩ := h 0 (by omega)
    have fin := Lib.hid (show LIn w (some ⟨b, off + (X.length - k) * 3, none⟩) (kept k X) from by
      intro i hi
      refine ⟨b, _, rfl, hb1, fun j hj => ?_⟩
      rw [hm] at hj
      obtain ⟨x0, x1, x2⟩ := hb2 (X.length - k + j) (by omega)
      rw [kept_get]
      have e : off + (X.length - k) * 3 + j * 3 = off + (X.length - k + j) * 3 := by rw [Nat.add_mul]; omega
      rw [e]
      exact ⟨x0, x1, x2⟩)
    have nil := Lib.hid (fun (hk0 : k = 0) (q : Option Addr) => show LIn w q (kept k X) from fun i hi => by rw [hm] at hi; omega)
    rw [hm]
    subst ha
    clear hb2 h
    obtain ⟨n, hn⟩ : ∃ n, n = X.length - k := ⟨_, rfl⟩
    have hX : X.length = n + k := by omega
    rw [← hn] at fin
    rw [hX] at hlk hl hcap ⊢
    clear hX hn
    have fin' := fin
    clear fin
    have hlk' : (k : Int) < (n : Int) + (k : Int) := by omega
    have hn1 : (n : Int) ≤ 65000 := by omega
    have hn0 : 0 < n := by omega
    by_cases hcn : cap = n
    · have hk0 : k = 0 := by omega
      subst hk0
      subst hcn
      go_enter Try.func15, Try.ntmps15
      go_wp2_with (go_at_call 19; (with_reducible refine hk.out.mono ?_); rintro e w1 ⟨rfl, rfl⟩)
      go_ret
      exact ⟨_, _, rfl, nil.out trivial _, rfl⟩
    · go_enter Try.func15, Try.ntmps15
      go_wp2_with (go_at_call 19; (with_reducible refine hk.out.mono ?_); rintro e w1 ⟨rfl, rfl⟩)
      go_ret
      exact ⟨_, _, rfl, fin'.out, rfl⟩

set_option maxRecDepth 100000 in
theorem rsame_any {w : World} {a1 a2 : Option Addr} {c1 c2 : Nat} {X : List Lr} (h1 : LIn w a1 X) (h2 : LIn w a2 X) (hl : X.length ≤ 65000) :
    Calls Try.prog 13 #[.slice a1 X.length c1, .slice a2 X.length c2] w fun e w' => e = .returned (.bool true) ∧ Only Nil w w' := by
  have h1' := Lib.hid (fun w1 (o : Only Nil w w1) => h1.nil o)
  have h2' := Lib.hid (fun w1 (o : Only Nil w w1) => h2.nil o)
  clear h1 h2
  generalize hlen : X.length = len at *
  have hlen' := Lib.hid hlen
  clear hlen
  have hl' : (len : Int) ≤ 65000 := by omega
  go_enter Try.func13, Try.ntmps13
  go_wp2_with fail
  go_loopw [5] (fun s5 wr => ∃ (i : Nat), i ≤ len ∧ s5 = .int .i64 (i : Int) ∧ Hid (Only Nil w wr))
    (fun s5 _ => len - (intOf s5).toNat)
  case atStart => exact ⟨0, Nat.zero_le _, rfl, Lib.hid (Only.refl _ _)⟩
  case round =>
    obtain ⟨i, hi, rfl, ho⟩ := hrel
    by_cases hlt : i < len
    · obtain ⟨b, off, rfl, hb1, hb2⟩ := h1'.out _ ho.out i (by rw [hlen'.out]; exact hlt)
      obtain ⟨b', off', rfl, hb1', hb2'⟩ := h2'.out _ ho.out i (by rw [hlen'.out]; exact hlt)
      obtain ⟨x0, x1, x2⟩ := hb2 i (by rw [hlen'.out]; exact hlt)
      obtain ⟨y0, y1, y2⟩ := hb2' i (by rw [hlen'.out]; exact hlt)
      have hlt' : (i : Int) < (len : Int) := by omega
      clear hb2 hb2'
      generalize (X.getD i default).id = v0 at *
      generalize (X.getD i default).dst = v1 at *
      generalize (X.getD i default).why = v2 at *
      go_wp2_with fail
      go_quiet (fail)
      go_wp2
      go_roundw
      case rel => exact ⟨i + 1, by omega, by go_num, Lib.hid (ho.out.drewN nq)⟩
      case measure => simp [intOf]; omega
    · obtain rfl : i = len := by omega
      have hk0 : ¬ (i : Int) < (i : Int) := by omega
      go_wp2
      go_ret
      exact ⟨rfl, ho.out⟩
end Go.Proofs.Ytpkphmemeapdfaa.Dd
