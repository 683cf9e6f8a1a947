/- The document's Next of a deque's operation, whatever it was answered: one contract. -/
import Derived.Test.YthebfnmihjbajaaDqN
namespace Go.Proofs.Ythebfnmihjbajaa.Dq
open Go.RowKit

theorem fit_at {c : Nat} {s : OS} {log : List Int} (hf : Fits c s log) (i : Nat) (hi : i < log.length) : Fit (runL c s (log.take i)) (log.getD i 0) := hf i hi
theorem fit_in {s : OS} {a : Int} (h : Fit s a) : In64 a := ⟨h.1, h.2.1⟩
theorem fit_over {o : Nat} {x a : Int} (h : Fit (.over o x) a) : False := h.2.2
theorem fits_in {c : Nat} {s : OS} {log : List Int} (hf : Fits c s log) (i : Nat) (hi : i < log.length) : In64 (log.getD i 0) := fit_in (hf i hi)
section
variable (w : World) (b c : Nat) (v : Int) (a : Option Addr) (cap : Nat) (log : List Int)
theorem rpush_any (hc : 0 < c) (hc2 : c ≤ 64) (hb : b ≤ 1000) (hl : LogIn w a log) (hf : Fits c (.push0 v) log) :
    Calls Try.prog 35 #[.agg #[.int .i64 (b : Int), .int .i64 (c : Int)], .agg #[.int .i64 1, .int .u64 v, .slice a log.length cap]] w fun e w' => e = .returned (wantOf b c (runL c (.push0 v) log)) ∧ Only Nil w w' := by
  match log, hl, hf with
  | [], _, _ => exact rpush_0 w b c v a cap hc hc2 hb
  | [x0], hl, hf => exact rpush_1 w b c v a cap x0 hc hc2 hb (fits_in hf 0 (by simp)) hl
  | [x0, x1], hl, hf =>
    have h0 : In64 x0 := fits_in hf 0 (by simp)
    have h1 : In64 x1 := fits_in hf 1 (by simp)
    by_cases g : (c : Int) ≤ dif x0 x1
    · have e : runL c (.push0 v) [x0, x1] = .over 2 0 := if_pos g
      rw [e]; exact rpush_2f w b c v a cap x0 x1 hc hc2 hb h0 h1 hl g
    · have e : runL c (.push0 v) [x0, x1] = .push2 v x0 := if_neg g
      rw [e]; exact rpush_2 w b c v a cap x0 x1 hc hc2 hb h0 h1 hl g
  | x0 :: x1 :: x2 :: r, hl, hf =>
    have h0 : In64 x0 := fits_in hf 0 (by simp)
    have h1 : In64 x1 := fits_in hf 1 (by simp)
    have h2 : In64 x2 := fits_in hf 2 (by simp)
    have g : ¬ (c : Int) ≤ dif x0 x1 := fun g => by
      have := fit_at hf 2 (by simp)
      have e : runL c (.push0 v) ([x0, x1]) = .over 2 0 := if_pos g
      exact fit_over (show Fit (.over 2 0) x2 from e ▸ this)
    have e2 : runL c (.push0 v) [x0, x1] = .push2 v x0 := if_neg g
    have e3 : runL c (.push0 v) [x0, x1, x2] = .push3 x0 := congrArg (res c x2) e2
    match r, hl, hf with
    | [], hl, hf => rw [e3]; exact rpush_3 w b c v a cap x0 x1 x2 hc hc2 hb h0 h1 h2 hl g
    | [x3], hl, hf =>
      have h3 : In64 x3 := fits_in hf 3 (by simp)
      have e4 : runL c (.push0 v) [x0, x1, x2, x3] = .over 1 0 := congrArg (res c x3) e3
      rw [e4]; exact rpush_4 w b c v a cap x0 x1 x2 x3 hc hc2 hb h0 h1 h2 h3 hl g
    | x3 :: x4 :: r, hl, hf =>
      have e4 : runL c (.push0 v) [x0, x1, x2, x3] = .over 1 0 := congrArg (res c x3) e3
      have := fit_at hf 4 (by simp)
      exact (fit_over (show Fit (.over 1 0) x4 from e4 ▸ this)).elim
theorem rpop_any (hc : 0 < c) (hc2 : c ≤ 64) (hb : b ≤ 1000) (hl : LogIn w a log) (hf : Fits c .pop0 log) :
    Calls Try.prog 36 #[.agg #[.int .i64 (b : Int), .int .i64 (c : Int)], .agg #[.int .i64 2, .int .u64 v, .slice a log.length cap]] w fun e w' => e = .returned (wantOf b c (runL c .pop0 log)) ∧ Only Nil w w' := by
  match log, hl, hf with
  | [], _, _ => exact rpop_0 w b c v a cap hc hc2 hb
  | [x0], hl, hf => exact rpop_1 w b c v a cap x0 hc hc2 hb (fits_in hf 0 (by simp)) hl
  | [x0, x1], hl, hf => exact rpop_2 w b c v a cap x0 x1 hc hc2 hb (fits_in hf 0 (by simp)) (fits_in hf 1 (by simp)) hl
  | x0 :: x1 :: x2 :: r, hl, hf =>
    have h0 : In64 x0 := fits_in hf 0 (by simp)
    have h1 : In64 x1 := fits_in hf 1 (by simp)
    have h2 : In64 x2 := fits_in hf 2 (by simp)
    by_cases g : dn x0 < x2
    · have e3 : runL c .pop0 [x0, x1, x2] = .popN x0 := if_pos g
      match r, hl, hf with
      | [], hl, hf => rw [e3]; exact rpop_3n w b c v a cap x0 x1 x2 hc hc2 hb h0 h1 h2 hl g
      | [x3], hl, hf =>
        have h3 : In64 x3 := fits_in hf 3 (by simp)
        have e4 : runL c .pop0 [x0, x1, x2, x3] = .over 4 0 := congrArg (res c x3) e3
        rw [e4]; exact rpop_4n w b c v a cap x0 x1 x2 x3 hc hc2 hb h0 h1 h2 h3 hl g
      | x3 :: x4 :: r, hl, hf =>
        have e4 : runL c .pop0 [x0, x1, x2, x3] = .over 4 0 := congrArg (res c x3) e3
        have := fit_at hf 4 (by simp)
        exact (fit_over (show Fit (.over 4 0) x4 from e4 ▸ this)).elim
    · by_cases g2 : x2 < dn x0
      · have e3 : runL c .pop0 [x0, x1, x2] = .popS x0 := (if_neg g).trans (if_pos g2)
        match r, hl, hf with
        | [], hl, hf => rw [e3]; exact rpop_3s w b c v a cap x0 x1 x2 hc hc2 hb h0 h1 h2 hl g2
        | [x3], hl, hf =>
          have h3 : In64 x3 := fits_in hf 3 (by simp)
          have e4 : runL c .pop0 [x0, x1, x2, x3] = .over 1 x3 := congrArg (res c x3) e3
          rw [e4]; exact rpop_4s w b c v a cap x0 x1 x2 x3 hc hc2 hb h0 h1 h2 h3 hl g2
        | x3 :: x4 :: r, hl, hf =>
          have e4 : runL c .pop0 [x0, x1, x2, x3] = .over 1 x3 := congrArg (res c x3) e3
          have := fit_at hf 4 (by simp)
          exact (fit_over (show Fit (.over 1 x3) x4 from e4 ▸ this)).elim
      · have e3 : runL c .pop0 [x0, x1, x2] = .popF x0 := (if_neg g).trans (if_neg g2)
        have g3 : x2 = dn x0 := by omega
        match r, hl, hf with
        | [], hl, hf => rw [e3]; exact rpop_3f w b c v a cap x0 x1 x2 hc hc2 hb h0 h1 h2 hl g3
        | [x3], hl, hf =>
          have h3 : In64 x3 := fits_in hf 3 (by simp)
          have e4 : runL c .pop0 [x0, x1, x2, x3] = .popR x0 x3 := congrArg (res c x3) e3
          rw [e4]; exact rpop_4f w b c v a cap x0 x1 x2 x3 hc hc2 hb h0 h1 h2 h3 hl g3
        | x3 :: x4 :: r, hl, hf =>
          have h3 : In64 x3 := fits_in hf 3 (by simp)
          have h4 : In64 x4 := fits_in hf 4 (by simp)
          have e4 : runL c .pop0 [x0, x1, x2, x3] = .popR x0 x3 := congrArg (res c x3) e3
          have z4 : x4 = 0 ∨ x4 = 1 := by
            have := fit_at hf 4 (by simp)
            exact (show Fit (.popR x0 x3) x4 from e4 ▸ this).2.2
          have e5 : runL c .pop0 [x0, x1, x2, x3, x4] = if x4 = 0 then .popN x0 else .popW x0 x3 := congrArg (res c x4) e4
          match r, hl, hf with
          | [], hl, hf =>
            rw [e5]
            refine rpop_5 w b c v a cap x0 x1 x2 x3 x4 hc hc2 hb h0 h1 h2 h3 h4 hl g3 _ ?_
            split <;> rfl
          | [x5], hl, hf =>
            have h5 : In64 x5 := fits_in hf 5 (by simp)
            have e6 : runL c .pop0 [x0, x1, x2, x3, x4, x5] = res c x5 (if x4 = 0 then .popN x0 else .popW x0 x3) := congrArg (res c x5) e5
            rw [e6]
            rcases z4 with z | z
            · rw [if_pos z]; exact rpop_6n w b c v a cap x0 x1 x2 x3 x4 x5 hc hc2 hb h0 h1 h2 h3 h4 h5 hl g3 z
            · rw [if_neg (by omega)]; exact rpop_6y w b c v a cap x0 x1 x2 x3 x4 x5 hc hc2 hb h0 h1 h2 h3 h4 h5 hl g3 z
          | x5 :: x6 :: r, hl, hf =>
            have e6 : runL c .pop0 [x0, x1, x2, x3, x4, x5] = res c x5 (if x4 = 0 then .popN x0 else .popW x0 x3) := congrArg (res c x5) e5
            have := fit_at hf 6 (by simp)
            have h6 : Fit (res c x5 (if x4 = 0 then .popN x0 else .popW x0 x3)) x6 := e6 ▸ this
            exfalso
            rcases z4 with z | z
            · rw [if_pos z] at h6; exact fit_over h6
            · rw [if_neg (by omega)] at h6; exact fit_over h6
theorem rsteal_any (hc : 0 < c) (hc2 : c ≤ 64) (hb : b ≤ 1000) (hl : LogIn w a log) (hf : Fits c .st0 log) :
    Calls Try.prog 37 #[.agg #[.int .i64 (b : Int), .int .i64 (c : Int)], .agg #[.int .i64 3, .int .u64 v, .slice a log.length cap]] w fun e w' => e = .returned (wantOf b c (runL c .st0 log)) ∧ Only Nil w w' := by
  match log, hl, hf with
  | [], _, _ => exact rsteal_0 w b c v a cap hc hc2 hb
  | [x0], hl, hf => exact rsteal_1 w b c v a cap x0 hc hc2 hb (fits_in hf 0 (by simp)) hl
  | [x0, x1], hl, hf =>
    have h0 : In64 x0 := fits_in hf 0 (by simp)
    have h1 : In64 x1 := fits_in hf 1 (by simp)
    by_cases g : x1 ≤ x0
    · have e : runL c .st0 [x0, x1] = .over 4 0 := if_pos g
      rw [e]; exact rsteal_2n w b c v a cap x0 x1 hc hc2 hb h0 h1 hl g
    · have e : runL c .st0 [x0, x1] = .st2 x0 := if_neg g
      rw [e]; exact rsteal_2 w b c v a cap x0 x1 hc hc2 hb h0 h1 hl g
  | x0 :: x1 :: x2 :: r, hl, hf =>
    have h0 : In64 x0 := fits_in hf 0 (by simp)
    have h1 : In64 x1 := fits_in hf 1 (by simp)
    have h2 : In64 x2 := fits_in hf 2 (by simp)
    have g : ¬ x1 ≤ x0 := fun g => by
      have := fit_at hf 2 (by simp)
      have e : runL c .st0 [x0, x1] = .over 4 0 := if_pos g
      exact fit_over (show Fit (.over 4 0) x2 from e ▸ this)
    have e2 : runL c .st0 [x0, x1] = .st2 x0 := if_neg g
    have e3 : runL c .st0 [x0, x1, x2] = .st3 x0 x2 := congrArg (res c x2) e2
    match r, hl, hf with
    | [], hl, hf => rw [e3]; exact rsteal_3 w b c v a cap x0 x1 x2 hc hc2 hb h0 h1 h2 hl g
    | [x3], hl, hf =>
      have h3 : In64 x3 := fits_in hf 3 (by simp)
      have z3 : x3 = 0 ∨ x3 = 1 := by
        have := fit_at hf 3 (by simp)
        exact (show Fit (.st3 x0 x2) x3 from e3 ▸ this).2.2
      have e4 : runL c .st0 [x0, x1, x2, x3] = if x3 = 0 then .over 6 0 else .over 1 x2 := congrArg (res c x3) e3
      rw [e4]
      rcases z3 with z | z
      · rw [if_pos z]; exact rsteal_4n w b c v a cap x0 x1 x2 x3 hc hc2 hb h0 h1 h2 h3 hl g z
      · rw [if_neg (by omega)]; exact rsteal_4y w b c v a cap x0 x1 x2 x3 hc hc2 hb h0 h1 h2 h3 hl g z
    | x3 :: x4 :: r, hl, hf =>
      have e4 : runL c .st0 [x0, x1, x2, x3] = if x3 = 0 then .over 6 0 else .over 1 x2 := congrArg (res c x3) e3
      have := fit_at hf 4 (by simp)
      have h4 : Fit (if x3 = 0 then .over 6 0 else .over 1 x2) x4 := e4 ▸ this
      exfalso
      split at h4 <;> exact fit_over h4
end
theorem wantOf_agg (b c : Nat) (s : OS) : ∃ (x0 : Bool) (x1 x2 x3 x4 x5 x6 x7 : Int), wantOf b c s = .agg #[.bool x0, .int .i64 x1, .int .i64 x2, .int .u64 x3, .int .u64 x4, .int .i64 x5, .int .u64 x6, .int .u64 x7] := by
  have h : ∀ a, ∃ (x0 : Bool) (x1 x2 x3 x4 x5 x6 x7 : Int), accWant a = .agg #[.bool x0, .int .i64 x1, .int .i64 x2, .int .u64 x3, .int .u64 x4, .int .i64 x5, .int .u64 x6, .int .u64 x7] := by
    intro a
    cases a <;> exact ⟨_, _, _, _, _, _, _, _, rfl⟩
  cases s <;> first | exact ⟨_, _, _, _, _, _, _, _, rfl⟩ | (simp only [wantOf]; exact h _)

set_option maxRecDepth 100000 in
set_option maxHeartbeats 2000000 in
theorem rnext_push (w : World) (b c : Nat) (v : Int) (a : Option Addr) (cap : Nat) (log : List Int) (hc : 0 < c) (hc2 : c ≤ 64) (hb : b ≤ 1000) (hl : LogIn w a log) (hf : Fits c (.push0 v) log) (hlen : log.length ≤ 1000000) :
    Calls Try.prog 18 #[.agg #[.int .i64 (b : Int), .int .i64 (c : Int)], .agg #[.int .i64 1, .int .u64 v, .slice a log.length cap]] w fun e w' => e = .returned (wantOf b c (runL c (.push0 v) log)) ∧ Only Nil w w' := by
  have hl' := Lib.hid hl
  have con := Lib.hid (fun (w' : World) (h : LogIn w' a log) => rpush_any w' b c v a cap log hc hc2 hb h hf)
  clear hl hf
  generalize runL c (.push0 v) log = fin at con ⊢
  obtain ⟨x0, x1, x2, x3, x4, x5, x6, x7, hx⟩ := wantOf_agg b c fin
  rw [hx] at con ⊢
  clear hx
  generalize log.length = n at hlen con ⊢
  have hlen' : (n : Int) ≤ 1000000 := by omega
  go_enter Try.func18, Try.ntmps18
  go_wp2_with fail
  obtain ⟨n1, n2, n3, n4⟩ := three_new w (.cells #[.int .i64 (b : Int), .int .i64 (c : Int)] 31) (.cells #[.int .i64 1, .int .u64 v, .slice a n cap] 44) (.cells #[.bool false, .int .i64 0, .int .i64 0, .int .u64 0, .int .u64 0, .int .i64 0, .int .u64 0, .int .u64 0] 49)
  have lW := Lib.hid (hl'.out.keep n4 (fun _ _ _ h => h.elim))
  have bl := Lib.hid (fun (w' : World) (o : Only Nil (((w.alloc (.cells #[.int .i64 (b : Int), .int .i64 (c : Int)] 31)).alloc (.cells #[.int .i64 1, .int .u64 v, .slice a n cap] 44)).alloc (.cells #[.bool false, .int .i64 0, .int .i64 0, .int .u64 0, .int .u64 0, .int .i64 0, .int .u64 0, .int .u64 0] 49)) w') =>
    And.intro ((o.block _ (lt_of_block n1) (fun h => h)).trans n1) (And.intro ((o.block _ (lt_of_block n2) (fun h => h)).trans n2) ((o.block _ (lt_of_block n3) (fun h => h)).trans n3)))
  have n4' := Lib.hid n4
  clear n1 n2 n3 n4 hl'
  generalize (((w.alloc (.cells #[.int .i64 (b : Int), .int .i64 (c : Int)] 31)).alloc (.cells #[.int .i64 1, .int .u64 v, .slice a n cap] 44)).alloc (.cells #[.bool false, .int .i64 0, .int .i64 0, .int .u64 0, .int .u64 0, .int .i64 0, .int .u64 0, .int .u64 0] 49)) = W0 at bl n4' lW ⊢
  go_at_call 35
  (with_reducible refine (con.out _ lW.out).mono ?_)
  rintro e_ w1 ⟨rfl, q1⟩
  have ho := Lib.hid q1
  obtain ⟨bR, bO, bW⟩ := bl.out w1 ho.out
  have bW0 := Lib.hid bW
  obtain ⟨c0, c1, c2, c3, c4, c5, c6, c7, f0, f1, f2, f3, f4, f5, f6, f7⟩ := want_cells bW
  have r0 : w1.cell? ⟨w.heap.size, 0, none⟩ = some (.int .i64 (b : Int)) := (by simp [World.cell?, bR])
  have r1 : w1.cell? ⟨w.heap.size, 1, none⟩ = some (.int .i64 (c : Int)) := (by simp [World.cell?, bR])
  have o1 : w1.cell? ⟨w.heap.size + 1, 1, none⟩ = some (.int .u64 v) := (by simp [World.cell?, bO])
  clear bR bO bW
  go_wp2
  refine bodyPost_ret (results_agg rfl _ _ (w.heap.size + 1 + 1) [.bool x0, .int .i64 x1, .int .i64 x2, .int .u64 x3, .int .u64 x4, .int .i64 x5, .int .u64 x6, .int .u64 x7] Try.isAgg49 Try.sizeOf49 rfl (set8_heap bW0.out (.bool x0) (.int .i64 x1) (.int .i64 x2) (.int .u64 x3) (.int .u64 x4) (.int .i64 x5) (.int .u64 x6) (.int .u64 x7))) rfl ?_
  exact ⟨rfl, (n4'.out.trans ho.out).then (set8_only _ _ (.bool x0) (.int .i64 x1) (.int .i64 x2) (.int .u64 x3) (.int .u64 x4) (.int .i64 x5) (.int .u64 x6) (.int .u64 x7)) (fun q hq hl => by omega)⟩

set_option maxRecDepth 100000 in
set_option maxHeartbeats 2000000 in
theorem rnext_pop (w : World) (b c : Nat) (v : Int) (a : Option Addr) (cap : Nat) (log : List Int) (hc : 0 < c) (hc2 : c ≤ 64) (hb : b ≤ 1000) (hl : LogIn w a log) (hf : Fits c (.pop0) log) (hlen : log.length ≤ 1000000) :
    Calls Try.prog 18 #[.agg #[.int .i64 (b : Int), .int .i64 (c : Int)], .agg #[.int .i64 2, .int .u64 v, .slice a log.length cap]] w fun e w' => e = .returned (wantOf b c (runL c (.pop0) log)) ∧ Only Nil w w' := by
  have hl' := Lib.hid hl
  have con := Lib.hid (fun (w' : World) (h : LogIn w' a log) => rpop_any w' b c v a cap log hc hc2 hb h hf)
  clear hl hf
  generalize runL c (.pop0) log = fin at con ⊢
  obtain ⟨x0, x1, x2, x3, x4, x5, x6, x7, hx⟩ := wantOf_agg b c fin
  rw [hx] at con ⊢
  clear hx
  generalize log.length = n at hlen con ⊢
  have hlen' : (n : Int) ≤ 1000000 := by omega
  go_enter Try.func18, Try.ntmps18
  go_wp2_with fail
  obtain ⟨n1, n2, n3, n4⟩ := three_new w (.cells #[.int .i64 (b : Int), .int .i64 (c : Int)] 31) (.cells #[.int .i64 2, .int .u64 v, .slice a n cap] 44) (.cells #[.bool false, .int .i64 0, .int .i64 0, .int .u64 0, .int .u64 0, .int .i64 0, .int .u64 0, .int .u64 0] 49)
  have lW := Lib.hid (hl'.out.keep n4 (fun _ _ _ h => h.elim))
  have bl := Lib.hid (fun (w' : World) (o : Only Nil (((w.alloc (.cells #[.int .i64 (b : Int), .int .i64 (c : Int)] 31)).alloc (.cells #[.int .i64 2, .int .u64 v, .slice a n cap] 44)).alloc (.cells #[.bool false, .int .i64 0, .int .i64 0, .int .u64 0, .int .u64 0, .int .i64 0, .int .u64 0, .int .u64 0] 49)) w') =>
    And.intro ((o.block _ (lt_of_block n1) (fun h => h)).trans n1) (And.intro ((o.block _ (lt_of_block n2) (fun h => h)).trans n2) ((o.block _ (lt_of_block n3) (fun h => h)).trans n3)))
  have n4' := Lib.hid n4
  clear n1 n2 n3 n4 hl'
  generalize (((w.alloc (.cells #[.int .i64 (b : Int), .int .i64 (c : Int)] 31)).alloc (.cells #[.int .i64 2, .int .u64 v, .slice a n cap] 44)).alloc (.cells #[.bool false, .int .i64 0, .int .i64 0, .int .u64 0, .int .u64 0, .int .i64 0, .int .u64 0, .int .u64 0] 49)) = W0 at bl n4' lW ⊢
  go_at_call 36
  (with_reducible refine (con.out _ lW.out).mono ?_)
  rintro e_ w1 ⟨rfl, q1⟩
  have ho := Lib.hid q1
  obtain ⟨bR, bO, bW⟩ := bl.out w1 ho.out
  have bW0 := Lib.hid bW
  obtain ⟨c0, c1, c2, c3, c4, c5, c6, c7, f0, f1, f2, f3, f4, f5, f6, f7⟩ := want_cells bW
  have r0 : w1.cell? ⟨w.heap.size, 0, none⟩ = some (.int .i64 (b : Int)) := (by simp [World.cell?, bR])
  have r1 : w1.cell? ⟨w.heap.size, 1, none⟩ = some (.int .i64 (c : Int)) := (by simp [World.cell?, bR])
  have o1 : w1.cell? ⟨w.heap.size + 1, 1, none⟩ = some (.int .u64 v) := (by simp [World.cell?, bO])
  clear bR bO bW
  go_wp2
  refine bodyPost_ret (results_agg rfl _ _ (w.heap.size + 1 + 1) [.bool x0, .int .i64 x1, .int .i64 x2, .int .u64 x3, .int .u64 x4, .int .i64 x5, .int .u64 x6, .int .u64 x7] Try.isAgg49 Try.sizeOf49 rfl (set8_heap bW0.out (.bool x0) (.int .i64 x1) (.int .i64 x2) (.int .u64 x3) (.int .u64 x4) (.int .i64 x5) (.int .u64 x6) (.int .u64 x7))) rfl ?_
  exact ⟨rfl, (n4'.out.trans ho.out).then (set8_only _ _ (.bool x0) (.int .i64 x1) (.int .i64 x2) (.int .u64 x3) (.int .u64 x4) (.int .i64 x5) (.int .u64 x6) (.int .u64 x7)) (fun q hq hl => by omega)⟩

set_option maxRecDepth 100000 in
set_option maxHeartbeats 2000000 in
theorem rnext_steal (w : World) (b c : Nat) (v : Int) (a : Option Addr) (cap : Nat) (log : List Int) (hc : 0 < c) (hc2 : c ≤ 64) (hb : b ≤ 1000) (hl : LogIn w a log) (hf : Fits c (.st0) log) (hlen : log.length ≤ 1000000) :
    Calls Try.prog 18 #[.agg #[.int .i64 (b : Int), .int .i64 (c : Int)], .agg #[.int .i64 3, .int .u64 v, .slice a log.length cap]] w fun e w' => e = .returned (wantOf b c (runL c (.st0) log)) ∧ Only Nil w w' := by
  have hl' := Lib.hid hl
  have con := Lib.hid (fun (w' : World) (h : LogIn w' a log) => rsteal_any w' b c v a cap log hc hc2 hb h hf)
  clear hl hf
  generalize runL c (.st0) log = fin at con ⊢
  obtain ⟨x0, x1, x2, x3, x4, x5, x6, x7, hx⟩ := wantOf_agg b c fin
  rw [hx] at con ⊢
  clear hx
  generalize log.length = n at hlen con ⊢
  have hlen' : (n : Int) ≤ 1000000 := by omega
  go_enter Try.func18, Try.ntmps18
  go_wp2_with fail
  obtain ⟨n1, n2, n3, n4⟩ := three_new w (.cells #[.int .i64 (b : Int), .int .i64 (c : Int)] 31) (.cells #[.int .i64 3, .int .u64 v, .slice a n cap] 44) (.cells #[.bool false, .int .i64 0, .int .i64 0, .int .u64 0, .int .u64 0, .int .i64 0, .int .u64 0, .int .u64 0] 49)
  have lW := Lib.hid (hl'.out.keep n4 (fun _ _ _ h => h.elim))
  have bl := Lib.hid (fun (w' : World) (o : Only Nil (((w.alloc (.cells #[.int .i64 (b : Int), .int .i64 (c : Int)] 31)).alloc (.cells #[.int .i64 3, .int .u64 v, .slice a n cap] 44)).alloc (.cells #[.bool false, .int .i64 0, .int .i64 0, .int .u64 0, .int .u64 0, .int .i64 0, .int .u64 0, .int .u64 0] 49)) w') =>
    And.intro ((o.block _ (lt_of_block n1) (fun h => h)).trans n1) (And.intro ((o.block _ (lt_of_block n2) (fun h => h)).trans n2) ((o.block _ (lt_of_block n3) (fun h => h)).trans n3)))
  have n4' := Lib.hid n4
  clear n1 n2 n3 n4 hl'
  generalize (((w.alloc (.cells #[.int .i64 (b : Int), .int .i64 (c : Int)] 31)).alloc (.cells #[.int .i64 3, .int .u64 v, .slice a n cap] 44)).alloc (.cells #[.bool false, .int .i64 0, .int .i64 0, .int .u64 0, .int .u64 0, .int .i64 0, .int .u64 0, .int .u64 0] 49)) = W0 at bl n4' lW ⊢
  go_at_call 37
  (with_reducible refine (con.out _ lW.out).mono ?_)
  rintro e_ w1 ⟨rfl, q1⟩
  have ho := Lib.hid q1
  obtain ⟨bR, bO, bW⟩ := bl.out w1 ho.out
  have bW0 := Lib.hid bW
  obtain ⟨c0, c1, c2, c3, c4, c5, c6, c7, f0, f1, f2, f3, f4, f5, f6, f7⟩ := want_cells bW
  have r0 : w1.cell? ⟨w.heap.size, 0, none⟩ = some (.int .i64 (b : Int)) := (by simp [World.cell?, bR])
  have r1 : w1.cell? ⟨w.heap.size, 1, none⟩ = some (.int .i64 (c : Int)) := (by simp [World.cell?, bR])
  have o1 : w1.cell? ⟨w.heap.size + 1, 1, none⟩ = some (.int .u64 v) := (by simp [World.cell?, bO])
  clear bR bO bW
  go_wp2
  refine bodyPost_ret (results_agg rfl _ _ (w.heap.size + 1 + 1) [.bool x0, .int .i64 x1, .int .i64 x2, .int .u64 x3, .int .u64 x4, .int .i64 x5, .int .u64 x6, .int .u64 x7] Try.isAgg49 Try.sizeOf49 rfl (set8_heap bW0.out (.bool x0) (.int .i64 x1) (.int .i64 x2) (.int .u64 x3) (.int .u64 x4) (.int .i64 x5) (.int .u64 x6) (.int .u64 x7))) rfl ?_
  exact ⟨rfl, (n4'.out.trans ho.out).then (set8_only _ _ (.bool x0) (.int .i64 x1) (.int .i64 x2) (.int .u64 x3) (.int .u64 x4) (.int .i64 x5) (.int .u64 x6) (.int .u64 x7)) (fun q hq hl => by omega)⟩

theorem rnext_any (w : World) (b c kind : Nat) (v : Int) (a : Option Addr) (cap : Nat) (log : List Int) (hk : 1 ≤ kind ∧ kind ≤ 3) (hc : 0 < c) (hc2 : c ≤ 64) (hb : b ≤ 1000) (hl : LogIn w a log) (hf : Fits c (begin kind v) log) (hlen : log.length ≤ 1000000) :
    Calls Try.prog 18 #[.agg #[.int .i64 (b : Int), .int .i64 (c : Int)], .agg #[.int .i64 (kind : Int), .int .u64 v, .slice a log.length cap]] w fun e w' => e = .returned (wantOf b c (runL c (begin kind v) log)) ∧ Only Nil w w' := by
  have hcases : kind = 1 ∨ kind = 2 ∨ kind = 3 := by omega
  rcases hcases with rfl | rfl | rfl
  · exact rnext_push w b c v a cap log hc hc2 hb hl hf hlen
  · exact rnext_pop w b c v a cap log hc hc2 hb hl hf hlen
  · exact rnext_steal w b c v a cap log hc hc2 hb hl hf hlen
end Go.Proofs.Ythebfnmihjbajaa.Dq
