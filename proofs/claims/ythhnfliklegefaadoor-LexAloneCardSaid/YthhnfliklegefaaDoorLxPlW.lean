/- LexPlaces' walk. -/
import Derived.Test.YthhnfliklegefaaDoorLxM
import Derived.Test.YthhnfliklegefaaDoorLxPlA
import Derived.IntWalk
namespace Go.Proofs.YthhnfliklegefaaDoor.Lx
open Go.RowKit Go.Proofs.YthhnfliklegefaaDoor

theorem whole_ok {l : List UInt8} (h : (whole l).2.1 = 0) : l.length ≤ 16384 ∧ whole l = LX l.length l := by
  by_cases hl : 16384 < l.length
  · have e : whole l = ([], 5, 0) := if_pos hl
    rw [e] at h; cases h
  · exact ⟨by omega, if_neg hl⟩
theorem LX_count (N k : Nat) (m : List UInt8) (hk : m.length ≤ k) : (LX N m).1.length ≤ m.length := by
  induction k generalizing m with
  | zero =>
    have : m = [] := List.eq_nil_of_length_eq_zero (by omega)
    subst this
    rw [LX_nil rfl]; exact Nat.le_refl _
  | succ k ih =>
    cases hs : sk false m with
    | nil => rw [LX_nil hs]; exact Nat.zero_le _
    | cons c r =>
      by_cases h0 : (tok (c :: r)).1 = 0
      · rw [LX_tok hs h0]
        have hl1 := sk_le false m
        rw [hs] at hl1
        obtain ⟨hp, hpre⟩ := tok_pos h0
        have hpl := hpre.length_le
        have := ih ((c :: r).drop (tok (c :: r)).2.w.length) (by simp at hl1 hpl ⊢; omega)
        simp at this hl1 hpl ⊢; omega
      · rw [LX_bad hs h0]; exact Nat.zero_le _

theorem str_slice (l ws : List UInt8) (q m : Nat) (hm : m ≤ l.length) (hq : q ≤ m) (h : (l.take m).drop q = ws) (w : World) :
    (Instr.slice 9 (.string (bs l)) (some (.int .i64 (q : Int))) (some (.int .i64 (m : Int))) none).run Tryd.prog w = .ok (.string (bs ws)) w := by
  have e : (bs l).extract q m = bs ws := by rw [bs_extract, h]
  rw [← e]
  simp [go_sem, Tryd.underlying9]
  rw [if_pos hm, if_pos hq]

set_option maxRecDepth 100000 in
set_option maxHeartbeats 2000000 in
theorem places_all (l : List UInt8) (w : World) (hl : l.length ≤ 140737488355328) (E : Env w) : Calls Tryd.prog 4 #[.string (bs l)] w fun e w' => e = .returned (.bool true) ∧ Below w.heap.size w w' := by
  have HE := Lib.hid E
  clear E
  by_cases h0 : (whole l).2.1 = 0
  · obtain ⟨hs, hw⟩ := whole_ok h0
    have hch : Chain l 0 (whole l).1 := by
      rw [hw]; exact chain_le (chain_LX l l.length l (Nat.le_refl _) (List.suffix_refl _)) (Nat.zero_le _)
    have hcnt : (whole l).1.length ≤ 16384 := by rw [hw]; have := LX_count l.length l.length l (Nat.le_refl _); omega
    have HA := Lib.hid (fun (w : World) (E : Env w) => all_ok l w hl E h0 _ rfl _ rfl)
    clear h0 hw
    generalize (whole l).1 = X at *
    have HC := Lib.hid hch
    clear hch
    generalize hn : X.length = n at *
    have HN := Lib.hid hn
    clear hn
    have hz : (bs l).size = l.length := bs_size l
    go_enter Tryd.func4, Tryd.ntmps4
    go_wp2_with fail
    refine (alive_any w HE.out).mono ?_
    rintro e w1 ⟨rfl, o1⟩
    go_wp2_with fail
    refine (HA.out w1 (HE.out.keep o1)).mono ?_
    rintro e w2 ⟨a, c, rfl, R⟩
    have HR := Lib.hid R
    clear R
    have o2 := Lib.hid (o1.trans HR.out.only)
    go_wp2_with fail
    go_loopw [5, 6] (fun s5 s6 wr => ∃ i : Nat, i ≤ n ∧ s5 = .int .i64 (tends 0 X i : Nat) ∧ s6 = .int .i64 (i : Int) ∧ Only Nil w wr ∧ RIn wr a X)
      (fun _ s6 _ => n - (intOf s6).toNat)
    case atStart => exact ⟨0, Nat.zero_le _, rfl, rfl, o2.out, HR.out.rin HN.out⟩
    case round =>
      obtain ⟨i, hi, rfl, rfl, o, hin⟩ := hrel
      have HI := Lib.hid hin
      clear hin
      by_cases hlt : i < n
      · obtain ⟨b, ha, _, hcells⟩ := HI.out i (by rw [HN.out]; exact hlt)
        subst ha
        obtain ⟨c0, c1, c2, c3⟩ := hcells i (by rw [HN.out]; exact hlt)
        have hk := chain_at HC.out i (by rw [HN.out]; exact hlt)
        have hnext : Hid (tends 0 X (i + 1) = (X.getD i default).2 + (X.getD i default).1.w.length) := Lib.hid rfl
        generalize (X.getD i default).1.k = k at *
        generalize (X.getD i default).1.n = m at *
        generalize (X.getD i default).1.w = ws at *
        generalize (X.getD i default).2 = q at *
        generalize tends 0 X i = en at *
        obtain ⟨k1, k2, k3, k4⟩ := hk
        have hsl := Lib.hid (str_slice l ws q (q + ws.length) k3 (by omega) k4)
        have hz2 : (bs ws).size = ws.length := bs_size ws
        clear hcells k4
        have hI := Lib.hid (HI.out.keep ((Only.refl Nil wr).alloc (.cells #[.int .i64 k, .string (bs ws), .int .i64 m, .int .i64 q] 38)))
        have oT := Lib.hid (o.trans ((Only.refl Nil wr).alloc (.cells #[.int .i64 k, .string (bs ws), .int .i64 m, .int .i64 q] 38)))
        have hT := heap_new wr (.cells #[.int .i64 k, .string (bs ws), .int .i64 m, .int .i64 q] 38)
        obtain ⟨wT, hwT⟩ : ∃ wT, wT = wr.alloc (.cells #[.int .i64 k, .string (bs ws), .int .i64 m, .int .i64 q] 38) := ⟨_, rfl⟩
        rw [← hwT] at hI oT hT
        go_upto_region 11 with (fail)
        rw [← hwT]
        generalize hO : wr.heap.size = O at *
        clear hwT c0 c1 c2 c3 hO
        obtain ⟨d0, d1, d2, d3, _, _, _, _⟩ := four_cells hT
        have g1 : decide (q < en) = false := by simp; omega
        have g2 : decide ((ws.length : Int) < 1) = false := by simp; omega
        have g3 : IntKind.i64.wrap ((l.length : Int) - (ws.length : Int)) = (l.length : Int) - (ws.length : Int) := IntWalk.i64_in _ (by omega)
        have g4 : decide ((l.length : Int) - (ws.length : Int) < (q : Int)) = false := by simp; omega
        have g5 : IntKind.i64.wrap ((q : Int) + (ws.length : Int)) = (q : Int) + (ws.length : Int) := IntWalk.i64_in _ (by omega)
        have s1 : ∀ w, (Instr.slice 9 (.string (bs l)) (some (.int .i64 (q : Int))) (some (.int .i64 ((q : Int) + (ws.length : Int)))) none).run Tryd.prog w = .ok (.string (bs ws)) w := hsl.out
        go_quiet (fail)
        clear s1 hsl g1 g2 g3 g4 g5
        go_wp2
        go_roundw
        case rel => exact ⟨i + 1, by omega, by rw [hnext.out]; rfl, by go_num, oT.out.drewN _, hI.out.keep ((Only.refl Nil _).drewN _)⟩
        case measure => simp [intOf]; omega
      · go_wp2
        go_ret
        exact ⟨rfl, o.below (Nat.le_refl _) (fun k h => h.elim)⟩
  · have HA := Lib.hid (fun (w : World) (E : Env w) => all_err l w hl E (whole l).2.1 (whole l).2.2 rfl h0)
    clear h0
    generalize (whole l).2.1 = z at *
    generalize (whole l).2.2 = q at *
    go_enter Tryd.func4, Tryd.ntmps4
    go_wp2_with fail
    refine (alive_any w HE.out).mono ?_
    rintro e w1 ⟨rfl, o1⟩
    go_wp2_with fail
    refine (HA.out w1 (HE.out.keep o1)).mono ?_
    rintro e w2 ⟨b, rfl, _, o2⟩
    go_wp2
    go_ret
    exact ⟨rfl, (o1.trans o2).below (Nat.le_refl _) (fun k h => h.elim)⟩
end Go.Proofs.YthhnfliklegefaaDoor.Lx
