/- wheel: visit, whatever is shown to. -/
import Derived.Test.YtpmgmdlfnlmieaaWhC
import Derived.Shelf.Abstract
namespace Go.Proofs.Ytpmgmdlfnlmieaa.Wh
open Go.RowKit Go.Proofs.Ytpmgmdlfnlmieaa

theorem run_ix (w : World) (V : Nat → Value) (m j : Nat) (hj : j < 8) :
    Sem.run Try.prog (Instr.index 59 (.agg #[V m, V (m + 1), V (m + 2), V (m + 3), V (m + 4), V (m + 5), V (m + 6), V (m + 7)]) (.int .i64 (j : Int))) w = .ok (V (m + j)) w := by
  have hu := Try.underlying59
  have hs := Try.sizeOf58
  have : j = 0 ∨ j = 1 ∨ j = 2 ∨ j = 3 ∨ j = 4 ∨ j = 5 ∨ j = 6 ∨ j = 7 := by omega
  rcases this with rfl | rfl | rfl | rfl | rfl | rfl | rfl | rfl
  all_goals
    simp [Instr.index, asIntOf, run_underlying hu, hs, Sem.run_bind, Result.andThen, part]

set_option maxHeartbeats 1000000 in
set_option maxRecDepth 100000 in
theorem visit_any {S : Nat → Prop} {hb now added : Nat} {V : Nat → Value} {F : Nat → List Tm} (g : FuncId) (cb : Array Value)
    (eg : ∀ args w, (callFunc g args).run Try.prog w = .ok (.enter g args) w) (I : Nat → Nat → World → Prop) (D : World → Prop)
    (hI : ∀ n i w, I n i w → At w S hb now added V F) (hsm : ∀ n, n < 32 → (F n).length ≤ 65536) (hnext : ∀ n w, n < 32 → I n (F n).length w → I (n + 1) 0 w) (halloc : ∀ n i w w', I n i w → Only Nil w w' → I n i w')
    (step : ∀ k j i w, k < 4 → j < 8 → i < (F (8 * k + j)).length → I (8 * k + j) i w → Calls Try.prog g (#[.agg #[.int .i64 (k : Int), .int .i64 (j : Int), .int .i64 (i : Int)], .agg #[.int .u64 (((F (8 * k + j)).getD i default).id : Int), .int .i64 (((F (8 * k + j)).getD i default).due : Int), .int .i64 (((F (8 * k + j)).getD i default).num : Int)]] ++ cb) w
      fun e w' => (e = .returned (.bool true) ∧ I (8 * k + j) (i + 1) w') ∨ (e = .returned (.bool false) ∧ D w'))
    (w : World) (h0 : I 0 0 w) :
    Calls Try.prog 32 #[.pointer (some ⟨hb, 0, none⟩), .func (.func g) #[] cb] w fun e w' => e = .returned (.tuple #[]) ∧ (I 32 0 w' ∨ D w') := by
  have hI' := Lib.hid hI
  have hsm' := Lib.hid hsm
  have hnext' := Lib.hid hnext
  have halloc' := Lib.hid halloc
  have step' := Lib.hid step
  have h0' := Lib.hid h0
  clear hI hsm hnext halloc step h0
  go_enter Try.func32, Try.ntmps32
  go_wp2
  go_loopw [9] (fun s9 wr => ∃ (k : Nat), k ≤ 4 ∧ s9 = .int .i64 (k : Int) ∧ Hid (I (8 * k) 0 wr))
    (fun s9 _ => 4 - (intOf s9).toNat)
  case atStart => exact ⟨0, by omega, rfl, h0'⟩
  case round =>
    obtain ⟨k, hk, rfl, hIk⟩ := hrel
    by_cases hk4 : k < 4
    · have hA := hI'.out _ _ _ hIk.out
      have hw1 : ∀ j, j < 8 → wr.cell? ⟨hb, 2 + k * 8 + j, none⟩ = some (V (8 * k + j)) := fun j hj => by
        have := hA.cs (8 * k + j) (by omega)
        rw [show 2 + k * 8 + j = 8 * k + j + 2 by omega]; exact this
      have hc0 : wr.cell? ⟨hb, 2 + k * 8, none⟩ = some (V (8 * k)) := hw1 0 (by decide)
      have hc1 := hw1 1 (by decide)
      have hc2 := hw1 2 (by decide)
      have hc3 := hw1 3 (by decide)
      have hc4 := hw1 4 (by decide)
      have hc5 := hw1 5 (by decide)
      have hc6 := hw1 6 (by decide)
      have hc7 := hw1 7 (by decide)
      clear hw1 hA
      have hk4' : (k : Int) < 4 := by omega
      go_wp2
      go_loopw [18] (fun s18 wt => ∃ (j : Nat), j ≤ 8 ∧ s18 = .int .i64 (j : Int) ∧ Hid (I (8 * k + j) 0 wt))
        (fun s18 _ => 8 - (intOf s18).toNat)
      case atStart => exact ⟨0, by omega, rfl, hIk⟩
      case round =>
        obtain ⟨j, hj, rfl, hIj⟩ := hrel
        by_cases hj8 : j < 8
        · have hj8' : (j : Int) < 8 := by omega
          have hix := run_ix wr V (8 * k) j hj8
          have hA := hI'.out _ _ _ hIj.out
          have hown := hA.row (8 * k + j) (by omega)
          have nx := Lib.hid (fun w => hnext'.out (8 * k + j) w (by omega))
          have h64 := hsm'.out (8 * k + j) (by omega)
          have st := Lib.hid (fun i w hi hIi => step'.out k j i w hk4 hj8 hi hIi)
          have ha := Lib.hid (halloc'.out (8 * k + j))
          have hAt := Lib.hid (fun i w (h : I (8 * k + j) i w) => (hI'.out (8 * k + j) i w h).row (8 * k + j) (by omega))
          obtain ⟨a, c, hv⟩ := own_slice_n hown
          rw [hv] at hix hAt
          clear hA hown hv hc0 hc1 hc2 hc3 hc4 hc5 hc6 hc7
          generalize hX : F (8 * k + j) = X at *
          clear hX
          have hn32 : 8 * k + j < 32 := by omega
          have hjn : 8 * k + (j + 1) = 8 * k + j + 1 := by omega
          have hj' := Lib.hid hjn
          clear hjn
          generalize hn : 8 * k + j = n at *
          have hn' := Lib.hid hn
          clear hn
          generalize hlen : X.length = len at *
          have hlen' := Lib.hid hlen
          clear hlen
          have h64' : (len : Int) ≤ 65536 := by omega
          clear hn32
          go_wp2
          go_loopw [24] (fun s24 wi => ∃ (i : Nat), i ≤ len ∧ s24 = .int .i64 (i : Int) ∧ Hid (I n i wi))
            (fun s24 _ => len - (intOf s24).toNat)
          case atStart => exact ⟨0, by omega, rfl, hIj⟩
          case round =>
            obtain ⟨i, hi, rfl, hIi⟩ := hrel
            by_cases hil : i < len
            · obtain ⟨b, rfl, _, hc⟩ := own_tin (hAt.out i _ hIi.out) i (by rw [hlen'.out]; exact hil)
              obtain ⟨c0, c1, c2⟩ := hc i (by rw [hlen'.out]; exact hil)
              have stp := Lib.hid (fun w (h : I n i w) => st.out i w hil h)
              clear hc st hix
              have hil' : (i : Int) < (len : Int) := by omega
              generalize (X.getD i default).id = x0 at *
              generalize (X.getD i default).due = x1 at *
              generalize (X.getD i default).num = x2 at *
              have hIi' := Lib.hid (ha.out i _ _ hIi.out ((Only.refl Nil wr).alloc (.cells #[.int .u64 (x0 : Int), .int .i64 (x1 : Int), .int .i64 (x2 : Int)] 67)))
              go_wp2_with (go_at_fn g; (with_reducible refine (stp.out _ hIi'.out).mono ?_); rintro e w' (⟨rfl, hw'⟩ | ⟨rfl, hw'⟩))
              · go_roundw
                case rel => exact ⟨i + 1, by omega, by go_num, Lib.hid hw'⟩
                case measure => simp [intOf]; omega
              · (try simp only [Exit.inBlock, Exit.then]); refine bodyPost_ret (results_none rfl _ _ _) rfl ?_
                exact ⟨rfl, .inr hw'⟩
            · obtain rfl : i = len := by omega
              have hk0 : ¬ (i : Int) < (i : Int) := by omega
              have hN := Lib.hid (nx.out _ hIi.out)
              clear hix st
              go_wp2
              go_roundw
              case rel => exact ⟨j + 1, by omega, by go_num, Lib.hid (by rw [hj'.out]; exact hN.out)⟩
              case measure => simp [intOf]; omega
        · obtain rfl : j = 8 := by omega
          go_wp2
          go_roundw
          case rel => exact ⟨k + 1, by omega, by go_num, Lib.hid (by have := hIj.out; rwa [show 8 * k + 8 = 8 * (k + 1) by omega] at this)⟩
          case measure => simp [intOf]; omega
    · obtain rfl : k = 4 := by omega
      go_wp2
      go_end0
      exact ⟨rfl, .inl hIk.out⟩
end Go.Proofs.Ytpmgmdlfnlmieaa.Wh
