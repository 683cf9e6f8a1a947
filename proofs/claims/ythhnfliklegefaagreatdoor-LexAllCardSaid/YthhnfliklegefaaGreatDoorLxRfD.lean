/- lex, the document's: Same; All as it is asked. -/
import Derived.Test.YthhnfliklegefaaGreatDoorLxRfC
import Derived.Test.YthhnfliklegefaaGreatDoorLxM
namespace Go.Proofs.YthhnfliklegefaaGreatDoor.Lx
open Go.RowKit Go.Proofs.YthhnfliklegefaaGreatDoor

theorem rall_any (l : List UInt8) (w : World) (hl : l.length ≤ 140737488355328) : Calls Tryz.prog 11 #[.string (bs l)] w (RPost w l) := by
  by_cases h : l.length ≤ 16384
  · exact rall_short l w h
  · exact rall_long l w (by omega) hl
theorem rall_ok (l : List UInt8) (w : World) (hl : l.length ≤ 140737488355328) (h : (whole l).2.1 = 0) (X : List (Tok × Nat)) (hX : (whole l).1 = X) (n : Nat) (hn : X.length = n) :
    Calls Tryz.prog 11 #[.string (bs l)] w fun e w' => ∃ a c, e = .returned (.tuple #[.slice a n c, .int .i64 0, .int .i64 (-1)]) ∧ Rs w w' (.slice a n c) X := by
  subst hX
  refine (rall_any l w hl).mono fun e w' hp => ?_
  cases hp with
  | ok a k c _ hk he hr => obtain rfl : k = n := by omega
                           exact ⟨a, c, he, hr⟩
  | bad hz => exact absurd h hz
theorem rall_err (l : List UInt8) (w : World) (hl : l.length ≤ 140737488355328) (z q : Nat) (h : (whole l).2 = (z, q)) (h0 : z ≠ 0) :
    Calls Tryz.prog 11 #[.string (bs l)] w fun e w' => e = .returned (.tuple #[.slice none 0 0, .int .i64 z, .int .i64 q]) ∧ Only Nil w w' := by
  refine (rall_any l w hl).mono fun e w' hp => ?_
  cases hp with
  | ok a k c hz _ _ _ => rw [h] at hz; exact absurd hz h0
  | bad hz he ho => rw [h] at he; exact ⟨he, ho⟩

set_option maxRecDepth 100000 in
set_option maxHeartbeats 1000000 in
theorem same_any (X : List (Tok × Nat)) (n c c2 : Nat) (a a2 : Option Addr) (w : World) (hn : X.length = n) (hb : n ≤ 100000) (h1 : RIn w a X) (h2 : RIn w a2 X) :
    Calls Tryz.prog 14 #[.slice a n c, .slice a2 n c2] w fun e w' => e = .returned (.bool true) ∧ Only Nil w w' := by
  have HN := Lib.hid hn
  have H1 := Lib.hid h1
  have H2 := Lib.hid h2
  clear hn h1 h2
  go_enter Tryz.func14, Tryz.ntmps14
  go_wp2
  go_loopw [5] (fun s5 wr => ∃ i : Nat, i ≤ n ∧ s5 = .int .i64 (i : Int) ∧ Only Nil w wr ∧ RIn wr a X ∧ RIn wr a2 X) (fun s5 _ => n - (intOf s5).toNat)
  case atStart => exact ⟨0, Nat.zero_le _, rfl, Only.refl _ _, H1.out, H2.out⟩
  case round =>
    obtain ⟨i, hi, rfl, o, x1, x2⟩ := hrel
    have K1 := Lib.hid x1
    have K2 := Lib.hid x2
    clear x1 x2
    by_cases hlt : i < n
    · obtain ⟨b, ha, _, hc⟩ := K1.out i (by rw [HN.out]; exact hlt)
      subst ha
      obtain ⟨c0, c1, c2, c3⟩ := hc i (by rw [HN.out]; exact hlt)
      obtain ⟨b2, ha2, _, hc2⟩ := K2.out i (by rw [HN.out]; exact hlt)
      subst ha2
      obtain ⟨d0, d1, d2, d3⟩ := hc2 i (by rw [HN.out]; exact hlt)
      generalize (X.getD i default).1.k = k at *
      generalize (X.getD i default).1.w = ws at *
      generalize (X.getD i default).1.n = m at *
      generalize (X.getD i default).2 = q at *
      clear hc hc2
      go_upto_region 6 with (fail)
      go_quiet (fail)
      clear c0 c1 c2 c3 d0 d1 d2 d3
      go_wp2
      go_roundw
      case rel => exact ⟨i + 1, hlt, by go_num, o.drewN _, K1.out.keep ((Only.refl Nil _).drewN _), K2.out.keep ((Only.refl Nil _).drewN _)⟩
      case measure => simp [intOf]; omega
    · go_wp2
      go_ret
      exact ⟨rfl, o⟩
end Go.Proofs.YthhnfliklegefaaGreatDoor.Lx
