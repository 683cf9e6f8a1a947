/- LotFirst: the walk. -/
import Derived.Test.YtokopocldicnmaaLtF
namespace Go.Proofs.Ytokopocldicnmaa.Lt
open Go.RowKit Go.Proofs.Ytokopocldicnmaa

/-- How many there are, and who asks, out of two small numbers. -/
theorem who {x y : Int} (hx : 0 ≤ x ∧ x < 256) (hy : 0 ≤ y ∧ y < 256) : ∃ X Y p n s : Nat, x = (X : Int) ∧ y = (Y : Int) ∧ X < 256 ∧ Y < 256 ∧ (X : Int) % 8 = (p : Int) ∧ p ≤ 7 ∧ 1 + (p : Int) = (n : Int) ∧ n = p + 1 ∧ (Y : Int) % (n : Int) = (s : Int) ∧ s < n := by
  refine ⟨x.toNat, y.toNat, x.toNat % 8, x.toNat % 8 + 1, y.toNat % (x.toNat % 8 + 1), by omega, by omega, by omega, by omega, by omega, by omega, by omega, rfl, by simp, Nat.mod_lt _ (by omega)⟩

set_option maxRecDepth 100000 in
set_option maxHeartbeats 2000000 in
theorem first_all (x y : Int) (w : World) (hx : 0 ≤ x ∧ x < 256) (hy : 0 ≤ y ∧ y < 256) :
    Calls Try.prog 13 #[.int .u8 x, .int .u8 y] w fun e w' => e = .returned (.bool true) ∧ Below w.heap.size w w' := by
  obtain ⟨X, Y, p, n, s, rfl, rfl, hX, hY, e1, hp, e2, hn, e3, hs⟩ := who hx hy
  have hX' : (X : Int) < 256 := by omega
  have hY' : (Y : Int) < 256 := by omega
  have hp' : (p : Int) ≤ 7 := by omega
  have hn8 : (n : Int) ≤ 8 := by omega
  have hsn : (s : Int) < (n : Int) := by omega
  have hn0 : ¬ ((n : Int) = 0) := by omega
  have oy := Lib.hid (fun d (hd : d < 18446744073709551616) => order_yes d n s hd (by omega) (by omega) hs)
  have ul := upTo_length n s
  rw [if_pos hs] at ul
  have first := Lib.hid (fun d (hd : d < n - 1) => show (ord (n - 1) d (upTo n s)).getD 0 0 = if d < s then d else d + 1 from by rw [ord_first _ _ _ hd, upTo_get _ _ _ (by omega)])
  have ol := Lib.hid (fun d => ord_length (n - 1) d (upTo n s))
  have hn' := Lib.hid hn
  clear hX hY hp hs hx hy hn ul
  obtain ⟨m, hm⟩ : ∃ m, m = n - 1 := ⟨_, rfl⟩
  have hnm : (n : Int) - 1 = (m : Int) := by have := hn'.out; omega
  have hm7 : (m : Int) ≤ 7 := by omega
  rw [← hm] at first ol oy
  have hm' := Lib.hid hm
  clear hm
  have hq := Lib.hid (Only.refl Nil w)
  go_enter Try.func13, Try.ntmps13
  go_wp2_with (go_at_call 39; (with_reducible refine (alive_any _).mono ?_); rintro e w1 ⟨rfl, o1⟩)
  have o1' := Lib.hid o1
  clear o1
  simp only [e1, e3]
  clear e1 e2 e3
  go_loopw [7, 8] (fun s7 s8 wr => ∃ (d : Nat) (l : Int), d ≤ m ∧ s8 = .int .i64 (d : Int) ∧ s7 = .int .i64 l ∧ -1 ≤ l ∧ l < 9 ∧ Hid (l < ((if d < s then d else d + 1 : Nat) : Int)) ∧ Hid (Only Nil w wr))
    (fun _ s8 _ => m - (intOf s8).toNat)
  case atStart => exact ⟨0, -1, Nat.zero_le _, rfl, rfl, by omega, by omega, Lib.hid (by split <;> omega), o1'⟩
  case round =>
    obtain ⟨d, l, hd, rfl, rfl, l1, l2, I, ho⟩ := hrel
    by_cases hdm : d < m
    · have oy' := Lib.hid (oy.out d (by omega))
      obtain ⟨f, hf⟩ : ∃ f, f = if d < s then d else d + 1 := ⟨_, rfl⟩
      have fi := first.out d hdm
      have I' := I.out
      rw [← hf] at I' fi
      have hlf : l < (f : Int) := by omega
      have hlf2 : ¬ ((f : Int) ≤ l) := by omega
      have hf9 : (f : Int) ≤ 8 := by rw [hf]; split <;> omega
      have hfn : Hid (f < if d + 1 < s then d + 1 else d + 1 + 1) := by rw [hf]; show (_ < _); split <;> split <;> omega
      have fi' := Lib.hid fi
      have ol' := Lib.hid (ol.out d)
      clear I I' fi hf
      have hmpos : 0 < m := by omega
      go_wp2_with (go_at_call 41; (with_reducible refine (oy'.out _).mono ?_); rintro e w3 ⟨v3, rfl, h3, k3⟩; obtain ⟨a3, c3, rfl, i3, _⟩ := own_nin h3.out; obtain ⟨g3, rfl, _, c0⟩ := i3 0 (by rw [ol'.out]; omega); have c0' := c0 0 (by rw [ol'.out]; omega); rw [fi'.out] at c0'; clear c0 i3; have q3 := Lib.hid (ho.out.trans k3); clear k3)
      go_roundw
      case rel => exact ⟨d + 1, (f : Int), by omega, by go_num, rfl, by omega, by omega, (by have := hfn.out; exact Lib.hid (by omega)), q3⟩
      case measure => simp [intOf]; omega
    · obtain rfl : d = m := by omega
      have hk0 : ¬ (d : Int) < (d : Int) := by omega
      go_wp2
      go_ret
      exact ⟨rfl, ho.out.below (Nat.le_refl _) (fun _ h => h.elim)⟩
end Go.Proofs.Ytokopocldicnmaa.Lt
