/- LotBack: the walk. -/
import Derived.Test.YtokopocldicnmaaLtFirstW
namespace Go.Proofs.Ytokopocldicnmaa.Lt
open Go.RowKit Go.Proofs.Ytokopocldicnmaa

set_option maxRecDepth 100000 in
set_option maxHeartbeats 2000000 in
theorem back_all (z x y : Int) (w : World) (hz : 0 ≤ z ∧ z < 18446744073709551616) (hx : 0 ≤ x ∧ x < 256) (hy : 0 ≤ y ∧ y < 256) :
    Calls Try.prog 12 #[.int .u64 z, .int .u8 x, .int .u8 y] w fun e w' => e = .returned (.bool true) ∧ Below w.heap.size w w' := by
  obtain ⟨X, Y, p, n, s, rfl, rfl, hX, hY, e1, hp, e2, hn, e3, hs⟩ := who hx hy
  obtain ⟨D, rfl⟩ : ∃ D : Nat, z = (D : Int) := ⟨z.toNat, by omega⟩
  have hD : D < 18446744073709551616 := by omega
  have hX' : (X : Int) < 256 := by omega
  have hY' : (Y : Int) < 256 := by omega
  have hp' : (p : Int) ≤ 7 := by omega
  have hn8 : (n : Int) ≤ 8 := by omega
  have hsn : (s : Int) < (n : Int) := by omega
  have hn0 : ¬ ((n : Int) = 0) := by omega
  obtain ⟨m, hm⟩ : ∃ m, m = n - 1 := ⟨_, rfl⟩
  obtain ⟨F, hF⟩ : ∃ F, F = fac m := ⟨_, rfl⟩
  have f1 := fac_pos m
  have f2 := fac_le (k := m) (by omega)
  rw [← hF] at f1 f2
  obtain ⟨dd, hdd⟩ : ∃ dd, dd = D % F := ⟨_, rfl⟩
  have hdF : dd < F := by rw [hdd]; exact Nat.mod_lt _ f1
  have e4 : (D : Int) % (F : Int) = (dd : Int) := by rw [hdd]; simp
  have ul := upTo_length n s
  rw [if_pos hs, ← hm] at ul
  have hO : ord m D (upTo n s) = ord m dd (upTo n s) := by rw [hdd, hF, ord_mod]
  have hR : rk (ord m dd (upTo n s)) (upTo n s) 0 1 = some dd := by
    rw [rk_ord m dd _ 0 1 (upTo_nodup n s) ul, ← hF, Nat.mod_eq_of_lt hdF]; simp
  have oy1 := Lib.hid (order_yes dd n s (by omega) (by omega) (by omega) hs)
  have oy2 := Lib.hid (order_yes D n s hD (by omega) (by omega) hs)
  have wy := Lib.hid (ways_yes n (by omega) (by omega))
  have ry := Lib.hid (fun a c w h => rank_yes n s (by omega) (by omega) hs a c (ord m dd (upTo n s)) (by rw [ord_length, hm]) w h)
  rw [← hm] at oy1 oy2 wy ry
  rw [hO] at oy2
  rw [← hF] at wy
  rw [hR] at ry
  have ol := Lib.hid (ord_length m dd (upTo n s))
  generalize ord m dd (upTo n s) = O at *
  have fF1 : (1 : Int) ≤ (F : Int) := by omega
  have fF2 : (F : Int) ≤ 5040 := by omega
  have fm : max (1 : Int) (F : Int) = (F : Int) := by omega
  have hd5 : (dd : Int) < 5040 := by omega
  have hF0 : ¬ ((F : Int) = 0) := by omega
  have hD' : (D : Int) < 18446744073709551616 := by omega
  have hm7 : m ≤ 1000000 := by omega
  have hrv : rv (some dd) = .tuple #[.int .u64 (dd : Int), .bool true] := rfl
  rw [hrv] at ry
  clear hX hY hp hs hx hy hn hm hF hdd hO hR f1 f2 ul hrv hdF hD hz
  have hq := Lib.hid (Only.refl Nil w)
  go_enter Try.func12, Try.ntmps12
  go_wp2_with (first
    | (go_at_call 39; (with_reducible refine (alive_any _).mono ?_); rintro e w1 ⟨rfl, k1⟩; have q1 := Lib.hid k1; clear k1)
    | (go_at_call 43; (with_reducible refine (wy.out _).mono ?_); rintro e w2 ⟨rfl, rfl⟩)
    | (go_at_call 41; (with_reducible refine (oy1.out _).mono ?_); rintro e w3 ⟨v3, rfl, h3, k3⟩; obtain ⟨a3, c3, rfl, i3, _⟩ := own_nin h3.out; have i3' := Lib.hid i3; have q3 := Lib.hid (q1.out.trans k3); clear i3 k3 h3)
    | (go_at_call 45; (with_reducible refine (ry.out _ _ _ i3'.out).mono ?_); rintro e w4 ⟨rfl, k4⟩; have q4 := Lib.hid (q3.out.trans k4); clear k4))
  go_wp2_with (first
    | (go_at_call 41; (with_reducible refine (oy2.out _).mono ?_); rintro e w5 ⟨v5, rfl, h5, k5⟩; obtain ⟨a5, c5, rfl, i5, _⟩ := own_nin h5.out; have i5' := Lib.hid i5; have q5 := Lib.hid (q4.out.trans k5); clear i5 k5 h5)
    | (go_at_call 41; (with_reducible refine (oy1.out _).mono ?_); rintro e w6 ⟨v6, rfl, h6, k6⟩; obtain ⟨a6, c6, rfl, i6, _⟩ := own_nin h6.out; have i6' := Lib.hid i6; have i7' := Lib.hid (i5'.out.nil k6); have q6 := Lib.hid (q5.out.trans k6); clear i6 k6 h6)
    | (go_at_call 40; (with_reducible refine (ints_yes _ _ _ m _ _ O ol.out i7'.out i6'.out hm7).mono ?_); rintro e w8 ⟨rfl, k8⟩; have q8 := Lib.hid (q6.out.trans k8); clear k8))
  go_ret
  exact ⟨rfl, q8.out.below (Nat.le_refl _) (fun _ h => h.elim)⟩
end Go.Proofs.Ytokopocldicnmaa.Lt
