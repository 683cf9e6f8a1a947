/- Whom one rouses: slices.Contains at the ways in which a box rests. -/
import Derived.Test.YtmkcmncbiancgaaPoD
import Derived.LoopTactic
namespace Go.Proofs.Ytmkcmncbiancgaa.Po
open Go.RowKit Go.Proofs.Ytmkcmncbiancgaa

section
variable {A : BA} {F G H H' S : Nat → Prop} {w W w' w1 : World} {v : Value}
theorem idx_yes {g n : Nat} {f : Nat → Int} (hc : ∀ j, j < n → w.cell? ⟨g, j, none⟩ = some (.int .u64 (f j))) (hn : n ≤ 2) (x : Int) (i : Nat) (hi : i < n) (hx : f i = x) (hf : ∀ j, j < i → f j ≠ x) :
    Calls Try.prog 97 #[.slice (some ⟨g, 0, none⟩) n n, .int .u64 x] w fun e w' => e = .returned (.int .i64 (i : Int)) ∧ w = w' := by
  have h' := Lib.hid hc
  have hf' := Lib.hid hf
  have hx' := Lib.hid hx
  have hn' : (n : Int) ≤ 2 := by omega
  have hi' := Lib.hid hi
  clear hc hf hx hi hn
  go_enter Try.func97, Try.ntmps97
  go_wp2
  go_loopw [8] (fun s8 wr => ∃ (k : Nat), k ≤ i ∧ s8 = .int .i64 (k : Int) ∧ wr = w)
    (fun s8 _ => i - (intOf s8).toNat)
  case atStart => exact ⟨0, Nat.zero_le _, rfl, rfl⟩
  case round =>
    obtain ⟨k, hk, rfl, rfl⟩ := hrel
    have hkl : k < n := by have := hi'.out; omega
    have c0 := h'.out k hkl
    by_cases e : k = i
    · subst e
      rw [hx'.out] at c0
      go_wp2
      go_ret
      exact ⟨rfl, rfl⟩
    · have hne := hf'.out k (by omega)
      generalize f k = y at *
      have hne' : ¬ (x = y) := fun h => hne h.symm
      clear hne
      go_wp2
      go_roundw
      case rel => exact ⟨k + 1, by omega, by go_num, trivial⟩
      case measure => simp [intOf]; omega
theorem idx_no {g n : Nat} {f : Nat → Int} (hc : ∀ j, j < n → w.cell? ⟨g, j, none⟩ = some (.int .u64 (f j))) (hn : n ≤ 2) (x : Int) (hf : ∀ j, j < n → f j ≠ x) :
    Calls Try.prog 97 #[.slice (some ⟨g, 0, none⟩) n n, .int .u64 x] w fun e w' => e = .returned (.int .i64 (-1)) ∧ w = w' := by
  have h' := Lib.hid hc
  have hf' := Lib.hid hf
  have hn' : (n : Int) ≤ 2 := by omega
  clear hc hf hn
  go_enter Try.func97, Try.ntmps97
  go_wp2
  go_loopw [8] (fun s8 wr => ∃ (k : Nat), k ≤ n ∧ s8 = .int .i64 (k : Int) ∧ wr = w)
    (fun s8 _ => n - (intOf s8).toNat)
  case atStart => exact ⟨0, Nat.zero_le _, rfl, rfl⟩
  case round =>
    obtain ⟨k, hk, rfl, rfl⟩ := hrel
    by_cases e : k = n
    · subst e
      go_wp2
      go_ret
      exact ⟨rfl, rfl⟩
    · have hkl : k < n := by omega
      have c0 := h'.out k hkl
      have hne := hf'.out k hkl
      generalize f k = y at *
      have hne' : ¬ (x = y) := fun h => hne h.symm
      have hkl' : (k : Int) < (n : Int) := by omega
      clear hne
      go_wp2
      go_roundw
      case rel => exact ⟨k + 1, by omega, by go_num, trivial⟩
      case measure => simp [intOf]; omega
theorem contains_of {v : Value} {x : Int} {i : Int} {z : Bool} (hz : decide (i ≥ 0) = z)
    (hi : ∃ g n, v = .slice (some ⟨g, 0, none⟩) n n ∧ Calls Try.prog 97 #[.slice (some ⟨g, 0, none⟩) n n, .int .u64 x] w fun e w' => e = .returned (.int .i64 i) ∧ w = w') :
    Calls Try.prog 90 #[v, .int .u64 x] w fun e w' => e = .returned (.bool z) ∧ w = w' := by
  obtain ⟨g, n, rfl, hi⟩ := hi
  subst hz
  have hi' := Lib.hid hi
  clear hi
  go_enter Try.func90, Try.ntmps90
  go_wp2_with (go_at_call 97; refine (hi'.out).mono ?_; rintro e w1 ⟨rfl, rfl⟩)
  go_ret
  exact ⟨rfl, rfl⟩
/-- One rests so that one is roused. -/
def rsts (k : Bool) (x : Int) : Bool := decide (x = 0 ∨ (k = true ∧ x = 3))
theorem contains_any {k : Bool} (hv : rests F w v k) (x : Int) :
    Calls Try.prog 90 #[v, .int .u64 x] w fun e w' => e = .returned (.bool (rsts k x)) ∧ w = w' := by
  cases k
  · obtain ⟨g, rfl, h⟩ := hv
    have hc : ∀ j, j < 1 → w.cell? ⟨g, j, none⟩ = some (.int .u64 ((fun _ => 0 : Nat → Int) j)) := fun j hj => by
      obtain rfl : j = 0 := by omega
      simp [World.cell?, h.2]
    by_cases hx : x = 0
    · subst hx
      exact contains_of (i := ((0 : Nat) : Int)) (by simp [rsts]) ⟨g, 1, rfl, idx_yes hc (by omega) 0 0 (by omega) rfl (fun j hj => by omega)⟩
    · exact contains_of (i := -1) (by simp [rsts, hx]) ⟨g, 1, rfl, idx_no hc (by omega) x (fun j hj e => hx e.symm)⟩
  · obtain ⟨g, rfl, h⟩ := hv
    have hc : ∀ j, j < 2 → w.cell? ⟨g, j, none⟩ = some (.int .u64 ((fun j => if j = 0 then 0 else 3 : Nat → Int) j)) := fun j hj => by
      rcases (show j = 0 ∨ j = 1 by omega) with rfl | rfl <;> simp [World.cell?, h.2]
    by_cases hx : x = 0
    · subst hx
      exact contains_of (i := ((0 : Nat) : Int)) (by simp [rsts]) ⟨g, 2, rfl, idx_yes hc (by omega) 0 0 (by omega) rfl (fun j hj => by omega)⟩
    · by_cases h3 : x = 3
      · subst h3
        exact contains_of (i := ((1 : Nat) : Int)) (by simp [rsts]) ⟨g, 2, rfl, idx_yes hc (by omega) 3 1 (by omega) rfl (fun j hj => by rcases (show j = 0 by omega) with rfl; simp)⟩
      · exact contains_of (i := -1) (by simp [rsts, hx, h3]) ⟨g, 2, rfl, idx_no hc (by omega) x (fun j hj => by rcases (show j = 0 ∨ j = 1 by omega) with rfl | rfl <;> simp <;> omega)⟩
end
end Go.Proofs.Ytmkcmncbiancgaa.Po
