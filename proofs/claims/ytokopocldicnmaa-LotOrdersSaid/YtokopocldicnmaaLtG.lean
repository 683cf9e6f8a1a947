/- lot: the document's There, Order, Ways. -/
import Derived.Test.YtokopocldicnmaaLtAllW
namespace Go.Proofs.Ytokopocldicnmaa.Lt
open Go.RowKit Go.Proofs.Ytokopocldicnmaa

/-- Who isn't gone below k. -/
def lf (G : Nat → Bool) (k : Nat) : List Nat := (List.range k).filter fun v => !G v
theorem lf_zero (G : Nat → Bool) : lf G 0 = [] := rfl
theorem lf_succ (G : Nat → Bool) (k : Nat) : lf G (k + 1) = if G k then lf G k else lf G k ++ [k] := by
  unfold lf
  rw [List.range_succ, List.filter_append]
  cases h : G k <;> simp [h]
theorem lf_congr {G H : Nat → Bool} {k : Nat} (h : ∀ v, v < k → G v = H v) : lf G k = lf H k := by
  unfold lf
  apply List.filter_congr
  intro v hv
  rw [h v (by simpa using hv)]
theorem lf_start (n s : Nat) : lf (fun v => v == s) n = upTo n s := rfl
theorem lf_len_mono (G : Nat → Bool) {i j : Nat} (h : i ≤ j) : (lf G i).length ≤ (lf G j).length := by
  induction h with
  | refl => exact Nat.le_refl _
  | step _ ih =>
    rw [lf_succ]
    split
    · exact ih
    · rw [List.length_append]; omega
theorem fac_at {k : Nat} (h : 2 ≤ k) : fac k = k * fac (k - 1) := by
  obtain ⟨j, rfl⟩ : ∃ j, k = j + 1 := ⟨k - 1, by omega⟩
  rfl
/-- The one at the place: what is left ahead of it, itself, what is left behind it. -/
theorem lf_split (G : Nat → Bool) (v : Nat) (hv : G v = false) : ∀ n, v < n → ∃ B, lf G n = lf G v ++ v :: B ∧ lf (upd G v true) n = lf G v ++ B := by
  intro n
  induction n with
  | zero => intro h; omega
  | succ n ih =>
    intro h
    by_cases e : v = n
    · subst e
      refine ⟨[], ?_, ?_⟩
      · rw [lf_succ, hv]; rfl
      · rw [lf_succ, upd_same, if_pos rfl, List.append_nil]
        exact lf_congr (fun u hu => upd_other _ _ _ _ (by omega))
    · obtain ⟨B, h1, h2⟩ := ih (by omega)
      rw [lf_succ, lf_succ, upd_other _ _ _ _ (fun h => e h.symm), h1, h2]
      cases G n
      · exact ⟨B ++ [n], by simp, by simp⟩
      · exact ⟨B, by simp, by simp⟩
theorem lf_pick {G : Nat → Bool} {v n : Nat} (hv : G v = false) (hn : v < n) : (lf G n).getD (lf G v).length 0 = v ∧ lf (upd G v true) n = (lf G n).eraseIdx (lf G v).length := by
  obtain ⟨B, h1, h2⟩ := lf_split G v hv n hn
  refine ⟨by rw [h1]; simp [List.getD_eq_getElem?_getD], ?_⟩
  rw [h1, h2, List.eraseIdx_append_of_length_le (Nat.le_refl _)]
  simp

theorem there_any (n s : Int) (w : World) : Calls Try.prog 76 #[.int .i64 n, .int .i64 s] w fun e w' => e = .returned (.bool (decide (There n s))) ∧ w = w' := by
  by_cases h : There n s
  · have h' := h
    unfold There at h'
    rw [show decide (There n s) = true from decide_eq_true h]
    obtain ⟨h1, h2, h3, h4⟩ := h'
    clear h
    go_enter Try.func76, Try.ntmps76
    go_wp2
    go_ret
    exact ⟨rfl, rfl⟩
  · rw [show decide (There n s) = false from decide_eq_false h]
    unfold There at h
    by_cases h1 : 1 ≤ n
    · by_cases h2 : n ≤ 8
      · by_cases h3 : 0 ≤ s
        · have h4 : ¬ s < n := fun h4 => h ⟨h1, h2, h3, h4⟩
          clear h
          go_enter Try.func76, Try.ntmps76
          go_wp2
          go_ret
          exact ⟨rfl, rfl⟩
        · clear h
          go_enter Try.func76, Try.ntmps76
          go_wp2
          go_ret
          exact ⟨rfl, rfl⟩
      · clear h
        go_enter Try.func76, Try.ntmps76
        go_wp2
        go_ret
        exact ⟨rfl, rfl⟩
    · clear h
      go_enter Try.func76, Try.ntmps76
      go_wp2
      go_ret
      exact ⟨rfl, rfl⟩

theorem rorder_no (d n s : Int) (h : ¬ There n s) (w : World) : Calls Try.prog 42 #[.int .u64 d, .int .i64 n, .int .i64 s] w fun e w' => e = .returned (.slice none 0 0) ∧ Only Nil w w' := by
  have e := there_any n s
  rw [show decide (There n s) = false from decide_eq_false h] at e
  clear h
  have e' := Lib.hid e
  clear e
  go_enter Try.func42, Try.ntmps42
  go_wp2_with (go_at_call 76; (with_reducible refine (e'.out _).mono ?_); rintro e w' ⟨rfl, rfl⟩)
  go_ret
  exact ⟨rfl, Only.refl _ _⟩

theorem rways_no (n : Int) (h : ¬ (1 ≤ n ∧ n ≤ 8)) (w : World) : Calls Try.prog 44 #[.int .i64 n] w fun e w' => e = .returned (.int .i64 0) ∧ w = w' := by
  by_cases h1 : n < 1
  · clear h
    go_enter Try.func44, Try.ntmps44
    go_wp2
    go_ret
    exact ⟨rfl, rfl⟩
  · have h2 : 8 < n := by omega
    clear h
    go_enter Try.func44, Try.ntmps44
    go_wp2
    go_ret
    exact ⟨rfl, rfl⟩

set_option maxRecDepth 100000 in
theorem rways_yes (n : Nat) (hn : 1 ≤ n) (hn8 : n ≤ 8) (w : World) : Calls Try.prog 44 #[.int .i64 (n : Int)] w fun e w' => e = .returned (.int .i64 (fac (n - 1) : Nat)) ∧ w = w' := by
  have h1 : ¬ ((n : Int) < 1) := by omega
  have h8 : (n : Int) ≤ 8 := by omega
  have hf := Lib.hid (fun k (h : k ≤ 7) => fac_le h)
  have hn' := Lib.hid hn
  have hn8' := Lib.hid hn8
  clear hn hn8
  go_enter Try.func44, Try.ntmps44
  go_wp2
  go_loopw [3, 4] (fun s3 s4 wr => ∃ (k f : Nat), 2 ≤ k ∧ (k ≤ n ∨ k = 2) ∧ s4 = .int .i64 (k : Int) ∧ s3 = .int .i64 (f : Int) ∧ Hid (f = fac (k - 1)) ∧ wr = w)
    (fun _ s4 _ => n - (intOf s4).toNat)
  case atStart => exact ⟨2, 1, by omega, .inr rfl, rfl, rfl, Lib.hid rfl, rfl⟩
  case round =>
    obtain ⟨k, f, hk2, hk, rfl, rfl, hF, rfl⟩ := hrel
    have hn8 := hn8'.out
    by_cases hkm : k < n
    · have f5 : (f : Int) ≤ 5040 := by have := hf.out (k - 1) (by omega); rw [← hF.out] at this; omega
      have f6 : k * f ≤ 5040 := by have := hf.out k (by omega); rw [fac_at hk2, ← hF.out] at this; exact this
      obtain ⟨z, hz⟩ : ∃ z, z = k * f := ⟨_, rfl⟩
      have hz1 : (f : Int) * (k : Int) = (z : Int) := by rw [hz, Int.mul_comm]; simp
      have hz5 : (z : Int) ≤ 5040 := by omega
      have hz' := Lib.hid (show z = fac k by rw [hz, hF.out, fac_at hk2])
      have hk7 : (k : Int) ≤ 7 := by omega
      have hk2' := Lib.hid hk2
      clear hz f6 hk hk2 hn8
      go_wp2
      go_roundw
      case rel => exact ⟨k + 1, z, by have := hk2'.out; omega, .inl (by omega), by go_num, rfl, hz', trivial⟩
      case measure => simp [intOf]; omega
    · have hk0 : ¬ (k : Int) < (n : Int) := by omega
      have hn1 := hn'.out
      have he : f = fac (n - 1) := by
        rw [hF.out]
        rcases Nat.lt_or_ge n 2 with h | h
        · have : k = 2 := by omega
          rw [this, show n = 1 by omega]; rfl
        · rw [show k = n by omega]
      have he' := Lib.hid he
      clear he hk hk2 hn8 hn1 hkm
      go_wp2
      go_ret
      exact ⟨by rw [← he'.out]; rfl, rfl⟩
end Go.Proofs.Ytokopocldicnmaa.Lt
