/- lot: Rank, Ways; Ints. -/
import Derived.Test.YtokopocldicnmaaLtC
namespace Go.Proofs.Ytokopocldicnmaa.Lt
open Go.RowKit Go.Proofs.Ytokopocldicnmaa

/-- The least draw of an order, out of who is left, what the digits so far make, and the next digit's weight. -/
def rk : List Nat → List Nat → Nat → Nat → Option Nat
  | [], _, d, _ => some d
  | x :: X, L, d, q => if x ∈ L then rk X (L.eraseIdx (L.idxOf x)) (d + q * L.idxOf x) (q * L.length) else none
def rank (X : List Nat) (n s : Int) : Option Nat := if There n s ∧ X.length = n.toNat - 1 then rk X (upTo n.toNat s.toNat) 0 1 else none
/-- What Rank answers. -/
def rv (r : Option Nat) : Value := .tuple #[.int .u64 (r.getD 0 : Nat), .bool r.isSome]
def fac : Nat → Nat
  | 0 => 1
  | k + 1 => (k + 1) * fac k
theorem fac_succ (k : Nat) : fac (k + 1) = (k + 1) * fac k := rfl
theorem fac_le {k : Nat} (h : k ≤ 7) : fac k ≤ 5040 := by
  match k, h with
  | 0, _ => decide
  | 1, _ => decide
  | 2, _ => decide
  | 3, _ => decide
  | 4, _ => decide
  | 5, _ => decide
  | 6, _ => decide
  | 7, _ => decide
  | k + 8, h => omega
def ways (n : Int) : Nat := if 1 ≤ n ∧ n ≤ 8 then fac (n.toNat - 1) else 0

theorem rank_no (n s : Int) (h : ¬ There n s) (a : Option Addr) (len c : Nat) (w : World) : Calls Try.prog 45 #[.slice a len c, .int .i64 n, .int .i64 s] w fun e w' => e = .returned (.tuple #[.int .u64 0, .bool false]) ∧ Only Nil w w' := by
  have e := Lib.hid (others_no n s h)
  clear h
  go_enter Try.func45, Try.ntmps45
  go_wp2_with (go_at_call 74; (with_reducible refine (e.out _).mono ?_); rintro e1 w1 ⟨rfl, o1⟩)
  go_ret2
  exact ⟨rfl, o1⟩
theorem rank_len (n s : Nat) (hn : 1 ≤ n) (hn8 : n ≤ 8) (hs : s < n) (a : Option Addr) (len c : Nat) (hl : len ≠ n - 1) (w : World) : Calls Try.prog 45 #[.slice a len c, .int .i64 (n : Int), .int .i64 (s : Int)] w fun e w' => e = .returned (.tuple #[.int .u64 0, .bool false]) ∧ Only Nil w w' := by
  have e := Lib.hid (others_yes n s hn hn8 hs)
  obtain ⟨m, hm⟩ : ∃ m, m = n - 1 := ⟨_, rfl⟩
  rw [← hm] at hl e
  clear hm hs hn hn8
  have hl2 : ¬ ((len : Int) = (m : Int)) := by omega
  clear hl
  go_enter Try.func45, Try.ntmps45
  go_wp2_with (go_at_call 74; (with_reducible refine (e.out _).mono ?_); rintro e1 w1 ⟨v1, rfl, h1, o1⟩; obtain ⟨a1, c1, rfl, i1, _⟩ := own_nin h1.out; clear i1)
  go_ret2
  exact ⟨rfl, o1⟩

theorem ways_no (n : Int) (h : ¬ (1 ≤ n ∧ n ≤ 8)) (w : World) : Calls Try.prog 43 #[.int .i64 n] w fun e w' => e = .returned (.int .i64 0) ∧ w = w' := by
  have e := inRange_any n
  rw [show decide (1 ≤ n ∧ n ≤ 8) = false by simp only [h, decide_false]] at e
  clear h
  go_enter Try.func43, Try.ntmps43
  go_wp2_with (go_at_call 77; (with_reducible refine (e _).mono ?_); rintro e w' ⟨rfl, rfl⟩)
  go_ret
  exact ⟨rfl, rfl⟩

set_option maxRecDepth 100000 in
theorem ways_yes (n : Nat) (hn : 1 ≤ n) (hn8 : n ≤ 8) (w : World) : Calls Try.prog 43 #[.int .i64 (n : Int)] w fun e w' => e = .returned (.int .i64 (fac (n - 1) : Nat)) ∧ w = w' := by
  have e := inRange_any n
  have h1 : (1 : Int) ≤ n ∧ (n : Int) ≤ 8 := by omega
  rw [show decide ((1 : Int) ≤ n ∧ (n : Int) ≤ 8) = true by simp only [h1, and_self, decide_true]] at e
  have e' := Lib.hid e
  obtain ⟨m, rfl⟩ : ∃ m, n = m + 1 := ⟨n - 1, by omega⟩
  have hm7 : (m : Int) ≤ 7 := by omega
  rw [show ((m + 1 : Nat) : Int) = (m : Int) + 1 by omega] at e' ⊢
  rw [show m + 1 - 1 = m by omega]
  have hf := Lib.hid (fun k (h : k ≤ 7) => fac_le h)
  clear h1 e hn hn8
  go_enter Try.func43, Try.ntmps43
  go_wp2_with (go_at_call 77; (with_reducible refine (e'.out _).mono ?_); rintro e w' ⟨rfl, rfl⟩)
  go_loopw [3, 10] (fun s3 s10 wr => ∃ (k f : Nat), k ≤ m ∧ s10 = .int .i64 (k : Int) ∧ s3 = .int .i64 (f : Int) ∧ Hid (f = fac k) ∧ wr = w)
    (fun _ s10 _ => m - (intOf s10).toNat)
  case atStart => exact ⟨0, 1, Nat.zero_le _, rfl, rfl, Lib.hid rfl, rfl⟩
  case round =>
    obtain ⟨k, f, hk, rfl, rfl, hF, rfl⟩ := hrel
    by_cases hkm : k < m
    · have f5 : (f : Int) ≤ 5040 := by have := hf.out k (by omega); rw [← hF.out] at this; omega
      have f6 : (k + 1) * f ≤ 5040 := by have := hf.out (k + 1) (by omega); rw [fac_succ, ← hF.out] at this; omega
      obtain ⟨z, hz⟩ : ∃ z, z = (k + 1) * f := ⟨_, rfl⟩
      have hz1 : (f : Int) * ((k : Int) + 1) = (z : Int) := by rw [hz, Int.mul_comm]; simp
      have hz5 : (z : Int) ≤ 5040 := by omega
      have hz' := Lib.hid hz
      clear hz f6
      go_wp2
      go_roundw
      case rel => exact ⟨k + 1, z, by omega, by go_num, rfl, Lib.hid (by rw [hz'.out, hF.out, fac_succ]), trivial⟩
      case measure => simp [intOf]; omega
    · obtain rfl : k = m := by omega
      have hk0 : ¬ (k : Int) < (k : Int) := by omega
      go_wp2
      go_ret
      exact ⟨by rw [← hF.out]; rfl, rfl⟩

/-- Ints, of two slices that hold the same numbers. -/
theorem ints_yes (w : World) (a1 a2 : Option Addr) (n c1 c2 : Nat) (X : List Nat) (hl : X.length = n) (h1 : NIn w a1 X) (h2 : NIn w a2 X) (hX : n ≤ 1000000) :
    Calls Try.prog 40 #[.slice a1 n c1, .slice a2 n c2] w fun e w' => e = .returned (.bool true) ∧ Only Nil w w' := by
  have k1 := Lib.hid h1
  have k2 := Lib.hid h2
  clear h1 h2
  have hlen' := Lib.hid hl
  clear hl
  have hl2 : (n : Int) ≤ 1000000 := by omega
  go_enter Try.func40, Try.ntmps40
  go_wp2
  go_loopw [5] (fun i wr => ∃ (k q : Nat), k ≤ n ∧ i = .int .i64 (k : Int) ∧ wr = w.drewN q)
    (fun i _ => n - (intOf i).toNat)
  case atStart => exact ⟨0, 0, Nat.zero_le _, rfl, rfl⟩
  case round =>
    obtain ⟨k, q, hk, rfl, rfl⟩ := hrel
    by_cases hlt : k < n
    · obtain ⟨g1, rfl, _, q1⟩ := k1.out k (by rw [hlen'.out]; exact hlt)
      obtain ⟨g2, rfl, _, q2⟩ := k2.out k (by rw [hlen'.out]; exact hlt)
      have x1 := q1 k (by rw [hlen'.out]; exact hlt)
      have x2 := q2 k (by rw [hlen'.out]; exact hlt)
      clear q1 q2
      generalize X.getD k 0 = x at x1 x2
      go_wp2
      go_quiet (fail)
      go_wp2
      go_roundw
      case rel => exact ⟨k + 1, _, by omega, by go_num, rfl⟩
      case measure => simp [intOf]; omega
    · go_wp2
      go_ret
      exact ⟨rfl, (Only.refl _ _).drewN _⟩

theorem idx_first (x : Nat) : ∀ (L : List Nat) (j : Nat), j < L.idxOf x → L.getD j 0 ≠ x := by
  intro L
  induction L with
  | nil => intro j h; simp at h
  | cons y L ih =>
    intro j h
    rw [List.idxOf_cons] at h
    by_cases e : y = x
    · simp [e] at h
    · have e2 : (y == x) = false := by simp [e]
      rw [e2] at h
      cases j with
      | zero => simpa using e
      | succ j => have := ih j (by simp at h; omega); simpa using this
theorem lt_pow {k q : Nat} (hq : q ≤ 8 ^ k) (hk : k ≤ 7) : q ≤ 2097152 := Nat.le_trans hq (Nat.le_trans (Nat.pow_le_pow_right (by decide) hk) (by decide))

set_option maxHeartbeats 2000000 in
set_option maxRecDepth 100000 in
theorem rank_yes (n s : Nat) (hn : 1 ≤ n) (hn8 : n ≤ 8) (hs : s < n) (a : Option Addr) (c : Nat) (X : List Nat) (hX : X.length = n - 1) (w : World) (hin : NIn w a X) : Calls Try.prog 45 #[.slice a (n - 1) c, .int .i64 (n : Int), .int .i64 (s : Int)] w fun e w' => e = .returned (rv (rk X (upTo n s) 0 1)) ∧ Only Nil w w' := by
  have e := Lib.hid (others_yes n s hn hn8 hs)
  have hul := upTo_length n s
  rw [if_pos hs] at hul
  obtain ⟨m, hm⟩ : ∃ m, m = n - 1 := ⟨_, rfl⟩
  rw [← hm] at hul e hX ⊢
  have hm7 : m ≤ 7 := by omega
  have hm7i : (m : Int) ≤ 7 := by omega
  clear hm hs hn hn8
  generalize upTo n s = U at *
  have hul' := Lib.hid hul
  have hX' := Lib.hid hX
  have hin' := Lib.hid hin
  clear hul hX hin
  obtain ⟨R, hR⟩ : ∃ R, R = rk X U 0 1 := ⟨_, rfl⟩
  rw [← hR]
  have hR' := Lib.hid hR
  clear hR
  go_enter Try.func45, Try.ntmps45
  go_wp2_with (go_at_call 74; (with_reducible refine (e.out _).mono ?_); rintro e1 w1 ⟨v1, rfl, h1, o1⟩; obtain ⟨a1, c1, rfl, i1, _⟩ := own_nin h1.out; clear i1)
  have o1' := Lib.hid o1
  clear o1
  go_loopw [8, 10, 11, 32] (fun s8 s10 s11 s32 wr => ∃ (L : List Nat) (len k dd q : Nat) (b : Option Addr) (d : Nat), s8 = .slice b len d ∧ s10 = .int .u64 (dd : Int) ∧ s11 = .int .u64 (q : Int) ∧ s32 = .int .i64 (k : Int) ∧ k + len = m ∧ Hid (wr.ownsRow w.heap.size 3 1 (.slice b len d) len (nv L)) ∧ Hid (L.length = len ∧ rk (X.drop k) L dd q = R ∧ dd < q ∧ q ≤ 8 ^ k) ∧ Hid (Only Nil w wr))
    (fun _ _ _ s32 _ => m - (intOf s32).toNat)
  case atStart => exact ⟨U, m, 0, 0, 1, a1, c1, rfl, rfl, rfl, rfl, by omega, h1, Lib.hid ⟨hul'.out, hR'.out.symm, by decide, by decide⟩, o1'⟩
  case round =>
    obtain ⟨L, len, k, dd, q, b, d, rfl, rfl, rfl, rfl, hkl, hL, I, ho⟩ := hrel
    by_cases hkm : k < m
    · obtain ⟨i1, i2, i3, i4⟩ := I.out
      have q2 := lt_pow i4 (by omega)
      have hpos : 0 < len := by omega
      have hl7 : (len : Int) ≤ 7 := by omega
      obtain ⟨g, rfl, _, hc⟩ := (hin'.out.nil ho.out) k (by rw [hX'.out]; exact hkm)
      have c0 := hc k (by rw [hX'.out]; exact hkm)
      obtain ⟨x, hx⟩ : ∃ x, x = X.getD k 0 := ⟨_, rfl⟩
      have hdrop : X.drop k = x :: X.drop (k + 1) := by
        rw [hx, List.drop_eq_getElem_cons (by rw [hX'.out]; exact hkm)]
        simp [List.getD_eq_getElem?_getD, List.getElem?_eq_getElem (show k < X.length by rw [hX'.out]; exact hkm)]
      rw [← hx] at c0
      rw [hdrop] at i2
      simp only [rk] at i2
      obtain ⟨b', d', hv, hin2, _⟩ := own_nin hL.out
      injection hv with ha hb hc2
      subst ha hc2
      by_cases hmem : x ∈ L
      · rw [if_pos hmem] at i2
        obtain ⟨i, hi⟩ : ∃ i, i = L.idxOf x := ⟨_, rfl⟩
        rw [← hi] at i2
        have hil : i < L.length := by rw [hi]; exact List.idxOf_lt_length_of_mem hmem
        have hgi : L.getD i 0 = x := by
          have : L[L.idxOf x]'(by rw [← hi]; exact hil) = x := List.getElem_idxOf _
          rw [hi]; simp [List.getD_eq_getElem?_getD, List.getElem?_eq_getElem (show L.idxOf x < L.length by rw [← hi]; exact hil), this]
        have hfi : ∀ j, j < i → L.getD j 0 ≠ x := by
          intro j hj he
          exact idx_first x L j (by omega) he
        have hil2 : i < len := by omega
        have ix := Lib.hid (show ∀ c, Calls Try.prog 78 #[.slice b len c, .int .i64 (x : Int)] wr fun e w' => e = .returned (.int .i64 (i : Int)) ∧ wr = w' from fun c => by
          have := index_yes (cap := c) hin2 (by omega) x i hil hgi hfi
          rw [i1] at this; exact this)
        have del := Lib.hid (show Calls Try.prog 75 #[.slice b len d, .int .i64 (i : Int), .int .i64 ((i : Int) + 1)] wr fun e w'' =>
            ∃ u, e = .returned u ∧ Hid (w''.ownsRow w.heap.size 3 1 u (len - 1) (nv (L.eraseIdx i))) ∧ Only (fun q => some q = (Value.slice b len d).ownBlock) wr w'' ∧ u.ownBlock = (Value.slice b len d).ownBlock from by
          have := delete_any (L := L) (by rw [i1]; exact hL.out) (by omega) i hil
          rw [i1] at this; exact this)
        obtain ⟨z, hz⟩ : ∃ z, z = q * i := ⟨_, rfl⟩
        obtain ⟨y, hy⟩ : ∃ y, y = q * len := ⟨_, rfl⟩
        have hz1 : (q : Int) * (i : Int) = (z : Int) := by rw [hz]; simp
        have hy1 : (q : Int) * (len : Int) = (y : Int) := by rw [hy]; simp
        have hz2 : z ≤ 2097152 * 7 := by rw [hz]; exact Nat.mul_le_mul q2 (by omega)
        have hy2 : y ≤ 2097152 * 7 := by rw [hy]; exact Nat.mul_le_mul q2 (by omega)
        have hz3 : (z : Int) ≤ 14680064 := by omega
        have hy3 : (y : Int) ≤ 14680064 := by omega
        have hd3 : (dd : Int) ≤ 2097152 := by omega
        have hq3 : (q : Int) ≤ 2097152 := by omega
        have hlt3 : dd + z < y := by
          have : q * (i + 1) ≤ q * len := Nat.mul_le_mul_left _ (by omega)
          rw [Nat.mul_add, Nat.mul_one, ← hz, ← hy] at this
          omega
        have hpow : y ≤ 8 ^ (k + 1) := by rw [hy, Nat.pow_succ]; exact Nat.mul_le_mul i4 (by omega)
        rw [← hz, i1, ← hy] at i2
        have hel : (L.eraseIdx i).length = len - 1 := by rw [List.length_eraseIdx, if_pos (by omega)]; omega
        have J := Lib.hid (And.intro hel (And.intro i2 (And.intro hlt3 hpow)))
        clear hz hy hz2 hy2 hel i2 hlt3 hpow i1 i3 i4 q2 hgi hfi hi hmem hin2 hdrop hx hc I hil
        go_wp2_with (first
          | (go_at_call 78; (with_reducible refine (ix.out _).mono ?_); rintro e2 w2 ⟨rfl, rfl⟩)
          | (go_at_call 75; (with_reducible refine (del.out).mono ?_); rintro e5 w5 ⟨u5, rfl, h5, o5, hb5⟩))
        obtain ⟨a5, c5, rfl⟩ := own_slice_n h5.out
        have o6 := Lib.hid (ho.out.then o5 (fun j hj hl => by
          have := (hL.out.lt j (by rw [← hj])).1
          omega))
        clear o5 hb5
        go_roundw
        case rel => exact ⟨L.eraseIdx i, len - 1, k + 1, dd + z, y, a5, c5, rfl, by go_num, rfl, by go_num, by omega, h5, J, o6⟩
        case measure => simp [intOf]; omega
      · rw [if_neg hmem] at i2
        have hfi : ∀ j, j < L.length → L.getD j 0 ≠ x := by
          intro j hj he
          exact hmem (by rw [← he]; simp [List.getD_eq_getElem?_getD, List.getElem?_eq_getElem hj])
        have ix := Lib.hid (show ∀ c, Calls Try.prog 78 #[.slice b len c, .int .i64 (x : Int)] wr fun e w' => e = .returned (.int .i64 (-1)) ∧ wr = w' from fun c => by
          have := index_no (cap := c) hin2 (by omega) x hfi
          rw [i1] at this; exact this)
        subst i2
        clear i1 i3 i4 q2 hfi hmem hin2 hdrop hx hc I
        go_wp2_with (go_at_call 78; (with_reducible refine (ix.out _).mono ?_); rintro e2 w2 ⟨rfl, rfl⟩)
        go_ret2
        exact ⟨rfl, ho.out⟩
    · obtain rfl : k = m := by omega
      have hk0 : ¬ (k : Int) < (k : Int) := by omega
      have i2 := I.out.2.1
      rw [List.drop_eq_nil_of_le (by rw [hX'.out]; omega)] at i2
      simp only [rk] at i2
      subst i2
      clear I
      go_wp2
      go_ret2
      exact ⟨rfl, ho.out⟩
end Go.Proofs.Ytokopocldicnmaa.Lt
