/- lot: the others of a number, an order of theirs, in plain words; inRange, others. -/
import Derived.Test.YtokopocldicnmaaRowC
import Derived.SizedLaws
namespace Go.Proofs.Ytokopocldicnmaa.Lt
open Go.RowKit Go.Proofs.Ytokopocldicnmaa

/-- Numbers as cells. -/
def nv (X : List Nat) : List Value := X.map fun (x : Nat) => Value.int .i64 (x : Int)
theorem nv_length (X : List Nat) : (nv X).length = X.length := by simp [nv]
theorem nv_append (X Y : List Nat) : nv (X ++ Y) = nv X ++ nv Y := by simp [nv]
theorem nv_one (X : List Nat) : ∀ u ∈ nv X, u.oneCell' = true := by
  intro u hu
  simp only [nv, List.mem_map] at hu
  obtain ⟨x, _, rfl⟩ := hu; rfl
theorem nv_get (X : List Nat) (i : Nat) (hi : i < X.length) : (nv X)[i]? = some (.int .i64 (X.getD i 0 : Nat)) := by simp [nv, hi]
theorem one_one (x : Int) : ∀ u ∈ [Value.int .i64 x], u.oneCell' = true := by intro u hu; simp at hu; subst hu; rfl

/-- Those below k but s. -/
def upTo (k s : Nat) : List Nat := (List.range k).filter fun x => !(x == s)
theorem upTo_succ (k s : Nat) : upTo (k + 1) s = if k = s then upTo k s else upTo k s ++ [k] := by
  unfold upTo
  rw [List.range_succ, List.filter_append]
  by_cases h : k = s <;> simp [h]
theorem upTo_length (k s : Nat) : (upTo k s).length = if s < k then k - 1 else k := by
  induction k with
  | zero => simp [upTo]
  | succ k ih =>
    rw [upTo_succ]
    by_cases h : k = s
    · subst h; rw [if_pos rfl, ih, if_neg (Nat.lt_irrefl _), if_pos (by omega)]; omega
    · rw [if_neg h, List.length_append, ih]
      by_cases h2 : s < k
      · rw [if_pos h2, if_pos (by omega)]; simp; omega
      · rw [if_neg h2, if_neg (by omega)]; simp
theorem upTo_le (k s : Nat) : (upTo k s).length ≤ k := by rw [upTo_length]; split <;> omega

/-- The order of a draw. -/
def ord : Nat → Nat → List Nat → List Nat
  | 0, _, _ => []
  | k + 1, d, L => L.getD (d % (k + 1)) 0 :: ord k (d / (k + 1)) (L.eraseIdx (d % (k + 1)))

/-- Are the others there? -/
def There (n s : Int) : Prop := 1 ≤ n ∧ n ≤ 8 ∧ 0 ≤ s ∧ s < n
instance (n s : Int) : Decidable (There n s) := inferInstanceAs (Decidable (_ ∧ _ ∧ _ ∧ _))

theorem inRange_any (n : Int) (w : World) : Calls Try.prog 77 #[.int .i64 n] w fun e w' => e = .returned (.bool (decide (1 ≤ n ∧ n ≤ 8))) ∧ w = w' := by
  by_cases h1 : 1 ≤ n
  · by_cases h2 : n ≤ 8
    · rw [show decide (1 ≤ n ∧ n ≤ 8) = true by simp [h1, h2]]
      go_enter Try.func77, Try.ntmps77
      go_wp2
      go_ret
      exact ⟨rfl, rfl⟩
    · rw [show decide (1 ≤ n ∧ n ≤ 8) = false by simp [h2]]
      go_enter Try.func77, Try.ntmps77
      go_wp2
      go_ret
      exact ⟨rfl, rfl⟩
  · rw [show decide (1 ≤ n ∧ n ≤ 8) = false by simp [h1]]
    go_enter Try.func77, Try.ntmps77
    go_wp2
    go_ret
    exact ⟨rfl, rfl⟩

/-- A step of one's own rows. -/
theorem own_grow {w0 w w' : World} {base : Nat} {e : TypeId} {s : Nat} {v : Value} {n : Nat} {xs : List Value} (h : Only Nil w0 w) (hg : w.grownBy w' v.ownBlock) (ho : w.ownsRow base e s v n xs) (hb : w0.heap.size ≤ base) : Only Nil w0 w' := by
  refine h.then (Only.ofGrown hg) (fun i hi hlt => ?_)
  have := ho.lt i hi.symm
  omega

theorem others_no (n s : Int) (h : ¬ There n s) (w : World) : Calls Try.prog 74 #[.int .i64 n, .int .i64 s] w fun e w' => e = .returned (.tuple #[.slice none 0 0, .bool false]) ∧ Only Nil w w' := by
  unfold There at h
  by_cases h1 : 1 ≤ n ∧ n ≤ 8
  · have e := inRange_any n
    simp only [h1, and_self, decide_true] at e
    by_cases h2 : s < 0
    · go_enter Try.func74, Try.ntmps74
      go_wp2_with (go_at_call 77; (with_reducible refine (e _).mono ?_); rintro e w' ⟨rfl, rfl⟩)
      go_ret2
      exact ⟨rfl, Only.refl _ _⟩
    · have h3 : n ≤ s := by omega
      go_enter Try.func74, Try.ntmps74
      go_wp2_with (go_at_call 77; (with_reducible refine (e _).mono ?_); rintro e w' ⟨rfl, rfl⟩)
      go_ret2
      exact ⟨rfl, Only.refl _ _⟩
  · have e := inRange_any n
    rw [show decide (1 ≤ n ∧ n ≤ 8) = false by simp [h1]] at e
    clear h
    go_enter Try.func74, Try.ntmps74
    go_wp2_with (go_at_call 77; (with_reducible refine (e _).mono ?_); rintro e w' ⟨rfl, rfl⟩)
    go_ret2
    exact ⟨rfl, Only.refl _ _⟩

set_option maxHeartbeats 1000000 in
set_option maxRecDepth 100000 in
theorem others_yes (n s : Nat) (hn : 1 ≤ n) (hn8 : n ≤ 8) (hs : s < n) (w : World) : Calls Try.prog 74 #[.int .i64 (n : Int), .int .i64 (s : Int)] w fun e w' =>
    ∃ v, e = .returned (.tuple #[v, .bool true]) ∧ Hid (w'.ownsRow w.heap.size 3 1 v (n - 1) (nv (upTo n s))) ∧ Only Nil w w' := by
  have e := inRange_any n
  have h1 : (1 : Int) ≤ n ∧ (n : Int) ≤ 8 := by omega
  rw [show decide ((1 : Int) ≤ n ∧ (n : Int) ≤ 8) = true by simp only [h1, and_self, decide_true]] at e
  clear h1
  have hs2 : ¬ (n ≤ s) := by omega
  have hn1 : (1 : Int) ≤ (n : Int) := by omega
  have hn8i : (n : Int) ≤ 8 := by omega
  have hul := upTo_length n s
  rw [if_pos hs] at hul
  have hul' := Lib.hid hul
  have hlen := Lib.hid (fun k => upTo_le k s)
  have hstep := Lib.hid (fun k => upTo_succ k s)
  have hn' := Lib.hid hn
  have hn8' := Lib.hid hn8
  clear hul hs hn hn8
  obtain ⟨i0, hi0, hz0, hz1, hz2⟩ := info_parts Try.infoInt
  have hu := Try.underlying33
  go_enter Try.func74, Try.ntmps74
  go_wp2_with (first
    | (go_at_call 77; (with_reducible refine (e _).mono ?_); rintro e w' ⟨rfl, rfl⟩)
    | (at_make; refine wpList_make_own _ rfl _ _ 33 rfl w.heap.size 3 i0 (.int .i64 0) 1 hu hi0 hz0 hz1 .i64 .i64 _ (n - 1) rfl rfl (by have := hn'.out; have := hn8'.out; first | (go_num; done) | omega) (by rw [hz2]; have := hn8'.out; omega) (by unfold maxLen; have := hn8'.out; omega) (Nat.le_refl _) ?_; intro w1 hown1 hg1))
  have o1 := Lib.hid ((Only.refl Nil w).then (Only.ofGrown hg1) (fun i hi hlt => by simp at hi))
  have hown1' := Lib.hid hown1
  clear hown1 hg1
  go_loopw [6, 24] (fun s6 s24 wr => ∃ (k : Nat), k ≤ n ∧ s24 = .int .i64 (k : Int) ∧ Hid (wr.ownsRow w.heap.size 3 1 s6 (upTo k s).length (nv (upTo k s))) ∧ Hid (Only Nil w wr))
    (fun _ s24 _ => n - (intOf s24).toNat)
  case atStart => exact ⟨0, Nat.zero_le _, rfl, hown1', o1⟩
  case round =>
    obtain ⟨k, hk, rfl, hown, ho⟩ := hrel
    by_cases hlt : k < n
    · have e1 := Lib.hid (hstep.out k)
      have l1 := Lib.hid (hlen.out k)
      have n8 : n ≤ 8 := hn8'.out
      have wsz := Lib.hid ho.out.size
      obtain ⟨X, hX⟩ : ∃ X, X = upTo k s := ⟨_, rfl⟩
      have hX' := Lib.hid hX
      rw [← hX] at e1 l1 hown
      clear hX
      obtain ⟨a3, c3, rfl⟩ := own_slice_n hown.out
      generalize hXl : X.length = m at *
      have hXl' := Lib.hid hXl
      have m8 := Lib.hid (show m ≤ 8 from Nat.le_trans l1.out (by omega))
      clear hXl l1
      by_cases hks : k = s
      · have e2 := e1.out
        rw [if_pos hks] at e2
        have e2' := Lib.hid e2
        clear e2 e1
        subst hks
        go_wp2
        go_roundw
        case rel => exact ⟨k + 1, by omega, by go_num, Lib.hid (by rw [e2'.out, hXl'.out]; exact hown.out), ho⟩
        case measure => simp [intOf]; omega
      · have e2 := e1.out
        rw [if_neg hks] at e2
        have e2' := Lib.hid e2
        clear e2 e1
        go_wp2_with (at_builtin; refine wpList_append_own _ rfl (.tmp 30) (.tmp 32) 33 rfl w.heap.size 3 i0 (.int .i64 0) 1 8 hu hi0 hz0 hz1 hz2 rfl (by decide) (.slice a3 m c3) m (nv X) rfl (hown.out.alloc _) ⟨wr.heap.size, 0, none⟩ 1 1 [.int .i64 (k : Int)] rfl rfl (src_one (heap_new wr (.cells #[.int .i64 (k : Int)] 3))) (one_one _) (by unfold maxLen; have := m8.out; omega) (by have := m8.out; omega) (Nat.le_trans wsz.out (by simp)) ?_)
        intro v4 w4 hv4 hg4 hn4
        clear hn4
        have o4 := Lib.hid (own_grow (ho.out.alloc _) hg4 (hown.out.alloc (.cells #[.int .i64 (k : Int)] 3)) (Nat.le_refl _))
        have hv4' := Lib.hid hv4
        clear hv4 hg4
        go_wp2
        go_roundw
        case rel => exact ⟨k + 1, by omega, by go_num, Lib.hid (by rw [e2'.out, nv_append, List.length_append, hXl'.out]; exact hv4'.out), o4⟩
        case measure => simp [intOf]; omega
    · obtain rfl : k = n := by omega
      have hk0 : ¬ (k : Int) < (k : Int) := by omega
      rw [hul'.out] at hown
      go_wp2
      go_ret2
      exact ⟨_, rfl, hown, ho.out⟩
end Go.Proofs.Ytokopocldicnmaa.Lt
