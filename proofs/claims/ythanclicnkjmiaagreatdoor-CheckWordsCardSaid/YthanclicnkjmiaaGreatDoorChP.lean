/- check: Code, Where. -/
import Derived.Test.YthanclicnkjmiaaGreatDoorChO
set_option linter.unusedVariables false
namespace Go.Proofs.YthanclicnkjmiaaGreatDoor.Ch
open Go.RowKit Go.Proofs.YthanclicnkjmiaaGreatDoor Lx Ps

/-- What Program answers: nil, or what is wrong. -/
def ErrV (lo : Nat) (w : World) (v : Value) : Fau → Prop
  | none => v = .nilIface
  | some x => ∃ b, v = .iface 46 (.pointer (some ⟨b, 0, none⟩)) ∧ BadAt lo w b x
theorem ErrV.keep {lo : Nat} {w w' : World} {v : Value} {r : Fau} (h : ErrV lo w v r) (o : Only Nil w w') : ErrV lo w' v r := by
  cases r with
  | none => exact h
  | some x => obtain ⟨b, h1, h2⟩ := h; exact ⟨b, h1, h2.keep o⟩
def codeF : Fau → Nat | none => 0 | some x => x.1
def whereF : Fau → List Nat | none => [] | some x => x.2
theorem prog_err {D : Nat} {w : World} {P : List Kd} {a0 : Option Addr} {nP c0 : Nat} (hP : VK D w P a0 nP c0) (hD : Hid (D ≤ w.heap.size)) :
    Calls Tryz.prog 14 #[.agg #[.slice a0 nP c0]] w fun e w' => ∃ v, e = .returned v ∧ ErrV w.heap.size w' v (whole P) ∧ Only Nil w w' := by
  refine (program_any hP hD).mono fun e w' ⟨h, o⟩ => ?_
  rcases h with ⟨h1, h2⟩ | ⟨x, b, h1, h2, h3⟩
  · exact ⟨_, h2, by rw [h1]; rfl, o⟩
  · exact ⟨_, h2, by rw [h1]; exact ⟨b, rfl, h3⟩, o⟩
theorem code_any {lo : Nat} {w : World} {v : Value} {r : Fau} (h : ErrV lo w v r) (hE : EnvE w) : Calls Tryz.prog 16 #[v] w fun e w' => e = .returned (.int .i64 (codeF r : Int)) ∧ Only Nil w w' := by
  cases r with
  | none =>
    obtain rfl : v = .nilIface := h
    go_enter Tryz.func16, Tryz.ntmps16
    go_wp2
    go_ret
    exact ⟨rfl, Only.refl _ _⟩
  | some x =>
    obtain ⟨b, rfl, hB⟩ := h
    obtain ⟨_, v, hr, _, _⟩ := hB
    have HF := Lib.hid (find_fault ⟨b, 0, none⟩ w hE)
    have HR := Lib.hid (show ∀ w', Only Nil w w' → w'.cell? ⟨b, 0, none⟩ = some (.int .i64 (x.1 : Int)) from fun w' o => only_cell0 o (cell_of_row w b 0 _ _ _ hr))
    clear hr hE
    go_enter Tryz.func16, Tryz.ntmps16
    go_wp2_with (go_at_call 40; refine HF.out.mono ?_; rintro e w1 ⟨rfl, o1⟩; have c1 := HR.out _ o1)
    go_ret
    exact ⟨rfl, o1⟩
theorem code_errno (z : Int) (w : World) (hE : EnvE w) : Calls Tryz.prog 16 #[.iface 32 (.int .i64 z)] w fun e w' => e = .returned (.int .i64 1) ∧ Only Nil w w' := by
  have HE := Lib.hid hE
  clear hE
  go_enter Tryz.func16, Tryz.ntmps16
  go_wp2_with (go_at_call 40; refine (find_errno z _ HE.out).mono ?_; rintro e w1 ⟨rfl, o1⟩)
  go_ret
  exact ⟨rfl, o1⟩
/-- A clone of a row of numbers. -/
theorem clone_any {w : World} {lo : Nat} {v : Value} {W : List Nat} (h : w.ownsRow lo 3 1 v W.length (intsC W)) (hnil : W = [] → v = .slice none 0 0) (few : W.length ≤ 1000) :
    Calls Tryz.prog 41 #[v] w fun e w' => ∃ v', e = .returned v' ∧ w'.ownsRow w.heap.size 3 1 v' W.length (intsC W) ∧ Only Nil w w' := by
  by_cases hW : W = []
  · subst hW
    obtain rfl := hnil rfl
    refine (Any.slices_Clone_int_nil Tryz.clol 0 0 w).mono fun e w' ⟨h1, h2⟩ => ?_
    subst h2
    exact ⟨_, h1, ⟨rfl, .inl ⟨rfl, rfl⟩⟩, Only.refl _ _⟩
  · obtain ⟨hl, hI⟩ := h
    have hpos : 0 < W.length := List.length_pos_iff.2 hW
    rcases hI with ⟨_, hz⟩ | ⟨g, c, cur, rfl, hb, hg, hnc, hcm, hcs, htk⟩
    · omega
    refine (Any.slices_Clone_int Tryz.clol g 0 W.length c (W.map fun (n : Nat) => (n : Int)) w (by simp) (by omega) (fun j hj => ?_)).mono fun e w' hh => ?_
    · rw [List.length_map] at hj
      rw [Nat.zero_add, cell_of_row w g j _ _ _ hg]
      have : cur[j]? = (intsC W)[j]? := by rw [← htk, List.getElem?_take, if_pos (by omega)]; simp
      rw [this]
      unfold intsC
      simp [List.getD, hj]
    · obtain ⟨v', h1, h2, _, h4⟩ := hh
      have e2 : ((W.map fun (n : Nat) => (n : Int)).take W.length).map (Value.int .i64) = intsC W := by
        rw [List.take_of_length_le (by simp)]; unfold intsC; rw [List.map_map]; rfl
      rw [e2] at h2
      exact ⟨v', h1, h2, Only.ofBelow h4 _⟩
theorem where_any {lo : Nat} {w : World} {v : Value} {r : Fau} (h : ErrV lo w v r) (hE : EnvE w) (hs : (whereF r).length ≤ 100) : Calls Tryz.prog 18 #[v] w fun e w' => ∃ a c, e = .returned (.slice a (whereF r).length c) ∧ w'.ownsRow w.heap.size 3 1 (.slice a (whereF r).length c) (whereF r).length (intsC (whereF r)) ∧ Only Nil w w' := by
  cases r with
  | none =>
    obtain rfl : v = .nilIface := h
    have HF := Lib.hid (find_nil w hE)
    clear hE
    go_enter Tryz.func18, Tryz.ntmps18
    go_wp2_with (go_at_call 40; refine HF.out.mono ?_; rintro e w1 ⟨rfl, o1⟩)
    go_ret
    exact ⟨none, 0, rfl, ⟨rfl, .inl ⟨rfl, rfl⟩⟩, o1⟩
  | some x =>
    obtain ⟨b, rfl, hB⟩ := h
    obtain ⟨_, u, hr, hown, hnil⟩ := hB
    have HF := Lib.hid (find_fault ⟨b, 0, none⟩ w hE)
    have HR := Lib.hid (show ∀ w', Only Nil w w' → w'.cell? ⟨b, 1, none⟩ = some u from fun w' o => only_cell0 o (cell_of_row w b 1 _ _ _ hr))
    have HC := Lib.hid (show ∀ w', Only Nil w w' → Calls Tryz.prog 41 #[u] w' fun e w'' => ∃ a c, e = .returned (.slice a (whereF (some x)).length c) ∧ w''.ownsRow w.heap.size 3 1 (.slice a (whereF (some x)).length c) (whereF (some x)).length (intsC (whereF (some x))) ∧ Only Nil w' w'' from fun w' o => by
      refine (clone_any (own_keep hown o (fun _ _ q => q.elim)) hnil (by have : (whereF (some x)).length = x.2.length := rfl; omega)).mono fun e w'' ⟨v', h1, h2, h3⟩ => ?_
      obtain ⟨a, c, hv⟩ := own_slice_n h2
      subst hv
      exact ⟨a, c, h1, own_lower h2 o.size, h3⟩)
    obtain ⟨ua, uc, rfl⟩ := own_slice_n hown
    generalize (whereF (some x)).length = n at *
    clear hr hE hown hnil hs
    go_enter Tryz.func18, Tryz.ntmps18
    go_wp2_with (first
      | (go_at_call 40; refine HF.out.mono ?_; rintro e w1 ⟨rfl, o1⟩; have c1 := HR.out _ o1; have O1 := Lib.hid o1)
      | (go_at_call 41; refine (HC.out _ O1.out).mono ?_; rintro e w2 ⟨a, c, rfl, h2, h3⟩; have H2 := Lib.hid h2; clear h2))
    go_ret
    exact ⟨a, c, rfl, H2.out, O1.out.trans h3⟩
theorem intsC_get {W : List Nat} {j : Nat} (h : j < W.length) : (intsC W)[j]? = some (.int .i64 ((W.getD j 0 : Nat) : Int)) := by
  unfold intsC; simp [List.getD, h]
/-- What a row of numbers that one owns holds. -/
theorem own_ints {w : World} {lo n c : Nat} {a : Option Addr} {W : List Nat} (h : w.ownsRow lo 3 1 (.slice a n c) W.length (intsC W)) (j : Nat) (hj : j < W.length) : ∃ b, a = some ⟨b, 0, none⟩ ∧ w.cell? ⟨b, j, none⟩ = some (.int .i64 ((W.getD j 0 : Nat) : Int)) := by
  obtain ⟨hl, hI⟩ := h
  rcases hI with ⟨_, hz⟩ | ⟨g, c', cur, h1, hb, hg, hnc, hcm, hcs, htk⟩
  · omega
  · simp only [Value.slice.injEq] at h1
    refine ⟨g, h1.1, ?_⟩
    rw [cell_of_row w g j _ _ _ hg, ← intsC_get hj, ← htk, List.getElem?_take, if_pos (by omega)]; simp
/-- Ints, of two rows of numbers. -/
theorem ints_any {w : World} {X Y : List Nat} {a1 a2 : Option Addr} {n m c1 c2 : Nat} (hn : X.length = n) (hm : Y.length = m) (h1 : ∀ j, j < n → ∃ b, a1 = some ⟨b, 0, none⟩ ∧ w.cell? ⟨b, j, none⟩ = some (.int .i64 ((X.getD j 0 : Nat) : Int)))
    (h2 : ∀ j, j < m → ∃ b, a2 = some ⟨b, 0, none⟩ ∧ w.cell? ⟨b, j, none⟩ = some (.int .i64 ((Y.getD j 0 : Nat) : Int))) (hX : n ≤ 1000) :
    Calls Tryz.prog 17 #[.slice a1 n c1, .slice a2 m c2] w fun e w' => e = .returned (.bool (decide (X = Y))) ∧ Only Nil w w' := by
  have H1 := Lib.hid h1
  have H2 := Lib.hid h2
  have HN := Lib.hid hn
  have HM := Lib.hid hm
  have hX' : (n : Int) ≤ 1000 := by omega
  clear h1 h2 hn hm hX
  by_cases hnm : n = m
  · subst hnm
    have hz2 : (n != n) = false := by simp
    have hz3 : ((n : Int) != (n : Int)) = false := by simp
    go_enter Tryz.func17, Tryz.ntmps17
    go_wp2
    go_loopw [5] (fun i wr => ∃ (k q : Nat), k ≤ n ∧ i = .int .i64 (k : Int) ∧ Hid (∀ j, j < k → X[j]? = Y[j]?) ∧ wr = w.drewN q)
      (fun i _ => n - (intOf i).toNat)
    case atStart => exact ⟨0, 0, Nat.zero_le _, rfl, Lib.hid (fun j hj => absurd hj (Nat.not_lt_zero j)), rfl⟩
    case round =>
      obtain ⟨k, q, hk, rfl, hE, rfl⟩ := hrel
      by_cases hlt : k < n
      · obtain ⟨g1, rfl, x1⟩ := H1.out k hlt
        obtain ⟨g2, rfl, x2⟩ := H2.out k hlt
        have kX : X[k]? = some (X.getD k 0) := by simp [List.getD, HN.out, hlt]
        have kY : Y[k]? = some (Y.getD k 0) := by simp [List.getD, HM.out, hlt]
        have KX := Lib.hid kX
        have KY := Lib.hid kY
        clear kX kY
        generalize X.getD k 0 = xv at *
        generalize Y.getD k 0 = yv at *
        by_cases he : xv = yv
        · subst he
          have g : ((xv : Int) != (xv : Int)) = false := by simp
          have g' : (xv != xv) = false := by simp
          go_wp2
          go_quiet (fail)
          go_wp2
          go_roundw
          case rel => exact ⟨k + 1, _, by omega, by go_num, Lib.hid (fun j hj => by
            rcases Nat.lt_or_ge j k with h | h
            · exact hE.out j h
            · obtain rfl : j = k := by omega
              rw [KX.out, KY.out]), rfl⟩
          case measure => simp [intOf]; omega
        · have g : ((xv : Int) != (yv : Int)) = true := by simp; omega
          have g' : (xv != yv) = true := by simpa using he
          have HD := Lib.hid (show decide (X = Y) = false from decide_eq_false fun h => he (by
            have := KX.out; rw [h, KY.out] at this; exact (Option.some.inj this).symm))
          clear he
          go_wp2
          go_quiet (fail)
          go_wp2
          go_ret
          exact ⟨by rw [HD.out]; rfl, ((Only.refl _ _).drewN _).drewN _⟩
      · have HD := Lib.hid (show decide (X = Y) = true from decide_eq_true (eq_upto HN.out HM.out fun j hj => hE.out j (by omega)))
        go_wp2
        go_ret
        exact ⟨by rw [HD.out]; rfl, (Only.refl _ _).drewN _⟩
  · have hz2 : (n != m) = true := by simpa using hnm
    have hz3 : ((n : Int) != (m : Int)) = true := by simp; omega
    have HD := Lib.hid (show decide (X = Y) = false from decide_eq_false fun h => hnm (by rw [← HN.out, ← HM.out, h]))
    clear hnm
    go_enter Tryz.func17, Tryz.ntmps17
    go_wp2
    go_ret
    exact ⟨by rw [HD.out]; rfl, Only.refl _ _⟩
end Go.Proofs.YthanclicnkjmiaaGreatDoor.Ch
