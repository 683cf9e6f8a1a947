/- tree, the document's: a row of members; At, Kids. -/
import Derived.Test.YtkeaenkkencmdaaTrM
set_option linter.unusedSimpArgs false
set_option linter.unusedVariables false
namespace Go.Proofs.Ytkeaenkkencmdaa.Tr
open Go.RowKit Go.Proofs.Ytkeaenkkencmdaa

def mc (m : Mb) : List Value := [.int .i64 m.1, .int .i64 m.2]
def ms (T : List Mb) : List Value := T.flatMap mc
theorem ms_length (T : List Mb) : (ms T).length = T.length * 2 := by
  induction T with
  | nil => rfl
  | cons m T ih => rw [ms, List.flatMap_cons, List.length_append]; unfold ms at ih; rw [ih]; simp [mc]; omega
theorem ms_append (T U : List Mb) : ms (T ++ U) = ms T ++ ms U := by simp [ms]
theorem ms_one (m : Mb) : ms [m] = mc m := by simp [ms]
theorem ms_oneCell (T : List Mb) : ∀ v ∈ ms T, v.oneCell' = true := by
  intro v hv
  simp only [ms, List.mem_flatMap] at hv
  obtain ⟨m, _, h⟩ := hv
  simp [mc] at h
  rcases h with rfl | rfl <;> rfl
theorem ms_get (T : List Mb) (j : Nat) (hj : j < T.length) : (ms T)[j * 2]? = some (.int .i64 (T.getD j default).1) ∧ (ms T)[j * 2 + 1]? = some (.int .i64 (T.getD j default).2) := by
  induction T generalizing j with
  | nil => simp at hj
  | cons m T ih =>
    have e : ms (m :: T) = mc m ++ ms T := by simp [ms]
    rw [e]
    cases j with
    | zero => exact ⟨rfl, rfl⟩
    | succ j =>
      have h := ih j (by simpa using hj)
      have e2 : (mc m).length = 2 := rfl
      rw [List.getElem?_append_right (by omega), List.getElem?_append_right (by omega), e2, show (j + 1) * 2 - 2 = j * 2 by omega, show (j + 1) * 2 + 1 - 2 = j * 2 + 1 by omega]
      exact h
theorem Try.infoM : (Try.prog.info? 38).map (fun i => (i.zero, i.size, i.bytes)) = some (some (.agg #[.int .i64 0, .int .i64 0]), 2, 16) := by kernel_rfl

/-- The slice at a, of the members T. -/
def MIn (w : World) (a : Option Addr) (T : List Mb) : Prop :=
  ∀ i, i < T.length → ∃ b, a = some ⟨b, 0, none⟩ ∧ b < w.heap.size ∧ ∀ j, j < T.length → w.cell? ⟨b, j * 2, none⟩ = some (.int .i64 (T.getD j default).1) ∧ w.cell? ⟨b, j * 2 + 1, none⟩ = some (.int .i64 (T.getD j default).2)
theorem MIn.nil {w w' : World} {a : Option Addr} {T : List Mb} (h : MIn w a T) (o : Only Nil w w') : MIn w' a T := by
  intro i hi
  obtain ⟨g, ha, hlt, hc⟩ := h i hi
  have e := o.block g hlt (fun s => s)
  refine ⟨g, ha, Nat.lt_of_lt_of_le hlt o.size, fun j hj => ?_⟩
  obtain ⟨c1, c2⟩ := hc j hj
  exact ⟨(World.cell?_of_block (a := ⟨g, j * 2, none⟩) e).trans c1, (World.cell?_of_block (a := ⟨g, j * 2 + 1, none⟩) e).trans c2⟩
theorem own_min {w : World} {base : Nat} {a : Option Addr} {n c : Nat} {T : List Mb} (h : w.ownsRow base 38 2 (.slice a n c) T.length (ms T)) : MIn w a T := by
  intro i hi
  rcases h.2 with ⟨_, h0⟩ | ⟨g, c', cur, hv, _, hg, _⟩
  · omega
  · simp only [Value.slice.injEq] at hv
    obtain ⟨rfl, hnx, rfl⟩ := hv
    subst hnx
    refine ⟨g, rfl, lt_of_block hg, fun j hj => ?_⟩
    have e := ms_get T j hj
    exact ⟨by rw [h.cellAt _ (by omega)]; exact e.1, by rw [h.cellAt _ (by omega)]; exact e.2⟩

/-- The place, -1 if it is none. -/
def atI (T : List Mb) (x : Int) : Int := if has T x = true then (pos T x : Nat) else -1
theorem pos_at {T : List Mb} {x : Int} {i : Nat} (hi : i < T.length) (h : (T.getD i default).1 = x) : pos T x ≤ i := by
  induction T generalizing i with
  | nil => simp at hi
  | cons m T ih =>
    unfold pos
    split
    · omega
    · cases i with
      | zero =>
        rename_i hne
        exact absurd (by simpa using h) hne
      | succ i =>
        have := ih (i := i) (by simpa using hi) (by simpa using h)
        omega
theorem at_pos {T : List Mb} {x : Int} (h : has T x = true) : (T.getD (pos T x) default).1 = x ∧ (T.getD (pos T x) default).2 = par T x := by
  induction T with
  | nil => simp [has] at h
  | cons m T ih =>
    rw [has_cons] at h
    unfold pos par
    by_cases e : m.1 = x
    · rw [if_pos e, if_pos e]
      exact ⟨e, rfl⟩
    · rw [if_neg e, if_neg e]
      exact ih (by simpa [e] using h)
theorem not_at {T : List Mb} {x : Int} {i : Nat} (h : i ≤ pos T x) (hi : i < T.length) (hne : (T.getD i default).1 ≠ x) : i + 1 ≤ pos T x := by
  rcases Nat.lt_or_ge i (pos T x) with h1 | h1
  · exact h1
  · exfalso
    have e : i = pos T x := by omega
    have hh : has T x = true := pos_lt.2 (by omega)
    exact hne (by rw [e]; exact (at_pos hh).1)

set_option maxRecDepth 100000 in
theorem rat_any {w : World} {a : Option Addr} {n c : Nat} {T : List Mb} (h : MIn w a T) (hn : T.length = n) (few : n ≤ 1000) (x : Int) :
    Calls Try.prog 22 #[.slice a n c, .int .i64 x] w fun e w' => e = .returned (.int .i64 (atI T x)) ∧ w = w' := by
  have HM := Lib.hid h
  have HN := Lib.hid hn
  clear h hn
  have few' : (n : Int) ≤ 1000 := by omega
  go_enter Try.func22, Try.ntmps22
  go_wp2_with (fail)
  go_loopw [5] (fun s5 wr => ∃ (i : Nat), i ≤ n ∧ s5 = .int .i64 (i : Int) ∧ Hid (i ≤ pos T x) ∧ w = wr)
    (fun s5 _ => n - (intOf s5).toNat)
  case atStart => exact ⟨0, Nat.zero_le _, rfl, Lib.hid (Nat.zero_le _), rfl⟩
  case round =>
    obtain ⟨i, hi, rfl, HP, rfl⟩ := hrel
    by_cases hin : i < n
    · have hin' : (i : Int) < (n : Int) := by omega
      obtain ⟨b, rfl, _, hc⟩ := HM.out i (by rw [HN.out]; exact hin)
      obtain ⟨x0, _⟩ := hc i (by rw [HN.out]; exact hin)
      obtain ⟨z, hz⟩ : ∃ z, z = (T.getD i default).1 := ⟨_, rfl⟩
      rw [← hz] at x0
      have HZ := Lib.hid hz
      clear hc hz
      by_cases e : z = x
      · have hE := Lib.hid (show atI T x = (i : Int) from by
          have h1 := pos_at (T := T) (x := x) (i := i) (by rw [HN.out]; exact hin) (by rw [← HZ.out]; exact e)
          have h2 : pos T x = i := by have := HP.out; omega
          unfold atI
          rw [if_pos (pos_lt.2 (by rw [h2, HN.out]; exact hin)), h2])
        have t1 : (z == x) = true := beq_iff_eq.2 e
        clear e
        go_wp2_with (fail)
        go_ret
        exact ⟨by rw [hE.out]; rfl, rfl⟩
      · have hE := Lib.hid (not_at HP.out (by rw [HN.out]; exact hin) (by rw [← HZ.out]; exact e))
        have t1 : (z == x) = false := beq_eq_false_iff_ne.2 e
        clear e
        go_wp2_with (fail)
        go_roundw
        case rel => exact ⟨i + 1, by omega, by go_num, hE, trivial⟩
        case measure => simp [intOf]; omega
    · obtain rfl : i = n := by omega
      have hk : ¬ (i : Int) < (i : Int) := by omega
      have hE := Lib.hid (show atI T x = -1 from by
        unfold atI
        rw [if_neg]
        intro h
        have := pos_lt.1 h
        have h1 := HP.out
        have h2 := HN.out
        omega)
      go_wp2_with (fail)
      go_ret
      exact ⟨by rw [hE.out]; rfl, rfl⟩

theorem atI_lt {T : List Mb} {x : Int} (h : has T x = false) : atI T x = -1 := by unfold atI; rw [if_neg (by rw [h]; decide)]
theorem atI_ge {T : List Mb} {x : Int} (h : has T x = true) : atI T x = (pos T x : Nat) := by unfold atI; rw [if_pos h]

theorem kids_take (T : List Mb) (x : Int) {i : Nat} (hi : i < T.length) : kids (T.take (i + 1)) x = kids (T.take i) x ++ (if (T.getD i default).2 = x then [(T.getD i default).1] else []) := by
  rw [List.take_succ_eq_append_getElem hi, kids_snoc]
  have : T.getD i default = T[i] := by simp [List.getD, hi]
  rw [this]

set_option maxRecDepth 100000 in
set_option maxHeartbeats 1000000 in
theorem rkids_any {w : World} {a : Option Addr} {n c : Nat} {T : List Mb} (h : MIn w a T) (hn : T.length = n) (few : n ≤ 1000) (x : Int) :
    Calls Try.prog 23 #[.slice a n c, .int .i64 x] w fun e w' => Ans w w' e (kidsT T x) := by
  have HM := Lib.hid h
  have HN := Lib.hid hn
  have few' : (n : Int) ≤ 1000 := by omega
  have HA := Lib.hid (fun (w' : World) (o : Only Nil w w') => rat_any (c := c) (h.nil o) hn few x)
  clear h hn
  -- those ahead of i
  obtain ⟨q, hq⟩ : ∃ q : Nat → List Int, q = fun i => if has T x = true then kids (T.take i) x else [] := ⟨_, rfl⟩
  have hq0 := Lib.hid (show q 0 = [] from by rw [hq]; simp [kids])
  have hqn := Lib.hid (show q n = kidsT T x from by rw [hq, ← HN.out]; unfold kidsT; simp)
  have hqs := Lib.hid (fun (i : Nat) (hi : i < n) => show q (i + 1) = q i ++ (if (T.getD i default).2 = x ∧ has T x = true then [(T.getD i default).1] else []) from by
    rw [hq]
    by_cases hh : has T x = true
    · simp only [hh, if_true, and_true]
      exact kids_take T x (by rw [HN.out]; exact hi)
    · simp [hh])
  have hql := Lib.hid (fun (i : Nat) => show (q i).length ≤ i from by
    rw [hq]
    by_cases hh : has T x = true
    · simp only [hh, if_true]
      have : (kids (T.take i) x).length ≤ (T.take i).length := by unfold kids; rw [List.length_map]; exact List.length_filter_le _ _
      have h2 := List.length_take_le i T
      omega
    · simp [hh])
  clear hq
  go_enter Try.func23, Try.ntmps23
  go_wp2_with (fail)
  go_loopw [5, 6] (fun s5 s6 wr => ∃ (i p k : Nat) (aa : Option Addr), i ≤ n ∧ s6 = .int .i64 (i : Int) ∧ s5 = .slice aa p k ∧ Hid (Fr w wr (.slice aa p k) (q i) ∧ (q i).length = p))
    (fun _ s6 _ => n - (intOf s6).toNat)
  case atStart => exact ⟨0, 0, 0, none, Nat.zero_le _, rfl, rfl, Lib.hid ⟨by rw [hq0.out]; exact Fr.none (Only.refl _ _), by rw [hq0.out]; rfl⟩⟩
  case round =>
    obtain ⟨i, p, k, aa, hi, rfl, rfl, H⟩ := hrel
    by_cases hin : i < n
    · have hin' : (i : Int) < (n : Int) := by omega
      obtain ⟨b, rfl, hb, hc⟩ := HM.out i (by rw [HN.out]; exact hin)
      have HC := Lib.hid (fun (w' : World) (o : Only Nil w w') => (HM.out.nil o) i (by rw [HN.out]; exact hin))
      obtain ⟨x0, x1⟩ : wr.cell? ⟨b, i * 2, none⟩ = some (.int .i64 (T.getD i default).1) ∧ wr.cell? ⟨b, i * 2 + 1, none⟩ = some (.int .i64 (T.getD i default).2) := by
        obtain ⟨b', e, _, hc'⟩ := HC.out wr H.out.1.only
        injection e with e
        injection e with e
        subst e
        exact hc' i (by rw [HN.out]; exact hin)
      have hs := Lib.hid (hqs.out i hin)
      have AC := Lib.hid (HA.out wr H.out.1.only)
      clear hc
      generalize (T.getD i default).1 = y at *
      generalize (T.getD i default).2 = z at *
      by_cases e : z = x
      · cases hh : has T x with
        | true =>
          have t1 : (z == x) = true := beq_iff_eq.2 e
          have hs2 := Lib.hid (show q (i + 1) = q i ++ [y] from by rw [hs.out, if_pos ⟨e, hh⟩])
          rw [atI_ge hh] at AC
          obtain ⟨a', c', w5, hr5, hG⟩ := push H.out.1.row H.out.2 y (by have := hql.out i; have := H.out.2; omega)
          have HG := Lib.hid hG
          clear e hh hG hs
          go_wp2_with (first
            | (go_at_call 22; (with_reducible refine AC.out.mono ?_); rintro e w' ⟨rfl, rfl⟩)
            | (at_builtin; refine Lib.wpList_append_run _ rfl (.tmp 26) (.tmp 32) 40 40 rfl _ _ rfl rfl _ _ hr5.out ?_))
          go_roundw
          case rel => exact ⟨i + 1, p + 1, c', a', by omega, by go_num, rfl, Lib.hid ⟨by rw [hs2.out]; exact H.out.1.grown HG.out, by rw [hs2.out, List.length_append, H.out.2]; rfl⟩⟩
          case measure => simp [intOf]; omega
        | false =>
          have t1 : (z == x) = true := beq_iff_eq.2 e
          have hs2 := Lib.hid (show q (i + 1) = q i from by rw [hs.out, if_neg (by rw [hh]; simp), List.append_nil])
          rw [atI_lt hh] at AC
          clear e hh hs
          go_wp2_with (go_at_call 22; (with_reducible refine AC.out.mono ?_); rintro e w' ⟨rfl, rfl⟩)
          go_roundw
          case rel => exact ⟨i + 1, p, k, aa, by omega, by go_num, rfl, Lib.hid ⟨by rw [hs2.out]; exact H.out.1, by rw [hs2.out]; exact H.out.2⟩⟩
          case measure => simp [intOf]; omega
      · have t1 : (z == x) = false := beq_eq_false_iff_ne.2 e
        have hs2 := Lib.hid (show q (i + 1) = q i from by rw [hs.out, if_neg (fun h => e h.1), List.append_nil])
        clear e hs
        go_wp2_with (fail)
        go_roundw
        case rel => exact ⟨i + 1, p, k, aa, by omega, by go_num, rfl, Lib.hid ⟨by rw [hs2.out]; exact H.out.1, by rw [hs2.out]; exact H.out.2⟩⟩
        case measure => simp [intOf]; omega
    · obtain rfl : i = n := by omega
      have hk : ¬ (i : Int) < (i : Int) := by omega
      have HE := Lib.hid (show Fr w wr (.slice aa p k) (kidsT T x) ∧ (kidsT T x).length = p from by rw [← hqn.out]; exact H.out)
      go_wp2_with (fail)
      go_ret
      exact ⟨aa, p, k, rfl, HE.out.2, Lib.hid HE.out.1⟩
end Go.Proofs.Ytkeaenkkencmdaa.Tr
