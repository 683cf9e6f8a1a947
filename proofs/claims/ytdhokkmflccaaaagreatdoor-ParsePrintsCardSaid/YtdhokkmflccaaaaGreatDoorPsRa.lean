/- parse: the document's small functions: small, Word, Verb, Has, name, Effect. -/
import Derived.Test.YtdhokkmflccaaaaGreatDoorPsGr
set_option linter.unusedVariables false
namespace Go.Proofs.YtdhokkmflccaaaaGreatDoor.Ps
open Go.RowKit Go.Proofs.YtdhokkmflccaaaaGreatDoor Lx

theorem rsmall_any (n : Int) (w : World) : Calls Tryz.prog 49 #[.int .i64 n] w fun e w' => e = .returned (.bool (okN n)) ∧ w = w' := by
  by_cases h0 : 0 ≤ n
  · by_cases h1 : n ≤ 65535
    · have e : okN n = true := (okN_iff n).2 ⟨h0, h1⟩
      have h2 : ¬ n < 0 := by omega
      go_enter Tryz.func49, Tryz.ntmps49
      go_wp2
      go_ret
      exact ⟨rfl, rfl⟩
    · have e : okN n = false := by unfold okN; simp [h1]
      go_enter Tryz.func49, Tryz.ntmps49
      go_wp2
      go_ret
      exact ⟨rfl, rfl⟩
  · have e : okN n = false := by unfold okN; simp [h0]
    go_enter Tryz.func49, Tryz.ntmps49
    go_wp2
    go_ret
    exact ⟨rfl, rfl⟩
theorem pick_out {ws : List Wd} {i : Int} (h : ¬ (0 ≤ i ∧ i < (ws.length : Int))) : pickW ws i = [] := if_neg h
theorem rword_any (z : Int) (w : World) : Calls Tryz.prog 50 #[.int .i64 z] w fun e w' => e = .returned (.string (bs (pickW dirs (z - 1)))) ∧ w = w' := by
  by_cases h1 : z = 1
  · subst h1
    go_enter Tryz.func50, Tryz.ntmps50
    go_wp2
    go_ret
    exact ⟨rfl, rfl⟩
  by_cases h2 : z = 2
  · subst h2
    go_enter Tryz.func50, Tryz.ntmps50
    go_wp2
    go_ret
    exact ⟨rfl, rfl⟩
  by_cases h3 : z = 3
  · subst h3
    go_enter Tryz.func50, Tryz.ntmps50
    go_wp2
    go_ret
    exact ⟨rfl, rfl⟩
  by_cases h4 : z = 4
  · subst h4
    go_enter Tryz.func50, Tryz.ntmps50
    go_wp2
    go_ret
    exact ⟨rfl, rfl⟩
  have e : pickW dirs (z - 1) = [] := pick_out (by have : (dirs.length : Int) = 4 := rfl; omega)
  have e1 : (z == 1) = false := by simpa using h1
  have e2 : (z == 2) = false := by simpa using h2
  have e3 : (z == 3) = false := by simpa using h3
  have e4 : (z == 4) = false := by simpa using h4
  have HE := Lib.hid e
  clear e h1 h2 h3 h4
  go_enter Tryz.func50, Tryz.ntmps50
  go_wp2
  go_ret
  exact ⟨by rw [HE.out]; rfl, rfl⟩
theorem rverb_any (z : Int) (w : World) : Calls Tryz.prog 80 #[.int .i64 z] w fun e w' => e = .returned (.tuple #[.string (bs (pickW effw (z - 1))), .string (bs (parts z))]) ∧ w = w' := by
  by_cases h1 : z = 1
  · subst h1
    go_enter Tryz.func80, Tryz.ntmps80
    go_wp2
    go_ret2
    exact ⟨rfl, rfl⟩
  by_cases h2 : z = 2
  · subst h2
    go_enter Tryz.func80, Tryz.ntmps80
    go_wp2
    go_ret2
    exact ⟨rfl, rfl⟩
  by_cases h3 : z = 3
  · subst h3
    go_enter Tryz.func80, Tryz.ntmps80
    go_wp2
    go_ret2
    exact ⟨rfl, rfl⟩
  by_cases h4 : z = 4
  · subst h4
    go_enter Tryz.func80, Tryz.ntmps80
    go_wp2
    go_ret2
    exact ⟨rfl, rfl⟩
  by_cases h5 : z = 5
  · subst h5
    go_enter Tryz.func80, Tryz.ntmps80
    go_wp2
    go_ret2
    exact ⟨rfl, rfl⟩
  by_cases h6 : z = 6
  · subst h6
    go_enter Tryz.func80, Tryz.ntmps80
    go_wp2
    go_ret2
    exact ⟨rfl, rfl⟩
  by_cases h7 : z = 7
  · subst h7
    go_enter Tryz.func80, Tryz.ntmps80
    go_wp2
    go_ret2
    exact ⟨rfl, rfl⟩
  by_cases h8 : z = 8
  · subst h8
    go_enter Tryz.func80, Tryz.ntmps80
    go_wp2
    go_ret2
    exact ⟨rfl, rfl⟩
  by_cases h9 : z = 9
  · subst h9
    go_enter Tryz.func80, Tryz.ntmps80
    go_wp2
    go_ret2
    exact ⟨rfl, rfl⟩
  by_cases h10 : z = 10
  · subst h10
    go_enter Tryz.func80, Tryz.ntmps80
    go_wp2
    go_ret2
    exact ⟨rfl, rfl⟩
  by_cases h11 : z = 11
  · subst h11
    go_enter Tryz.func80, Tryz.ntmps80
    go_wp2
    go_ret2
    exact ⟨rfl, rfl⟩
  by_cases h12 : z = 12
  · subst h12
    go_enter Tryz.func80, Tryz.ntmps80
    go_wp2
    go_ret2
    exact ⟨rfl, rfl⟩
  have e : pickW effw (z - 1) = [] ∧ parts z = [] := ⟨pick_out (by have : (effw.length : Int) = 12 := rfl; omega), by unfold parts; simp only [h1, h2, h3, h9, h12, h6, h7, h8, h10, if_false]⟩
  have e1 : (z == 1) = false := by simpa using h1
  have e2 : (z == 2) = false := by simpa using h2
  have e3 : (z == 3) = false := by simpa using h3
  have e4 : (z == 4) = false := by simpa using h4
  have e5 : (z == 5) = false := by simpa using h5
  have e6 : (z == 6) = false := by simpa using h6
  have e7 : (z == 7) = false := by simpa using h7
  have e8 : (z == 8) = false := by simpa using h8
  have e9 : (z == 9) = false := by simpa using h9
  have e10 : (z == 10) = false := by simpa using h10
  have e11 : (z == 11) = false := by simpa using h11
  have e12 : (z == 12) = false := by simpa using h12
  have HE := Lib.hid e
  clear e h1 h2 h3 h4 h5 h6 h7 h8 h9 h10 h11 h12
  go_enter Tryz.func80, Tryz.ntmps80
  go_wp2
  go_ret2
  exact ⟨by rw [HE.out.1, HE.out.2]; rfl, rfl⟩

/-- Has is asked of a verb's parts alone. -/
def hasP (l : Wd) (c : UInt8) : Bool := l.contains c
set_option maxRecDepth 100000 in
set_option maxHeartbeats 1000000 in
theorem rhas_any (l : Wd) (c : UInt8) (hl : l.length ≤ 1000) (w : World) : Calls Tryz.prog 102 #[.string (bs l), .int .u8 (c.toNat : Int)] w fun e w' => e = .returned (.bool (hasP l c)) ∧ w = w' := by
  have hz : (bs l).size = l.length := bs_size l
  have hl' : (l.length : Int) ≤ 1000 := by omega
  have HI : Hid (∀ (i : Nat) (c' : UInt8), l[i]? = some c' → ∀ w, (Instr.index 9 (.string (bs l)) (.int .i64 (i : Int))).run Tryz.prog w = .ok (.int .u8 (c'.toNat : Int)) w) := Lib.hid (fun i c' h w => by
    obtain ⟨h1, h2⟩ := List.getElem?_eq_some_iff.1 h
    have e : (bs l)[i]'(by simpa using h1) = c' := by rw [← h2]; simp [bs, ByteArray.getElem_eq_getElem_data]
    simp [go_sem, Tryz.underlying9, h1, e])
  generalize hn : l.length = n at *
  have HN := Lib.hid hn
  clear hn hl
  go_enter Tryz.func102, Tryz.ntmps102
  go_wp2
  go_loopw [5] (fun s5 wr => ∃ i : Nat, i ≤ n ∧ s5 = .int .i64 (i : Int) ∧ Hid (∀ j (h : j < l.length), j < i → ¬ l[j] = c) ∧ w = wr)
    (fun s5 _ => n - (intOf s5).toNat)
  case atStart => exact ⟨0, Nat.zero_le _, rfl, Lib.hid (fun j h hj => absurd hj (Nat.not_lt_zero j)), rfl⟩
  case round =>
    obtain ⟨i, hi, rfl, hJ, rfl⟩ := hrel
    by_cases hin : i < n
    · have hil : i < l.length := by rw [HN.out]; exact hin
      have hx := HI.out i _ (List.getElem?_eq_getElem hil)
      by_cases hc : l[i] = c
      · have hq : (((l[i]).toNat : Int) == (c.toNat : Int)) = true := by rw [hc]; simp
        have HX := Lib.hid (show hasP l c = true from by unfold hasP; rw [List.contains_iff_mem]; exact hc ▸ List.getElem_mem hil)
        clear hc
        go_wp2
        go_ret
        exact ⟨by rw [HX.out]; rfl, rfl⟩
      · have hq : (((l[i]).toNat : Int) == (c.toNat : Int)) = false := by
          simp only [beq_eq_false_iff_ne, ne_eq]
          exact fun h => hc (UInt8.toNat_inj.1 (by omega))
        have HX := Lib.hid (show ∀ j (h : j < l.length), j < i + 1 → ¬ l[j] = c from fun j h hj => by
          rcases Nat.lt_or_ge j i with h' | h'
          · exact hJ.out j h h'
          · obtain rfl : j = i := by omega
            exact hc)
        clear hc
        go_wp2
        go_roundw
        case rel => exact ⟨i + 1, by omega, by go_num, HX, trivial⟩
        case measure => simp [intOf]; omega
    · obtain rfl : i = n := by omega
      have HX := Lib.hid (show hasP l c = false from by
        unfold hasP
        rw [Bool.eq_false_iff]
        intro h
        rw [List.contains_iff_mem] at h
        obtain ⟨j, hj, e⟩ := List.getElem_of_mem h
        exact hJ.out j hj (by rw [HN.out] at hj; exact hj) e)
      clear hin
      go_wp2
      go_ret
      exact ⟨by rw [HX.out]; rfl, rfl⟩
end Go.Proofs.YtdhokkmflccaaaaGreatDoor.Ps
