/- Operations of a bell, begun; rows of cells; a bell made. -/
import Derived.Test.YtfhbgabblegecaaBlT
import Derived.LoopTactic
import Derived.Deep.DeepCutAuto
namespace Go.Proofs.Ytfhbgabblegecaa.Bl
open Go.RowKit

/-- An operation of one worker, begun where block x is the next one. -/
def bgn (k : Kd) (n : Nat) (v : Int) (x : Nat) : OS := if 0 ≤ v ∧ v < (n : Int) then .one k v.toNat x (x + 1) else .over 4 (-1)
theorem cap_new (w : World) (dq v : Nat) :
    Cap ((w.alloc (.cells #[.pointer (some ⟨dq, 0, none⟩)] 28)).alloc (.cells #[.int .i64 (v : Int)] 3)) dq v w.heap.size (w.heap.size + 1) := by
  have s1 : (w.alloc (.cells #[.pointer (some ⟨dq, 0, none⟩)] 28)).heap.size = w.heap.size + 1 := by simp
  refine ⟨?_, ?_⟩
  · rw [Below.heap_alloc _ _ _ (by omega)]; exact heap_new w _
  · have := heap_new (w.alloc (.cells #[.pointer (some ⟨dq, 0, none⟩)] 28)) (.cells #[.int .i64 (v : Int)] 3); rwa [s1] at this
set_option maxHeartbeats 2000000 in
theorem dsleep_any {w : World} {dq hb b n : Nat} (hB : BlAt w dq hb b n) (v : Int) :
    Calls Try.prog 34 #[.pointer (some ⟨dq, 0, none⟩), .int .i64 v] w fun e w' =>
      e = .returned (.pointer (some ⟨w.heap.size + 2, 0, none⟩)) ∧ OpIn w' (w.heap.size + 2) dq (bgn .sleep n v w.heap.size) ∧ Only Nil w w' ∧ w.heap.size + 2 < w'.heap.size := by
  have hmf : ∀ (fn : Fn) (first cap : Array Value) (w : World), (Instr.makeFunc fn first cap).run Try.prog w = .ok (.func fn first cap) w := fun _ _ _ _ => rfl
  have o2 := ((Only.refl Nil w).alloc (.cells #[.pointer (some ⟨dq, 0, none⟩)] 28)).alloc (.cells #[.int .i64 v] 3)
  have B2 := hB.keep o2 (fun h => h)
  have s2 : ((w.alloc (.cells #[.pointer (some ⟨dq, 0, none⟩)] 28)).alloc (.cells #[.int .i64 v] 3)).heap.size = w.heap.size + 2 := by simp
  have o2' := Lib.hid o2
  by_cases hv : 0 ≤ v ∧ v < (n : Int)
  · have e1 : bgn .sleep n v w.heap.size = .one .sleep v.toNat w.heap.size (w.heap.size + 1) := if_pos hv
    rw [e1]
    obtain ⟨k, rfl⟩ := Int.eq_ofNat_of_zero_le hv.1
    have cp := cap_new w dq k
    have al := Lib.hid (fun f xs => alone_yes B2 k f xs (by omega))
    have cp' := Lib.hid cp
    have fin : Hid (∀ w', ((w.alloc (.cells #[.pointer (some ⟨dq, 0, none⟩)] 28)).alloc (.cells #[.int .i64 (k : Int)] 3)).alloc (.cells (opCells (.pointer (some ⟨dq, 0, none⟩)) (clo Kd.sleep.fn w.heap.size (w.heap.size + 1)) 0 0 (-1)).toArray 104) = w' → OpIn w' (w.heap.size + 2) dq (.one .sleep k w.heap.size (w.heap.size + 1)) ∧ Only Nil w w' ∧ w.heap.size + 2 < w'.heap.size) := Lib.hid (by
      rintro w' rfl
      refine ⟨⟨⟨?_⟩, cp'.out.keep ((Only.refl Nil _).alloc _) (fun h => h) (fun h => h)⟩, o2'.out.alloc _, by simp⟩
      have := heap_new ((w.alloc (.cells #[.pointer (some ⟨dq, 0, none⟩)] 28)).alloc (.cells #[.int .i64 (k : Int)] 3)) (.cells (opCells (.pointer (some ⟨dq, 0, none⟩)) (clo Kd.sleep.fn w.heap.size (w.heap.size + 1)) 0 0 (-1)).toArray 104)
      rw [s2] at this
      exact this)
    obtain ⟨c0, c1⟩ := cp.c
    clear hv hB o2 B2 cp e1 cp'
    simp only [s2] at al
    go_enter Try.func34, Try.ntmps34
    go_wp2_with (go_at_call 53; refine (al.out _ _).mono ?_; rintro e w1 ⟨rfl, h1⟩)
    go_ret
    exact ⟨rfl, fin.out _ h1⟩
  · have e1 : bgn .sleep n v w.heap.size = .over 4 (-1) := if_neg hv
    rw [e1]
    have al := Lib.hid (fun nx => alone_no B2 v nx (by omega))
    have fin : Hid (∀ w', (∃ nb nx2, ((w.alloc (.cells #[.pointer (some ⟨dq, 0, none⟩)] 28)).alloc (.cells #[.int .i64 v] 3)).alloc (.cells (opCells nb nx2 0 4 (-1)).toArray 104) = w') → OpIn w' (w.heap.size + 2) dq (.over 4 (-1)) ∧ Only Nil w w' ∧ w.heap.size + 2 < w'.heap.size) := Lib.hid (by
      rintro w' ⟨nb, nx2, rfl⟩
      refine ⟨⟨nb, nx2, 0, ⟨?_⟩⟩, o2'.out.alloc _, by simp⟩
      have := heap_new ((w.alloc (.cells #[.pointer (some ⟨dq, 0, none⟩)] 28)).alloc (.cells #[.int .i64 v] 3)) (.cells (opCells nb nx2 0 4 (-1)).toArray 104)
      rw [s2] at this
      exact this)
    have c0 : ((w.alloc (.cells #[.pointer (some ⟨dq, 0, none⟩)] 28)).alloc (.cells #[.int .i64 v] 3)).cell? ⟨w.heap.size, 0, none⟩ = some (.pointer (some ⟨dq, 0, none⟩)) := by
      unfold World.cell?
      rw [Below.heap_alloc _ _ _ (by simp), heap_new]; rfl
    have c1 : ((w.alloc (.cells #[.pointer (some ⟨dq, 0, none⟩)] 28)).alloc (.cells #[.int .i64 v] 3)).cell? ⟨w.heap.size + 1, 0, none⟩ = some (.int .i64 v) := by
      have := heap_new (w.alloc (.cells #[.pointer (some ⟨dq, 0, none⟩)] 28)) (.cells #[.int .i64 v] 3)
      rw [show (w.alloc (.cells #[.pointer (some ⟨dq, 0, none⟩)] 28)).heap.size = w.heap.size + 1 by simp] at this
      unfold World.cell?
      rw [this]; rfl
    clear hv hB o2 B2 e1
    simp only [s2] at al
    go_enter Try.func34, Try.ntmps34
    go_wp2_with (go_at_call 53; refine (al.out _).mono ?_; rintro e w1 ⟨rfl, h1⟩)
    go_ret
    exact ⟨rfl, fin.out _ h1⟩
set_option maxHeartbeats 2000000 in
theorem dup_any {w : World} {dq hb b n : Nat} (hB : BlAt w dq hb b n) (v : Int) :
    Calls Try.prog 47 #[.pointer (some ⟨dq, 0, none⟩), .int .i64 v] w fun e w' =>
      e = .returned (.pointer (some ⟨w.heap.size + 2, 0, none⟩)) ∧ OpIn w' (w.heap.size + 2) dq (bgn .up n v w.heap.size) ∧ Only Nil w w' ∧ w.heap.size + 2 < w'.heap.size := by
  have hmf : ∀ (fn : Fn) (first cap : Array Value) (w : World), (Instr.makeFunc fn first cap).run Try.prog w = .ok (.func fn first cap) w := fun _ _ _ _ => rfl
  have o2 := ((Only.refl Nil w).alloc (.cells #[.pointer (some ⟨dq, 0, none⟩)] 28)).alloc (.cells #[.int .i64 v] 3)
  have B2 := hB.keep o2 (fun h => h)
  have s2 : ((w.alloc (.cells #[.pointer (some ⟨dq, 0, none⟩)] 28)).alloc (.cells #[.int .i64 v] 3)).heap.size = w.heap.size + 2 := by simp
  have o2' := Lib.hid o2
  by_cases hv : 0 ≤ v ∧ v < (n : Int)
  · have e1 : bgn .up n v w.heap.size = .one .up v.toNat w.heap.size (w.heap.size + 1) := if_pos hv
    rw [e1]
    obtain ⟨k, rfl⟩ := Int.eq_ofNat_of_zero_le hv.1
    have cp := cap_new w dq k
    have al := Lib.hid (fun f xs => alone_yes B2 k f xs (by omega))
    have cp' := Lib.hid cp
    have fin : Hid (∀ w', ((w.alloc (.cells #[.pointer (some ⟨dq, 0, none⟩)] 28)).alloc (.cells #[.int .i64 (k : Int)] 3)).alloc (.cells (opCells (.pointer (some ⟨dq, 0, none⟩)) (clo Kd.up.fn w.heap.size (w.heap.size + 1)) 0 0 (-1)).toArray 104) = w' → OpIn w' (w.heap.size + 2) dq (.one .up k w.heap.size (w.heap.size + 1)) ∧ Only Nil w w' ∧ w.heap.size + 2 < w'.heap.size) := Lib.hid (by
      rintro w' rfl
      refine ⟨⟨⟨?_⟩, cp'.out.keep ((Only.refl Nil _).alloc _) (fun h => h) (fun h => h)⟩, o2'.out.alloc _, by simp⟩
      have := heap_new ((w.alloc (.cells #[.pointer (some ⟨dq, 0, none⟩)] 28)).alloc (.cells #[.int .i64 (k : Int)] 3)) (.cells (opCells (.pointer (some ⟨dq, 0, none⟩)) (clo Kd.up.fn w.heap.size (w.heap.size + 1)) 0 0 (-1)).toArray 104)
      rw [s2] at this
      exact this)
    obtain ⟨c0, c1⟩ := cp.c
    clear hv hB o2 B2 cp e1 cp'
    simp only [s2] at al
    go_enter Try.func47, Try.ntmps47
    go_wp2_with (go_at_call 53; refine (al.out _ _).mono ?_; rintro e w1 ⟨rfl, h1⟩)
    go_ret
    exact ⟨rfl, fin.out _ h1⟩
  · have e1 : bgn .up n v w.heap.size = .over 4 (-1) := if_neg hv
    rw [e1]
    have al := Lib.hid (fun nx => alone_no B2 v nx (by omega))
    have fin : Hid (∀ w', (∃ nb nx2, ((w.alloc (.cells #[.pointer (some ⟨dq, 0, none⟩)] 28)).alloc (.cells #[.int .i64 v] 3)).alloc (.cells (opCells nb nx2 0 4 (-1)).toArray 104) = w') → OpIn w' (w.heap.size + 2) dq (.over 4 (-1)) ∧ Only Nil w w' ∧ w.heap.size + 2 < w'.heap.size) := Lib.hid (by
      rintro w' ⟨nb, nx2, rfl⟩
      refine ⟨⟨nb, nx2, 0, ⟨?_⟩⟩, o2'.out.alloc _, by simp⟩
      have := heap_new ((w.alloc (.cells #[.pointer (some ⟨dq, 0, none⟩)] 28)).alloc (.cells #[.int .i64 v] 3)) (.cells (opCells nb nx2 0 4 (-1)).toArray 104)
      rw [s2] at this
      exact this)
    have c0 : ((w.alloc (.cells #[.pointer (some ⟨dq, 0, none⟩)] 28)).alloc (.cells #[.int .i64 v] 3)).cell? ⟨w.heap.size, 0, none⟩ = some (.pointer (some ⟨dq, 0, none⟩)) := by
      unfold World.cell?
      rw [Below.heap_alloc _ _ _ (by simp), heap_new]; rfl
    have c1 : ((w.alloc (.cells #[.pointer (some ⟨dq, 0, none⟩)] 28)).alloc (.cells #[.int .i64 v] 3)).cell? ⟨w.heap.size + 1, 0, none⟩ = some (.int .i64 v) := by
      have := heap_new (w.alloc (.cells #[.pointer (some ⟨dq, 0, none⟩)] 28)) (.cells #[.int .i64 v] 3)
      rw [show (w.alloc (.cells #[.pointer (some ⟨dq, 0, none⟩)] 28)).heap.size = w.heap.size + 1 by simp] at this
      unfold World.cell?
      rw [this]; rfl
    clear hv hB o2 B2 e1
    simp only [s2] at al
    go_enter Try.func47, Try.ntmps47
    go_wp2_with (go_at_call 53; refine (al.out _).mono ?_; rintro e w1 ⟨rfl, h1⟩)
    go_ret
    exact ⟨rfl, fin.out _ h1⟩
set_option maxHeartbeats 2000000 in
theorem dpoll_any {w : World} {dq hb b n : Nat} (hB : BlAt w dq hb b n) (v : Int) :
    Calls Try.prog 37 #[.pointer (some ⟨dq, 0, none⟩), .int .i64 v] w fun e w' =>
      e = .returned (.pointer (some ⟨w.heap.size + 2, 0, none⟩)) ∧ OpIn w' (w.heap.size + 2) dq (bgn .poll n v w.heap.size) ∧ Only Nil w w' ∧ w.heap.size + 2 < w'.heap.size := by
  have hmf : ∀ (fn : Fn) (first cap : Array Value) (w : World), (Instr.makeFunc fn first cap).run Try.prog w = .ok (.func fn first cap) w := fun _ _ _ _ => rfl
  have o2 := ((Only.refl Nil w).alloc (.cells #[.pointer (some ⟨dq, 0, none⟩)] 28)).alloc (.cells #[.int .i64 v] 3)
  have B2 := hB.keep o2 (fun h => h)
  have s2 : ((w.alloc (.cells #[.pointer (some ⟨dq, 0, none⟩)] 28)).alloc (.cells #[.int .i64 v] 3)).heap.size = w.heap.size + 2 := by simp
  have o2' := Lib.hid o2
  by_cases hv : 0 ≤ v ∧ v < (n : Int)
  · have e1 : bgn .poll n v w.heap.size = .one .poll v.toNat w.heap.size (w.heap.size + 1) := if_pos hv
    rw [e1]
    obtain ⟨k, rfl⟩ := Int.eq_ofNat_of_zero_le hv.1
    have cp := cap_new w dq k
    have al := Lib.hid (fun f xs => alone_yes B2 k f xs (by omega))
    have cp' := Lib.hid cp
    have fin : Hid (∀ w', ((w.alloc (.cells #[.pointer (some ⟨dq, 0, none⟩)] 28)).alloc (.cells #[.int .i64 (k : Int)] 3)).alloc (.cells (opCells (.pointer (some ⟨dq, 0, none⟩)) (clo Kd.poll.fn w.heap.size (w.heap.size + 1)) 0 0 (-1)).toArray 104) = w' → OpIn w' (w.heap.size + 2) dq (.one .poll k w.heap.size (w.heap.size + 1)) ∧ Only Nil w w' ∧ w.heap.size + 2 < w'.heap.size) := Lib.hid (by
      rintro w' rfl
      refine ⟨⟨⟨?_⟩, cp'.out.keep ((Only.refl Nil _).alloc _) (fun h => h) (fun h => h)⟩, o2'.out.alloc _, by simp⟩
      have := heap_new ((w.alloc (.cells #[.pointer (some ⟨dq, 0, none⟩)] 28)).alloc (.cells #[.int .i64 (k : Int)] 3)) (.cells (opCells (.pointer (some ⟨dq, 0, none⟩)) (clo Kd.poll.fn w.heap.size (w.heap.size + 1)) 0 0 (-1)).toArray 104)
      rw [s2] at this
      exact this)
    obtain ⟨c0, c1⟩ := cp.c
    clear hv hB o2 B2 cp e1 cp'
    simp only [s2] at al
    go_enter Try.func37, Try.ntmps37
    go_wp2_with (go_at_call 53; refine (al.out _ _).mono ?_; rintro e w1 ⟨rfl, h1⟩)
    go_ret
    exact ⟨rfl, fin.out _ h1⟩
  · have e1 : bgn .poll n v w.heap.size = .over 4 (-1) := if_neg hv
    rw [e1]
    have al := Lib.hid (fun nx => alone_no B2 v nx (by omega))
    have fin : Hid (∀ w', (∃ nb nx2, ((w.alloc (.cells #[.pointer (some ⟨dq, 0, none⟩)] 28)).alloc (.cells #[.int .i64 v] 3)).alloc (.cells (opCells nb nx2 0 4 (-1)).toArray 104) = w') → OpIn w' (w.heap.size + 2) dq (.over 4 (-1)) ∧ Only Nil w w' ∧ w.heap.size + 2 < w'.heap.size) := Lib.hid (by
      rintro w' ⟨nb, nx2, rfl⟩
      refine ⟨⟨nb, nx2, 0, ⟨?_⟩⟩, o2'.out.alloc _, by simp⟩
      have := heap_new ((w.alloc (.cells #[.pointer (some ⟨dq, 0, none⟩)] 28)).alloc (.cells #[.int .i64 v] 3)) (.cells (opCells nb nx2 0 4 (-1)).toArray 104)
      rw [s2] at this
      exact this)
    have c0 : ((w.alloc (.cells #[.pointer (some ⟨dq, 0, none⟩)] 28)).alloc (.cells #[.int .i64 v] 3)).cell? ⟨w.heap.size, 0, none⟩ = some (.pointer (some ⟨dq, 0, none⟩)) := by
      unfold World.cell?
      rw [Below.heap_alloc _ _ _ (by simp), heap_new]; rfl
    have c1 : ((w.alloc (.cells #[.pointer (some ⟨dq, 0, none⟩)] 28)).alloc (.cells #[.int .i64 v] 3)).cell? ⟨w.heap.size + 1, 0, none⟩ = some (.int .i64 v) := by
      have := heap_new (w.alloc (.cells #[.pointer (some ⟨dq, 0, none⟩)] 28)) (.cells #[.int .i64 v] 3)
      rw [show (w.alloc (.cells #[.pointer (some ⟨dq, 0, none⟩)] 28)).heap.size = w.heap.size + 1 by simp] at this
      unfold World.cell?
      rw [this]; rfl
    clear hv hB o2 B2 e1
    simp only [s2] at al
    go_enter Try.func37, Try.ntmps37
    go_wp2_with (go_at_call 53; refine (al.out _).mono ?_; rintro e w1 ⟨rfl, h1⟩)
    go_ret
    exact ⟨rfl, fin.out _ h1⟩
set_option maxHeartbeats 2000000 in
theorem dring_any (w : World) (dq : Nat) :
    Calls Try.prog 31 #[.pointer (some ⟨dq, 0, none⟩)] w fun e w' =>
      e = .returned (.pointer (some ⟨w.heap.size, 0, none⟩)) ∧ OpIn w' w.heap.size dq (.look 0) ∧ Only Nil w w' ∧ w.heap.size < w'.heap.size := by
  have hmf : ∀ (fn : Fn) (first cap : Array Value) (w : World), (Instr.makeFunc fn first cap).run Try.prog w = .ok (.func fn first cap) w := fun _ _ _ _ => rfl
  have fin : Hid (OpC (w.alloc (.cells (opCells (.pointer (some ⟨dq, 0, none⟩)) (me 52) 0 0 (-1)).toArray 104)) w.heap.size (.pointer (some ⟨dq, 0, none⟩)) (me 52) 0 0 (-1)) := Lib.hid ⟨heap_new w _⟩
  have o1 := Lib.hid ((Only.refl Nil w).alloc (.cells (opCells (.pointer (some ⟨dq, 0, none⟩)) (me 52) 0 0 (-1)).toArray 104))
  go_enter Try.func31, Try.ntmps31
  go_wp2
  go_ret
  exact ⟨rfl, fin.out, o1.out, fin.out.lt⟩
theorem size_yes (w : World) (c : Nat) (hc : 0 < c) (hc2 : c ≤ 8) :
    Calls Try.prog 28 #[.int .i64 (c : Int)] w fun e w' => e = .returned (.int .i64 (c : Int)) ∧ w = w' := by
  have h1 : ¬ ((c : Int) < 1) := by omega
  have h2 : ¬ ((8 : Int) < (c : Int)) := by omega
  clear hc hc2
  go_enter Try.func28, Try.ntmps28
  go_wp2
  go_ret
  exact ⟨rfl, rfl⟩
theorem size_no (w : World) (c : Int) (hc : c < 1 ∨ 8 < c) :
    Calls Try.prog 28 #[.int .i64 c] w fun e w' => e = .returned (.int .i64 0) ∧ w = w' := by
  by_cases h1 : c < 1
  · clear hc
    go_enter Try.func28, Try.ntmps28
    go_wp2
    go_ret
    exact ⟨rfl, rfl⟩
  · have h2 : 8 < c := by omega
    clear hc
    go_enter Try.func28, Try.ntmps28
    go_wp2
    go_ret
    exact ⟨rfl, rfl⟩
end Go.Proofs.Ytfhbgabblegecaa.Bl
