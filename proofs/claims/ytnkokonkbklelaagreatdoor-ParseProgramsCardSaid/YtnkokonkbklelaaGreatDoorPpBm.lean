/- parse, the document's reader: word, must. -/
import Derived.Test.YtnkokonkbklelaaGreatDoorPpBa
import Derived.Test.YtnkokonkbklelaaGreatDoorPpBb
import Derived.Test.YtnkokonkbklelaaGreatDoorPpBc
import Derived.Test.YtnkokonkbklelaaGreatDoorPpBd
set_option linter.unusedSimpArgs false
set_option linter.unusedVariables false
namespace Go.Proofs.YtnkokonkbklelaaGreatDoor.Ps
open Go.RowKit Go.Proofs.YtnkokonkbklelaaGreatDoor Lx

theorem word_any {w : World} {R : Nat} {X : Tks} {st : DSt} (h : Tx w R X st) (s : Wd) (hs : NoDg s) (hne : s ≠ []) :
    Calls Tryz.prog 26 #[.pointer (some ⟨R, 0, none⟩), .string (bs s)] w fun e w' => e = .returned (.bool (dW s st)) ∧ Tx w' R X (dWs s st) ∧ Only (At R) w w' := by
  obtain ⟨b, T⟩ := st
  cases b with
  | true => exact word_bad h s
  | false =>
    cases T with
    | nil => exact word_nil h s hne
    | cons x r =>
      by_cases hk : x.1.k = 2
      · refine word_num h s ?_ hk
        unfold dW
        have : (hw (x :: r) == s) = false := beq_eq_false_iff_ne.2 (dg_ne h.dg (suf_mem h.suf) hk hs)
        rw [this]; rfl
      · by_cases hd : dW s (false, x :: r) = true
        · exact word_yes h s hd hk
        · exact word_no h s (by simpa using hd) hk

set_option maxRecDepth 100000 in
theorem must_any {w : World} {R : Nat} {X : Tks} {st : DSt} (h : Tx w R X st) (s : Wd) (hs : NoDg s) (hne : s ≠ []) :
    Calls Tryz.prog 15 #[.pointer (some ⟨R, 0, none⟩), .string (bs s)] w fun e w' => e = .returned (.tuple #[]) ∧ Tx w' R X (lift (pass s) st) ∧ Only (At R) w w' := by
  have HW := Lib.hid (word_any h s hs hne)
  clear h
  cases hd : dW s st with
  | true =>
    rw [hd] at HW
    have e1 : dWs s st = lift (pass s) st := by unfold dWs; rw [if_pos hd, dW_pass hd]
    rw [e1] at HW
    clear e1 hd
    go_enter Tryz.func15, Tryz.ntmps15
    go_wp2_with (go_at_call 26; (with_reducible refine HW.out.mono ?_); rintro e w1 ⟨rfl, h1, o1⟩; have k1 := Lib.hid (And.intro h1 o1); clear h1 o1)
    go_end0
    exact ⟨rfl, k1.out⟩
  | false =>
    rw [hd] at HW
    have e1 : dWs s st = st := by unfold dWs; rw [if_neg (by rw [hd]; decide)]
    have e2 := Lib.hid (dW_must hd)
    rw [e1] at HW
    clear e1 hd
    go_enter Tryz.func15, Tryz.ntmps15
    go_wp2_with (go_at_call 26; (with_reducible refine HW.out.mono ?_); rintro e w1 ⟨rfl, h1, o1⟩; have k1 := Lib.hid (And.intro h1 o1); have c2 := h1.c2; have f2 := h1.f 2; clear h1 o1)
    go_end0
    exact ⟨rfl, by rw [e2.out]; exact k1.out.1.set2 true, k1.out.2.trans (at_only _ R 2 _)⟩
end Go.Proofs.YtnkokonkbklelaaGreatDoor.Ps
