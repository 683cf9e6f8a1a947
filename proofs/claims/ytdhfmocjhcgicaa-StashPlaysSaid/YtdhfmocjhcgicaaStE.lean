/- stash: Stashed, Clear; the document's functions; Same. -/
import Derived.Test.YtdhfmocjhcgicaaStD
namespace Go.Proofs.Ytdhfmocjhcgicaa.St
open Go.RowKit Go.Proofs.Ytdhfmocjhcgicaa

/-- append, as one step of a region that draws its order: whatever it runs to. -/
theorem step_append_run {P : Program} {ops : Array Oper} {o : Oper} {a : Act} {w : World} {K : Act → World → Prop} {Q : Exit → Act → World → Prop} {E : Prop}
    (hgd : o.guard = none) (s x : Operand) (t : TypeId) (hop : o.op = Op.call { callee := Callee.builtin Builtin.append, args := #[s, x], argTypes := #[t, t] })
    (v1 v2 : Value) (hs : a.eval s = v1) (hx : a.eval x = v2) (v : Value) (w' : World) (hrun : (Builtin.append_ #[t, t] o.type #[v1, v2]).run P w = .ok v w') (h : K (a.put o.dst v) w') :
    if Region.wanted o (yielded ops a.tmps) = true then Oper.wp P o a w K Q else E := by
  have hw : Region.wanted o (yielded ops a.tmps) = true := by simp [Region.wanted, hgd]
  rw [if_pos hw]
  unfold Oper.wp
  simp [execOp, hop, resolve, invoke, builtin, hs, hx, hrun, Result.andThen]
  exact h

set_option maxHeartbeats 400000 in
theorem clone_any {w : World} {v : Value} {X : List Int} (h : Row w v X) (few : X.length ≤ 50000) :
    Calls Try.prog 24 #[v] w fun e w' => ∃ v', e = .returned v' ∧ Hid (RowB w.heap.size w' v' X ∧ Only Nil w w') := by
  rcases h.2 with ⟨rfl, h0⟩ | ⟨g, c, cur, rfl, _, _⟩
  · obtain rfl : X = [] := List.eq_nil_of_length_eq_zero h0
    have he : (binOp .eql 26 (.slice none 0 0) (.slice none 0 0)).run Try.prog w = .ok (.bool true) w := by kernel_rfl
    go_enter Try.func24, Try.ntmps24
    go_wp2
    go_ret
    exact ⟨_, rfl, Lib.hid ⟨World.ownsRow_nil _ _ _ _, Only.refl _ _⟩⟩
  · have step := Lib.hid (show ∃ v' w5, (Builtin.append_ #[26, 26] 26 #[.slice (some ⟨w.heap.size, 0, none⟩) 0 0, .slice (some ⟨g, 0, none⟩) X.length c]).run Try.prog (w.alloc (.cells #[] 30)) = .ok v' w5 ∧ Hid (RowB w.heap.size w5 v' X ∧ Only Nil w w5) from by
      have oA : Only Nil w (w.alloc (.cells #[] 30)) := (Only.refl Nil w).alloc _
      have hx : RowB w.heap.size (w.alloc (.cells #[] 30)) (.slice (some ⟨w.heap.size, 0, none⟩) 0 0) [] :=
        ⟨rfl, .inr ⟨_, _, _, rfl, Nat.le_refl _, heap_new w _, Nat.le_refl _, by unfold maxLen; omega, rfl, rfl⟩⟩
      obtain ⟨v', w5, hr, ho, hg⟩ := rows hx (h.nil oA).src (by simp; omega) oA.size
      exact ⟨v', w5, hr, Lib.hid ⟨by simpa using ho, own_grown hx oA (Nat.le_refl _) hg⟩⟩)
    obtain ⟨v', w5, hr, fin⟩ := step.out
    have hr' := Lib.hid hr
    clear hr step h
    generalize X.length = n at *
    have he : (binOp .eql 26 (.slice (some ⟨g, 0, none⟩) n c) (.slice none 0 0)).run Try.prog w = .ok (.bool false) w := by kernel_rfl
    go_enter Try.func24, Try.ntmps24
    go_wp2_with (at_builtin; refine Lib.wpList_append_run _ rfl (.tmp 5) (.tmp 6) 26 26 rfl _ _ rfl rfl _ _ hr'.out ?_)
    go_ret
    exact ⟨v', rfl, fin⟩

theorem stashed_any {w : World} {S : Nat → Prop} {hb n : Nat} {A F : List Int} (h : At w S hb n A F) :
    Calls Try.prog 20 #[.pointer (some ⟨hb, 0, none⟩)] w fun e w' => ∃ v', e = .returned v' ∧ Hid (RowB w.heap.size w' v' A ∧ Only Nil w w') := by
  obtain ⟨va, vf, a, hl, h64⟩ := h
  obtain ⟨x, c, hv⟩ := a.ra.slice
  have c1 := a.c1
  have lt := a.lt_hb
  have hc := Lib.hid (clone_any a.ra (by omega))
  subst hv
  generalize A.length = la at *
  clear a hl h64
  go_enter Try.func20, Try.ntmps20
  go_wp2_with (go_at_call 24; (with_reducible refine hc.out.mono ?_); rintro e w1 ⟨v', rfl, hk⟩)
  go_ret
  exact ⟨v', rfl, hk⟩

def ClearMid (w w1 : World) (S : Nat → Prop) (hb n : Nat) (va vf v' : Value) (A F : List Int) : Prop :=
  w1.cell? ⟨hb, 1, none⟩ = some va ∧ ∃ v2 w5, (Builtin.append_ #[26, 26] 26 #[v', va]).run Try.prog w1 = .ok v2 w5 ∧
      (w5.cell? ⟨hb, 1, none⟩ = some va ∧ w5.frozen? ⟨hb, 1, none⟩ = false ∧ hb < w5.heap.size) ∧
      ((w5.setCell ⟨hb, 1, none⟩ (.slice none 0 0)).cell? ⟨hb, 2, none⟩ = some vf ∧ (w5.setCell ⟨hb, 1, none⟩ (.slice none 0 0)).frozen? ⟨hb, 2, none⟩ = false ∧ hb < (w5.setCell ⟨hb, 1, none⟩ (.slice none 0 0)).heap.size) ∧
      Hid (RowB w.heap.size ((w5.setCell ⟨hb, 1, none⟩ (.slice none 0 0)).setCell ⟨hb, 2, none⟩ (.slice none 0 0)) v2 (F ++ A) ∧ (∀ g, some g = v2.ownBlock → ¬ S g) ∧
        At ((w5.setCell ⟨hb, 1, none⟩ (.slice none 0 0)).setCell ⟨hb, 2, none⟩ (.slice none 0 0)) S hb n [] [] ∧ Only S w ((w5.setCell ⟨hb, 1, none⟩ (.slice none 0 0)).setCell ⟨hb, 2, none⟩ (.slice none 0 0)))

set_option maxHeartbeats 1000000 in
theorem clear_any {w : World} {S : Nat → Prop} {hb n : Nat} {A F : List Int} (h : At w S hb n A F) (few : F.length ≤ 50000) :
    Calls Try.prog 18 #[.pointer (some ⟨hb, 0, none⟩)] w fun e w' => ∃ v', e = .returned v' ∧ Hid (RowB w.heap.size w' v' (F ++ A) ∧ (∀ g, some g = v'.ownBlock → ¬ S g) ∧ At w' S hb n [] [] ∧ Only S w w') := by
  have h' := h
  obtain ⟨va, vf, a, hl, h64⟩ := h
  obtain ⟨x, c, hv⟩ := a.ra.slice
  have c1 := a.c1
  have lt := a.lt_hb
  have step := Lib.hid (fun (W w1 : World) (v' : Value) (oW : Only Nil w W) (hW : W.heap.size = w.heap.size) (hr : RowB W.heap.size w1 v' F) (o1 : Only Nil W w1) => show ClearMid w w1 S hb n va vf v' A F from by
    have o := oW.trans o1
    have a1 := a.nil o
    obtain ⟨v2, w5, hrun, ho, hg⟩ := rows hr a1.ra.src (by omega) o1.size
    have o5 := own_grown hr o (Nat.le_of_eq hW.symm) hg
    rw [hW] at ho
    have a5 := a.nil o5
    have f1 := a5.c1
    have f2 := a5.fz 1
    have f3 := a5.lt_hb
    have s1 := heap_setCell_self (o := 1) (.slice none 0 0) a5.head
    have s1' : (w5.setCell ⟨hb, 1, none⟩ (.slice none 0 0)).heap[hb]? = some (.cells #[.int .i64 (n : Int), .slice none 0 0, vf] 50 (0, 0)) := s1
    have s2 : ((w5.setCell ⟨hb, 1, none⟩ (.slice none 0 0)).setCell ⟨hb, 2, none⟩ (.slice none 0 0)).heap[hb]? = some (.cells #[.int .i64 (n : Int), .slice none 0 0, .slice none 0 0] 50 (0, 0)) := heap_setCell_self (o := 2) (.slice none 0 0) s1'
    have oS : Only (fun q => q = hb) w5 ((w5.setCell ⟨hb, 1, none⟩ (.slice none 0 0)).setCell ⟨hb, 2, none⟩ (.slice none 0 0)) := ((Only.refl (fun q => q = hb) w5).setCell (p := ⟨hb, 1, none⟩) rfl _).setCell (p := ⟨hb, 2, none⟩) rfl _
    have nS : ∀ g, some g = v2.ownBlock → ¬ S g := fun g hg s => by have := ho.ge hg; have := a.lt g s; omega
    refine ⟨a1.c1, v2, w5, hrun, ⟨f1, f2, f3⟩, ⟨by simp [World.cell?, s1'], by simp [World.frozen?, s1'], lt_of_block s1'⟩, Lib.hid ⟨ho.keep oS (fun g hg e => nS g hg (e ▸ a.hS)), nS, ⟨_, _, ⟨s2, Row.none _, Row.none _, fun g hg => by simp [Value.ownBlock] at hg, fun g hg => by simp [Value.ownBlock] at hg, fun g hg => by simp [Value.ownBlock] at hg, a.hS, fun q hq => ?_⟩, by simp, h64⟩, ?_⟩⟩
    · have := a5.lt q hq
      exact Nat.lt_of_lt_of_le this oS.size
    · exact (o5.nilTo S).trans (oS.mono (fun q hq => hq ▸ a.hS)))
  have fr := Lib.hid (fun (W : World) (oW : Only Nil w W) (hW : W.heap.size = w.heap.size) => (front_any (h'.nil oW) few).mono (R' := fun e w1 => ∃ v', e = .returned v' ∧ ClearMid w w1 S hb n va vf v' A F) fun e w1 => by
    rintro ⟨v', rfl, hk⟩
    exact ⟨v', rfl, step.out W w1 v' oW hW hk.out.1 hk.out.2⟩)
  subst hv
  generalize A.length = la at *
  clear a hl h64 h'
  go_enter Try.func18, Try.ntmps18
  go_wp2_with fail
  go_region_held3 (fun w' => w'.cell? ⟨hb, 1, none⟩ = some (.slice x la c))
    (first | exact d1 | exact g1 | go_keep)
    (first
      | (refine step_append_run rfl (.tmp 5) (.tmp 9) 26 rfl _ _ rfl rfl _ _ hrun'.out ?_)
      | (go_at_call 21; go_loud (refine (fr.out _ ((Only.refl Nil w).drewN _) rfl).mono ?_; rintro e w1 ⟨v', rfl, d1, v2, w5, hrun, ⟨g1, g2, g3⟩, ⟨m1, m2, m3⟩, fin⟩; have hrun' := Lib.hid hrun; clear hrun)))
  go_wp2
  go_ret
  exact ⟨v2, rfl, fin⟩
end Go.Proofs.Ytdhfmocjhcgicaa.St
