/- check: what an effect is made of: parts, fits, isSlot, isReference, isValue, isNumber. -/
import Derived.Test.YthanclicnkjmiaaGreatDoorChF
import Derived.BigRegion
import Derived.OrdersHeld
set_option linter.unusedVariables false
namespace Go.Proofs.YthanclicnkjmiaaGreatDoor.Ch
open Go.RowKit Go.Proofs.YthanclicnkjmiaaGreatDoor Lx Ps

/-- wpAnyH_take, the place of what comes out said by itself. -/
theorem take_dst {P : Program} {md : Region.Mode} {ops : Array Oper} {Q : Exit → Act → World → Prop} {S : World → Prop} (d : Option Tmp) {i : Nat} {oi : Oper} {v : Value} {fuel : Nat} {listed : Array Bool} {a : Act} {w : World} (hi : ops[i]? = some oi) (hd : oi.dst = d)
    (hs : Region.noSelect ops = true) (hf : Region.free md ops listed i = true) (hr : (Region.ready md ops listed).contains i = true)
    (hQ : ∀ c a w, Q (.panic c) (a.put oi.dst v) w → Q (.panic c) a w) (hy : YieldsIf P ops S oi v a) (hS : S w)
    (h : wpAnyH P md ops Q S fuel (listed.setIfInBounds i true) (a.put d v) w) : wpAnyH P md ops Q S (fuel + 1) listed a w := by
  subst hd
  exact wpAnyH_take hi hs hf hr hQ hy hS h
def pm (z : Int) : Int :=
  if z = 1 then 21 else if z = 2 then 6 else if z = 3 then 4 else if z = 9 then 4 else if z = 12 then 4 else if z = 6 then 1 else if z = 7 then 1 else if z = 8 then 28 else if z = 10 then 2 else 0
theorem pm_cases (z : Int) : z = 1 ∨ z = 2 ∨ z = 3 ∨ z = 9 ∨ z = 12 ∨ z = 6 ∨ z = 7 ∨ z = 8 ∨ z = 10 ∨ (pm z = 0 ∧ parts z = []) := by
  by_cases h1 : z = 1; · exact Or.inl h1
  by_cases h2 : z = 2; · exact Or.inr (Or.inl h2)
  by_cases h3 : z = 3; · exact Or.inr (Or.inr (Or.inl h3))
  by_cases h4 : z = 9; · exact Or.inr (Or.inr (Or.inr (Or.inl h4)))
  by_cases h5 : z = 12; · exact Or.inr (Or.inr (Or.inr (Or.inr (Or.inl h5))))
  by_cases h6 : z = 6; · exact Or.inr (Or.inr (Or.inr (Or.inr (Or.inr (Or.inl h6)))))
  by_cases h7 : z = 7; · exact Or.inr (Or.inr (Or.inr (Or.inr (Or.inr (Or.inr (Or.inl h7))))))
  by_cases h8 : z = 8; · exact Or.inr (Or.inr (Or.inr (Or.inr (Or.inr (Or.inr (Or.inr (Or.inl h8)))))))
  by_cases h9 : z = 10; · exact Or.inr (Or.inr (Or.inr (Or.inr (Or.inr (Or.inr (Or.inr (Or.inr (Or.inl h9))))))))
  exact Or.inr (Or.inr (Or.inr (Or.inr (Or.inr (Or.inr (Or.inr (Or.inr (Or.inr ⟨by unfold pm; simp [h1, h2, h3, h4, h5, h6, h7, h8, h9], by unfold parts; simp [h1, h2, h3, h4, h5, h6, h7, h8, h9]⟩))))))))
theorem parts_any (z : Int) (w : World) : Calls Tryz.prog 234 #[.int .i64 z] w fun e w' => e = .returned (.int .i64 (pm z)) ∧ w = w' := by
  have h := pm_cases z
  by_cases h1 : z = 1
  · subst h1; go_enter Tryz.func234, Tryz.ntmps234
    go_wp2
    go_ret
    exact ⟨rfl, rfl⟩
  by_cases h2 : z = 2
  · subst h2; go_enter Tryz.func234, Tryz.ntmps234
    go_wp2
    go_ret
    exact ⟨rfl, rfl⟩
  by_cases h3 : z = 3
  · subst h3; go_enter Tryz.func234, Tryz.ntmps234
    go_wp2
    go_ret
    exact ⟨rfl, rfl⟩
  by_cases h4 : z = 9
  · subst h4; go_enter Tryz.func234, Tryz.ntmps234
    go_wp2
    go_ret
    exact ⟨rfl, rfl⟩
  by_cases h5 : z = 12
  · subst h5; go_enter Tryz.func234, Tryz.ntmps234
    go_wp2
    go_ret
    exact ⟨rfl, rfl⟩
  by_cases h6 : z = 6
  · subst h6; go_enter Tryz.func234, Tryz.ntmps234
    go_wp2
    go_ret
    exact ⟨rfl, rfl⟩
  by_cases h7 : z = 7
  · subst h7; go_enter Tryz.func234, Tryz.ntmps234
    go_wp2
    go_ret
    exact ⟨rfl, rfl⟩
  by_cases h8 : z = 8
  · subst h8; go_enter Tryz.func234, Tryz.ntmps234
    go_wp2
    go_ret
    exact ⟨rfl, rfl⟩
  by_cases h9 : z = 10
  · subst h9; go_enter Tryz.func234, Tryz.ntmps234
    go_wp2
    go_ret
    exact ⟨rfl, rfl⟩
  have HZ := Lib.hid (show pm z = 0 from by simpa [h1, h2, h3, h4, h5, h6, h7, h8, h9] using (h.resolve_left h1 |>.resolve_left h2 |>.resolve_left h3 |>.resolve_left h4 |>.resolve_left h5 |>.resolve_left h6 |>.resolve_left h7 |>.resolve_left h8 |>.resolve_left h9).1)
  have g1 : (z == 1) = false := by simpa using h1
  have g2 : (z == 2) = false := by simpa using h2
  have g3 : (z == 3) = false := by simpa using h3
  have g4 : (z == 9) = false := by simpa using h4
  have g5 : (z == 12) = false := by simpa using h5
  have g6 : (z == 6) = false := by simpa using h6
  have g7 : (z == 7) = false := by simpa using h7
  have g8 : (z == 8) = false := by simpa using h8
  have g9 : (z == 10) = false := by simpa using h9
  clear h h1 h2 h3 h4 h5 h6 h7 h8 h9
  go_enter Tryz.func234, Tryz.ntmps234
  go_wp2
  go_ret
  exact ⟨by rw [HZ.out]; rfl, rfl⟩
/-- Which of its parts a number of parts has. -/
theorem and_bits (z k : Int) (c : UInt8) (hk : (k = 1 ∧ c = 114) ∨ (k = 2 ∧ c = 115) ∨ (k = 4 ∧ c = 110) ∨ (k = 8 ∧ c = 100) ∨ (k = 16 ∧ c = 118)) : bits .and .i64 (pm z) k = if (parts z).contains c then k else 0 := by
  rcases pm_cases z with rfl | rfl | rfl | rfl | rfl | rfl | rfl | rfl | rfl | ⟨h1, h2⟩
  case inr.inr.inr.inr.inr.inr.inr.inr.inr =>
    rw [h1, h2]
    rcases hk with ⟨rfl, rfl⟩ | ⟨rfl, rfl⟩ | ⟨rfl, rfl⟩ | ⟨rfl, rfl⟩ | ⟨rfl, rfl⟩ <;> decide +kernel
  all_goals rcases hk with ⟨rfl, rfl⟩ | ⟨rfl, rfl⟩ | ⟨rfl, rfl⟩ | ⟨rfl, rfl⟩ | ⟨rfl, rfl⟩ <;> decide +kernel
theorem fits_any (z k : Int) (c : UInt8) (hk : (k = 1 ∧ c = 114) ∨ (k = 2 ∧ c = 115) ∨ (k = 4 ∧ c = 110) ∨ (k = 8 ∧ c = 100) ∨ (k = 16 ∧ c = 118)) (r b0 : Bool) (q : Nat) (w : World) (hc : w.cell? ⟨q, 0, none⟩ = some (.int .i64 (pm z))) :
    Calls Tryz.prog 235 #[.int .i64 k, .bool r, .bool b0, .pointer (some ⟨q, 0, none⟩)] w fun e w' => e = .returned (.bool (if (parts z).contains c then r else b0)) ∧ w = w' := by
  have hr := and_bits z k c hk
  have hk0 : (k != 0) = true := by rcases hk with ⟨rfl, _⟩ | ⟨rfl, _⟩ | ⟨rfl, _⟩ | ⟨rfl, _⟩ | ⟨rfl, _⟩ <;> decide
  clear hk
  cases hp : (parts z).contains c with
  | true =>
    rw [hp] at hr
    simp only [if_true] at hr
    clear hp
    generalize pm z = m at *
    go_enter Tryz.func235, Tryz.ntmps235
    go_wp2
    go_ret
    exact ⟨rfl, rfl⟩
  | false =>
    rw [hp] at hr
    simp only [Bool.false_eq_true, if_false] at hr
    clear hp
    generalize pm z = m at *
    go_enter Tryz.func235, Tryz.ntmps235
    go_wp2
    go_ret
    exact ⟨rfl, rfl⟩
theorem emp_bs (s : Wd) : (bs s).toList.isEmpty = decide (s = []) := by
  rw [toList_bs]; cases s <;> rfl
theorem bs_inj {a b : Wd} (h : bs a = bs b) : a = b := by
  have := congrArg (fun x : ByteArray => x.toList) h
  simpa [toList_bs] using this
theorem contains_any (vs : List Wd) (s : Wd) (q n : Nat) (w : World) (hn : vs.length = n) (hb : n ≤ 1000) (hq : w.heap[q]? = some (.cells (vs.map fun s => Value.string (bs s)).toArray 9 (0, 0))) :
    Calls Tryz.prog 130 #[.slice (some ⟨q, 0, none⟩) n n, .string (bs s)] w fun e w' => e = .returned (.bool (decide (s ∈ vs))) ∧ w = w' := by
  refine (Any.slices_Contains_string Tryz.conl q 0 n n (vs.map bs) (bs s) w (by simp [hn]) (by omega) (fun j hj => ?_)).mono fun e w' ⟨he, hw⟩ => ⟨?_, hw.symm⟩
  · rw [List.length_map] at hj
    rw [Nat.zero_add, cell_of_row w q j _ _ _ hq]
    simp [List.getD, hj]
  · rw [he]
    congr 2
    have e1 : (vs.map bs).take n = vs.map bs := List.take_of_length_le (by simp [hn])
    rw [e1, Bool.eq_iff_iff, Lib.containsS_iff, decide_eq_true_eq]
    constructor
    · intro h
      obtain ⟨v, hv, e⟩ := List.mem_map.1 h
      rw [← bs_inj e]; exact hv
    · intro h; exact List.mem_map.2 ⟨s, h, rfl⟩
theorem slot_any (s : Wd) (w : World) : Calls Tryz.prog 237 #[.string (bs s)] w fun e w' => e = .returned (.bool (isSlot s)) ∧ Only Nil w w' := by
  have o : Only Nil w (w.alloc (.cells #[.string (bs [97]), .string (bs [98]), .string (bs [99]), .string (bs [100])] 9)) := (Only.refl Nil w).alloc _
  have HC := Lib.hid (contains_any [[97], [98], [99], [100]] s w.heap.size 4 (w.alloc (.cells #[.string (bs [97]), .string (bs [98]), .string (bs [99]), .string (bs [100])] 9)) rfl (by decide) (heap_new w _))
  have e : decide (s ∈ [[97], [98], [99], [100]]) = isSlot s := by
    unfold isSlot; rw [Bool.eq_iff_iff]; simp [or_assoc]
  rw [e] at HC
  have O := Lib.hid o
  generalize isSlot s = z at *
  clear o e
  go_enter Tryz.func237, Tryz.ntmps237
  go_wp2_with (go_at_call 130; refine HC.out.mono ?_; rintro e w1 ⟨rfl, rfl⟩)
  go_ret
  exact ⟨rfl, O.out⟩
theorem ref_any (s : Wd) (w : World) : Calls Tryz.prog 236 #[.string (bs s)] w fun e w' => e = .returned (.bool (isRef s)) ∧ Only Nil w w' := by
  have HS := Lib.hid (slot_any s w)
  have hr : isRef s = (isSlot s || decide (s ∈ [w_self, w_sender, w_parent])) := by
    unfold isRef; rw [Bool.eq_iff_iff]; simp [or_assoc]
  rw [hr]
  clear hr
  cases hs : isSlot s with
  | true =>
    rw [hs] at HS
    go_enter Tryz.func236, Tryz.ntmps236
    go_wp2_with (go_at_call 237; refine HS.out.mono ?_; rintro e w1 ⟨rfl, o1⟩)
    go_ret
    exact ⟨rfl, o1⟩
  | false =>
    rw [hs] at HS
    have HC := Lib.hid (fun w1 : World => contains_any [w_self, w_sender, w_parent] s w1.heap.size 3 (w1.alloc (.cells #[.string (bs w_self), .string (bs w_sender), .string (bs w_parent)] 9)) rfl (by decide) (heap_new w1 _))
    generalize decide (s ∈ [w_self, w_sender, w_parent]) = z at *
    go_enter Tryz.func236, Tryz.ntmps236
    go_wp2_with (first
      | (go_at_call 237; refine HS.out.mono ?_; rintro e w1 ⟨rfl, o1⟩)
      | (go_at_call 130; refine (HC.out w1).mono ?_; rintro e w2 ⟨rfl, rfl⟩))
    go_ret
    exact ⟨rfl, o1.alloc _⟩
def isNum (n : Int) (b : Bool) : Bool := decide (n = 0) || b && wn n 0 255
def isVal (v n : Int) : Bool := wn v 0 2 && isNum n (decide (v = 2))
theorem num_any (n : Int) (b : Bool) (w : World) : Calls Tryz.prog 211 #[.int .i64 n, .bool b] w fun e w' => e = .returned (.bool (isNum n b)) ∧ w = w' := by
  have HW := Lib.hid (within_any n 0 255 w)
  unfold isNum
  by_cases h0 : n = 0
  · subst h0
    go_enter Tryz.func211, Tryz.ntmps211
    go_wp2
    go_ret
    exact ⟨rfl, rfl⟩
  · have g0 : (n == 0) = false := by simpa using h0
    rw [decide_eq_false h0, Bool.false_or]
    clear h0
    cases b with
    | false =>
      go_enter Tryz.func211, Tryz.ntmps211
      go_wp2
      go_ret
      exact ⟨rfl, rfl⟩
    | true =>
      rw [Bool.true_and]
      generalize wn n 0 255 = z at *
      go_enter Tryz.func211, Tryz.ntmps211
      go_wp2_with (go_at_call 61; refine HW.out.mono ?_; rintro e w1 ⟨rfl, rfl⟩)
      go_ret
      exact ⟨rfl, rfl⟩
theorem value_any (v n : Int) (w : World) : Calls Tryz.prog 238 #[.int .i64 v, .int .i64 n] w fun e w' => e = .returned (.bool (isVal v n)) ∧ w = w' := by
  have HW := Lib.hid (within_any v 0 2 w)
  unfold isVal
  cases hw : wn v 0 2 with
  | false =>
    rw [hw] at HW
    go_enter Tryz.func238, Tryz.ntmps238
    go_wp2_with (go_at_call 61; refine HW.out.mono ?_; rintro e w1 ⟨rfl, rfl⟩)
    go_ret
    exact ⟨rfl, rfl⟩
  | true =>
    rw [hw] at HW
    rw [Bool.true_and]
    have HN := Lib.hid (num_any n (decide (v = 2)) w)
    generalize isNum n (decide (v = 2)) = z at *
    by_cases h2 : v = 2
    · subst h2
      have e : decide ((2 : Int) = 2) = true := rfl
      rw [e] at HN
      go_enter Tryz.func238, Tryz.ntmps238
      go_wp2_with (first
        | (go_at_call 61; refine HW.out.mono ?_; rintro e w1 ⟨rfl, rfl⟩)
        | (go_at_call 211; refine HN.out.mono ?_; rintro e w1 ⟨rfl, rfl⟩))
      go_ret
      exact ⟨rfl, rfl⟩
    · have g2 : (v == 2) = false := by simpa using h2
      rw [decide_eq_false h2] at HN
      clear h2
      go_enter Tryz.func238, Tryz.ntmps238
      go_wp2_with (first
        | (go_at_call 61; refine HW.out.mono ?_; rintro e w1 ⟨rfl, rfl⟩)
        | (go_at_call 211; refine HN.out.mono ?_; rintro e w1 ⟨rfl, rfl⟩))
      go_ret
      exact ⟨rfl, rfl⟩
end Go.Proofs.YthanclicnkjmiaaGreatDoor.Ch
