/- wheel: a wheel and its list of timers; Due, Where, Add. -/
import Derived.Test.YtpmgmdlfnlmieaaWhI
namespace Go.Proofs.Ytpmgmdlfnlmieaa.Wh
open Go.RowKit Go.Proofs.Ytpmgmdlfnlmieaa

theorem filter_two {α : Type} (p q : α → Bool) (L : List α) (h : ∀ t ∈ L, p t = true → q t = false) : (L.filter p ++ L.filter q).Perm (L.filter fun t => p t || q t) := by
  induction L with
  | nil => exact List.Perm.refl _
  | cons t L ih =>
    have ih' := ih (fun s hs => h s (List.mem_cons_of_mem _ hs))
    have ht := h t List.mem_cons_self
    by_cases hp : p t = true
    · have hq := ht hp
      simp only [List.filter_cons, hp, hq, Bool.true_or, if_true, List.cons_append]
      exact ih'.cons t
    · by_cases hq : q t = true
      · simp only [List.filter_cons, hp, hq, Bool.or_true, if_true]
        exact List.perm_middle.trans (ih'.cons t)
      · simp only [List.filter_cons, hp, hq, Bool.or_self]
        exact ih'
theorem slots_perm (now : Nat) (L : List Tm) : ∀ m, ((List.range m).flatMap (slots now L)).Perm (L.filter fun t => decide (spot now t.due < m)) := by
  intro m
  induction m with
  | zero => simp
  | succ m ih =>
    rw [List.range_succ, List.flatMap_append]
    have e : List.flatMap (slots now L) [m] = slots now L m := by simp
    rw [e]
    refine (ih.append_right _).trans ?_
    unfold slots
    refine (filter_two _ _ L (fun t _ h => ?_)).trans ?_
    · simp at h ⊢; omega
    · refine List.Perm.of_eq (filter_ext fun t _ => ?_)
      rw [Bool.eq_iff_iff]; simp; omega
theorem all_perm (now : Nat) (L : List Tm) : (all (slots now L)).Perm L := by
  refine (slots_perm now L 32).trans (List.Perm.of_eq ?_)
  rw [List.filter_eq_self]
  intro t _
  simp [spot_lt]

/-- A list of timers in order: in time, few, of unlike ids, in the order in which they were added. -/
structure Good (now added : Nat) (L : List Tm) : Prop where
  time : InTime now L
  few : L.length ≤ 64
  apart : (L.map (·.id)).Nodup
  order : L.Pairwise fun a b => a.num < b.num
  old : ∀ t ∈ L, t.num < added
  small : ∀ t ∈ L, t.id < 18446744073709551616
  now : now < 1000000000

/-- World w holds, at hb, a wheel of the timers L; all its blocks are of S. -/
def Wl (w : World) (S : Nat → Prop) (hb now added : Nat) (L : List Tm) : Prop := ∃ V, At w S hb now added V (slots now L)

section
variable {w w' : World} {S T : Nat → Prop} {hb now added : Nat} {L : List Tm}
theorem Wl.keep (h : Wl w S hb now added L) (o : Only T w w') (hT : ∀ k, S k → ¬ T k) : Wl w' S hb now added L := h.imp fun _ h => h.keep o hT
theorem Wl.nil (h : Wl w S hb now added L) (o : Only Nil w w') : Wl w' S hb now added L := h.imp fun _ h => h.nil o
theorem Wl.hS (h : Wl w S hb now added L) : S hb := by obtain ⟨V, h⟩ := h; exact h.hS
theorem Wl.lt (h : Wl w S hb now added L) : ∀ k, S k → k < w.heap.size := by obtain ⟨V, h⟩ := h; exact h.lt
theorem all_few (g : Good now added L) : (all (slots now L)).length ≤ 64 := by rw [(all_perm now L).length_eq]; exact g.few
end

theorem nodup_id : ∀ {L : List Tm}, (L.map (·.id)).Nodup → ∀ {s t : Tm}, s ∈ L → t ∈ L → s.id = t.id → s = t := by
  intro L
  induction L with
  | nil => intro _ s t hs; simp at hs
  | cons a L ih =>
    intro h s t hs ht e
    rw [List.map_cons, List.nodup_cons] at h
    rcases List.mem_cons.1 hs with h1 | h1
    · rcases List.mem_cons.1 ht with h2 | h2
      · rw [h1, h2]
      · rw [h1] at e; exact (h.1 (List.mem_map.2 ⟨t, h2, e.symm⟩)).elim
    · rcases List.mem_cons.1 ht with h2 | h2
      · rw [h2] at e; exact (h.1 (List.mem_map.2 ⟨s, h1, e⟩)).elim
      · exact ih h.2 h1 h2 e

theorem wlen {w : World} {S : Nat → Prop} {hb now added : Nat} {L : List Tm} (h : Wl w S hb now added L) (g : Good now added L) :
    Calls Try.prog 20 #[.pointer (some ⟨hb, 0, none⟩)] w fun e w' => e = .returned (.int .i64 (L.length : Int)) ∧ Only Nil w w' := by
  obtain ⟨V, h⟩ := h
  have := wlen_any h (by have := all_few g; omega)
  rwa [(all_perm now L).length_eq] at this
theorem wnow {w : World} {S : Nat → Prop} {hb now added : Nat} {L : List Tm} (h : Wl w S hb now added L) :
    Calls Try.prog 19 #[.pointer (some ⟨hb, 0, none⟩)] w fun e w' => e = .returned (.int .i64 (now : Int)) ∧ w = w' := by
  obtain ⟨V, h⟩ := h
  exact now_any h

/-- find, of nobody. -/
theorem find_no {w : World} {S : Nat → Prop} {hb now added : Nat} {L : List Tm} (h : Wl w S hb now added L) (g : Good now added L) (id : Nat) (hid : ∀ t ∈ L, t.id ≠ id) :
    Calls Try.prog 26 #[.pointer (some ⟨hb, 0, none⟩), .int .u64 (id : Int)] w fun e w' => e = .returned (FRes 0 0 0 ⟨0, 0, 0⟩ false) ∧ Only Nil w w' := by
  obtain ⟨V, h⟩ := h
  refine (find_any h (by have := all_few g; omega) id).mono ?_
  rintro e w' ⟨⟨_, he⟩ | ⟨k, j, i, hk, hj, hi, hx, _⟩, o⟩
  · exact ⟨he, o⟩
  · exfalso
    have hm : (slots now L (8 * k + j)).getD i default ∈ L := by
      have e : (slots now L (8 * k + j)).getD i default = (slots now L (8 * k + j))[i] := by simp [hi]
      rw [e]
      exact (List.mem_filter.1 (List.getElem_mem hi)).1
    exact hid _ hm hx

/-- find, of timer t. -/
theorem find_yes {w : World} {S : Nat → Prop} {hb now added : Nat} {L : List Tm} (h : Wl w S hb now added L) (g : Good now added L) (t : Tm) (ht : t ∈ L) :
    Calls Try.prog 26 #[.pointer (some ⟨hb, 0, none⟩), .int .u64 (t.id : Int)] w fun e w' =>
      ∃ i, e = .returned (FRes (lev now t.due) (dig t.due (lev now t.due)) i t true) ∧ (i < (slots now L (spot now t.due)).length ∧ (slots now L (spot now t.due)).getD i default = t) ∧ Only Nil w w' := by
  obtain ⟨V, h⟩ := h
  refine (find_any h (by have := all_few g; omega) t.id).mono ?_
  rintro e w' ⟨⟨hn, _⟩ | ⟨k, j, i, hk, hj, hi, hx, he⟩, o⟩
  · exact absurd rfl (hn t ((all_perm now L).mem_iff.2 ht))
  · have e1 : (slots now L (8 * k + j)).getD i default = (slots now L (8 * k + j))[i] := by simp [hi]
    have hm := List.mem_filter.1 (List.getElem_mem hi)
    rw [e1] at hx he
    have e2 : (slots now L (8 * k + j))[i] = t := nodup_id g.apart hm.1 ht hx
    rw [e2] at he
    have e3 : spot now t.due = 8 * k + j := by rw [← e2]; simpa using hm.2
    obtain ⟨e4, e5⟩ := (spot_eq hj).1 e3
    rw [e3]
    refine ⟨i, ?_, ⟨hi, by rw [e1, e2]⟩, o⟩
    rw [he, e4, e5]

theorem due_no {w : World} {S : Nat → Prop} {hb now added : Nat} {L : List Tm} (h : Wl w S hb now added L) (g : Good now added L) (id : Nat) (hid : ∀ t ∈ L, t.id ≠ id) :
    Calls Try.prog 24 #[.pointer (some ⟨hb, 0, none⟩), .int .u64 (id : Int)] w fun e w' => e = .returned (.tuple #[.int .i64 0, .bool false]) ∧ Only Nil w w' := by
  have hf := Lib.hid (find_no h g id hid)
  unfold FRes at hf
  clear h g hid
  go_enter Try.func24, Try.ntmps24
  go_wp2_with (go_at_call 26; (with_reducible refine hf.out.mono ?_); rintro e w1 ⟨rfl, o1⟩; have q1 := Lib.hid o1; clear o1)
  go_ret2
  exact ⟨rfl, (q1.out.alloc _).alloc _⟩
theorem due_yes {w : World} {S : Nat → Prop} {hb now added : Nat} {L : List Tm} (h : Wl w S hb now added L) (g : Good now added L) (t : Tm) (ht : t ∈ L) :
    Calls Try.prog 24 #[.pointer (some ⟨hb, 0, none⟩), .int .u64 (t.id : Int)] w fun e w' => e = .returned (.tuple #[.int .i64 (t.due : Int), .bool true]) ∧ Only Nil w w' := by
  have hf := Lib.hid (find_yes h g t ht)
  unfold FRes at hf
  clear h g ht
  go_enter Try.func24, Try.ntmps24
  go_wp2_with (go_at_call 26; (with_reducible refine hf.out.mono ?_); rintro e w1 ⟨i, rfl, _, o1⟩; have q1 := Lib.hid o1; clear o1)
  go_ret2
  exact ⟨rfl, (q1.out.alloc _).alloc _⟩
theorem where_no {w : World} {S : Nat → Prop} {hb now added : Nat} {L : List Tm} (h : Wl w S hb now added L) (g : Good now added L) (id : Nat) (hid : ∀ t ∈ L, t.id ≠ id) :
    Calls Try.prog 23 #[.pointer (some ⟨hb, 0, none⟩), .int .u64 (id : Int)] w fun e w' => e = .returned (.tuple #[.int .i64 0, .int .i64 0, .bool false]) ∧ Only Nil w w' := by
  have hf := Lib.hid (find_no h g id hid)
  unfold FRes at hf
  clear h g hid
  go_enter Try.func23, Try.ntmps23
  go_wp2_with (go_at_call 26; (with_reducible refine hf.out.mono ?_); rintro e w1 ⟨rfl, o1⟩; have q1 := Lib.hid o1; clear o1)
  go_quiet (fail)
  go_wp2
  go_ret3
  exact ⟨rfl, ((q1.out.alloc _).alloc _).drewN _⟩
theorem where_yes {w : World} {S : Nat → Prop} {hb now added : Nat} {L : List Tm} (h : Wl w S hb now added L) (g : Good now added L) (t : Tm) (ht : t ∈ L) :
    Calls Try.prog 23 #[.pointer (some ⟨hb, 0, none⟩), .int .u64 (t.id : Int)] w fun e w' => e = .returned (.tuple #[.int .i64 (lev now t.due : Nat), .int .i64 (dig t.due (lev now t.due) : Nat), .bool true]) ∧ Only Nil w w' := by
  have hf := Lib.hid (find_yes h g t ht)
  unfold FRes at hf
  clear h g ht
  go_enter Try.func23, Try.ntmps23
  go_wp2_with (go_at_call 26; (with_reducible refine hf.out.mono ?_); rintro e w1 ⟨i, rfl, _, o1⟩; have q1 := Lib.hid o1; clear o1)
  go_quiet (fail)
  go_wp2
  go_ret3
  exact ⟨rfl, ((q1.out.alloc _).alloc _).drewN _⟩
end Go.Proofs.Ytpmgmdlfnlmieaa.Wh
