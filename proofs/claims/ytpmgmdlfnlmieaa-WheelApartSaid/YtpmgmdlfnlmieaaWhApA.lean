/- wheel: two wheels beside each other. -/
import Derived.Test.YtpmgmdlfnlmieaaWhR
import Derived.Test.YtpmgmdlfnlmieaaWhL
import Derived.Test.YtpmgmdlfnlmieaaRowBo
namespace Go.Proofs.Ytpmgmdlfnlmieaa.Wh
open Go.RowKit Go.Proofs.Ytpmgmdlfnlmieaa

/-- World w holds two wheels that were made behind world w0; no block is both's; nothing that there was in w0 has turned. -/
def Two (w0 w : World) (B n a : Nat) (L : List Tm) (C m c : Nat) (M : List Tm) : Prop :=
  ∃ S T : Nat → Prop, Wl w S B n a L ∧ Wl w T C m c M ∧ (∀ k, S k → ¬ T k) ∧ (∀ k, S k → w0.heap.size ≤ k) ∧ (∀ k, T k → w0.heap.size ≤ k) ∧ Only Nil w0 w ∧ Good n a L ∧ Good m c M

section
variable {w0 w w' : World} {B n a : Nat} {L : List Tm} {C m c : Nat} {M : List Tm}
theorem Two.swap (h : Two w0 w B n a L C m c M) : Two w0 w C m c M B n a L := by
  obtain ⟨S, T, h1, h2, h3, h4, h5, h6, h7, h8⟩ := h
  exact ⟨T, S, h2, h1, fun k hk hs => h3 k hs hk, h5, h4, h6, h8, h7⟩
theorem Two.only (h : Two w0 w B n a L C m c M) : Only Nil w0 w := by obtain ⟨_, _, _, _, _, _, _, h, _, _⟩ := h; exact h
theorem Two.good1 (h : Two w0 w B n a L C m c M) : Good n a L := by obtain ⟨_, _, _, _, _, _, _, _, h, _⟩ := h; exact h
theorem Two.good2 (h : Two w0 w B n a L C m c M) : Good m c M := by obtain ⟨_, _, _, _, _, _, _, _, _, h⟩ := h; exact h
theorem Two.nil (h : Two w0 w B n a L C m c M) (o : Only Nil w w') : Two w0 w' B n a L C m c M := by
  obtain ⟨S, T, h1, h2, h3, h4, h5, h6, h7, h8⟩ := h
  exact ⟨S, T, h1.nil o, h2.nil o, h3, h4, h5, h6.trans o, h7, h8⟩
/-- The first one has changed. -/
theorem Two.step {S T : Nat → Prop} (_ : Wl w S B n a L) (h2 : Wl w T C m c M) (h3 : ∀ k, S k → ¬ T k) (h4 : ∀ k, S k → w0.heap.size ≤ k) (h5 : ∀ k, T k → w0.heap.size ≤ k) (h6 : Only Nil w0 w) (h8 : Good m c M)
    {n' a' : Nat} {L' : List Tm} (h1 : Wl w' (Plus S w w') B n' a' L') (o : Only S w w') (g : Good n' a' L') : Two w0 w' B n' a' L' C m c M := by
  refine ⟨Plus S w w', T, h1, h2.keep o (fun k hk hs => h3 k hs hk), ?_, ?_, h5, h6.then o (fun k hk hlt => by have := h4 k hk; omega), g, h8⟩
  · intro k hk hT
    rcases hk with hk | hk
    · exact h3 k hk hT
    · have := h2.lt k hT; omega
  · intro k hk
    rcases hk with hk | hk
    · exact h4 k hk
    · have := h6.size; omega

theorem two_new {w0 w : World} (o : Only Nil w0 w) {B : Nat} {w1 : World} (h : Mine w w1 B 0 0 []) : Calls Try.prog 10 #[] w1 fun e w' => e = .returned (.pointer (some ⟨w1.heap.size, 0, none⟩)) ∧ Two w0 w' B 0 0 [] w1.heap.size 0 0 [] := by
  obtain ⟨S, h1, h2, h3, h4⟩ := h
  refine (new_any w1).mono ?_
  rintro e w' ⟨he, hA, o'⟩
  refine ⟨he, S, _, h1.nil o', ⟨_, by have e : slots 0 ([] : List Tm) = fun _ => [] := by funext n; simp [slots]
                                      rw [e]; exact hA⟩, ?_, ?_, ?_, (o.trans h3).trans o', h4, h4⟩
  · intro k hk e; subst e; exact Nat.lt_irrefl _ (h1.lt _ hk)
  · intro k hk; exact Nat.le_trans o.size (h2 k hk)
  · intro k hk; subst hk; exact Nat.le_trans o.size h3.size
theorem two_len (h : Two w0 w B n a L C m c M) : Calls Try.prog 20 #[.pointer (some ⟨B, 0, none⟩)] w fun e w' => e = .returned (.int .i64 (L.length : Int)) ∧ Two w0 w' B n a L C m c M := by
  obtain ⟨S, T, h1, h2, h3, h4, h5, h6, h7, h8⟩ := h
  exact (wlen h1 h7).mono fun e w' ⟨he, o⟩ => ⟨he, S, T, h1.nil o, h2.nil o, h3, h4, h5, h6.trans o, h7, h8⟩
theorem two_add (h : Two w0 w B n a L C m c M) (id d : Nat) (hid : ∀ t ∈ L, t.id ≠ id) (hl : L.length < 64) (h1 : 1 ≤ d) (h2 : d ≤ 4095) (ha : a < 1000000000) (h64 : id < 18446744073709551616) :
    Calls Try.prog 12 #[.pointer (some ⟨B, 0, none⟩), .int .u64 (id : Int), .int .i64 (d : Int)] w fun e w' => e = .returned (.int .i64 0) ∧ Two w0 w' B n (a + 1) (L ++ [⟨id, n + d, a⟩]) C m c M := by
  obtain ⟨S, T, k1, k2, k3, k4, k5, k6, k7, k8⟩ := h
  exact (add_ok k1 k7 id d hid hl h1 h2 ha).mono fun e w' ⟨he, h', o⟩ => ⟨he, Two.step k1 k2 k3 k4 k5 k6 k8 h' o (k7.add id d hid hl h1 h2 h64)⟩
theorem two_cut (h : Two w0 w B n a L C m c M) (id : Nat) : Calls Try.prog 14 #[.pointer (some ⟨B, 0, none⟩), .int .u64 (id : Int)] w fun e w' => ∃ r, e = .returned (.bool r) ∧ Two w0 w' B n a (cut L id) C m c M := by
  by_cases hid : ∀ t ∈ L, t.id ≠ id
  · obtain ⟨S, T, k1, k2, k3, k4, k5, k6, k7, k8⟩ := h
    rw [cut_none hid]
    exact (cut_no k1 k7 id hid).mono fun e w' ⟨he, o⟩ => ⟨false, he, S, T, k1.nil o, k2.nil o, k3, k4, k5, k6.trans o, k7, k8⟩
  · obtain ⟨t, ht, rfl⟩ : ∃ t ∈ L, t.id = id := by
      apply Classical.byContradiction
      intro hn
      exact hid (fun t ht e => hn ⟨t, ht, e⟩)
    obtain ⟨S, T, k1, k2, k3, k4, k5, k6, k7, k8⟩ := h
    exact (cut_yes k1 k7 t ht).mono fun e w' ⟨he, h', o⟩ => ⟨true, he, Two.step k1 k2 k3 k4 k5 k6 k8 h' o (k7.cut t.id)⟩
theorem two_tick (h : Two w0 w B n a L C m c M) (hn : n + 1 < 1000000000) : Calls Try.prog 18 #[.pointer (some ⟨B, 0, none⟩)] w fun e w' =>
    ∃ v, e = .returned v ∧ Hid (w'.ownsRow w.heap.size 30 1 v (L.filter fun t => t.due == n + 1).length (ids (L.filter fun t => t.due == n + 1))) ∧ Two w0 w' B (n + 1) a (L.filter fun t => !(t.due == n + 1)) C m c M := by
  obtain ⟨S, T, k1, k2, k3, k4, k5, k6, k7, k8⟩ := h
  exact (tick_any k1 k7 hn).mono fun e w' ⟨v, he, hr, h', o⟩ => ⟨v, he, hr, Two.step k1 k2 k3 k4 k5 k6 k8 h' o (k7.tick hn)⟩

/-- The others: few, from 100 on. -/
structure Oth (j c : Nat) (M : List Tm) : Prop where
  few : M.length ≤ j
  add : c ≤ j
  id : ∀ t ∈ M, 100 ≤ t.id ∧ t.id < 100 + j
/-- Add at whatever delay: it may be refused. -/
theorem two_add_any (h : Two w0 w C m c M B n a L) {j : Nat} (o : Oth j c M) (hj : j < 60) (x : Int) :
    Calls Try.prog 12 #[.pointer (some ⟨C, 0, none⟩), .int .u64 ((100 + j : Nat) : Int), .int .i64 x] w fun e w' => ∃ r c' M', e = .returned (.int .i64 r) ∧ Two w0 w' C m c' M' B n a L ∧ Oth (j + 1) c' M' := by
  by_cases hx : x < 1 ∨ 4095 < x
  · refine (add_bad _ _ x hx w).mono ?_
    rintro e w' ⟨rfl, rfl⟩
    exact ⟨1, c, M, rfl, h, ⟨by have := o.few; omega, by have := o.add; omega, fun t ht => by have := o.id t ht; omega⟩⟩
  · obtain ⟨D, rfl⟩ := Int.eq_ofNat_of_zero_le (show 0 ≤ x by omega)
    refine (two_add h (100 + j) D (fun t ht => by have := o.id t ht; omega) (by have := o.few; omega) (by omega) (by omega) (by have := o.add; omega) (by omega)).mono ?_
    rintro e w' ⟨rfl, h'⟩
    refine ⟨0, _, _, rfl, h', ⟨by have := o.few; simp; omega, by have := o.add; omega, fun t ht => ?_⟩⟩
    rcases List.mem_append.1 ht with ht | ht
    · have := o.id t ht; omega
    · simp at ht; subst ht; simp
end

/-- Timer 1 is due at d, and there till then. -/
def One (d t : Nat) (L : List Tm) : Prop := (∀ s ∈ L, s.id = 1 → s.due = d) ∧ (t < d → ∃ s ∈ L, s.id = 1)
theorem One.cut {d t : Nat} {L : List Tm} (h : One d t L) (x : Nat) (hx : x ≠ 1) : One d t (cut L x) := by
  refine ⟨fun s hs => h.1 s ((cut_sub L x).subset hs), fun ht => ?_⟩
  obtain ⟨s, hs, e⟩ := h.2 ht
  exact ⟨s, List.mem_filter.2 ⟨hs, by simp [e]; exact fun e => hx e.symm⟩, e⟩
theorem One.tick {d t : Nat} {L : List Tm} (h : One d t L) : One d (t + 1) (L.filter fun s => !(s.due == t + 1)) := by
  refine ⟨fun s hs => h.1 s (List.mem_filter.1 hs).1, fun ht => ?_⟩
  obtain ⟨s, hs, e⟩ := h.2 (by omega)
  have := h.1 s hs e
  exact ⟨s, List.mem_filter.2 ⟨hs, by simp; omega⟩, e⟩
/-- Is timer 1 among the first j of M? -/
def th (M : List Tm) (j : Nat) : Bool := (M.take j).any fun s => s.id == 1
theorem th_step (M : List Tm) (j : Nat) (hj : j < M.length) : th M (j + 1) = (th M j || (M.getD j default).id == 1) := by
  unfold th
  rw [List.take_succ_eq_append_getElem hj, List.any_append]
  simp [hj]
theorem One.told {d t : Nat} {L : List Tm} (h : One d t L) (ht : t < d) : th (L.filter fun s => s.due == t + 1) (L.filter fun s => s.due == t + 1).length = decide (t + 1 = d) := by
  unfold th
  rw [List.take_length, Bool.eq_iff_iff]
  simp only [List.any_eq_true, beq_iff_eq, decide_eq_true_eq, List.mem_filter]
  constructor
  · rintro ⟨s, ⟨hs, hd⟩, e⟩
    have := h.1 s hs e
    omega
  · intro e
    obtain ⟨s, hs, e1⟩ := h.2 ht
    have := h.1 s hs e1
    exact ⟨s, ⟨hs, by omega⟩, e1⟩

/-- What the first wheel holds behind t ticks. -/
def W1 (d t : Nat) : List Tm := if t < d then [⟨1, d, 0⟩] else []
theorem W1_tick (d t : Nat) (h : t < d) : ((W1 d t).filter fun s => s.due == t + 1).length = (if t + 1 = d then 1 else 0) ∧ ((W1 d t).filter fun s => !(s.due == t + 1)) = W1 d (t + 1) := by
  unfold W1
  rw [if_pos h]
  by_cases e : t + 1 = d
  · rw [if_pos e, if_neg (by omega)]
    simp [e]
  · have e1 : (d == t + 1) = false := beq_eq_false_iff_ne.2 (by omega)
    rw [if_neg e, if_pos (by omega)]
    simp [e1]
end Go.Proofs.Ytpmgmdlfnlmieaa.Wh
