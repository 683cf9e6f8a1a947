/- DequeLast in plain words: an owner's Pop and a thief's Steal of the only one that is in. -/
import Derived.Test.YthebfnmihjbajaaDqX
import Derived.Test.YthebfnmihjbajaaDqB
namespace Go.Proofs.Ythebfnmihjbajaa.Dq

/-- What the owner's Pop may stand at; T the top, B the bottom. -/
def PI (T B v : Int) : OS → Prop
  | .pop0 => B = 2
  | .pop1 x => x = 2 ∧ B = 2
  | .pop2 x => x = 2 ∧ B = 1
  | .popF x => x = 2 ∧ B = 1
  | .popR x u => x = 2 ∧ u = v ∧ B = 1
  | .popW x u => x = 2 ∧ u = v ∧ B = 1 ∧ T = 2
  | .popN x => x = 2 ∧ B = 1 ∧ T = 2
  | .over o x => B = 2 ∧ T = 2 ∧ ((o = 1 ∧ x = v) ∨ (o = 4 ∧ x = 0))
  | _ => False
/-- What the thief's Steal may stand at. -/
def SI (T v : Int) : OS → Prop
  | .st0 => True
  | .st1 t => t = 1 ∨ (t = 2 ∧ T = 2)
  | .st2 t => t = 1
  | .st3 t u => t = 1 ∧ u = v
  | .over o x => (o = 1 ∧ x = v ∧ T = 2) ∨ ((o = 4 ∨ o = 6) ∧ x = 0)
  | _ => False
def Won : OS → Bool
  | .popW _ _ => true
  | .over o _ => o == 1
  | _ => false
def Mid : OS → Bool
  | .pop2 _ => true
  | .popF _ => true
  | .popR _ _ => true
  | _ => false
/-- Both together. -/
def JI (T : Int) (p s : OS) : Prop := (T = 1 ∧ Won p = false ∧ Won s = false ∧ (s.isO = true → Mid p = true)) ∨ (T = 2 ∧ Won p = !Won s)
structure LI (c : Nat) (v : Int) (L : List Int) (p s : OS) : Prop where
  len : L.length = 2 + c
  sl : L.getD (slotAt 0 c 1) 0 = v
  ip : PI (L.getD 0 0) (L.getD 1 0) v p
  is : SI (L.getD 0 0) v s
  j : JI (L.getD 0 0) p s

section
variable {c : Nat} {v : Int} {L : List Int} {p s : OS}
theorem LI.set1 (h : LI c v L p s) (x : Int) {q : OS} (hp : PI (L.getD 0 0) x v q) (hj : JI (L.getD 0 0) q s) : LI c v (L.set 1 x) q s := by
  have e0 : (L.set 1 x).getD 0 0 = L.getD 0 0 := gset_ne (by decide) x
  have e1 : (L.set 1 x).getD 1 0 = x := gset_eq (by have := h.len; omega) x
  refine ⟨by rw [List.length_set]; exact h.len, ?_, by rw [e0, e1]; exact hp, by rw [e0]; exact h.is, by rw [e0]; exact hj⟩
  rw [gset_ne (by unfold slotAt; omega)]; exact h.sl
theorem SI.up (h : SI 1 v s) : SI 2 v s := by
  cases s <;> simp only [SI] at h ⊢ <;> first | exact h | omega
theorem PI.up {B : Int} (h : PI 1 B v p) : PI 2 B v p := by
  cases p <;> simp only [PI] at h ⊢ <;> first | exact h | omega
theorem LI.set0 (h : LI c v L p s) (_ : L.getD 0 0 = 1) {q r : OS} (hp : PI 2 (L.getD 1 0) v q) (hs : SI 2 v r) (hj : JI 2 q r) : LI c v (L.set 0 2) q r := by
  have e1 : (L.set 0 2).getD 1 0 = L.getD 1 0 := gset_ne (by decide) 2
  have e0 : (L.set 0 2).getD 0 0 = 2 := gset_eq (by have := h.len; omega) 2
  refine ⟨by rw [List.length_set]; exact h.len, ?_, by rw [e0, e1]; exact hp, by rw [e0]; exact hs, by rw [e0]; exact hj⟩
  rw [gset_ne (by unfold slotAt; omega)]; exact h.sl
theorem dn2 : dn 2 = 1 := by decide
theorem up1 : up 1 = 2 := by decide
theorem LI.two (h : LI c v L p s) : L.getD 0 0 = 1 ∨ L.getD 0 0 = 2 := h.j.imp And.left And.left

/-- The owner's step. -/
theorem LI.stepP (h : LI c v L p s) : LI c v (stepL 0 c L p) (stepS 0 c L p) s := by
  obtain ⟨hl, hsl, hp, hs, hj⟩ := id h
  have h2 := h.two
  have same : ∀ q : OS, (stepL 0 c L p = L) → PI (L.getD 0 0) (L.getD 1 0) v q → JI (L.getD 0 0) q s → LI c v (stepL 0 c L p) q s := fun q e a b => by rw [e]; exact ⟨hl, hsl, a, hs, b⟩
  cases p <;> simp only [PI] at hp
  case pop0 =>
    rw [S_pop0, Nat.zero_add, hp]
    exact same _ rfl ⟨rfl, hp⟩ hj
  case pop1 x =>
    obtain ⟨rfl, hb⟩ := hp
    rw [S_pop1, L_pop1, dn2]
    refine h.set1 1 ⟨rfl, rfl⟩ ?_
    exact hj.imp (fun ⟨a, b, c, d⟩ => ⟨a, b, c, fun _ => rfl⟩) (fun ⟨a, b⟩ => ⟨a, b⟩)
  case pop2 x =>
    obtain ⟨rfl, hb⟩ := hp
    rw [S_pop2, dn2]
    rcases h2 with e | e
    · rw [if_neg (by rw [e]; decide), if_neg (by rw [e]; decide)]
      exact same _ rfl ⟨rfl, hb⟩ (hj.imp (fun ⟨a, b, c, d⟩ => ⟨a, b, c, fun _ => rfl⟩) (fun ⟨a, b⟩ => ⟨a, b⟩))
    · rw [if_pos (by rw [e]; decide)]
      refine same _ rfl ⟨rfl, hb, e⟩ (.inr ⟨e, ?_⟩)
      rcases hj with ⟨a, _⟩ | ⟨_, b⟩
      · omega
      · exact b
  case popF x =>
    obtain ⟨rfl, hb⟩ := hp
    rw [S_popF, dn2, hsl]
    exact same _ rfl ⟨rfl, rfl, hb⟩ (hj.imp (fun ⟨a, b, c, d⟩ => ⟨a, b, c, fun _ => rfl⟩) (fun ⟨a, b⟩ => ⟨a, b⟩))
  case popR x u =>
    obtain ⟨rfl, rfl, hb⟩ := hp
    rw [S_popR, L_popR, dn2, up1]
    rcases h2 with e | e
    · rw [if_pos e, if_pos e]
      rw [e] at hs
      refine h.set0 e ⟨rfl, rfl, hb, rfl⟩ hs.up (.inr ⟨rfl, ?_⟩)
      rcases hj with ⟨_, _, b, _⟩ | ⟨a, _⟩
      · rw [b]; rfl
      · omega
    · rw [if_neg (by rw [e]; decide), if_neg (by rw [e]; decide)]
      refine ⟨hl, hsl, ⟨rfl, hb, e⟩, hs, .inr ⟨e, ?_⟩⟩
      rcases hj with ⟨a, _⟩ | ⟨_, b⟩
      · omega
      · exact b
  case popW x u =>
    obtain ⟨rfl, rfl, hb, ht⟩ := hp
    refine h.set1 2 ⟨rfl, ht, .inl ⟨rfl, rfl⟩⟩ ?_
    rcases hj with ⟨a, _⟩ | ⟨_, b⟩
    · omega
    · exact .inr ⟨ht, b⟩
  case popN x =>
    obtain ⟨rfl, hb, ht⟩ := hp
    refine h.set1 2 ⟨rfl, ht, .inr ⟨rfl, rfl⟩⟩ ?_
    rcases hj with ⟨a, _⟩ | ⟨_, b⟩
    · omega
    · exact .inr ⟨ht, b⟩
  case over o x => exact h

/-- The thief's step. -/
theorem LI.stepS (h : LI c v L p s) : LI c v (stepL 0 c L s) p (stepS 0 c L s) := by
  obtain ⟨hl, hsl, hp, hs, hj⟩ := id h
  have h2 := h.two
  have same : ∀ q : OS, (stepL 0 c L s = L) → SI (L.getD 0 0) v q → JI (L.getD 0 0) p q → LI c v (stepL 0 c L s) p q := fun q e a b => by rw [e]; exact ⟨hl, hsl, hp, a, b⟩
  cases s <;> simp only [SI] at hs
  case st0 =>
    rw [S_st0]
    refine same _ rfl ?_ (hj.imp (fun ⟨a, b, c, d⟩ => ⟨a, b, rfl, fun h => by cases h⟩) (fun ⟨a, b⟩ => ⟨a, b⟩))
    simp only [SI]; omega
  case st1 t =>
    rw [S_st1, Nat.zero_add]
    by_cases g : L.getD 1 0 ≤ t
    · rw [if_pos g]
      refine same _ rfl (.inr ⟨.inl rfl, rfl⟩) ?_
      rcases hj with ⟨a, b, _, _⟩ | ⟨a, b⟩
      · refine .inl ⟨a, b, rfl, fun _ => ?_⟩
        cases p <;> simp only [PI] at hp <;> first | rfl | (exfalso; omega)
      · exact .inr ⟨a, b⟩
    · rw [if_neg g]
      refine same _ rfl ?_ (hj.imp (fun ⟨a, b, c, d⟩ => ⟨a, b, rfl, fun h => by cases h⟩) (fun ⟨a, b⟩ => ⟨a, b⟩))
      have hB : L.getD 1 0 ≤ 2 := by cases p <;> simp only [PI] at hp <;> omega
      simp only [SI]; omega
  case st2 t =>
    subst hs
    rw [S_st2, hsl]
    exact same _ rfl ⟨rfl, rfl⟩ (hj.imp (fun ⟨a, b, c, d⟩ => ⟨a, b, rfl, fun h => by cases h⟩) (fun ⟨a, b⟩ => ⟨a, b⟩))
  case st3 t u =>
    obtain ⟨rfl, rfl⟩ := hs
    rw [S_st3, L_st3, up1]
    rcases h2 with e | e
    · rw [if_pos e, if_pos e]
      rw [e] at hp
      refine h.set0 e hp.up (.inl ⟨rfl, rfl, rfl⟩) (.inr ⟨rfl, ?_⟩)
      rcases hj with ⟨_, b, _, _⟩ | ⟨a, _⟩
      · rw [b]; rfl
      · omega
    · rw [if_neg (by rw [e]; decide), if_neg (by rw [e]; decide)]
      refine ⟨hl, hsl, hp, .inr ⟨.inr rfl, rfl⟩, ?_⟩
      rcases hj with ⟨a, _⟩ | ⟨_, b⟩
      · omega
      · exact .inr ⟨e, b⟩
  case over o x => exact h

/-- How many steps it has still to make, at most. -/
def rk : OS → Nat
  | .pop0 => 6
  | .pop1 _ => 5
  | .pop2 _ => 4
  | .popF _ => 3
  | .popR _ _ => 2
  | .over _ _ => 0
  | .st0 => 4
  | .st1 _ => 3
  | .st2 _ => 2
  | _ => 1
theorem LI.rkP (h : LI c v L p s) : rk (Dq.stepS 0 c L p) ≤ rk p - 1 := by
  have hp := h.ip
  cases p <;> simp only [PI] at hp
  case pop2 x => rw [S_pop2]; split; (· simp [rk]); split <;> simp [rk]
  case popR x u => rw [S_popR]; split <;> simp [rk]
  all_goals exact Nat.le_refl _
theorem LI.rkS (h : LI c v L p s) : rk (Dq.stepS 0 c L s) ≤ rk s - 1 := by
  have hs := h.is
  cases s <;> simp only [SI] at hs
  case st1 t => rw [S_st1]; split <;> simp [rk]
  case st3 t u => rw [S_st3]; split <;> simp [rk]
  all_goals exact Nat.le_refl _
theorem LI.overP (h : LI c v L p s) (e : rk p = 0) : ∃ o x, p = .over o x := by
  have hp := h.ip
  cases p <;> simp only [PI] at hp <;> simp only [rk] at e <;> first | exact ⟨_, _, rfl⟩ | omega
theorem LI.overS (h : LI c v L p s) (e : rk s = 0) : ∃ o x, s = .over o x := by
  have hs := h.is
  cases s <;> simp only [SI] at hs <;> simp only [rk] at e <;> first | exact ⟨_, _, rfl⟩ | omega
/-- Both over: just one has it. -/
theorem LI.last {o o' : Nat} {x x' : Int} (h : LI c v L (.over o x) (.over o' x')) : ((o = 1 ∧ x = v ∧ (o' = 4 ∨ o' = 6) ∧ x' = 0) ∨ ((o = 4 ∧ x = 0) ∧ o' = 1 ∧ x' = v)) ∧ Runs 0 c 4 L .pop0 ((L.set 1 1).set 1 2) (.over 4 0) := by
  obtain ⟨hl, hsl, ⟨hB, hT, hp⟩, hs, hj⟩ := id h
  refine ⟨?_, ?_⟩
  · rcases hj with ⟨a, _⟩ | ⟨_, b⟩
    · omega
    · simp only [Won] at b
      simp only [SI] at hs
      rcases hp with ⟨rfl, rfl⟩ | ⟨rfl, rfl⟩
      · rcases hs with ⟨rfl, _, _⟩ | ⟨a, b⟩
        · simp at b
        · exact .inl ⟨rfl, rfl, a, b⟩
      · rcases hs with ⟨rfl, a, _⟩ | ⟨a, c⟩
        · exact .inr ⟨⟨rfl, rfl⟩, rfl, a⟩
        · rcases a with rfl | rfl <;> simp at b
  · have e1 : Dq.stepS 0 c L .pop0 = .pop1 2 := by rw [S_pop0, Nat.zero_add, hB]
    have e3 : Dq.stepS 0 c (L.set 1 1) (.pop2 2) = .popN 2 := by rw [S_pop2, dn2, gset_ne (by decide), hT, if_pos (by decide)]
    refine Runs.step rfl ?_
    rw [e1, show stepL 0 c L .pop0 = L from rfl]
    refine Runs.step rfl ?_
    rw [S_pop1, L_pop1, dn2]
    refine Runs.step rfl ?_
    rw [e3, show stepL 0 c (L.set (0 + 1) 1) (.pop2 2) = L.set 1 1 from rfl]
    exact Runs.step rfl (Runs.over rfl)
end
end Go.Proofs.Ythebfnmihjbajaa.Dq
