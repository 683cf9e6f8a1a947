/- lex: tokens' places, in plain words. -/
import Derived.Test.YthhnfliklegefaaDoorLxP
namespace Go.Proofs.YthhnfliklegefaaDoor.Lx
open Go.RowKit Go.Proofs.YthhnfliklegefaaDoor

/-- From e on, each token stands behind the one ahead of it, and in the text at its place. -/
def Chain (s : List UInt8) : Nat → List (Tok × Nat) → Prop
  | _, [] => True
  | e, x :: T => e ≤ x.2 ∧ 1 ≤ x.1.w.length ∧ x.2 + x.1.w.length ≤ s.length ∧ (s.take (x.2 + x.1.w.length)).drop x.2 = x.1.w ∧ Chain s (x.2 + x.1.w.length) T
theorem chain_le {s : List UInt8} {e e' : Nat} {X : List (Tok × Nat)} (h : Chain s e X) (he : e' ≤ e) : Chain s e' X := by
  cases X with
  | nil => trivial
  | cons x T => exact ⟨Nat.le_trans he h.1, h.2⟩
theorem suffix_drop {s m : List UInt8} (h : m <:+ s) : s.drop (s.length - m.length) = m := by
  obtain ⟨t, rfl⟩ := h
  rw [List.length_append, Nat.add_sub_cancel]
  exact List.drop_left
theorem chain_LX (s : List UInt8) (k : Nat) (m : List UInt8) (hk : m.length ≤ k) (hm : m <:+ s) : Chain s (s.length - m.length) (LX s.length m).1 := by
  induction k generalizing m with
  | zero =>
    have : m = [] := List.eq_nil_of_length_eq_zero (by omega)
    subst this
    rw [LX_nil rfl]; trivial
  | succ k ih =>
    cases hs : sk false m with
    | nil => rw [LX_nil hs]; trivial
    | cons c r =>
      by_cases h0 : (tok (c :: r)).1 = 0
      · rw [LX_tok hs h0]
        have hsuf : (c :: r) <:+ m := hs ▸ sk_suffix false m
        have hsuf' := hsuf.trans hm
        have hl1 := hsuf.length_le
        have hl2 := hsuf'.length_le
        simp only [List.length_cons] at hl1 hl2
        obtain ⟨hp, hpre⟩ := tok_pos h0
        have hpl := hpre.length_le
        simp only [List.length_cons] at hpl
        have hd := suffix_drop hsuf'
        simp only [List.length_cons] at hd
        have hrest := ih ((c :: r).drop (tok (c :: r)).2.w.length) (by simp; omega) ((List.drop_suffix _ _).trans hsuf')
        generalize hL : (tok (c :: r)).2.w.length = L at *
        refine ⟨?_, ?_, ?_, ?_, chain_le hrest ?_⟩
        · show s.length - m.length ≤ s.length - (r.length + 1); omega
        · rw [hL]; exact hp
        · show s.length - (r.length + 1) + (tok (c :: r)).2.w.length ≤ s.length; omega
        · show (s.take (s.length - (r.length + 1) + (tok (c :: r)).2.w.length)).drop (s.length - (r.length + 1)) = (tok (c :: r)).2.w
          rw [List.drop_take, hd, Nat.add_sub_cancel_left]
          exact (List.prefix_iff_eq_take.1 hpre).symm
        · show s.length - (r.length + 1) + (tok (c :: r)).2.w.length ≤ s.length - ((c :: r).drop L).length
          rw [List.length_drop, List.length_cons]; omega
      · rw [LX_bad hs h0]; trivial

/-- Where the token ahead of the i-th one ends. -/
def tends (e : Nat) (X : List (Tok × Nat)) : Nat → Nat
  | 0 => e
  | i + 1 => (X.getD i default).2 + (X.getD i default).1.w.length
theorem chain_at {s : List UInt8} {e : Nat} {X : List (Tok × Nat)} (h : Chain s e X) (i : Nat) (hi : i < X.length) :
    tends e X i ≤ (X.getD i default).2 ∧ 1 ≤ (X.getD i default).1.w.length ∧ (X.getD i default).2 + (X.getD i default).1.w.length ≤ s.length ∧
    (s.take ((X.getD i default).2 + (X.getD i default).1.w.length)).drop (X.getD i default).2 = (X.getD i default).1.w := by
  induction X generalizing e i with
  | nil => simp at hi
  | cons x T ih =>
    obtain ⟨h1, h2, h3, h4, h5⟩ := h
    cases i with
    | zero => exact ⟨h1, h2, h3, h4⟩
    | succ j =>
      have hj : j < T.length := by simpa using hi
      obtain ⟨k1, k2⟩ := ih h5 j hj
      refine ⟨?_, k2⟩
      cases j with
      | zero => exact k1
      | succ j => exact k1
end Go.Proofs.YthhnfliklegefaaDoor.Lx
