/- An owner and its thieves at a deque: what stays true. (Plain words.) -/
import Derived.Test.YtokopocldicnmaaDqX
namespace Go.Proofs.Ytokopocldicnmaa.Dq
open Go.RowKit

/-- The numbers between two places. -/
def live (f : Nat → Int) (T X : Nat) : List Int := (List.range' T (X - T)).map f
theorem live_head (f : Nat → Int) {T X : Nat} (h : T < X) : live f T X = f T :: live f (T + 1) X := by
  unfold live
  rw [show X - T = (X - (T + 1)) + 1 by omega, List.range'_succ]; rfl
theorem live_last (f : Nat → Int) {T X : Nat} (h : T ≤ X) : live f T (X + 1) = live f T X ++ [f X] := by
  unfold live
  rw [show X + 1 - T = (X - T) + 1 by omega, List.range'_concat, List.map_append]
  simp only [Nat.one_mul, List.map_cons, List.map_nil]
  rw [show T + (X - T) = X by omega]
theorem live_nil (f : Nat → Int) (T : Nat) : live f T T = [] := by simp [live]
theorem live_length (f : Nat → Int) (T X : Nat) : (live f T X).length = X - T := by simp [live]
theorem live_congr {f g : Nat → Int} {T X : Nat} (h : ∀ i, T ≤ i → i < X → f i = g i) : live f T X = live g T X := by
  unfold live
  apply List.map_congr_left
  intro i hi
  rw [List.mem_range'_1] at hi
  exact h i hi.1 (by omega)

/-- What the owner holds in its hand. -/
def held (X : Nat) (f : Nat → Int) : Option OS → List Int
  | some (.popS _) => [f X]
  | some (.popW _ v) => [v]
  | _ => []
/-- Does it push? -/
def pushing : Option OS → Bool
  | some (.push0 _) => true
  | some (.push1 _ _) => true
  | some (.push2 _ _) => true
  | some (.push3 _) => true
  | _ => false
/-- What is true of the owner: the bottom, and what it knows. -/
def OwnOk (c : Nat) (L : List Int) (T X : Nat) (f : Nat → Int) (nx : Int) : Option OS → Prop
  | none => L.getD 1 0 = X
  | some (.push0 v) => L.getD 1 0 = X ∧ v = nx
  | some (.push1 v x) => L.getD 1 0 = X ∧ v = nx ∧ x = X
  | some (.push2 v x) => L.getD 1 0 = X ∧ v = nx ∧ x = X ∧ X < T + c
  | some (.push3 x) => L.getD 1 0 = X ∧ x = X ∧ X < T + c ∧ L.getD (2 + X % c) 0 = nx
  | some .pop0 => L.getD 1 0 = X
  | some (.pop1 x) => L.getD 1 0 = X ∧ x = X
  | some (.pop2 x) => L.getD 1 0 = (X : Int) - 1 ∧ x = X
  | some (.popN x) => L.getD 1 0 = (X : Int) - 1 ∧ x = X ∧ T = X
  | some (.popS x) => L.getD 1 0 = X ∧ x = (X : Int) + 1 ∧ L.getD (2 + X % c) 0 = f X
  | some (.popF x) => L.getD 1 0 = (X : Int) - 1 ∧ x = X ∧ X ≤ T + 1
  | some (.popR x v) => L.getD 1 0 = (X : Int) - 1 ∧ x = X ∧ X ≤ T + 1 ∧ (T + 1 = X → v = f T)
  | some (.popW x _) => L.getD 1 0 = (X : Int) - 1 ∧ x = X ∧ T = X
  | _ => False
/-- What is true of a thief. -/
def ThOk (T X : Nat) (f : Nat → Int) : OS → Prop
  | .st0 => True
  | .st1 t => ∃ k : Nat, t = k ∧ k ≤ T
  | .st2 t => ∃ k : Nat, t = k ∧ k ≤ T ∧ (k = T → T < X)
  | .st3 t v => ∃ k : Nat, t = k ∧ k ≤ T ∧ (k = T → T < X ∧ v = f T)
  | _ => False
theorem ThOk.top {T X : Nat} {f : Nat → Int} {s : OS} (h : ThOk T X f s) : ThOk (T + 1) X f s := by
  cases s <;> simp only [ThOk] at h ⊢
  · obtain ⟨k, rfl, hk⟩ := h; exact ⟨k, rfl, by omega⟩
  · obtain ⟨k, rfl, hk, _⟩ := h; exact ⟨k, rfl, by omega, fun e => by omega⟩
  · obtain ⟨k, rfl, hk, _⟩ := h; exact ⟨k, rfl, by omega, fun e => by omega⟩
theorem ThOk.same {T X Y : Nat} {f g : Nat → Int} {s : OS} (h : ThOk T X f s) (hX : T < X → T < Y) (hf : T < X → f T = g T) : ThOk T Y g s := by
  cases s <;> simp only [ThOk] at h ⊢ <;> try exact h
  · obtain ⟨k, rfl, hk, h⟩ := h; exact ⟨k, rfl, hk, fun e => hX (h e)⟩
  · obtain ⟨k, rfl, hk, h⟩ := h; exact ⟨k, rfl, hk, fun e => ⟨hX (h e).1, by rw [(h e).2, hf (h e).1]⟩⟩

/-- The highest number that may be in. -/
def lim (nx : Int) (own : Option OS) : Int := if pushing own then nx - 1 else nx

/-- What stays true. -/
structure DI (c : Nat) (L : List Int) (T X : Nat) (f : Nat → Int) (nx : Int) (ow : Option OS) (th : Nat → Option OS) (I P S : List Int) : Prop where
  pos : 0 < c
  len : L.length = 2 + c
  top : L.getD 0 0 = T
  T1 : 1 ≤ T
  TX : T ≤ X
  cap : X ≤ T + c
  slot : ∀ i, T ≤ i → i < X → L.getD (2 + i % c) 0 = f i
  asc : ∀ i j, T ≤ i → i < j → j < X → f i < f j
  own : OwnOk c L T X f nx ow
  perm : I.Perm (P ++ S ++ held X f ow ++ live f T X)
  inr : ∀ v ∈ I, 1 ≤ v ∧ v ≤ lim nx ow
  inc : I.Pairwise (· < ·)
  stl : S.Pairwise (· < ·)
  sf : ∀ s ∈ S, ∀ i, T ≤ i → i < X → s < f i
  th : ∀ k s, k < 2 → th k = some s → ThOk T X f s
  hx : X ≤ 1000000000
  n1 : 0 ≤ nx ∧ (pushing ow = true → 1 ≤ nx)

section
variable {c : Nat} {L : List Int} {T X : Nat} {f : Nat → Int} {nx : Int} {ow : Option OS} {th : Nat → Option OS} {I P S : List Int}
theorem DI.bot (h : DI c L T X f nx ow th I P S) : L.getD 1 0 ≤ X := by
  have := h.own
  rcases ow with _ | s
  · simp only [OwnOk] at this; omega
  · cases s <;> simp only [OwnOk] at this <;> omega
theorem DI.thO (h : DI c L T X f nx ow th I P S) {k : Nat} {x : Option OS} (hx : ∀ s, x = some s → ThOk T X f s) : ∀ j s, j < 2 → upd th k x j = some s → ThOk T X f s := by
  intro j s hj e
  by_cases g : j = k
  · subst g; rw [upd_same] at e; exact hx s e
  · rw [upd_other _ _ _ _ g] at e; exact h.th j s hj e
theorem up_nat (k : Nat) (h : k ≤ 1000000000) : up (k : Int) = ((k + 1 : Nat) : Int) := by unfold up; rw [IntKind.wrap_u64]; omega
theorem getD_set0 (L : List Int) (i : Nat) (x : Int) : (L.set 0 x).getD (i + 1) 0 = L.getD (i + 1) 0 := by simp [List.getD_eq_getElem?_getD]
theorem getD_set_ne (L : List Int) {i j : Nat} (x : Int) (h : i ≠ j) : (L.set i x).getD j 0 = L.getD j 0 := by simp [List.getD_eq_getElem?_getD, h]
theorem getD_set_eq (L : List Int) {i : Nat} (x : Int) (h : i < L.length) : (L.set i x).getD i 0 = x := by simp [List.getD_eq_getElem?_getD, h]
theorem OwnOk.set0 {x : Int} (h : OwnOk c L T X f nx ow) (hTX : T < X) : OwnOk c (L.set 0 x) (T + 1) X f nx ow := by
  have e1 := getD_set0 L 0 x
  have e2 := getD_set0 L (1 + X % c) x
  rw [show 1 + X % c + 1 = 2 + X % c by omega] at e2
  simp only [Nat.zero_add] at e1
  rcases ow with _ | s
  · simp only [OwnOk, e1] at *; exact h
  · cases s <;> simp only [OwnOk, e1, e2] at * <;> first | exact h | omega | exact ⟨h.1, h.2.1, by omega, fun e => by omega⟩

theorem DI.mem (h : DI c L T X f nx ow th I P S) {i : Nat} (h1 : T ≤ i) (h2 : i < X) : f i ∈ I := by
  refine h.perm.mem_iff.2 (List.mem_append_right _ ?_)
  unfold live
  rw [List.mem_map]
  exact ⟨i, by rw [List.mem_range'_1]; omega, rfl⟩
theorem DI.memS (h : DI c L T X f nx ow th I P S) {u : Int} (hu : u ∈ S) : u ∈ I :=
  h.perm.mem_iff.2 (List.mem_append_left _ (List.mem_append_left _ (List.mem_append_right _ hu)))
/-- A thief's step. -/
theorem DI.thief (h : DI c L T X f nx ow th I P S) {k : Nat} (hk : k < 2) {s : OS} (e : th k = some s) :
    ∃ T', (((stepS 0 c L s).isO = false ∧ DI c (stepL 0 c L s) T' X f nx ow (upd th k (some (stepS 0 c L s))) I P S) ∨
      ((stepS 0 c L s).isO = true ∧ (stepS 0 c L s).o = 1 ∧ DI c (stepL 0 c L s) T' X f nx ow (upd th k none) I P (S ++ [(stepS 0 c L s).x])) ∨
      ((stepS 0 c L s).isO = true ∧ ((stepS 0 c L s).o = 4 ∨ (stepS 0 c L s).o = 6) ∧ DI c (stepL 0 c L s) T' X f nx ow (upd th k none) I P S)) := by
  have hs := h.th k s hk e
  have hb := h.bot
  have none_ok : ∀ s, (none : Option OS) = some s → ThOk T X f s := fun s e => by simp at e
  cases s <;> simp only [ThOk] at hs
  · -- st0
    refine ⟨T, .inl ⟨rfl, { h with th := h.thO ?_ }⟩⟩
    intro s e2
    have e3 : stepS 0 c L .st0 = .st1 (L.getD 0 0) := rfl
    rw [e3, h.top] at e2
    injection e2 with e2; subst e2
    exact ⟨T, rfl, Nat.le_refl _⟩
  · -- st1
    rename_i t
    obtain ⟨j, rfl, hj⟩ := hs
    have e3 : stepS 0 c L (.st1 (j : Int)) = if L.getD 1 0 ≤ (j : Int) then .over 4 0 else .st2 (j : Int) := rfl
    have e4 : stepL 0 c L (.st1 (j : Int)) = L := rfl
    rw [e3, e4]
    by_cases g : L.getD 1 0 ≤ (j : Int)
    · rw [if_pos g]
      exact ⟨T, .inr (.inr ⟨rfl, .inl rfl, { h with th := h.thO none_ok }⟩)⟩
    · rw [if_neg g]
      refine ⟨T, .inl ⟨rfl, { h with th := h.thO ?_ }⟩⟩
      intro s e2
      injection e2 with e2; subst e2
      exact ⟨j, rfl, hj, fun e => by omega⟩
  · -- st2
    rename_i t
    obtain ⟨j, rfl, hj, hx⟩ := hs
    have e3 : stepS 0 c L (.st2 (j : Int)) = .st3 (j : Int) (L.getD (0 + (2 + (j : Int).toNat % c)) 0) := rfl
    have e4 : stepL 0 c L (.st2 (j : Int)) = L := rfl
    rw [e3, e4]
    refine ⟨T, .inl ⟨rfl, { h with th := h.thO ?_ }⟩⟩
    intro s e2
    injection e2 with e2; subst e2
    refine ⟨j, rfl, hj, fun e => ⟨hx e, ?_⟩⟩
    have := h.slot T (Nat.le_refl _) (hx e)
    rw [← this, e, Nat.zero_add, Int.toNat_natCast]
  · -- st3
    rename_i t v
    obtain ⟨j, rfl, hj, hx⟩ := hs
    by_cases g : j = T
    · obtain ⟨h1, h2⟩ := hx g
      subst g h2
      have hu := up_nat j (by have := h.hx; omega)
      have e3 : doAcc L (acc 0 c (.st3 (j : Int) (f j))) = (L.set 0 (up (j : Int)), 1) := by
        show (if L.getD 0 0 = _ then _ else _) = _
        rw [h.top, if_pos rfl]
      have e4 : stepS 0 c L (.st3 (j : Int) (f j)) = .over 1 (f j) := by unfold stepS; rw [e3]; rfl
      have e5 : stepL 0 c L (.st3 (j : Int) (f j)) = L.set 0 (up (j : Int)) := by unfold stepL; rw [e3]
      rw [e4, e5, hu]
      refine ⟨j + 1, .inr (.inl ⟨rfl, rfl, ?_⟩)⟩
      have hlen := h.len
      exact { pos := h.pos, len := by rw [List.length_set]; exact h.len, top := getD_set_eq _ _ (by omega), T1 := by omega, TX := h1, cap := by have := h.cap; omega,
              slot := fun i h3 h4 => by rw [getD_set_ne _ _ (by omega)]; exact h.slot i (by omega) h4,
              asc := fun a b h3 h4 h5 => h.asc a b (by omega) h4 h5, own := h.own.set0 h1,
              perm := by
                have := h.perm
                rw [live_head f h1] at this
                refine this.trans ?_
                simp only [List.append_assoc, List.cons_append, List.nil_append, OS.x]
                refine List.Perm.append_left P (List.Perm.append_left S ?_)
                exact List.perm_middle
              inr := h.inr, inc := h.inc,
              stl := by
                rw [List.pairwise_append]
                refine ⟨h.stl, by simp, fun a ha b hb => ?_⟩
                simp at hb; subst hb
                exact h.sf a ha j (Nat.le_refl _) h1
              sf := fun s hs i h3 h4 => by
                rw [List.mem_append] at hs
                rcases hs with hs | hs
                · exact h.sf s hs i (by omega) h4
                · simp at hs; subst hs; exact h.asc j i (Nat.le_refl _) (by omega) h4
              th := fun a s ha e2 => by
                by_cases g : a = k
                · subst g; rw [upd_same] at e2; simp at e2
                · rw [upd_other _ _ _ _ g] at e2; exact (h.th a s ha e2).top
              hx := h.hx, n1 := h.n1 }
    · have e3 : doAcc L (acc 0 c (.st3 (j : Int) v)) = (L, 0) := by
        have : ¬ ((T : Int) = (j : Int)) := by omega
        show (if L.getD 0 0 = _ then _ else _) = _
        rw [h.top, if_neg this]
      have e4 : stepS 0 c L (.st3 (j : Int) v) = .over 6 0 := by unfold stepS; rw [e3]; rfl
      have e5 : stepL 0 c L (.st3 (j : Int) v) = L := by unfold stepL; rw [e3]
      rw [e4, e5]
      exact ⟨T, .inr (.inr ⟨rfl, .inr rfl, { h with th := h.thO none_ok }⟩)⟩

theorem dn_nat (k : Nat) (h : k ≤ 1000000000) (h1 : 1 ≤ k) : dn (k : Int) = ((k - 1 : Nat) : Int) := by unfold dn; rw [IntKind.wrap_u64]; omega
theorem dif_nat (a b : Nat) (h : b ≤ a) (ha : a ≤ 1000000000) : dif (a : Int) (b : Int) = ((a - b : Nat) : Int) := by unfold dif; rw [IntKind.wrap_u64]; omega
theorem mod_ne {T X i c : Nat} (h1 : T ≤ i) (h2 : i < X) (h3 : X < T + c) : 2 + X % c ≠ 2 + i % c := by
  intro e
  have e2 : X % c = i % c := by omega
  have : X = c * (X / c) + X % c := (Nat.div_add_mod X c).symm
  have h4 : i = c * (i / c) + i % c := (Nat.div_add_mod i c).symm
  have h5 : c * (X / c) - c * (i / c) = X - i := by omega
  rw [← Nat.mul_sub] at h5
  rcases Nat.eq_zero_or_pos (X / c - i / c) with z | z
  · rw [z] at h5; omega
  · have := Nat.le_mul_of_pos_right c z; omega

/-- How many steps of its own it has left, at most. -/
def rk : OS → Nat
  | .push0 _ => 4
  | .push1 _ _ => 3
  | .push2 _ _ => 2
  | .push3 _ => 1
  | .pop0 => 6
  | .pop1 _ => 5
  | .pop2 _ => 4
  | .popN _ => 1
  | .popS _ => 1
  | .popF _ => 3
  | .popR _ _ => 2
  | .popW _ _ => 1
  | .st0 => 4
  | .st1 _ => 3
  | .st2 _ => 2
  | .st3 _ _ => 1
  | .over _ _ => 0
theorem rk_pos {s : OS} (h : s.isO = false) : 1 ≤ rk s := by cases s <;> simp [rk, OS.isO] at *
theorem rk_step (c : Nat) (L : List Int) (s : OS) (h : s.isO = false) : rk (stepS 0 c L s) < rk s := by
  cases s <;> first
    | (simp [OS.isO] at h; done)
    | (simp only [stepS, res]; first | (simp only [rk]; omega) | (split <;> first | (simp only [rk]; omega) | (split <;> (simp only [rk]; omega))))
/-- How long the owner pops, at most, till nothing is left. -/
def mu (T X : Nat) : Option OS → Nat
  | none => 6 * (X - T)
  | some .pop0 => 6 * (X - T)
  | some (.pop1 _) => 6 * (X - T) - 1
  | some (.pop2 _) => 6 * (X - T) - 2
  | some (.popF _) => 6 * (X - T) - 3
  | some (.popR _ _) => 6 * (X - T) - 4
  | some (.popW _ _) => 6 * (X - T) + 1
  | some (.popS _) => 6 * (X - T) + 1
  | some _ => 6 * (X - T)
theorem mu_nil {T X : Nat} {s : Option OS} (h : mu T X s = 0) : X ≤ T ∨ ∃ s', s = some s' ∧ s'.isO = false := by
  rcases s with _ | s
  · simp only [mu] at h; left; omega
  · cases s <;> simp only [mu] at h <;> first | (left; omega) | (right; exact ⟨_, rfl, rfl⟩)

/-- What the owner's end makes of the rows. -/
def endI (I : List Int) (nx : Int) (s s' : OS) : List Int := if pushing (some s) = true ∧ s'.o = 1 then I ++ [nx] else I
def endP (P : List Int) (s s' : OS) : List Int := if pushing (some s) = false ∧ s'.o = 1 then P ++ [s'.x] else P
/-- The owner's step. -/
theorem DI.owner (h : DI c L T X f nx ow th I P S) {s : OS} (e : ow = some s) (hnx : nx ≤ 1000000000) (hX1 : X < 1000000000) :
    ∃ T' X' f', (((stepS 0 c L s).isO = false ∧ pushing (some (stepS 0 c L s)) = pushing (some s) ∧ DI c (stepL 0 c L s) T' X' f' nx (some (stepS 0 c L s)) th I P S ∧ (pushing (some s) = false → mu T' X' (some (stepS 0 c L s)) ≤ mu T X (some s) - 1)) ∨
      ((stepS 0 c L s).isO = true ∧ DI c (stepL 0 c L s) T' X' f' nx none th (endI I nx s (stepS 0 c L s)) (endP P s (stepS 0 c L s)) S ∧ (pushing (some s) = false → mu T' X' none ≤ mu T X (some s) - 1))) ∧ X' ≤ X + 1 := by
  subst e
  have ho := h.own
  have hx := h.hx
  have hlen := h.len
  have hc := Nat.mod_lt X h.pos
  cases s <;> simp only [OwnOk] at ho
  · -- push0
    rename_i v
    obtain ⟨h1, rfl⟩ := ho
    have e3 : stepS 0 c L (.push0 v) = .push1 v (L.getD (0 + 1) 0) := rfl
    have e4 : stepL 0 c L (.push0 v) = L := rfl
    rw [e3, e4, Nat.zero_add, h1]
    exact ⟨T, X, f, .inl ⟨rfl, rfl, { h with own := ⟨h1, rfl, rfl⟩ }, fun q => by simp [pushing] at q⟩, by omega⟩
  · -- push1
    rename_i v x
    obtain ⟨h1, rfl, rfl⟩ := ho
    have e3 : stepS 0 c L (.push1 v (X : Int)) = if (c : Int) ≤ dif (X : Int) (L.getD 0 0) then .over 2 0 else .push2 v (X : Int) := rfl
    have e4 : stepL 0 c L (.push1 v (X : Int)) = L := rfl
    rw [e3, e4, h.top, dif_nat _ _ h.TX hx]
    by_cases g : (c : Int) ≤ ((X - T : Nat) : Int)
    · rw [if_pos g]
      exact ⟨T, X, f, .inr ⟨rfl, { h with own := h1, inr := fun u hu => ⟨(h.inr u hu).1, by have := (h.inr u hu).2; simp only [lim, pushing, if_true] at this ⊢; simp; omega⟩, n1 := ⟨h.n1.1, fun q => by simp [pushing] at q⟩ }, fun q => by simp [pushing] at q⟩, by omega⟩
    · rw [if_neg g]
      exact ⟨T, X, f, .inl ⟨rfl, rfl, { h with own := ⟨h1, rfl, rfl, by omega⟩ }, fun q => by simp [pushing] at q⟩, by omega⟩
  · -- push2
    rename_i v x
    obtain ⟨h1, rfl, rfl, h4⟩ := ho
    have e3 : stepS 0 c L (.push2 v (X : Int)) = .push3 (X : Int) := rfl
    have e4 : stepL 0 c L (.push2 v (X : Int)) = L.set (0 + (2 + (X : Int).toNat % c)) v := rfl
    rw [e3, e4, Int.toNat_natCast, Nat.zero_add]
    refine ⟨T, X, f, .inl ⟨rfl, rfl, { h with len := by rw [List.length_set]; exact hlen, top := by rw [getD_set_ne _ _ (by omega)]; exact h.top, slot := fun i h5 h6 => by rw [getD_set_ne _ _ (mod_ne h5 h6 h4)]; exact h.slot i h5 h6, own := ⟨by rw [getD_set_ne _ _ (by omega)]; exact h1, rfl, h4, getD_set_eq _ _ (by omega)⟩ }, fun q => by simp [pushing] at q⟩, by omega⟩
  · -- push3
    rename_i x
    obtain ⟨h1, rfl, h4, h5⟩ := ho
    have e3 : stepS 0 c L (.push3 (X : Int)) = .over 1 0 := rfl
    have e4 : stepL 0 c L (.push3 (X : Int)) = L.set (0 + 1) (up (X : Int)) := rfl
    rw [e3, e4, up_nat X hx, Nat.zero_add]
    have hl : lim nx (some (.push3 (X : Int))) = nx - 1 := rfl
    have hlt : ∀ u ∈ I, u < nx := fun u hu => by have := (h.inr u hu).2; rw [hl] at this; omega
    have n1 := h.n1.2 rfl
    have hI : endI I nx (.push3 (X : Int)) (.over 1 0) = I ++ [nx] := by simp [endI, pushing, OS.o]
    have hP : endP P (.push3 (X : Int)) (.over 1 0) = P := by simp [endP, pushing]
    have fe : ∀ i, i < X → upd f X nx i = f i := fun i hi => upd_other _ _ _ _ (by omega)
    rw [hI, hP]
    refine ⟨T, X + 1, upd f X nx, .inr ⟨rfl, ?_, fun q => by simp [pushing] at q⟩, by omega⟩
    have hTX := h.TX
    exact { pos := h.pos, len := by rw [List.length_set]; exact hlen, top := by rw [getD_set_ne _ _ (by omega)]; exact h.top, T1 := h.T1, TX := by omega, cap := by omega,
            slot := fun i h6 h7 => by
              rw [getD_set_ne _ _ (by omega)]
              by_cases g : i = X
              · subst g; rw [upd_same]; exact h5
              · rw [fe i (by omega)]; exact h.slot i h6 (by omega)
            asc := fun i j h6 h7 h8 => by
              rw [fe i (by omega)]
              by_cases g : j = X
              · subst g; rw [upd_same]; exact hlt _ (h.mem h6 h7)
              · rw [fe j (by omega)]; exact h.asc i j h6 h7 (by omega)
            own := getD_set_eq _ _ (by omega),
            perm := by
              have := h.perm
              rw [live_last _ hTX, upd_same, live_congr (g := f) (fun i _ hi => fe i hi), ← List.append_assoc]
              exact this.append_right [nx]
            inr := fun u hu => by
              show 1 ≤ u ∧ u ≤ nx
              rw [List.mem_append] at hu
              rcases hu with hu | hu
              · exact ⟨(h.inr u hu).1, by have := hlt u hu; omega⟩
              · simp at hu; subst hu; omega
            inc := by
              rw [List.pairwise_append]
              refine ⟨h.inc, by simp, fun a ha b hb => ?_⟩
              simp at hb; subst hb
              exact hlt a ha
            stl := h.stl,
            sf := fun u hu i h6 h7 => by
              by_cases g : i = X
              · subst g; rw [upd_same]; exact hlt _ (h.memS hu)
              · rw [fe i (by omega)]; exact h.sf u hu i h6 (by omega)
            th := fun k u hk eu => (h.th k u hk eu).same (fun _ => by omega) (fun hT => (fe T hT).symm)
            hx := by omega, n1 := ⟨h.n1.1, fun q => by simp [pushing] at q⟩ }
  · -- pop0
    have e3 : stepS 0 c L .pop0 = .pop1 (L.getD (0 + 1) 0) := rfl
    have e4 : stepL 0 c L .pop0 = L := rfl
    rw [e3, e4, Nat.zero_add, ho]
    exact ⟨T, X, f, .inl ⟨rfl, rfl, { h with own := ⟨ho, rfl⟩ }, fun _ => by simp only [mu]; omega⟩, by omega⟩
  · -- pop1
    rename_i x
    obtain ⟨h1, rfl⟩ := ho
    have hX := h.T1
    have hTX := h.TX
    have e3 : stepS 0 c L (.pop1 (X : Int)) = .pop2 (X : Int) := rfl
    have e4 : stepL 0 c L (.pop1 (X : Int)) = L.set (0 + 1) (dn (X : Int)) := rfl
    rw [e3, e4, dn_nat X hx (by omega), Nat.zero_add]
    exact ⟨T, X, f, .inl ⟨rfl, rfl, { h with len := by rw [List.length_set]; exact hlen, top := by rw [getD_set_ne _ _ (by omega)]; exact h.top, slot := fun i h5 h6 => by rw [getD_set_ne _ _ (by omega)]; exact h.slot i h5 h6, own := ⟨by rw [getD_set_eq _ _ (by omega)]; omega, rfl⟩ }, fun _ => by simp only [mu]; omega⟩, by omega⟩
  · -- pop2
    rename_i x
    obtain ⟨h1, rfl⟩ := ho
    have hX := h.T1
    have hTX := h.TX
    have e3 : stepS 0 c L (.pop2 (X : Int)) = if dn (X : Int) < L.getD 0 0 then .popN (X : Int) else if L.getD 0 0 < dn (X : Int) then .popS (X : Int) else .popF (X : Int) := rfl
    have e4 : stepL 0 c L (.pop2 (X : Int)) = L := rfl
    rw [e3, e4, dn_nat X hx (by omega), h.top]
    by_cases g1 : ((X - 1 : Nat) : Int) < (T : Int)
    · rw [if_pos g1]
      exact ⟨T, X, f, .inl ⟨rfl, rfl, { h with own := ⟨h1, rfl, by omega⟩ }, fun _ => by simp only [mu]; omega⟩, by omega⟩
    · rw [if_neg g1]
      by_cases g2 : (T : Int) < ((X - 1 : Nat) : Int)
      · rw [if_pos g2]
        have hp := h.perm
        have hXs : X - 1 + 1 = X := by omega
        have hlv := live_last f (T := T) (X := X - 1) (by omega)
        rw [hXs] at hlv
        refine ⟨T, X - 1, f, .inl ⟨rfl, rfl, { h with TX := by omega, cap := by have := h.cap; omega, slot := fun i h5 h6 => h.slot i h5 (by omega), asc := fun i j h5 h6 h7 => h.asc i j h5 h6 (by omega), own := ⟨by rw [h1]; omega, by omega, h.slot (X - 1) (by omega) (by omega)⟩, perm := ?_, sf := fun u hu i h5 h6 => h.sf u hu i h5 (by omega), th := fun k u hk eu => (h.th k u hk eu).same (fun _ => by omega) (fun _ => rfl), hx := by omega }, fun _ => by simp only [mu]; omega⟩, by omega⟩
        rw [hlv] at hp
        refine hp.trans ?_
        show (P ++ S ++ [] ++ (live f T (X - 1) ++ [f (X - 1)])).Perm (P ++ S ++ [f (X - 1)] ++ live f T (X - 1))
        rw [List.append_nil, List.append_assoc (P ++ S) [f (X - 1)]]
        exact List.Perm.append_left _ List.perm_append_comm
      · rw [if_neg g2]
        exact ⟨T, X, f, .inl ⟨rfl, rfl, { h with own := ⟨h1, rfl, by omega⟩ }, fun _ => by simp only [mu]; omega⟩, by omega⟩
  · -- popN
    rename_i x
    obtain ⟨h1, rfl, h3⟩ := ho
    have e3 : stepS 0 c L (.popN (X : Int)) = .over 4 0 := rfl
    have e4 : stepL 0 c L (.popN (X : Int)) = L.set (0 + 1) (X : Int) := rfl
    have hI : endI I nx (.popN (X : Int)) (.over 4 0) = I := by simp [endI, pushing]
    have hP : endP P (.popN (X : Int)) (.over 4 0) = P := by simp [endP, OS.o]
    rw [e3, e4, Nat.zero_add, hI, hP]
    exact ⟨T, X, f, .inr ⟨rfl, { h with len := by rw [List.length_set]; exact hlen, top := by rw [getD_set_ne _ _ (by omega)]; exact h.top, slot := fun i h5 h6 => by rw [getD_set_ne _ _ (by omega)]; exact h.slot i h5 h6, own := getD_set_eq _ _ (by omega) }, fun _ => by simp only [mu]; omega⟩, by omega⟩
  · -- popS
    rename_i x
    obtain ⟨h1, rfl, h3⟩ := ho
    have hd : dn ((X : Int) + 1) = (X : Int) := by unfold dn; rw [IntKind.wrap_u64]; omega
    have e3 : stepS 0 c L (.popS ((X : Int) + 1)) = .over 1 (L.getD (0 + (2 + (dn ((X : Int) + 1)).toNat % c)) 0) := rfl
    have e4 : stepL 0 c L (.popS ((X : Int) + 1)) = L := rfl
    rw [e3, e4, hd, Int.toNat_natCast, Nat.zero_add, h3]
    have hI : endI I nx (.popS ((X : Int) + 1)) (.over 1 (f X)) = I := by simp [endI, pushing]
    have hP : endP P (.popS ((X : Int) + 1)) (.over 1 (f X)) = P ++ [f X] := by simp [endP, pushing, OS.o, OS.x]
    rw [hI, hP]
    refine ⟨T, X, f, .inr ⟨rfl, { h with own := h1, perm := ?_ }, fun _ => by simp only [mu]; omega⟩, by omega⟩
    refine h.perm.trans ?_
    show (P ++ S ++ [f X] ++ live f T X).Perm (P ++ [f X] ++ S ++ [] ++ live f T X)
    rw [List.append_nil]
    refine List.Perm.append_right _ ?_
    rw [List.append_assoc, List.append_assoc]
    exact List.Perm.append_left P List.perm_append_comm
  · -- popF
    rename_i x
    obtain ⟨h1, rfl, h3⟩ := ho
    have hX := h.T1
    have hTX := h.TX
    have e3 : stepS 0 c L (.popF (X : Int)) = .popR (X : Int) (L.getD (0 + (2 + (dn (X : Int)).toNat % c)) 0) := rfl
    have e4 : stepL 0 c L (.popF (X : Int)) = L := rfl
    rw [e3, e4, dn_nat X hx (by omega), Int.toNat_natCast, Nat.zero_add]
    refine ⟨T, X, f, .inl ⟨rfl, rfl, { h with own := ⟨h1, rfl, h3, fun e => ?_⟩ }, fun _ => by simp only [mu]; omega⟩, by omega⟩
    rw [← h.slot T (Nat.le_refl _) (by omega), show X - 1 = T by omega]
  · -- popR
    rename_i x v
    obtain ⟨h1, rfl, h3, h4⟩ := ho
    have hX := h.T1
    have hTX := h.TX
    have hd := dn_nat X hx (by omega)
    by_cases g : T + 1 = X
    · have hu := up_nat T (by omega)
      have e3 : doAcc L (acc 0 c (.popR (X : Int) v)) = (L.set 0 (X : Int), 1) := by
        show (if L.getD 0 0 = dn (X : Int) then (L.set 0 (up (dn (X : Int))), 1) else (L, 0)) = _
        rw [h.top, hd, if_pos (by omega), show ((X - 1 : Nat) : Int) = (T : Int) by omega, hu, g]
      have e4 : stepS 0 c L (.popR (X : Int) v) = .popW (X : Int) v := by unfold stepS; rw [e3]; rfl
      have e5 : stepL 0 c L (.popR (X : Int) v) = L.set 0 (X : Int) := by unfold stepL; rw [e3]
      rw [e4, e5]
      have hv := h4 g
      subst hv
      refine ⟨X, X, f, .inl ⟨rfl, rfl, ?_, fun _ => by simp only [mu]; omega⟩, by omega⟩
      exact { h with
              len := by rw [List.length_set]; exact hlen, top := getD_set_eq _ _ (by omega), T1 := (by omega), TX := Nat.le_refl _, cap := (by omega),
              slot := fun i h5 h6 => (by omega), asc := fun i j h5 h6 h7 => (by omega), own := ⟨by rw [getD_set_ne _ _ (by omega)]; exact h1, rfl, rfl⟩,
              perm := by
                have hp := h.perm
                have hl : live f T X = [f T] := by rw [live_head f (by omega), ← g, live_nil]
                rw [hl] at hp
                refine hp.trans ?_
                show (P ++ S ++ [] ++ [f T]).Perm (P ++ S ++ [f T] ++ live f X X)
                rw [live_nil, List.append_nil, List.append_nil]
              sf := fun u hu i h5 h6 => (by omega),
              th := fun k u hk eu => by
                have := (h.th k u hk eu).top
                rw [g] at this; exact this }
    · have e3 : doAcc L (acc 0 c (.popR (X : Int) v)) = (L, 0) := by
        show (if L.getD 0 0 = dn (X : Int) then (L.set 0 (up (dn (X : Int))), 1) else (L, 0)) = _
        rw [h.top, hd, if_neg (by omega)]
      have e4 : stepS 0 c L (.popR (X : Int) v) = .popN (X : Int) := by unfold stepS; rw [e3]; rfl
      have e5 : stepL 0 c L (.popR (X : Int) v) = L := by unfold stepL; rw [e3]
      rw [e4, e5]
      exact ⟨T, X, f, .inl ⟨rfl, rfl, { h with own := ⟨h1, rfl, by omega⟩ }, fun _ => by simp only [mu]; omega⟩, by omega⟩
  · -- popW
    rename_i x v
    obtain ⟨h1, rfl, h3⟩ := ho
    have e3 : stepS 0 c L (.popW (X : Int) v) = .over 1 v := rfl
    have e4 : stepL 0 c L (.popW (X : Int) v) = L.set (0 + 1) (X : Int) := rfl
    have hI : endI I nx (.popW (X : Int) v) (.over 1 v) = I := by simp [endI, pushing]
    have hP : endP P (.popW (X : Int) v) (.over 1 v) = P ++ [v] := by simp [endP, pushing, OS.o, OS.x]
    rw [e3, e4, Nat.zero_add, hI, hP]
    refine ⟨T, X, f, .inr ⟨rfl, { h with len := by rw [List.length_set]; exact hlen, top := by rw [getD_set_ne _ _ (by omega)]; exact h.top, slot := fun i h5 h6 => by rw [getD_set_ne _ _ (by omega)]; exact h.slot i h5 h6, own := getD_set_eq _ _ (by omega), perm := ?_ }, fun _ => by simp only [mu]; omega⟩, by omega⟩
    refine h.perm.trans ?_
    show (P ++ S ++ [v] ++ live f T X).Perm (P ++ [v] ++ S ++ [] ++ live f T X)
    rw [List.append_nil]
    refine List.Perm.append_right _ ?_
    rw [List.append_assoc, List.append_assoc]
    exact List.Perm.append_left P List.perm_append_comm
end
end Go.Proofs.Ytokopocldicnmaa.Dq
