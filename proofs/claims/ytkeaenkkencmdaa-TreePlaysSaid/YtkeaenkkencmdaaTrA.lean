/- tree: members with their parents, in plain words: children, paths, what is below; what adding and cutting come to. -/
import Derived.Test.YtkeaenkkencmdaaOnA
set_option linter.unusedSimpArgs false
set_option linter.unusedVariables false
namespace Go.Proofs.Ytkeaenkkencmdaa.Tr
open Go.RowKit Go.Proofs.Ytkeaenkkencmdaa

/-- A number, and whose child it is. -/
abbrev Mb := Int × Int
def has (T : List Mb) (x : Int) : Bool := T.any (fun m => m.1 == x)
def kids (T : List Mb) (x : Int) : List Int := (T.filter (fun m => m.2 == x)).map (fun m => m.1)
def par : List Mb → Int → Int
  | [], _ => 0
  | m :: T, x => if m.1 = x then m.2 else par T x
def pos : List Mb → Int → Nat
  | [], _ => 0
  | m :: T, x => if m.1 = x then 0 else pos T x + 1
def kidsT (T : List Mb) (x : Int) : List Int := if has T x = true then kids T x else []
def bel : Nat → List Mb → Int → List Int
  | 0, _, _ => []
  | n + 1, T, x => (kids T x).flatMap (bel n T) ++ [x]
def belT (T : List Mb) (x : Int) : List Int := if has T x = true then bel T.length T x else []
def up : Nat → List Mb → Int → List Int
  | 0, _, _ => []
  | n + 1, T, x => if has T x = true then x :: up n T (par T x) else []
def path (T : List Mb) (x : Int) : List Int := (up T.length T x).reverse
def addE (T : List Mb) (p x : Int) : Int := if x < 1 then 1 else if has T x = true then 3 else if p = 0 then (if T = [] then 0 else 4) else if has T p = true then 0 else 2
def addT (T : List Mb) (p x : Int) : List Mb := if addE T p x = 0 then T ++ [(x, p)] else T
def cutE (T : List Mb) (x : Int) : Int := if has T x = false then 2 else if kids T x = [] then 0 else 6
def cutT (T : List Mb) (x : Int) : List Mb := if cutE T x = 0 then T.filter (fun m => m.1 != x) else T

/-- What a tree keeps to. -/
structure Good (T : List Mb) : Prop where
  nodup : (T.map (fun m => m.1)).Nodup
  low : ∀ m ∈ T, 1 ≤ m.1 ∧ (Lit.int .i64 m.1).wf = true
  up : ∀ m ∈ T, m.2 = 0 ∨ pos T m.2 < pos T m.1

section plain
variable {T : List Mb}
theorem has_iff {x : Int} : has T x = true ↔ ∃ p, (x, p) ∈ T := by
  unfold has
  rw [List.any_eq_true]
  constructor
  · rintro ⟨⟨a, p⟩, h, e⟩
    have : a = x := by simpa using e
    exact ⟨p, this ▸ h⟩
  · rintro ⟨p, h⟩
    exact ⟨_, h, by simp⟩
theorem has_mem {x : Int} : has T x = true ↔ x ∈ T.map (fun m => m.1) := by
  rw [has_iff, List.mem_map]
  constructor
  · rintro ⟨p, h⟩; exact ⟨_, h, rfl⟩
  · rintro ⟨⟨a, p⟩, h, rfl⟩; exact ⟨p, h⟩
theorem has_append (T U : List Mb) (x : Int) : has (T ++ U) x = (has T x || has U x) := by simp [has]
theorem has_cons (m : Mb) (T : List Mb) (x : Int) : has (m :: T) x = (m.1 == x || has T x) := by simp [has]
theorem pos_lt {x : Int} : has T x = true ↔ pos T x < T.length := by
  induction T with
  | nil => simp [has, pos]
  | cons m T ih =>
    rw [has_cons]
    unfold pos
    by_cases h : m.1 = x
    · simp [h]
    · simp [h, ih]
theorem pos_le (T : List Mb) (x : Int) : pos T x ≤ T.length := by
  induction T with
  | nil => simp [pos]
  | cons m T ih => unfold pos; split <;> simp <;> omega
theorem pos_append {x : Int} (U : List Mb) (h : has T x = true) : pos (T ++ U) x = pos T x := by
  induction T with
  | nil => simp [has] at h
  | cons m T ih =>
    rw [has_cons] at h
    simp only [List.cons_append]
    unfold pos
    by_cases e : m.1 = x
    · simp [e]
    · have : has T x = true := by simpa [e] using h
      simp [e, ih this]
theorem pos_append' {x : Int} (U : List Mb) (h : has T x = false) : pos (T ++ U) x = T.length + pos U x := by
  induction T with
  | nil => simp
  | cons m T ih =>
    rw [has_cons] at h
    simp only [List.cons_append]
    have e : ¬ m.1 = x := by intro e; simp [e] at h
    have h' : has T x = false := by simpa [e] using h
    rw [pos]
    simp only [e, if_false, ih h', List.length_cons]
    omega
theorem pos_inj {x y : Int} (h : pos T x = pos T y) (hx : has T x = true) : x = y := by
  induction T with
  | nil => simp [has] at hx
  | cons m T ih =>
    rw [has_cons] at hx
    unfold pos at h
    by_cases e1 : m.1 = x
    · by_cases e2 : m.1 = y
      · exact e1.symm.trans e2
      · rw [if_pos e1, if_neg e2] at h; omega
    · by_cases e2 : m.1 = y
      · rw [if_neg e1, if_pos e2] at h; omega
      · rw [if_neg e1, if_neg e2] at h
        exact ih (by omega) (by simpa [e1] using hx)
theorem par_of {x p : Int} (hn : (T.map (fun m => m.1)).Nodup) (h : (x, p) ∈ T) : par T x = p := by
  induction T with
  | nil => simp at h
  | cons m T ih =>
    simp only [List.map_cons, List.nodup_cons] at hn
    unfold par
    rcases List.mem_cons.1 h with rfl | h
    · simp
    · have : ¬ m.1 = x := by
        intro e
        exact hn.1 (by rw [e]; exact List.mem_map.2 ⟨_, h, rfl⟩)
      rw [if_neg this]
      exact ih hn.2 h
theorem mem_of {x : Int} (h : has T x = true) : (x, par T x) ∈ T := by
  induction T with
  | nil => simp [has] at h
  | cons m T ih =>
    rw [has_cons] at h
    unfold par
    by_cases e : m.1 = x
    · rw [if_pos e, ← e]; exact List.mem_cons_self
    · rw [if_neg e]; exact List.mem_cons_of_mem _ (ih (by simpa [e] using h))
theorem mem_kids {x k : Int} (hn : (T.map (fun m => m.1)).Nodup) : k ∈ kids T x ↔ has T k = true ∧ par T k = x := by
  unfold kids
  rw [List.mem_map]
  constructor
  · rintro ⟨⟨a, p⟩, h, rfl⟩
    rw [List.mem_filter] at h
    have e : p = x := by simpa using h.2
    subst e
    exact ⟨has_iff.2 ⟨p, h.1⟩, par_of hn h.1⟩
  · rintro ⟨h, rfl⟩
    exact ⟨_, List.mem_filter.2 ⟨mem_of h, by simp⟩, rfl⟩
theorem kids_nodup {x : Int} (hn : (T.map (fun m => m.1)).Nodup) : (kids T x).Nodup :=
  List.Nodup.sublist (List.Sublist.map _ List.filter_sublist) hn
theorem kids_append (T U : List Mb) (x : Int) : kids (T ++ U) x = kids T x ++ kids U x := by simp [kids]
theorem kids_snoc (T : List Mb) (m : Mb) (x : Int) : kids (T ++ [m]) x = kids T x ++ (if m.2 = x then [m.1] else []) := by
  rw [kids_append]
  by_cases h : m.2 = x <;> simp [kids, h]
theorem par_append {x : Int} (U : List Mb) (h : has T x = true) : par (T ++ U) x = par T x := by
  induction T with
  | nil => simp [has] at h
  | cons m T ih =>
    rw [has_cons] at h
    simp only [List.cons_append]
    unfold par
    by_cases e : m.1 = x
    · simp [e]
    · simp [e, ih (by simpa [e] using h)]
theorem par_append' {x : Int} (U : List Mb) (h : has T x = false) : par (T ++ U) x = par U x := by
  induction T with
  | nil => simp
  | cons m T ih =>
    rw [has_cons] at h
    have e : ¬ m.1 = x := by intro e; simp [e] at h
    simp only [List.cons_append]
    rw [par, if_neg e]
    exact ih (by simpa [e] using h)
theorem par_none {x : Int} (h : has T x = false) : par T x = 0 := by
  have := par_append' (T := T) [] h
  simpa [par] using this

variable (G : Good T)
include G
theorem Good.zero : has T 0 = false := by
  cases h : has T 0 with
  | false => rfl
  | true =>
    obtain ⟨p, hp⟩ := has_iff.1 h
    have := (G.low _ hp).1
    simp at this
theorem Good.pos1 {x : Int} (h : has T x = true) : 1 ≤ x := by obtain ⟨p, hp⟩ := has_iff.1 h; exact (G.low _ hp).1
theorem Good.wf {x : Int} (h : has T x = true) : (Lit.int .i64 x).wf = true := by obtain ⟨p, hp⟩ := has_iff.1 h; exact (G.low _ hp).2
theorem Good.par {x : Int} (h : has T x = true) : par T x = 0 ∨ (has T (par T x) = true ∧ pos T (par T x) < pos T x) := by
  rcases G.up _ (mem_of h) with e | e
  · exact .inl e
  · have := pos_lt.1 h
    exact .inr ⟨pos_lt.2 (by simp only at e; omega), e⟩
theorem Good.kid {x k : Int} : k ∈ kids T x ↔ has T k = true ∧ Tr.par T k = x := mem_kids G.nodup
theorem Good.knodup {x : Int} : (kids T x).Nodup := kids_nodup G.nodup
theorem Good.kidpos {x k : Int} (hx : has T x = true) (hk : k ∈ kids T x) : has T k = true ∧ pos T x < pos T k := by
  obtain ⟨h, rfl⟩ := G.kid.1 hk
  rcases G.par h with e | e
  · rw [e, G.zero] at hx; simp at hx
  · exact ⟨h, e.2⟩
theorem Good.root : kids T 0 = [] ↔ T = [] := by
  constructor
  · intro h
    cases hT : T with
    | nil => rfl
    | cons m U =>
      exfalso
      have hm : m ∈ T := by rw [hT]; exact List.mem_cons_self
      have e : m.2 = 0 := by
        rcases G.up m hm with e | e
        · exact e
        · rw [hT] at e; simp [pos] at e
      have : m.1 ∈ kids T 0 := by
        unfold kids
        exact List.mem_map.2 ⟨m, List.mem_filter.2 ⟨hm, by simp [e]⟩, rfl⟩
      rw [h] at this
      simp at this
  · rintro rfl; rfl
theorem Good.ne {x : Int} (h : has T x = true) : x ≠ Tr.par T x := by
  intro e
  rcases G.par h with e2 | e2
  · have := G.pos1 h; omega
  · rw [← e] at e2; omega
end plain

/-! Adding. -/
theorem addE_0 {T : List Mb} {p x : Int} : addE T p x = 0 ↔ 1 ≤ x ∧ has T x = false ∧ (p = 0 ∧ T = [] ∨ p ≠ 0 ∧ has T p = true) := by
  unfold addE
  by_cases h1 : x < 1
  · rw [if_pos h1]; constructor
    · intro h; simp at h
    · intro h; omega
  · rw [if_neg h1]
    cases h2 : has T x with
    | true => simp
    | false =>
      have h1' : 1 ≤ x := by omega
      by_cases h3 : p = 0
      · by_cases h4 : T = []
        · simp [h3, h4, h1']
        · simp [h3, h4]
      · cases h4 : has T p with
        | true => simp [h3, h1']
        | false => simp [h3]
theorem Good.nil : Good [] := ⟨by simp, by simp, by simp⟩
theorem Good.snoc {T : List Mb} (G : Good T) {p x : Int} (h : addE T p x = 0) (hw : (Lit.int .i64 x).wf = true) : Good (T ++ [(x, p)]) := by
  obtain ⟨h1, h2, h3⟩ := addE_0.1 h
  refine ⟨?_, ?_, ?_⟩
  · rw [List.map_append, List.nodup_append]
    refine ⟨G.nodup, by simp, fun a ha b hb => ?_⟩
    simp at hb
    subst hb
    rintro rfl
    rw [← has_mem, h2] at ha
    simp at ha
  · intro m hm
    rcases List.mem_append.1 hm with hm | hm
    · exact G.low m hm
    · simp at hm; subst hm; exact ⟨h1, hw⟩
  · intro m hm
    rcases List.mem_append.1 hm with hm | hm
    · have hm1 : has T m.1 = true := has_iff.2 ⟨m.2, hm⟩
      rcases G.up m hm with e | e
      · exact .inl e
      · have := pos_lt.1 hm1
        have hm2 : has T m.2 = true := pos_lt.2 (by omega)
        rw [pos_append _ hm1, pos_append _ hm2]
        exact .inr e
    · simp at hm; subst hm
      rcases h3 with ⟨e, _⟩ | ⟨_, e⟩
      · exact .inl e
      · have := pos_lt.1 e
        rw [pos_append _ e, pos_append' _ h2]
        exact .inr (by omega)
theorem Good.add {T : List Mb} (G : Good T) (p : Int) {x : Int} (hw : (Lit.int .i64 x).wf = true) : Good (addT T p x) := by
  unfold addT
  split
  · rename_i h; exact G.snoc h hw
  · exact G

/-! Cutting. -/
def del (T : List Mb) (x : Int) : List Mb := T.filter (fun m => m.1 != x)
theorem cutE_0 {T : List Mb} {x : Int} : cutE T x = 0 ↔ has T x = true ∧ kids T x = [] := by
  unfold cutE
  cases h : has T x with
  | false => simp
  | true => by_cases e : kids T x = [] <;> simp [e]
theorem has_del (T : List Mb) (x y : Int) : has (del T x) y = (has T y && y != x) := by
  induction T with
  | nil => simp [has, del]
  | cons m T ih =>
    unfold del at ih ⊢
    by_cases h : m.1 = x
    · rw [List.filter_cons_of_neg (by simp [h]), ih, has_cons]
      by_cases e : y = x
      · simp [e]
      · have : ¬ m.1 = y := by rw [h]; exact fun h => e h.symm
        rw [show (m.1 == y) = false from beq_eq_false_iff_ne.2 this, Bool.false_or]
    · rw [List.filter_cons_of_pos (by simp [h]), has_cons, ih, has_cons]
      by_cases e : m.1 = y
      · have : ¬ y = x := by rw [← e]; exact h
        rw [show (m.1 == y) = true from beq_iff_eq.2 e, show (y != x) = true from bne_iff_ne.2 this]; simp
      · rw [show (m.1 == y) = false from beq_eq_false_iff_ne.2 e]; simp
theorem kids_del (T : List Mb) (x y : Int) : kids (del T x) y = (kids T y).filter (fun k => k != x) := by
  unfold kids del
  rw [List.filter_filter, List.filter_map, List.filter_filter]
  congr 1
  apply List.filter_congr
  intro m _
  exact Bool.and_comm _ _
theorem par_del {T : List Mb} {x y : Int} (h : y ≠ x) : par (del T x) y = par T y := by
  induction T with
  | nil => rfl
  | cons m T ih =>
    unfold del at ih ⊢
    by_cases e : m.1 = x
    · rw [List.filter_cons_of_neg (by simp [e]), ih, par, if_neg (by rw [e]; exact fun h' => h h'.symm)]
    · rw [List.filter_cons_of_pos (by simp [e]), par, par, ih]
theorem pos_del {T : List Mb} {x y z : Int} (hy : y ≠ x) (hz : z ≠ x) (h : pos T y < pos T z) : pos (del T x) y < pos (del T x) z := by
  induction T with
  | nil => simp [pos] at h
  | cons m T ih =>
    unfold del at ih ⊢
    by_cases e : m.1 = x
    · rw [List.filter_cons_of_neg (by simp [e])]
      have e1 : ¬ m.1 = y := by rw [e]; exact fun h' => hy h'.symm
      have e2 : ¬ m.1 = z := by rw [e]; exact fun h' => hz h'.symm
      rw [pos, pos, if_neg e1, if_neg e2] at h
      exact ih (by omega)
    · rw [List.filter_cons_of_pos (by simp [e])]
      rw [pos, pos] at h ⊢
      by_cases e1 : m.1 = z
      · rw [if_pos e1] at h; omega
      · by_cases e2 : m.1 = y
        · rw [if_neg e1, if_pos e2]; omega
        · rw [if_neg e1, if_neg e2] at h ⊢
          have := ih (by omega)
          omega
theorem Good.del {T : List Mb} (G : Good T) {x : Int} (h0 : x ≠ 0) (h : kids T x = []) : Good (Tr.del T x) := by
  refine ⟨?_, ?_, ?_⟩
  · exact List.Nodup.sublist (List.Sublist.map _ List.filter_sublist) G.nodup
  · intro m hm
    exact G.low m (List.mem_filter.1 hm).1
  · intro m hm
    obtain ⟨hm1, hm2⟩ := List.mem_filter.1 hm
    rcases G.up m hm1 with e | e
    · exact .inl e
    · refine .inr (pos_del ?_ (by simpa using hm2) e)
      intro e2
      have : m.1 ∈ kids T x := by
        unfold kids
        exact List.mem_map.2 ⟨m, List.mem_filter.2 ⟨hm1, by simp [e2]⟩, rfl⟩
      rw [h] at this
      simp at this
theorem cutT_eq {T : List Mb} {x : Int} (h : cutE T x = 0) : cutT T x = del T x := by unfold cutT; rw [if_pos h]; rfl
theorem Good.cut {T : List Mb} (G : Good T) (x : Int) : Good (cutT T x) := by
  by_cases h : cutE T x = 0
  · rw [cutT_eq h]
    obtain ⟨h1, h2⟩ := cutE_0.1 h
    exact G.del (by have := G.pos1 h1; omega) h2
  · unfold cutT; rw [if_neg h]; exact G
theorem length_del {T : List Mb} {x : Int} (hn : (T.map (fun m => m.1)).Nodup) (h : has T x = true) : (del T x).length + 1 = T.length := by
  induction T with
  | nil => simp [has] at h
  | cons m T ih =>
    simp only [List.map_cons, List.nodup_cons] at hn
    unfold del at ih ⊢
    by_cases e : m.1 = x
    · rw [List.filter_cons_of_neg (by simp [e])]
      have : T.filter (fun m => m.1 != x) = T := by
        rw [List.filter_eq_self]
        intro a ha
        have : ¬ a.1 = x := by
          intro e2
          exact hn.1 (by rw [e, ← e2]; exact List.mem_map.2 ⟨_, ha, rfl⟩)
        simpa using this
      rw [this]; rfl
    · rw [List.filter_cons_of_pos (by simp [e])]
      rw [has_cons] at h
      have := ih hn.2 (by simpa [e] using h)
      simp only [List.length_cons]
      omega

/-! Neighbours in a row. -/
theorem last_app (L : List Int) {M : List Int} (h : M ≠ []) : (L ++ M).getLast? = M.getLast? := by
  rw [List.getLast?_append]
  cases h2 : M.getLast? with
  | none => exact absurd (List.getLast?_eq_none_iff.1 h2) h
  | some a => rfl
def nextOf : List Int → Int → Option Int
  | [], _ => none
  | y :: L, x => if y = x then L.head? else nextOf L x
def prevOf : List Int → Int → Option Int
  | [], _ => none
  | y :: L, x => if L.head? = some x then some y else prevOf L x
theorem next_mid {pre post : List Int} {x : Int} (h : x ∉ pre) : nextOf (pre ++ x :: post) x = post.head? := by
  induction pre with
  | nil => simp [nextOf]
  | cons y pre ih =>
    simp only [List.mem_cons, not_or] at h
    simp only [List.cons_append, nextOf]
    rw [if_neg (fun e => h.1 e.symm), ih h.2]
theorem next_not {L : List Int} {x : Int} (h : x ∉ L) : nextOf L x = none := by
  induction L with
  | nil => rfl
  | cons y L ih =>
    simp only [List.mem_cons, not_or] at h
    rw [nextOf, if_neg (fun e => h.1 e.symm), ih h.2]
theorem prev_not {L : List Int} {x : Int} (h : x ∉ L.tail) : prevOf L x = none := by
  induction L with
  | nil => rfl
  | cons y L ih =>
    simp only [List.tail_cons] at h
    rw [prevOf, if_neg]
    · exact ih (fun e => h (List.mem_of_mem_tail e))
    · intro e
      exact h (List.mem_of_head? e)
theorem prev_mid {pre post : List Int} {x : Int} (h : x ∉ pre) (h2 : x ∉ post) : prevOf (pre ++ x :: post) x = pre.getLast? := by
  induction pre with
  | nil => simpa using prev_not (L := x :: post) (by simpa using h2)
  | cons y pre ih =>
    simp only [List.mem_cons, not_or] at h
    simp only [List.cons_append, prevOf]
    cases pre with
    | nil => simp
    | cons z pre =>
      rw [if_neg (by
        simp only [List.cons_append, List.head?_cons, Option.some.injEq]
        intro e
        exact h.2 (by rw [e]; exact List.mem_cons_self)), ih h.2]
      simp [List.getLast?_cons_cons]
theorem mid_of {L : List Int} {x : Int} (hn : L.Nodup) (h : x ∈ L) : ∃ pre post, L = pre ++ x :: post ∧ x ∉ pre ∧ x ∉ post := by
  obtain ⟨pre, post, rfl⟩ := List.append_of_mem h
  rw [List.nodup_append] at hn
  refine ⟨pre, post, rfl, fun e => hn.2.2 x e x List.mem_cons_self rfl, (List.nodup_cons.1 hn.2.1).1⟩
/-- One more at the end. -/
theorem next_snoc {L : List Int} {x y : Int} (hn : L.Nodup) (h : y ∈ L) (hx : x ∉ L) : nextOf (L ++ [x]) y = if L.getLast? = some y then some x else nextOf L y := by
  obtain ⟨pre, post, rfl, h1, h2⟩ := mid_of hn h
  rw [List.append_assoc, List.cons_append, next_mid h1, next_mid h1]
  cases post with
  | nil => simp
  | cons z post =>
    rw [if_neg]
    · rfl
    · intro e
      have e2 : (z :: post).getLast? = some y := by
        rw [last_app _ (by simp), List.getLast?_cons_cons] at e
        exact e
      exact h2 (List.mem_of_getLast? e2)
theorem prev_snoc {L : List Int} {x y : Int} (hn : L.Nodup) (h : y ∈ L) (hx : x ∉ L) : prevOf (L ++ [x]) y = prevOf L y := by
  obtain ⟨pre, post, rfl, h1, h2⟩ := mid_of hn h
  have h3 : y ∉ post ++ [x] := by
    intro e
    rcases List.mem_append.1 e with e | e
    · exact h2 e
    · simp at e; subst e; exact hx (by simp)
  rw [List.append_assoc, List.cons_append, prev_mid h1 h3, prev_mid h1 h2]
/-- One taken out. -/
theorem next_out {pre post : List Int} {x y : Int} (hn : (pre ++ x :: post).Nodup) (h : y ∈ pre ++ post) : nextOf (pre ++ post) y = if pre.getLast? = some y then post.head? else nextOf (pre ++ x :: post) y := by
  have hn' := hn
  rw [List.nodup_append] at hn
  obtain ⟨n1, n2, n3⟩ := hn
  rw [List.nodup_cons] at n2
  rcases List.mem_append.1 h with h | h
  · obtain ⟨p1, p2, rfl, h1, h2⟩ := mid_of n1 h
    rw [List.append_assoc, List.append_assoc, List.cons_append, List.cons_append, next_mid h1, next_mid h1]
    cases p2 with
    | nil => simp
    | cons z p2 =>
      rw [if_neg]
      · rfl
      · intro e
        rw [last_app _ (by simp), List.getLast?_cons_cons] at e
        exact h2 (List.mem_of_getLast? e)
  · obtain ⟨p1, p2, rfl, h1, h2⟩ := mid_of n2.2 h
    have hp : y ∉ pre := fun e => n3 y e y (by simp) rfl
    have hx : y ≠ x := by rintro rfl; exact n2.1 (by simp)
    rw [if_neg (fun e => hp (List.mem_of_getLast? e)), ← List.append_assoc, next_mid (by simp [hp, h1]), show pre ++ x :: (p1 ++ y :: p2) = (pre ++ x :: p1) ++ y :: p2 by simp, next_mid (by simp [hp, h1, hx])]
theorem prev_out {pre post : List Int} {x y : Int} (hn : (pre ++ x :: post).Nodup) (h : y ∈ pre ++ post) : prevOf (pre ++ post) y = if post.head? = some y then pre.getLast? else prevOf (pre ++ x :: post) y := by
  rw [List.nodup_append] at hn
  obtain ⟨n1, n2, n3⟩ := hn
  rw [List.nodup_cons] at n2
  rcases List.mem_append.1 h with h | h
  · obtain ⟨p1, p2, rfl, h1, h2⟩ := mid_of n1 h
    have hp : y ∉ post := fun e => n3 y h y (by simp [e]) rfl
    have hx : y ≠ x := by rintro rfl; exact n3 y h y (by simp) rfl
    rw [if_neg (fun e => hp (List.mem_of_head? e)), List.append_assoc, List.append_assoc, List.cons_append, List.cons_append, prev_mid h1 (by simp [hp, h2]), prev_mid h1 (by simp [hp, h2, hx])]
  · obtain ⟨p1, p2, rfl, h1, h2⟩ := mid_of n2.2 h
    have hp : y ∉ pre := fun e => n3 y e y (by simp) rfl
    have hx : y ≠ x := by rintro rfl; exact n2.1 (by simp)
    rw [← List.append_assoc, prev_mid (by simp [hp, h1]) h2, show pre ++ x :: (p1 ++ y :: p2) = (pre ++ x :: p1) ++ y :: p2 by simp, prev_mid (by simp [hp, h1, hx]) h2]
    cases p1 with
    | nil => simp
    | cons z p1 =>
      rw [if_neg]
      · rw [last_app _ (by simp), last_app _ (by simp), List.getLast?_cons_cons]
      · intro e
        simp at e
        exact h1 (by rw [e]; exact List.mem_cons_self)
end Go.Proofs.Ytkeaenkkencmdaa.Tr
