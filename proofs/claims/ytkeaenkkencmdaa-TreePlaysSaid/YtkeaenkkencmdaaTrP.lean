/- tree: what is below and what stands on a path, in plain words: each once, each behind all that are below it, and who is below whom. -/
import Derived.Test.YtkeaenkkencmdaaTrA
set_option linter.unusedSimpArgs false
set_option linter.unusedVariables false
namespace Go.Proofs.Ytkeaenkkencmdaa.Tr
open Go.RowKit Go.Proofs.Ytkeaenkkencmdaa

theorem nodup_le : ∀ (L M : List Int), L.Nodup → (∀ x ∈ L, x ∈ M) → L.length ≤ M.length := by
  intro L
  induction L with
  | nil => intro M _ _; simp
  | cons x L ih =>
    intro M hn h
    rw [List.nodup_cons] at hn
    have hx : x ∈ M := h x List.mem_cons_self
    have := ih (M.erase x) hn.2 (fun y hy => by
      rw [List.mem_erase_of_ne (by rintro rfl; exact hn.1 hy)]
      exact h y (List.mem_cons_of_mem _ hy))
    rw [List.length_erase_of_mem hx] at this
    have := List.length_pos_of_mem hx
    simp only [List.length_cons]
    omega

variable {T : List Mb} (G : Good T)
include G
/-- More fuel changes no path. -/
theorem up_fuel : ∀ (n m : Nat) (x : Int), pos T x < n → pos T x < m → up n T x = up m T x := by
  intro n
  induction n with
  | zero => intro m x h; omega
  | succ n ih =>
    intro m x h1 h2
    cases m with
    | zero => omega
    | succ m =>
      unfold up
      cases h : has T x with
      | false => rfl
      | true =>
        simp only [if_true]
        congr 1
        rcases G.par h with e | e
        · rw [e]
          cases n with
          | zero => cases m with
            | zero => rfl
            | succ m => simp [up, G.zero]
          | succ n => cases m with
            | zero => simp [up, G.zero]
            | succ m => simp [up, G.zero]
        · exact ih m _ (by omega) (by omega)
theorem up_in {n : Nat} {x y : Int} (h : y ∈ up n T x) : has T y = true ∧ pos T y ≤ pos T x := by
  induction n generalizing x with
  | zero => simp [up] at h
  | succ n ih =>
    unfold up at h
    split at h
    · rename_i hx
      rcases List.mem_cons.1 h with rfl | h
      · exact ⟨hx, Nat.le_refl _⟩
      · have := ih h
        rcases G.par hx with e | e
        · rw [e] at h
          cases n with
          | zero => simp [up] at h
          | succ n => simp [up, G.zero] at h
        · exact ⟨this.1, by omega⟩
    · simp at h
omit G in
theorem up_self {n : Nat} {x : Int} (h : has T x = true) (hn : 0 < n) : x ∈ up n T x := by
  cases n with
  | zero => omega
  | succ n => simp [up, h]
/-- A path goes on. -/
theorem up_closed {n : Nat} {x y : Int} (hn : pos T x < n) (h : y ∈ up n T x) (hp : has T (par T y) = true) : par T y ∈ up n T x := by
  induction n generalizing x with
  | zero => omega
  | succ n ih =>
    have hx : has T x = true := by
      unfold up at h
      split at h
      · rename_i hx; exact hx
      · simp at h
    unfold up at h ⊢
    rw [if_pos hx] at h ⊢
    rcases G.par hx with e | e
    · rcases List.mem_cons.1 h with rfl | h
      · rw [e, G.zero] at hp; simp at hp
      · rw [e] at h
        cases n with
        | zero => simp [up] at h
        | succ n => simp [up, G.zero] at h
    · rcases List.mem_cons.1 h with rfl | h
      · exact List.mem_cons_of_mem _ (up_self hp (by omega))
      · exact List.mem_cons_of_mem _ (ih (by omega) h)

omit G in
theorem bel_self {n : Nat} {x : Int} (hn : 0 < n) : x ∈ bel n T x := by
  cases n with
  | zero => omega
  | succ n => simp [bel]
omit G in
theorem mem_bel_succ {n : Nat} {x y : Int} : y ∈ bel (n + 1) T x ↔ (∃ k ∈ kids T x, y ∈ bel n T k) ∨ y = x := by
  simp [bel, List.mem_flatMap]
/-- Who is below x. -/
theorem bel_up {n m : Nat} {x y : Int} (hx : has T x = true) (hm : pos T y < m) (h : y ∈ bel n T x) : has T y = true ∧ x ∈ up m T y := by
  induction n generalizing x with
  | zero => simp [bel] at h
  | succ n ih =>
    rcases mem_bel_succ.1 h with ⟨k, hk, h⟩ | rfl
    · obtain ⟨hk1, hk2⟩ := G.kid.1 hk
      obtain ⟨h1, h2⟩ := ih hk1 h
      refine ⟨h1, ?_⟩
      have := up_closed G hm h2 (by rw [hk2]; exact hx)
      rwa [hk2] at this
    · exact ⟨hx, up_self hx (by omega)⟩
/-- What is below goes on. -/
theorem bel_closed {n : Nat} {x y z : Int} (hx : has T x = true) (hn : T.length ≤ n + pos T x) (h : y ∈ bel n T x) (hz : z ∈ kids T y) : z ∈ bel n T x := by
  induction n generalizing x with
  | zero => simp [bel] at h
  | succ n ih =>
    rcases mem_bel_succ.1 h with ⟨k, hk, h⟩ | rfl
    · obtain ⟨hk1, hk2⟩ := G.kidpos hx hk
      exact mem_bel_succ.2 (.inl ⟨k, hk, ih hk1 (by omega) h⟩)
    · obtain ⟨hk1, hk2⟩ := G.kidpos hx hz
      have := pos_lt.1 hk1
      exact mem_bel_succ.2 (.inl ⟨z, hz, bel_self (by omega)⟩)
theorem up_bel {n m : Nat} {x y : Int} (hx : has T x = true) (hn : T.length ≤ n + pos T x) (h : x ∈ up m T y) : y ∈ bel n T x := by
  induction m generalizing y with
  | zero => simp [up] at h
  | succ m ih =>
    have hy : has T y = true := by
      unfold up at h
      split at h
      · rename_i hy; exact hy
      · simp at h
    unfold up at h
    rw [if_pos hy] at h
    rcases List.mem_cons.1 h with rfl | h
    · have := pos_lt.1 hx
      exact bel_self (by omega)
    · exact bel_closed G hx hn (ih h) (G.kid.2 ⟨hy, rfl⟩)
/-- A MEMBER IS BELOW ANOTHER ONE JUST IF THAT STANDS ON ITS PATH. -/
theorem below_path (x y : Int) (hy : has T y = true) : y ∈ belT T x ↔ x ∈ path T y := by
  unfold belT path
  rw [List.mem_reverse]
  have hp := pos_lt.1 hy
  constructor
  · intro h
    split at h
    · rename_i hx
      exact (bel_up G hx hp h).2
    · simp at h
  · intro h
    have hx := (up_in G h).1
    rw [if_pos hx]
    exact up_bel G hx (by omega) h
theorem path_cons {x : Int} (h : has T x = true) : path T x = path T (par T x) ++ [x] := by
  unfold path
  have hp := pos_lt.1 h
  cases hl : T.length with
  | zero => omega
  | succ n =>
    rw [show up (n + 1) T x = x :: up n T (par T x) by rw [up, if_pos h], List.reverse_cons]
    congr 2
    rcases G.par h with e | e
    · rw [e]
      cases n with
      | zero => simp [up, G.zero]
      | succ n => simp [up, G.zero]
    · exact up_fuel G _ _ _ (by omega) (by omega)
omit G in
theorem path_none {x : Int} (h : has T x = false) : path T x = [] := by
  unfold path
  cases T.length with
  | zero => rfl
  | succ n => simp [up, h]
omit G in
theorem path_len {x : Int} : (path T x).length ≤ T.length := by
  unfold path
  rw [List.length_reverse]
  generalize T.length = n
  induction n generalizing x with
  | zero => simp [up]
  | succ n ih =>
    unfold up
    split
    · simp only [List.length_cons]; have := @ih (par T x); omega
    · simp

/-- Two ahead of one on the same path: one is ahead of the other. -/
theorem up_two {n : Nat} {a b y : Int} (hn : pos T y < n) (ha : a ∈ up n T y) (hb : b ∈ up n T y) : a ∈ up n T b ∨ b ∈ up n T a := by
  induction n generalizing y with
  | zero => omega
  | succ n ih =>
    have hy : has T y = true := by
      unfold up at ha
      split at ha
      · rename_i hy; exact hy
      · simp at ha
    have ha0 := up_in G ha
    have hb0 := up_in G hb
    have ha' := ha
    have hb' := hb
    unfold up at ha hb
    rw [if_pos hy] at ha hb
    rcases List.mem_cons.1 ha with rfl | ha
    · exact .inr hb'
    · rcases List.mem_cons.1 hb with rfl | hb
      · exact .inl ha'
      · rcases G.par hy with e | e
        · rw [e] at ha
          cases n with
          | zero => simp [up] at ha
          | succ n => simp [up, G.zero] at ha
        · have a1 := up_in G ha
          have b1 := up_in G hb
          rcases ih (by omega) ha hb with h | h
          · exact .inl (by rw [up_fuel G _ n _ (by omega) (by omega)]; exact h)
          · exact .inr (by rw [up_fuel G _ n _ (by omega) (by omega)]; exact h)
theorem bel_nodup {n : Nat} {x : Int} (hx : has T x = true) : (bel n T x).Nodup := by
  induction n generalizing x with
  | zero => simp [bel]
  | succ n ih =>
    unfold bel
    rw [List.nodup_append]
    refine ⟨?_, by simp, ?_⟩
    · have hk : ∀ k ∈ kids T x, has T k = true ∧ pos T x < pos T k := fun k hk => G.kidpos hx hk
      have hpar : ∀ k ∈ kids T x, par T k = x := fun k hk => (G.kid.1 hk).2
      have hn := G.knodup (x := x)
      generalize kids T x = K at *
      induction K with
      | nil => simp
      | cons k K ihK =>
        rw [List.nodup_cons] at hn
        rw [List.flatMap_cons, List.nodup_append]
        refine ⟨ih (hk k List.mem_cons_self).1, ihK (fun a ha => hk a (List.mem_cons_of_mem _ ha)) (fun a ha => hpar a (List.mem_cons_of_mem _ ha)) hn.2, ?_⟩
        rintro a ha b hb rfl
        obtain ⟨k2, hk2, hb⟩ := List.mem_flatMap.1 hb
        have m1 := hk k List.mem_cons_self
        have m2 := hk k2 (List.mem_cons_of_mem _ hk2)
        have p1 := hpar k List.mem_cons_self
        have p2 := hpar k2 (List.mem_cons_of_mem _ hk2)
        have hlt : pos T a < T.length := pos_lt.1 (bel_up G m1.1 (Nat.lt_succ_self _) ha).1
        have u1 := (bel_up G m1.1 hlt ha).2
        have u2 := (bel_up G m2.1 hlt hb).2
        have hne : k ≠ k2 := by rintro rfl; exact hn.1 hk2
        have key : ∀ c d : Int, c ≠ d → has T d = true → pos T x < pos T c → par T d = x → pos T x < pos T d → c ∈ up T.length T d → False := by
          intro c d hcd hd hc hpd hxd h
          cases hl : T.length with
          | zero => have := pos_lt.1 hd; omega
          | succ l =>
            rw [hl, up, if_pos hd, hpd] at h
            rcases List.mem_cons.1 h with rfl | h
            · exact hcd rfl
            · have := (up_in G h).2
              omega
        rcases up_two G hlt u1 u2 with h | h
        · exact key k k2 hne m2.1 m1.2 p2 m2.2 h
        · exact key k2 k (fun e => hne e.symm) m1.1 m2.2 p1 m1.2 h
    · intro a ha b hb
      simp at hb
      subst hb
      rintro rfl
      obtain ⟨k, hk, h⟩ := List.mem_flatMap.1 ha
      have m := G.kidpos hx hk
      have := (up_in G (bel_up G m.1 (Nat.lt_succ_self _) h).2).2
      omega
theorem belT_nodup (x : Int) : (belT T x).Nodup := by
  unfold belT
  split
  · rename_i h; exact bel_nodup G h
  · simp
theorem belT_mem {x y : Int} (h : y ∈ belT T x) : has T y = true := by
  unfold belT at h
  split at h
  · rename_i hx; exact (bel_up G hx (Nat.lt_succ_self _) h).1
  · simp at h
theorem belT_len (x : Int) : (belT T x).length ≤ T.length := by
  have := nodup_le (belT T x) (T.map (fun m => m.1)) (belT_nodup G x) (fun y hy => has_mem.1 (belT_mem G hy))
  simpa using this

/-- Each behind all that are below it. -/
def fine (T : List Mb) : List Int → List Int → Prop
  | _, [] => True
  | pre, x :: L => (∀ k ∈ kids T x, k ∈ pre) ∧ fine T (pre ++ [x]) L
omit G in
theorem fine_append (pre L M : List Int) : fine T pre (L ++ M) ↔ fine T pre L ∧ fine T (pre ++ L) M := by
  induction L generalizing pre with
  | nil => simp [fine]
  | cons x L ih =>
    simp only [List.cons_append, fine]
    rw [ih, and_assoc]
    simp
omit G in
theorem fine_mono {pre pre' L : List Int} (h : fine T pre L) (hs : ∀ x ∈ pre, x ∈ pre') : fine T pre' L := by
  induction L generalizing pre pre' with
  | nil => trivial
  | cons x L ih =>
    refine ⟨fun k hk => hs k (h.1 k hk), ih h.2 (fun y hy => ?_)⟩
    rcases List.mem_append.1 hy with hy | hy
    · exact List.mem_append_left _ (hs y hy)
    · exact List.mem_append_right _ hy
theorem bel_fine {n : Nat} {x : Int} (hx : has T x = true) (hn : T.length ≤ n + pos T x) : fine T [] (bel n T x) := by
  induction n generalizing x with
  | zero => simp [bel, fine]
  | succ n ih =>
    unfold bel
    rw [fine_append]
    have hk : ∀ k ∈ kids T x, has T k = true ∧ T.length ≤ n + pos T k ∧ k ∈ bel n T k := fun k hk => by
      have := G.kidpos hx hk
      have h2 := pos_lt.1 this.1
      exact ⟨this.1, by omega, bel_self (by omega)⟩
    refine ⟨?_, ?_, trivial⟩
    · generalize kids T x = K at *
      suffices h : ∀ pre, fine T pre (K.flatMap (bel n T)) from h []
      induction K with
      | nil => intro pre; trivial
      | cons k K ihK =>
        intro pre
        rw [List.flatMap_cons, fine_append]
        have h1 := hk k List.mem_cons_self
        exact ⟨fine_mono (ih h1.1 h1.2.1) (by simp), ihK (fun a ha => hk a (List.mem_cons_of_mem _ ha)) _⟩
    · intro k h
      exact List.mem_flatMap.2 ⟨k, h, (hk k h).2.2⟩
theorem belT_fine (x : Int) : fine T [] (belT T x) := by
  unfold belT
  split
  · rename_i h; exact bel_fine G h (by omega)
  · trivial
omit G in
/-- Behind the cuts of done. -/
def cuts (T : List Mb) : List Int → List Mb
  | [] => T
  | x :: L => cuts (del T x) L
omit G in
theorem cuts_snoc (T : List Mb) (L : List Int) (x : Int) : cuts T (L ++ [x]) = del (cuts T L) x := by
  induction L generalizing T with
  | nil => rfl
  | cons y L ih => exact ih _
omit G in
theorem has_cuts (T : List Mb) (L : List Int) (y : Int) : has (cuts T L) y = true ↔ has T y = true ∧ y ∉ L := by
  induction L generalizing T with
  | nil => simp [cuts]
  | cons x L ih =>
    rw [cuts, ih, has_del]
    simp
    constructor
    · rintro ⟨⟨h1, h2⟩, h3⟩; exact ⟨h1, h2, h3⟩
    · rintro ⟨h1, h2, h3⟩; exact ⟨⟨h1, h2⟩, h3⟩
omit G in
theorem kids_cuts (T : List Mb) (L : List Int) (y : Int) (k : Int) (h : k ∈ kids (cuts T L) y) : k ∈ kids T y ∧ k ∉ L := by
  induction L generalizing T with
  | nil => exact ⟨h, by simp⟩
  | cons x L ih =>
    have := ih _ h
    rw [kids_del, List.mem_filter] at this
    simp at this ⊢
    exact ⟨this.1.1, this.1.2, this.2⟩
/-- Each of what is below can be cut, in its order. -/
theorem falls {pre post : List Int} {x y : Int} (h : belT T x = pre ++ y :: post) : cutE (cuts T pre) y = 0 := by
  rw [cutE_0]
  have hn := belT_nodup G x
  have hf := belT_fine G x
  have hm : has T y = true := belT_mem G (x := x) (by rw [h]; simp)
  rw [h] at hn hf
  rw [fine_append] at hf
  rw [List.nodup_append] at hn
  refine ⟨(has_cuts T pre y).2 ⟨hm, fun e => hn.2.2 y e y List.mem_cons_self rfl⟩, ?_⟩
  rw [List.eq_nil_iff_forall_not_mem]
  intro k hk
  obtain ⟨h1, h2⟩ := kids_cuts T pre y k hk
  exact h2 (by simpa using hf.2.1 k h1)
end Go.Proofs.Ytkeaenkkencmdaa.Tr
