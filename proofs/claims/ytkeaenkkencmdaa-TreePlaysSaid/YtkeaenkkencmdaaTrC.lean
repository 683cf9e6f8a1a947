/- tree: what adding and cutting come to, node by node. -/
import Derived.Test.YtkeaenkkencmdaaTrB
set_option linter.unusedSimpArgs false
set_option linter.unusedVariables false
set_option linter.unusedSectionVars false
namespace Go.Proofs.Ytkeaenkkencmdaa.Tr
open Go.RowKit Go.Proofs.Ytkeaenkkencmdaa

theorem next_mem {L : List Int} {x z : Int} (h : nextOf L x = some z) : z ∈ L := by
  induction L with
  | nil => simp [nextOf] at h
  | cons y L ih =>
    unfold nextOf at h
    split at h
    · exact List.mem_cons_of_mem _ (List.mem_of_head? h)
    · exact List.mem_cons_of_mem _ (ih h)
theorem prev_mem {L : List Int} {x z : Int} (h : prevOf L x = some z) : z ∈ L := by
  induction L with
  | nil => simp [prevOf] at h
  | cons y L ih =>
    unfold prevOf at h
    split at h
    · simp at h; subst h; exact List.mem_cons_self
    · exact List.mem_cons_of_mem _ (ih h)
def updI (b : Int → Nat) (x : Int) (m : Nat) : Int → Nat := fun y => if y = x then m else b y
theorem updI_same (b : Int → Nat) (x : Int) (m : Nat) : updI b x m x = m := by simp [updI]
theorem updI_other (b : Int → Nat) {x y : Int} (m : Nat) (h : y ≠ x) : updI b x m y = b y := by simp [updI, h]
theorem opt_upd {b : Int → Nat} {x : Int} {m : Nat} {o : Option Int} (h : o ≠ some x) : opt (updI b x m) o = opt b o := by
  cases o with
  | none => rfl
  | some y => simp only [opt]; rw [updI_other]; intro e; subst e; exact h rfl

section
variable {T : List Mb} (G : Good T)
include G
theorem kids_in {x y : Int} (h : y ∈ kids T x) : has T y = true := (G.kid.1 h).1
theorem sib_in {x y : Int} (h : y ∈ sib T x) : has T y = true := by
  unfold sib at h
  split at h
  · simp at h
  · exact kids_in G h
theorem par_in (x : Int) : In T (par T x) := by
  cases h : has T x with
  | true => exact (G.par h).imp id (fun h => h.1)
  | false => exact .inl (par_none h)
theorem kids_out {x : Int} (h : has T x = false) (h0 : x ≠ 0) : kids T x = [] := by
  rw [List.eq_nil_iff_forall_not_mem]
  intro k hk
  obtain ⟨h1, h2⟩ := G.kid.1 hk
  rcases par_in G k with e | e
  · exact h0 (h2.symm.trans e)
  · rw [h2, h] at e; simp at e
theorem self_sib {x : Int} (h : has T x = true) : x ∈ sib T x := by
  unfold sib
  rw [if_neg (by have := G.pos1 h; omega)]
  exact G.kid.2 ⟨h, rfl⟩
theorem sib_nodup (x : Int) : (sib T x).Nodup := by
  unfold sib
  split
  · simp
  · exact G.knodup

/-! x is added below p. -/
section
variable {p x : Int} (hx : has T x = false) (h1 : 1 ≤ x) (hp : In T p) (b : Int → Nat) (m : Nat)
include hx h1 hp
theorem px : p ≠ x := by
  rintro rfl
  rcases hp with e | e
  · omega
  · rw [hx] at e; simp at e
theorem add_in {y : Int} : In (T ++ [(x, p)]) y ↔ In T y ∨ y = x := by
  unfold In
  rw [has_append]
  have e : has [(x, p)] y = (x == y) := by simp [has]
  rw [e, Bool.or_eq_true, beq_iff_eq, or_assoc]
  exact or_congr Iff.rfl (or_congr Iff.rfl ⟨Eq.symm, Eq.symm⟩)
theorem add_kids (y : Int) : kids (T ++ [(x, p)]) y = kids T y ++ (if p = y then [x] else []) := kids_snoc T (x, p) y
theorem add_above {y : Int} (hy : In T y) : above (T ++ [(x, p)]) y = above T y := by
  unfold above
  split
  · rfl
  · rename_i h
    rcases hy with e | e
    · exact absurd e h
    · rw [par_append _ e]
theorem add_sib {y : Int} (hy : has T y = true) : sib (T ++ [(x, p)]) y = sib T y ++ (if p = par T y then [x] else []) := by
  unfold sib
  have := G.pos1 hy
  rw [if_neg (by omega), if_neg (by omega), par_append _ hy, add_kids G hx h1 hp]
omit G hx h1 hp in
theorem sib0 : sib T 0 = [] := by simp [sib]
theorem above_opt {y : Int} (hy : In T y) : opt (updI b x m) (above T y) = opt b (above T y) := by
  refine opt_upd ?_
  unfold above
  split
  · simp
  · intro e
    injection e with e
    rcases par_in G y with h | h
    · omega
    · rw [e, hx] at h; simp at h
theorem mem_opt {o : Option Int} (ho : ∀ z, o = some z → has T z = true) : opt (updI b x m) o = opt b o := by
  refine opt_upd ?_
  intro e
  have := ho x e
  rw [hx] at this
  simp at this
theorem prev_opt (y : Int) : opt (updI b x m) (prevOf (sib T y) y) = opt b (prevOf (sib T y) y) := mem_opt G hx h1 hp b m (fun z hz => sib_in G (prev_mem hz))
theorem next_opt (y : Int) : opt (updI b x m) (nextOf (sib T y) y) = opt b (nextOf (sib T y) y) := mem_opt G hx h1 hp b m (fun z hz => sib_in G (next_mem hz))
theorem head_opt (y : Int) : opt (updI b x m) (kids T y).head? = opt b (kids T y).head? := mem_opt G hx h1 hp b m (fun z hz => kids_in G (List.mem_of_head? hz))
theorem last_opt (y : Int) : opt (updI b x m) (kids T y).getLast? = opt b (kids T y).getLast? := mem_opt G hx h1 hp b m (fun z hz => kids_in G (List.mem_of_getLast? hz))
theorem add_prev {y : Int} (hy : In T y) : prevOf (sib (T ++ [(x, p)]) y) y = prevOf (sib T y) y := by
  rcases hy with rfl | hy
  · rw [sib0, sib0]
  · rw [add_sib G hx h1 hp hy]
    split
    · exact prev_snoc (sib_nodup G y) (self_sib G hy) (fun e => by have := sib_in G e; rw [hx] at this; simp at this)
    · simp
theorem add_next {y : Int} (hy : In T y) : nextOf (sib (T ++ [(x, p)]) y) y = if (kids T p).getLast? = some y then some x else nextOf (sib T y) y := by
  rcases hy with rfl | hy
  · rw [sib0, sib0, if_neg]
    intro e
    have := kids_in G (List.mem_of_getLast? e)
    rw [G.zero] at this
    simp at this
  · rw [add_sib G hx h1 hp hy]
    have h0 : y ≠ 0 := by have := G.pos1 hy; omega
    by_cases e : p = par T y
    · rw [if_pos e, next_snoc (sib_nodup G y) (self_sib G hy) (fun e => by have := sib_in G e; rw [hx] at this; simp at this)]
      have : sib T y = kids T p := by unfold sib; rw [if_neg h0, e]
      rw [this]
    · rw [if_neg e, if_neg, List.append_nil]
      intro e2
      exact e (G.kid.1 (List.mem_of_getLast? e2)).2.symm
theorem node_add_other {y : Int} (hy : In T y) (hyp : y ≠ p) (hl : (kids T p).getLast? ≠ some y) : node (T ++ [(x, p)]) (updI b x m) y = node T b y := by
  unfold node
  rw [add_above G hx h1 hp hy, add_prev G hx h1 hp hy, add_next G hx h1 hp hy, if_neg hl, add_kids G hx h1 hp, if_neg (fun e => hyp e.symm), List.append_nil, above_opt G hx h1 hp b m hy, prev_opt G hx h1 hp, next_opt G hx h1 hp, head_opt G hx h1 hp, last_opt G hx h1 hp]
theorem node_add_last {z : Int} (hl : (kids T p).getLast? = some z) : node (T ++ [(x, p)]) (updI b x m) z =
    #[.int .i64 z, opt b (above T z), opt b (kids T z).head?, opt b (kids T z).getLast?, opt b (prevOf (sib T z) z), .pointer (some ⟨m, 0, none⟩)] := by
  have hz := List.mem_of_getLast? hl
  have hzm := kids_in G hz
  have hne : p ≠ z := by
    rintro rfl
    exact G.ne hzm (G.kid.1 hz).2.symm
  unfold node
  rw [add_above G hx h1 hp (.inr hzm), add_prev G hx h1 hp (.inr hzm), add_next G hx h1 hp (.inr hzm), if_pos hl, add_kids G hx h1 hp, if_neg hne, List.append_nil, above_opt G hx h1 hp b m (.inr hzm), prev_opt G hx h1 hp, head_opt G hx h1 hp, last_opt G hx h1 hp]
  simp only [opt, updI_same]
theorem node_add_par : node (T ++ [(x, p)]) (updI b x m) p =
    #[.int .i64 p, opt b (above T p), if (kids T p).getLast? = none then .pointer (some ⟨m, 0, none⟩) else opt b (kids T p).head?, .pointer (some ⟨m, 0, none⟩), opt b (prevOf (sib T p) p), opt b (nextOf (sib T p) p)] := by
  have hne : (kids T p).getLast? ≠ some p := by
    intro e
    have hz := List.mem_of_getLast? e
    exact G.ne (kids_in G hz) (G.kid.1 hz).2.symm
  unfold node
  rw [add_above G hx h1 hp hp, add_prev G hx h1 hp hp, add_next G hx h1 hp hp, if_neg hne, add_kids G hx h1 hp, if_pos rfl, above_opt G hx h1 hp b m hp, prev_opt G hx h1 hp, next_opt G hx h1 hp]
  have e1 : (kids T p ++ [x]).getLast? = some x := by simp
  have eb : opt (updI b x m) (some x) = .pointer (some ⟨m, 0, none⟩) := by simp only [opt, updI_same]
  have hh := head_opt G hx h1 hp b m p
  rw [e1, eb]
  cases hk : kids T p with
  | nil => rw [if_pos (by rfl), List.nil_append, List.head?_cons, eb]
  | cons k K =>
    rw [hk] at hh
    rw [if_neg (by simp), List.cons_append, List.head?_cons, ← hh, List.head?_cons]
theorem node_add_new : node (T ++ [(x, p)]) (updI b x m) x = #[.int .i64 x, .pointer (some ⟨b p, 0, none⟩), .pointer none, .pointer none, opt b (kids T p).getLast?, .pointer none] := by
  have hpx := px G hx h1 hp
  have hpar : par (T ++ [(x, p)]) x = p := by rw [par_append' _ hx]; simp [par]
  have hk : kids (T ++ [(x, p)]) x = [] := by rw [add_kids G hx h1 hp, if_neg hpx, kids_out G hx (by omega)]; rfl
  have hs : sib (T ++ [(x, p)]) x = kids T p ++ [x] := by unfold sib; rw [if_neg (by omega), hpar, add_kids G hx h1 hp, if_pos rfl]
  have hn : x ∉ kids T p := fun e => by have := kids_in G e; rw [hx] at this; simp at this
  have ha : above (T ++ [(x, p)]) x = some p := by unfold above; rw [if_neg (by omega), hpar]
  unfold node
  rw [hk, hs, ha, next_mid hn, prev_mid hn (by simp), last_opt G hx h1 hp]
  simp only [opt, List.head?_nil, List.getLast?_nil, updI_other b m hpx]
end

/-! x, that has no children, is cut: pre and post are its siblings. -/
section
variable {x : Int} (hx : has T x = true) (hk : kids T x = []) {pre post : List Int} (hK : kids T (par T x) = pre ++ x :: post) (b : Int → Nat)
include hx hk hK
theorem cut_in {y : Int} : In (del T x) y ↔ In T y ∧ y ≠ x := by
  unfold In
  rw [has_del, Bool.and_eq_true, bne_iff_ne]
  have h0 := G.pos1 hx
  constructor
  · rintro (h | h)
    · exact ⟨.inl h, by omega⟩
    · exact ⟨.inr h.1, h.2⟩
  · rintro ⟨h | h, h2⟩
    · exact .inl h
    · exact .inr ⟨h, h2⟩
theorem cut_mid : x ∉ pre ∧ x ∉ post ∧ (pre ++ x :: post).Nodup := by
  have hn := G.knodup (x := par T x)
  rw [hK] at hn
  have hn' := hn
  rw [List.nodup_append] at hn
  exact ⟨fun e => hn.2.2 x e x List.mem_cons_self rfl, (List.nodup_cons.1 hn.2.1).1, hn'⟩
theorem cut_kids (y : Int) : kids (del T x) y = if y = par T x then pre ++ post else kids T y := by
  rw [kids_del]
  obtain ⟨h1, h2, _⟩ := cut_mid G hx hk hK
  split
  · rename_i e
    rw [e, hK, List.filter_append, List.filter_cons_of_neg (by simp)]
    congr 1
    · exact List.filter_eq_self.2 (fun a ha => bne_iff_ne.2 (fun e => h1 (e ▸ ha)))
    · exact List.filter_eq_self.2 (fun a ha => bne_iff_ne.2 (fun e => h2 (e ▸ ha)))
  · rename_i e
    exact List.filter_eq_self.2 (fun a ha => bne_iff_ne.2 (fun e2 => e (by rw [e2] at ha; exact (G.kid.1 ha).2.symm)))
theorem cut_above {y : Int} (hy : y ≠ x) : above (del T x) y = above T y := by unfold above; rw [par_del hy]
theorem cut_sib {y : Int} (hy : y ≠ x) (h0 : y ≠ 0) : sib (del T x) y = if par T y = par T x then pre ++ post else sib T y := by
  unfold sib
  rw [if_neg h0, if_neg h0, par_del hy, cut_kids G hx hk hK]
theorem mem_pp {y : Int} (h : y ∈ pre ++ post) : has T y = true ∧ par T y = par T x ∧ y ≠ x := by
  obtain ⟨h1, h2, _⟩ := cut_mid G hx hk hK
  have : y ∈ kids T (par T x) := by
    rw [hK]
    rcases List.mem_append.1 h with h | h
    · exact List.mem_append_left _ h
    · exact List.mem_append_right _ (List.mem_cons_of_mem _ h)
  obtain ⟨e1, e2⟩ := G.kid.1 this
  refine ⟨e1, e2, ?_⟩
  rintro rfl
  rcases List.mem_append.1 h with h | h
  · exact h1 h
  · exact h2 h
theorem in_pp {y : Int} (hy : has T y = true) (hyx : y ≠ x) (hp : par T y = par T x) : y ∈ pre ++ post := by
  have : y ∈ kids T (par T x) := G.kid.2 ⟨hy, hp⟩
  rw [hK] at this
  rcases List.mem_append.1 this with h | h
  · exact List.mem_append_left _ h
  · rcases List.mem_cons.1 h with h | h
    · exact absurd h hyx
    · exact List.mem_append_right _ h
theorem cut_next {y : Int} (hy : In T y) (hyx : y ≠ x) : nextOf (sib (del T x) y) y = if pre.getLast? = some y then post.head? else nextOf (sib T y) y := by
  obtain ⟨h1, h2, h3⟩ := cut_mid G hx hk hK
  rcases hy with rfl | hy
  · rw [sib0, sib0, if_neg]
    intro e
    have := (mem_pp G hx hk hK (List.mem_append_left post (List.mem_of_getLast? e))).1
    rw [G.zero] at this; simp at this
  · have h0 : y ≠ 0 := by have := G.pos1 hy; omega
    rw [cut_sib G hx hk hK hyx h0]
    by_cases e : par T y = par T x
    · have hs : sib T y = pre ++ x :: post := by unfold sib; rw [if_neg h0, e, hK]
      rw [if_pos e, hs]
      exact next_out h3 (in_pp G hx hk hK hy hyx e)
    · rw [if_neg e, if_neg]
      intro e2
      exact e (mem_pp G hx hk hK (List.mem_append_left post (List.mem_of_getLast? e2))).2.1
theorem cut_prev {y : Int} (hy : In T y) (hyx : y ≠ x) : prevOf (sib (del T x) y) y = if post.head? = some y then pre.getLast? else prevOf (sib T y) y := by
  obtain ⟨h1, h2, h3⟩ := cut_mid G hx hk hK
  rcases hy with rfl | hy
  · rw [sib0, sib0, if_neg]
    intro e
    have := (mem_pp G hx hk hK (List.mem_append_right pre (List.mem_of_head? e))).1
    rw [G.zero] at this; simp at this
  · have h0 : y ≠ 0 := by have := G.pos1 hy; omega
    rw [cut_sib G hx hk hK hyx h0]
    by_cases e : par T y = par T x
    · have hs : sib T y = pre ++ x :: post := by unfold sib; rw [if_neg h0, e, hK]
      rw [if_pos e, hs]
      exact prev_out h3 (in_pp G hx hk hK hy hyx e)
    · rw [if_neg e, if_neg]
      intro e2
      exact e (mem_pp G hx hk hK (List.mem_append_right pre (List.mem_of_head? e2))).2.1
theorem node_cut {y : Int} (hy : In T y) (hyx : y ≠ x) : node (del T x) b y =
    #[.int .i64 y, opt b (above T y), opt b (if y = par T x then pre ++ post else kids T y).head?, opt b (if y = par T x then pre ++ post else kids T y).getLast?,
      opt b (if post.head? = some y then pre.getLast? else prevOf (sib T y) y), opt b (if pre.getLast? = some y then post.head? else nextOf (sib T y) y)] := by
  unfold node
  rw [cut_above G hx hk hK hyx, cut_prev G hx hk hK hy hyx, cut_next G hx hk hK hy hyx, cut_kids G hx hk hK]
/-- x's own neighbours. -/
theorem cut_own : prevOf (sib T x) x = pre.getLast? ∧ nextOf (sib T x) x = post.head? ∧ above T x = some (par T x) := by
  obtain ⟨h1, h2, h3⟩ := cut_mid G hx hk hK
  have h0 : x ≠ 0 := by have := G.pos1 hx; omega
  have hs : sib T x = pre ++ x :: post := by unfold sib; rw [if_neg h0, hK]
  rw [hs]
  exact ⟨prev_mid h1 h2, next_mid h1, by unfold above; rw [if_neg h0]⟩
end
end
end Go.Proofs.Ytkeaenkkencmdaa.Tr
