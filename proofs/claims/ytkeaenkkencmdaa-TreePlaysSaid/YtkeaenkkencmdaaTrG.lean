/- tree: Cut. -/
import Derived.Test.YtkeaenkkencmdaaTrF
set_option linter.unusedSimpArgs false
set_option linter.unusedVariables false
namespace Go.Proofs.Ytkeaenkkencmdaa.Tr
open Go.RowKit Go.Proofs.Ytkeaenkkencmdaa Go.Maps

theorem leave_only {S : Nat → Prop} {a w : World} {p : Nat} {u v : Option Nat} (h : Only S a w) (hp : S p) (hu : ∀ q, u = some q → S q) (hv : ∀ q, v = some q → S q) : Only S a (leaveW w p u v) := by
  cases u with
  | none => cases v with
    | none => exact (h.setCell (p := ⟨p, 2, none⟩) hp _).setCell (p := ⟨p, 3, none⟩) hp _
    | some n => exact (h.setCell (p := ⟨p, 2, none⟩) hp _).setCell (p := ⟨n, 4, none⟩) (hv n rfl) _
  | some q => cases v with
    | none => exact (h.setCell (p := ⟨q, 5, none⟩) (hu q rfl) _).setCell (p := ⟨p, 3, none⟩) hp _
    | some n => exact (h.setCell (p := ⟨q, 5, none⟩) (hu q rfl) _).setCell (p := ⟨n, 4, none⟩) (hv n rfl) _
theorem leave_keep {w : World} {p q : Nat} {u v : Option Nat} {X : Option Obj} (h : w.heap[q]? = X) (hp : q ≠ p) (hu : ∀ r, u = some r → q ≠ r) (hv : ∀ r, v = some r → q ≠ r) : (leaveW w p u v).heap[q]? = X := by
  cases u with
  | none => cases v with
    | none => exact at_other hp (at_other hp h _) _
    | some n => exact at_other (hv n rfl) (at_other hp h _) _
  | some q => cases v with
    | none => exact at_other hp (at_other (hu _ rfl) h _) _
    | some n => exact at_other (hv n rfl) (at_other (hu _ rfl) h _) _
theorem leave_size (w : World) (p : Nat) (u v : Option Nat) : (leaveW w p u v).heap.size = w.heap.size := by
  cases u <;> cases v <;> simp [leaveW, World.setCell]

section
variable {w : World} {S : Nat → Prop} {tb mb : Nat} {D : DataW Value} {b : Int → Nat} {T : List Mb} {x : Int} {pre post : List Int}
theorem A0.left (a : A0 w S tb mb D b T) (hx : has T x = true) (hk : kids T x = []) (hK : kids T (par T x) = pre ++ x :: post) (y : Int) (hy : In T y) (hyx : y ≠ x) :
    (leaveW w (b (par T x)) (pre.getLast?.map b) (post.head?.map b)).heap[b y]? = some (.cells (Tr.node (del T x) b y) 53 (0, 0)) := by
  have G := a.good
  have hp := par_in G x
  obtain ⟨k1, k2, k3⟩ := cut_mid G hx hk hK
  have hpp := fun z => mem_pp (y := z) G hx hk hK
  rw [node_cut G hx hk hK b hy hyx]
  have old := a.node y hy
  unfold Tr.node at old
  generalize hP : par T x = p at *
  have hpre : ∀ z, pre.getLast? = some z → In T z ∧ z ≠ p := fun z hz => by
    have := hpp z (List.mem_append_left _ (List.mem_of_getLast? hz))
    refine ⟨.inr this.1, ?_⟩
    rintro rfl
    exact G.ne this.1 this.2.1.symm
  have hpost : ∀ z, post.head? = some z → In T z ∧ z ≠ p := fun z hz => by
    have := hpp z (List.mem_append_right _ (List.mem_of_head? hz))
    refine ⟨.inr this.1, ?_⟩
    rintro rfl
    exact G.ne this.1 this.2.1.symm
  have hneq : ∀ z z', In T z → In T z' → z ≠ z' → b z ≠ b z' := fun z z' h h' hne e => hne (a.inj z z' h h' e)
  cases h1 : pre.getLast? with
  | none =>
    have e1 : pre = [] := List.getLast?_eq_none_iff.1 h1
    subst e1
    cases h2 : post.head? with
    | none =>
      have e2 : post = [] := List.head?_eq_none_iff.1 h2
      subst e2
      simp only [Option.map_none, leaveW]
      rw [if_neg (c := (none : Option Int) = some y) (by simp), if_neg (c := (none : Option Int) = some y) (by simp)]
      by_cases e : y = p
      · subst e
        rw [if_pos rfl]
        exact at_same (at_same old _) _
      · rw [if_neg e]
        have := hneq y p hy hp e
        exact at_other this (at_other this old _) _
    | some n =>
      obtain ⟨n1, n2⟩ := hpost n h2
      obtain ⟨R, rfl⟩ : ∃ R, post = n :: R := by
        cases post with
        | nil => simp at h2
        | cons m R => simp at h2; exact ⟨R, by rw [h2]⟩
      simp only [Option.map_none, Option.map_some, leaveW]
      rw [if_neg (c := (none : Option Int) = some y) (by simp)]
      by_cases e : y = p
      · subst e
        rw [if_pos rfl, if_neg (by simp; exact n2)]
        rw [hK] at old
        exact at_other (hneq y n hy n1 n2.symm) (at_same old _) _
      · rw [if_neg e]
        by_cases e2 : y = n
        · subst e2
          rw [if_pos rfl]
          exact at_same (at_other (hneq y p hy hp e) old _) _
        · rw [if_neg (by simp; exact fun h => e2 h.symm)]
          exact at_other (hneq y n hy n1 e2) (at_other (hneq y p hy hp e) old _) _
  | some q =>
    obtain ⟨q1, q2⟩ := hpre q h1
    have hne : pre ≠ [] := by rintro rfl; simp at h1
    have ehd : (pre ++ post).head? = (pre ++ x :: post).head? := by
      cases pre with
      | nil => exact absurd rfl hne
      | cons c R => rfl
    cases h2 : post.head? with
    | none =>
      have e2 : post = [] := List.head?_eq_none_iff.1 h2
      subst e2
      simp only [Option.map_none, Option.map_some, leaveW]
      rw [if_neg (c := (none : Option Int) = some y) (by simp)]
      by_cases e : y = p
      · subst e
        rw [if_pos rfl, if_neg (by simp; exact q2), ehd, List.append_nil, h1]
        rw [hK] at old
        exact at_same (at_other (hneq y q hy q1 q2.symm) old _) _
      · rw [if_neg e]
        by_cases e2 : y = q
        · subst e2
          rw [if_pos rfl]
          exact at_other (hneq y p hy hp e) (at_same old _) _
        · rw [if_neg (by simp; exact fun h => e2 h.symm)]
          exact at_other (hneq y p hy hp e) (at_other (hneq y q hy q1 e2) old _) _
    | some n =>
      obtain ⟨n1, n2⟩ := hpost n h2
      have hqn : q ≠ n := by
        rintro rfl
        rw [List.nodup_append] at k3
        exact k3.2.2 q (List.mem_of_getLast? h1) q (List.mem_cons_of_mem _ (List.mem_of_head? h2)) rfl
      have hne2 : post ≠ [] := by rintro rfl; simp at h2
      have els : (pre ++ post).getLast? = (pre ++ x :: post).getLast? := by
        rw [last_app _ hne2, last_app _ (by simp)]
        cases post with
        | nil => exact absurd rfl hne2
        | cons c R => rw [List.getLast?_cons_cons]
      simp only [Option.map_some, leaveW]
      by_cases e : y = p
      · subst e
        rw [if_pos rfl, if_neg (by simp; exact n2), if_neg (by simp; exact q2), ehd, els, ← hK]
        exact at_other (hneq y n hy n1 n2.symm) (at_other (hneq y q hy q1 q2.symm) old _) _
      · rw [if_neg e]
        by_cases e2 : y = q
        · subst e2
          rw [if_pos rfl, if_neg (by simp; exact fun h => hqn h.symm)]
          exact at_other (hneq y n hy n1 hqn) (at_same old _) _
        · rw [if_neg (c := some q = some y) (by simp; exact fun h => e2 h.symm)]
          by_cases e3 : y = n
          · subst e3
            rw [if_pos rfl]
            exact at_same (at_other (hneq y q hy q1 e2) old _) _
          · rw [if_neg (by simp; exact fun h => e3 h.symm)]
            exact at_other (hneq y n hy n1 e3) (at_other (hneq y q hy q1 e2) old _) _

theorem A0.shrink (a : A0 w S tb mb D b T) (hx : has T x = true) (hk : kids T x = []) (hK : kids T (par T x) = pre ++ x :: post) {w1 w' : World}
    (h1 : Sw (leaveW w (b (par T x)) (pre.getLast?.map b) (post.head?.map b)) w1) (hm : w'.ownsMap Try.prog 3 raw mb T.length (D.del (.int .i64 x))) (hg : w1.grownBy w' (some mb)) :
    A0 w' S tb mb (D.del (.int .i64 x)) b (del T x) ∧ Only S w w' := by
  have G := a.good
  have hp := par_in G x
  have hpp := fun z => mem_pp (y := z) G hx hk hK
  have hq1 : ∀ r, pre.getLast?.map b = some r → ∃ z, In T z ∧ r = b z := fun r hr => by
    cases h : pre.getLast? with
    | none => rw [h] at hr; simp at hr
    | some z =>
      rw [h] at hr
      simp at hr
      exact ⟨z, .inr (hpp z (List.mem_append_left _ (List.mem_of_getLast? h))).1, hr.symm⟩
  have hq2 : ∀ r, post.head?.map b = some r → ∃ z, In T z ∧ r = b z := fun r hr => by
    cases h : post.head? with
    | none => rw [h] at hr; simp at hr
    | some z =>
      rw [h] at hr
      simp at hr
      exact ⟨z, .inr (hpp z (List.mem_append_right _ (List.mem_of_head? h))).1, hr.symm⟩
  have oL : Only S w (leaveW w (b (par T x)) (pre.getLast?.map b) (post.head?.map b)) := leave_only (Only.refl S w) (a.own _ hp) (fun q hq => by obtain ⟨z, hz, rfl⟩ := hq1 q hq; exact a.own z hz) (fun q hq => by obtain ⟨z, hz, rfl⟩ := hq2 q hq; exact a.own z hz)
  have hN := a.left hx hk hK
  have hts := leave_keep (p := b (par T x)) (u := pre.getLast?.map b) (v := post.head?.map b) a.head (a.nt hp).symm (fun r hr => by obtain ⟨z, hz, rfl⟩ := hq1 r hr; exact (a.nt hz).symm) (fun r hr => by obtain ⟨z, hz, rfl⟩ := hq2 r hr; exact (a.nt hz).symm)
  have hsz := leave_size w (b (par T x)) (pre.getLast?.map b) (post.head?.map b)
  generalize leaveW w (b (par T x)) (pre.getLast?.map b) (post.head?.map b) = W at *
  have o1 : Only S w w1 := ⟨h1.os.trans oL.os, h1.tape.trans oL.tape, h1.output.trans oL.output, by rw [h1.heap]; exact oL.size, fun k hk hs => by rw [h1.heap]; exact oL.block k hk hs⟩
  have o2 : Only (fun q => q = mb) w1 w' := (Only.ofGrown hg).mono (fun q hq => by injection hq)
  have hs1 : w1.heap.size = w.heap.size := by rw [h1.heap, hsz]
  have h0 : x ≠ 0 := by have := G.pos1 hx; omega
  have hin : ∀ y, In (del T x) y → In T y ∧ y ≠ x := fun y hy => (cut_in G hx hk hK).1 hy
  have hlen := length_del G.nodup hx
  have hsd : Maps.size (D.del (.int .i64 x)) = (del T x).length := by
    have := Maps.size_del (k := .int .i64 x) (a.map.tidy Try.law)
    rw [a.hasD, hx, a.size, if_pos rfl] at this
    omega
  refine ⟨⟨G.del h0 hk, ?_, tight hm (by omega), hsd, fun y => ?_, fun y => ?_, fun y hy => ?_, fun y z hy hz e => ?_, fun y hy => ?_, a.hS, a.mS, fun q hq => ?_⟩, o1.trans (o2.mono (fun q hq => hq ▸ a.mS))⟩
  · refine (o2.block tb (by have := a.lt _ a.hS; omega) a.tm).trans ?_
    rw [h1.heap]; exact hts
  · by_cases e : y = x
    · subst e
      rw [Maps.has_del_same, has_del]; simp
    · rw [Maps.has_del_other (by intro h; injection h with _ h; exact e h), a.hasD, has_del]
      have : (y != x) = true := bne_iff_ne.2 e
      rw [this, Bool.and_true]
  · by_cases e : y = x
    · subst e
      rw [Maps.atKey_del_same, has_del]; simp
    · rw [Maps.atKey_del_other (by intro h; injection h with _ h; exact e h), a.elem, has_del]
      have : (y != x) = true := bne_iff_ne.2 e
      rw [this, Bool.and_true]
  · obtain ⟨e1, e2⟩ := hin y hy
    refine (o2.block _ (by have := a.lt _ (a.own y e1); omega) (a.nm e1)).trans ?_
    rw [h1.heap]; exact hN y e1 e2
  · exact a.inj y z (hin y hy).1 (hin z hz).1 e
  · exact a.own y (hin y hy).1
  · have := a.lt q hq
    have := o2.size
    omega
end

set_option maxRecDepth 100000 in
set_option maxHeartbeats 2000000 in
theorem cut_any {w : World} {S : Nat → Prop} {tb : Nat} {T : List Mb} (h : At w S tb T) (x : Int) (wx : (Lit.int .i64 x).wf = true) :
    Calls Try.prog 10 #[.pointer (some ⟨tb, 0, none⟩), .int .i64 x] w fun e w' => e = .returned (.int .i64 (cutE T x)) ∧ At w' S tb (cutT T x) ∧ Only S w w' := by
  have no := Lib.hid (fun (he : cutE T x ≠ 0) => show At w S tb (cutT T x) ∧ Only S w w from by
    unfold cutT; rw [if_neg he]; exact ⟨h, Only.refl _ w⟩)
  obtain ⟨mb, D, b, a⟩ := h
  have t0 := a.t0
  have hl := a.look wx
  cases hx : has T x with
  | false =>
    have hE : cutE T x = 2 := by unfold cutE; rw [if_pos hx]
    have nn := Lib.hid (no.out (by rw [hE]; decide))
    rw [hE]
    rw [hx] at hl
    simp only [Bool.false_eq_true, if_false] at hl
    clear a hE no hx
    go_enter Try.func10, Try.ntmps10
    go_wp2_with (fail)
    go_ret
    exact ⟨rfl, nn.out⟩
  | true =>
    rw [hx] at hl
    simp only [if_true] at hl
    have c2 := a.c2 (.inr hx)
    cases hk : kids T x with
    | cons k K =>
      have hE : cutE T x = 6 := by unfold cutE; rw [if_neg (by rw [hx]; decide), if_neg (by rw [hk]; simp)]
      have nn := Lib.hid (no.out (by rw [hE]; decide))
      rw [hE]
      rw [hk] at c2
      simp only [List.head?_cons, opt] at c2
      clear a hE no hx hk
      go_enter Try.func10, Try.ntmps10
      go_wp2_with (fail)
      go_ret
      exact ⟨rfl, nn.out⟩
    | nil =>
      have hE : cutE T x = 0 := cutE_0.2 ⟨hx, hk⟩
      have G := a.good
      have hp := par_in G x
      obtain ⟨pre, post, hK, j1, j2⟩ := mid_of (G.knodup (x := par T x)) (G.kid.2 ⟨hx, rfl⟩)
      obtain ⟨o4, o5, o1⟩ := cut_own G hx hk hK
      have hpp := fun z => mem_pp (y := z) G hx hk hK
      have m1 := a.c1 (.inr hx)
      have m4 := a.c4 (.inr hx)
      have m5 := a.c5 (.inr hx)
      rw [o1] at m1
      rw [o4] at m4
      rw [o5] at m5
      have hpx : b (par T x) ≠ b x := fun e => G.ne hx (a.inj _ _ hp (.inr hx) e).symm
      have hpre : ∀ z, pre.getLast? = some z → In T z ∧ b z ≠ b x ∧ b z ≠ b (par T x) := fun z hz => by
        have := hpp z (List.mem_append_left _ (List.mem_of_getLast? hz))
        exact ⟨.inr this.1, fun e => this.2.2 (a.inj _ _ (.inr this.1) (.inr hx) e), fun e => by
          have e2 := a.inj _ _ (.inr this.1) hp e
          exact G.ne this.1 (by rw [this.2.1]; exact e2)⟩
      have hpost : ∀ z, post.head? = some z → In T z ∧ b z ≠ b x ∧ b z ≠ b (par T x) := fun z hz => by
        have := hpp z (List.mem_append_right _ (List.mem_of_head? hz))
        exact ⟨.inr this.1, fun e => this.2.2 (a.inj _ _ (.inr this.1) (.inr hx) e), fun e => by
          have e2 := a.inj _ _ (.inr this.1) hp e
          exact G.ne this.1 (by rw [this.2.1]; exact e2)⟩
      have HL := Lib.hid (show Calls Try.prog 24 #[.pointer (some ⟨b x, 0, none⟩)] w fun e w' => e = .returned (.tuple #[]) ∧ Sw (leaveW w (b (par T x)) (pre.getLast?.map b) (post.head?.map b)) w' from by
        cases h1 : pre.getLast? with
        | none =>
          rw [h1] at m4
          cases h2 : post.head? with
          | none =>
            rw [h2] at m5
            exact leave_nn m1 m4 m5 (a.node _ hp) (a.c2 hp) (a.c3 hp) hpx
          | some n =>
            rw [h2] at m5
            obtain ⟨n1, n2, n3⟩ := hpost n h2
            exact leave_ns m1 m4 m5 (a.node _ hp) (a.c2 hp) (a.node _ n1) (a.c4 n1) n2 n3 hpx
        | some q =>
          rw [h1] at m4
          obtain ⟨q1, q2, q3⟩ := hpre q h1
          cases h2 : post.head? with
          | none =>
            rw [h2] at m5
            exact leave_sn m1 m4 m5 (a.node _ hp) (a.node _ q1) (a.c5 q1) q2 q3 (a.c3 hp) hpx
          | some n =>
            rw [h2] at m5
            obtain ⟨n1, n2, n3⟩ := hpost n h2
            have hqn : b q ≠ b n := fun e => by
              have e := a.inj _ _ q1 n1 e
              subst e
              have k3 := G.knodup (x := par T x)
              rw [hK, List.nodup_append] at k3
              exact k3.2.2 q (List.mem_of_getLast? h1) q (List.mem_cons_of_mem _ (List.mem_of_head? h2)) rfl
            exact leave_ss m1 m4 m5 (a.node _ hp) (a.node _ q1) (a.c5 q1) q2 q3 (a.node _ n1) (a.c4 n1) n2 n3 hqn hpx)
      have hkey : keyOf Try.prog 3 (.int .i64 x) = some (.int .i64 x) := keyOf_int_mk Try.underlying3 wx
      have fin := Lib.hid (fun (w1 w' : World) (h1 : Sw (leaveW w (b (par T x)) (pre.getLast?.map b) (post.head?.map b)) w1) (hm : w'.ownsMap Try.prog 3 raw mb T.length (D.del (.int .i64 x))) (hg : w1.grownBy w' (some mb)) => show At w' S tb (cutT T x) ∧ Only S w w' from by
        obtain ⟨r1, r2⟩ := a.shrink hx hk hK h1 hm hg
        rw [cutT_eq hE]
        exact ⟨⟨mb, _, _, r1⟩, r2⟩)
      have mid := Lib.hid (fun (w1 : World) (h1 : Sw (leaveW w (b (par T x)) (pre.getLast?.map b) (post.head?.map b)) w1) => show w1.ownsMap Try.prog 3 raw mb T.length D ∧ w1.cell? ⟨tb, 0, none⟩ = some (.map (some mb)) from by
        have hq1 : ∀ r, pre.getLast?.map b = some r → ∃ z, In T z ∧ r = b z := fun r hr => by
          cases h : pre.getLast? with
          | none => rw [h] at hr; simp at hr
          | some z =>
            rw [h] at hr
            simp at hr
            exact ⟨z, (hpre z h).1, hr.symm⟩
        have hq2 : ∀ r, post.head?.map b = some r → ∃ z, In T z ∧ r = b z := fun r hr => by
          cases h : post.head? with
          | none => rw [h] at hr; simp at hr
          | some z =>
            rw [h] at hr
            simp at hr
            exact ⟨z, (hpost z h).1, hr.symm⟩
        constructor
        · obtain ⟨es, clock, hb, r⟩ := a.map
          exact ⟨es, clock, by rw [h1.heap]; exact leave_keep hb (a.nm hp).symm (fun r hr => by obtain ⟨z, hz, rfl⟩ := hq1 r hr; exact (a.nm hz).symm) (fun r hr => by obtain ⟨z, hz, rfl⟩ := hq2 r hr; exact (a.nm hz).symm), r⟩
        · have := leave_keep (p := b (par T x)) (u := pre.getLast?.map b) (v := post.head?.map b) a.head (a.nt hp).symm (fun r hr => by obtain ⟨z, hz, rfl⟩ := hq1 r hr; exact (a.nt hz).symm) (fun r hr => by obtain ⟨z, hz, rfl⟩ := hq2 r hr; exact (a.nt hz).symm)
          rw [← h1.heap] at this
          simp [World.cell?, this])
      rw [hE]
      rw [hk] at c2
      simp only [List.head?_nil, opt] at c2
      generalize leaveW w (b (par T x)) (pre.getLast?.map b) (post.head?.map b) = W at *
      clear a hE no hx hk G hp hK j1 j2 o4 o5 o1 hpp m1 m4 m5 hpx hpre hpost
      go_enter Try.func10, Try.ntmps10
      go_wp2_with (first
        | (go_at_call 24; (with_reducible refine HL.out.mono ?_); rintro e w1 ⟨rfl, h1⟩; have k1 := Lib.hid h1; obtain ⟨hm1_, z0⟩ := mid.out w1 h1; have hm1 := Lib.hid hm1_; clear h1 hm1_)
        | (at_delete; refine wpList_delete_own _ rfl _ _ 50 3 rfl 51 Try.law Try.underlying50 _ mb T.length D rfl hm1.out _ _ rfl hkey ?_; intro w2 hown2 hturn2; have q := Lib.hid (fin.out w1 w2 k1.out hown2 hturn2.grown); clear hown2 hturn2))
      go_ret
      exact ⟨rfl, q.out⟩
end Go.Proofs.Ytkeaenkkencmdaa.Tr
