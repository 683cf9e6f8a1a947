/- tree: Add. -/
import Derived.Test.YtkeaenkkencmdaaTrD
set_option linter.unusedSimpArgs false
set_option linter.unusedVariables false
namespace Go.Proofs.Ytkeaenkkencmdaa.Tr
open Go.RowKit Go.Proofs.Ytkeaenkkencmdaa Go.Maps

theorem Only.old {S : Nat → Prop} {w w' : World} (h : Only (fun q => S q ∨ w.heap.size ≤ q) w w') : Only S w w' :=
  ⟨h.os, h.tape, h.output, h.size, fun k hk hs => h.block k hk (fun e => e.elim hs (fun e => by omega))⟩
theorem join_only {S : Nat → Prop} {a w : World} {m p : Nat} {z : Option Nat} (h : Only S a w) (hm : S m) (hp : S p) (hz : ∀ q, z = some q → S q) : Only S a (joinW w m p z) := by
  cases z with
  | none => exact (((h.setCell (p := ⟨m, 1, none⟩) hm _).setCell (p := ⟨m, 4, none⟩) hm _).setCell (p := ⟨p, 2, none⟩) hp _).setCell (p := ⟨p, 3, none⟩) hp _
  | some q => exact (((h.setCell (p := ⟨m, 1, none⟩) hm _).setCell (p := ⟨m, 4, none⟩) hm _).setCell (p := ⟨q, 5, none⟩) (hz q rfl) _).setCell (p := ⟨p, 3, none⟩) hp _

theorem join_keep {w : World} {m p q : Nat} {z : Option Nat} {X : Option Obj} (h : w.heap[q]? = X) (hm : q ≠ m) (hp : q ≠ p) (hz : ∀ r, z = some r → q ≠ r) : (joinW w m p z).heap[q]? = X := by
  cases z with
  | none => exact at_other hp (at_other hp (at_other hm (at_other hm h _) _) _) _
  | some r => exact at_other hp (at_other (hz r rfl) (at_other hm (at_other hm h _) _) _) _

def newC (x : Int) : Array Value := #[.int .i64 x, .pointer none, .pointer none, .pointer none, .pointer none, .pointer none]

section
variable {w : World} {S : Nat → Prop} {tb mb : Nat} {D : DataW Value} {b : Int → Nat} {T : List Mb} {p x : Int}
theorem A0.joined (a : A0 w S tb mb D b T) (hE : addE T p x = 0) (y : Int) (hy : In (T ++ [(x, p)]) y) :
    (joinW (w.alloc (.cells (newC x) 53)) w.heap.size (b p) ((kids T p).getLast?.map b)).heap[updI b x w.heap.size y]? = some (.cells (Tr.node (T ++ [(x, p)]) (updI b x w.heap.size) y) 53 (0, 0)) := by
  obtain ⟨h1, hx, hp'⟩ := addE_0.1 hE
  have hp : In T p := hp'.imp (fun h => h.1) (fun h => h.2)
  have G := a.good
  have hpx := px G hx h1 hp
  have hlt : ∀ y, In T y → b y < w.heap.size := fun y hy => a.lt _ (a.own y hy)
  have hW : ∀ y, In T y → (w.alloc (.cells (newC x) 53)).heap[b y]? = some (.cells (Tr.node T b y) 53 (0, 0)) := fun y hy => (Below.heap_alloc _ _ _ (hlt y hy)).trans (a.node y hy)
  have hN := heap_new w (.cells (newC x) 53)
  generalize w.alloc (.cells (newC x) 53) = W at *
  generalize hM : w.heap.size = M at *
  have hMp : b p ≠ M := by have := hlt p hp; omega
  cases hl : (kids T p).getLast? with
  | none =>
    simp only [Option.map_none, joinW]
    rcases (add_in G hx h1 hp).1 hy with hyT | rfl
    · have hyx : y ≠ x := by
        rintro rfl
        rcases hyT with e | e
        · omega
        · rw [hx] at e; simp at e
      rw [updI_other b M hyx]
      have hyM : b y ≠ M := by have := hlt y hyT; omega
      by_cases e : y = p
      · subst e
        rw [node_add_par G hx h1 hp b M, if_pos hl]
        exact at_same (at_same (at_other hyM (at_other hyM (hW y hyT) _) _) _) _
      · rw [node_add_other G hx h1 hp b M hyT e (by rw [hl]; simp)]
        have hyp : b y ≠ b p := fun e2 => e (a.inj _ _ hyT hp e2)
        exact at_other hyp (at_other hyp (at_other hyM (at_other hyM (hW y hyT) _) _) _) _
    · rw [updI_same, node_add_new G hx h1 hp b M, hl]
      exact at_other hMp.symm (at_other hMp.symm (at_same (at_same hN _) _) _) _
  | some z =>
    have hz := List.mem_of_getLast? hl
    have hzm := kids_in G hz
    have hzp : z ≠ p := by
      rintro rfl
      exact G.ne hzm (G.kid.1 hz).2.symm
    have hbz : b z ≠ b p := fun e2 => hzp (a.inj _ _ (.inr hzm) hp e2)
    have hzM : b z ≠ M := by have := hlt z (.inr hzm); omega
    simp only [Option.map_some, joinW]
    rcases (add_in G hx h1 hp).1 hy with hyT | rfl
    · have hyx : y ≠ x := by
        rintro rfl
        rcases hyT with e | e
        · omega
        · rw [hx] at e; simp at e
      rw [updI_other b M hyx]
      have hyM : b y ≠ M := by have := hlt y hyT; omega
      by_cases e : y = p
      · subst e
        rw [node_add_par G hx h1 hp b M, if_neg (by rw [hl]; simp)]
        exact at_same (at_other hbz.symm (at_other hyM (at_other hyM (hW y hyT) _) _) _) _
      · have hyp : b y ≠ b p := fun e2 => e (a.inj _ _ hyT hp e2)
        by_cases e3 : y = z
        · subst e3
          rw [node_add_last G hx h1 hp b M hl]
          exact at_other hyp (at_same (at_other hyM (at_other hyM (hW y hyT) _) _) _) _
        · rw [node_add_other G hx h1 hp b M hyT e (by rw [hl]; simpa using fun h => e3 h.symm)]
          have hyz : b y ≠ b z := fun e2 => e3 (a.inj _ _ hyT (.inr hzm) e2)
          exact at_other hyp (at_other hyz (at_other hyM (at_other hyM (hW y hyT) _) _) _) _
    · rw [updI_same, node_add_new G hx h1 hp b M, hl]
      exact at_other hMp.symm (at_other hzM.symm (at_same (at_same hN _) _) _) _

theorem A0.grow (a : A0 w S tb mb D b T) (hE : addE T p x = 0) (hw : (Lit.int .i64 x).wf = true) {w' : World}
    (hm : w'.ownsMap Try.prog 3 raw mb (T.length + 1) (D.put (.int .i64 x) (.held (.pointer (some ⟨w.heap.size, 0, none⟩)))))
    (hg : (joinW (w.alloc (.cells (newC x) 53)) w.heap.size (b p) ((kids T p).getLast?.map b)).grownBy w' (some mb)) :
    A0 w' (Plus S w w') tb mb (D.put (.int .i64 x) (.held (.pointer (some ⟨w.heap.size, 0, none⟩)))) (updI b x w.heap.size) (T ++ [(x, p)]) ∧ Only S w w' := by
  obtain ⟨h1, hx, hp'⟩ := addE_0.1 hE
  have hp : In T p := hp'.imp (fun h => h.1) (fun h => h.2)
  have G := a.good
  have hpx := px G hx h1 hp
  have hJ := a.joined hE
  have oJ : Only (fun q => S q ∨ w.heap.size ≤ q) w (joinW (w.alloc (.cells (newC x) 53)) w.heap.size (b p) ((kids T p).getLast?.map b)) :=
    join_only ((Only.refl _ w).alloc _) (.inr (Nat.le_refl _)) (.inl (a.own p hp)) (fun q hq => by
      cases hl : (kids T p).getLast? with
      | none => rw [hl] at hq; simp at hq
      | some z =>
        rw [hl] at hq
        simp at hq
        subst hq
        exact .inl (a.own z (.inr (kids_in G (List.mem_of_getLast? hl)))))
  have sJ : (joinW (w.alloc (.cells (newC x) 53)) w.heap.size (b p) ((kids T p).getLast?.map b)).heap.size = w.heap.size + 1 := by
    cases (kids T p).getLast?.map b <;> simp [joinW, World.setCell]
  have hts : (joinW (w.alloc (.cells (newC x) 53)) w.heap.size (b p) ((kids T p).getLast?.map b)).heap[tb]? = some (.cells #[.map (some mb), .pointer (some ⟨b 0, 0, none⟩)] 55 (0, 0)) :=
    join_keep ((Below.heap_alloc _ _ _ (a.lt _ a.hS)).trans a.head) (by have := a.lt _ a.hS; omega) (a.nt hp).symm (fun r hr => by
      cases hl : (kids T p).getLast? with
      | none => rw [hl] at hr; simp at hr
      | some z =>
        rw [hl] at hr
        simp at hr
        subst hr
        exact (a.nt (.inr (kids_in G (List.mem_of_getLast? hl)))).symm)
  generalize joinW (w.alloc (.cells (newC x) 53)) w.heap.size (b p) ((kids T p).getLast?.map b) = W2 at *
  have hT : tb ≠ w.heap.size := by have := a.lt _ a.hS; omega
  have o2 : Only (fun q => q = mb) W2 w' := (Only.ofGrown hg).mono (fun q hq => by injection hq)
  have oA : Only (fun q => S q ∨ w.heap.size ≤ q) w w' := oJ.trans (o2.mono (fun q hq => .inl (hq ▸ a.mS)))
  have s2 := o2.size
  have hbt : ∀ y, In T y → b y < w.heap.size := fun y hy => a.lt _ (a.own y hy)
  have hmb := a.lt _ a.mS
  have hin : ∀ y, In (T ++ [(x, p)]) y → In T y ∧ y ≠ x ∨ y = x := fun y hy => by
    by_cases e : y = x
    · exact .inr e
    · exact .inl ⟨((add_in G hx h1 hp).1 hy).resolve_right e, e⟩
  refine ⟨⟨G.snoc hE hw, ?_, by simpa using hm, ?_, fun y => ?_, fun y => ?_, fun y hy => ?_, fun y z hy hz e => ?_, fun y hy => ?_, .inl a.hS, .inl a.mS, fun q hq => ?_⟩, Only.old oA⟩
  · rw [updI_other b _ (by omega)]
    exact (o2.block tb (by have := a.lt _ a.hS; omega) a.tm).trans hts
  · rw [Maps.size_put (a.map.tidy Try.law), a.hasD, hx, a.size]; simp
  · by_cases e : y = x
    · subst e
      rw [Maps.has_put_same (k := .int .i64 y) a.map.isMap trivial, has_append]; simp [has]
    · rw [Maps.has_put_other (by intro h; injection h with _ h; exact e h), a.hasD, has_append]
      have : has [(x, p)] y = false := by simp [has]; exact fun h => e h.symm
      rw [this, Bool.or_false]
  · by_cases e : y = x
    · subst e
      rw [Maps.atKey_put_same (k := .int .i64 y) a.map.isMap trivial, has_append, updI_same]; simp [has]
    · rw [Maps.atKey_put_other (by intro h; injection h with _ h; exact e h), a.elem, has_append, updI_other b _ e]
      have : has [(x, p)] y = false := by simp [has]; exact fun h => e h.symm
      rw [this, Bool.or_false]
  · refine (o2.block _ (lt_of_block (hJ y hy)) ?_).trans (hJ y hy)
    rcases hin y hy with ⟨h, h2⟩ | rfl
    · rw [updI_other b _ h2]; exact a.nm h
    · rw [updI_same]; omega
  · rcases hin y hy with ⟨h, h2⟩ | rfl
    · rw [updI_other b _ h2] at e
      rcases hin z hz with ⟨h3, h4⟩ | rfl
      · rw [updI_other b _ h4] at e; exact a.inj _ _ h h3 e
      · rw [updI_same] at e; have := hbt y h; omega
    · rw [updI_same] at e
      rcases hin z hz with ⟨h3, h4⟩ | rfl
      · rw [updI_other b _ h4] at e; have := hbt z h3; omega
      · rfl
  · rcases hin y hy with ⟨h, h2⟩ | rfl
    · rw [updI_other b _ h2]; exact .inl (a.own y h)
    · rw [updI_same]; exact .inr ⟨Nat.le_refl _, by omega⟩
  · rcases hq with hq | hq
    · have := a.lt q hq; omega
    · exact hq.2
end
theorem At.plus {w w' : World} {S : Nat → Prop} {tb : Nat} {T : List Mb} (h : At w S tb T) (o : Only Nil w w') : At w' (Plus S w w') tb T := by
  obtain ⟨mb, D, b, a⟩ := h
  have a := a.nil o
  exact ⟨mb, D, b, a.good, a.head, a.map, a.size, a.hasD, a.elem, a.node, a.inj, fun x hx => .inl (a.own x hx), .inl a.hS, .inl a.mS, fun q hq => hq.elim (fun h => a.lt q h) (fun h => h.2)⟩

set_option maxRecDepth 100000 in
set_option maxHeartbeats 2000000 in
theorem add_any {w : World} {S : Nat → Prop} {tb : Nat} {T : List Mb} (h : At w S tb T) (p x : Int) (wp : (Lit.int .i64 p).wf = true) (wx : (Lit.int .i64 x).wf = true) (few : T.length ≤ 1000000) :
    Calls Try.prog 12 #[.pointer (some ⟨tb, 0, none⟩), .int .i64 p, .int .i64 x] w fun e w' => e = .returned (.int .i64 (addE T p x)) ∧ At w' (Plus S w w') tb (addT T p x) ∧ Only S w w' := by
  have hH := Lib.hid (has_any h x wx)
  have no := Lib.hid (fun (he : addE T p x ≠ 0) => show At w (Plus S w w) tb (addT T p x) ∧ Only S w w from by
    unfold addT; rw [if_neg he]; exact ⟨h.plus (Only.refl _ w), Only.refl _ w⟩)
  obtain ⟨mb, D, b, a⟩ := h
  have hA := Lib.hid a
  have G := Lib.hid a.good
  have t0 := a.t0
  have t1 := a.t1
  have hl := a.look wp
  obtain ⟨vp, hvp⟩ : ∃ vp : Value, vp = (if has T p = true then .pointer (some ⟨b p, 0, none⟩) else .pointer none) := ⟨_, rfl⟩
  rw [← hvp] at hl
  by_cases h1 : x < 1
  · have hE : addE T p x = 1 := by unfold addE; rw [if_pos h1]
    have nn := Lib.hid (no.out (by rw [hE]; decide))
    rw [hE]
    clear a hE no hvp
    by_cases hp0 : p = 0
    · subst hp0
      go_enter Try.func12, Try.ntmps12
      go_wp2_with (fail)
      go_ret
      exact ⟨rfl, nn.out⟩
    · go_enter Try.func12, Try.ntmps12
      go_wp2_with (fail)
      go_ret
      exact ⟨rfl, nn.out⟩
  cases hx : has T x with
  | true =>
    have hE : addE T p x = 3 := by unfold addE; rw [if_neg h1, if_pos hx]
    have nn := Lib.hid (no.out (by rw [hE]; decide))
    rw [hE]
    rw [hx] at hH
    clear a hE no hvp
    by_cases hp0 : p = 0
    · subst hp0
      go_enter Try.func12, Try.ntmps12
      go_wp2_with (go_at_call 17; (with_reducible refine hH.out.mono ?_); rintro e w1 ⟨rfl, rfl⟩)
      go_ret
      exact ⟨rfl, nn.out⟩
    · go_enter Try.func12, Try.ntmps12
      go_wp2_with (go_at_call 17; (with_reducible refine hH.out.mono ?_); rintro e w1 ⟨rfl, rfl⟩)
      go_ret
      exact ⟨rfl, nn.out⟩
  | false =>
    rw [hx] at hH
    have fin := Lib.hid (fun (hE : addE T p x = 0) (w' : World) (hm : w'.ownsMap Try.prog 3 raw mb (T.length + 1) (D.put (.int .i64 x) (.held (.pointer (some ⟨w.heap.size, 0, none⟩)))))
        (hg : (joinW (w.alloc (.cells (newC x) 53)) w.heap.size (b p) ((kids T p).getLast?.map b)).grownBy w' (some mb)) => show At w' (Plus S w w') tb (addT T p x) ∧ Only S w w' from by
      obtain ⟨r1, r2⟩ := hA.out.grow hE wx hm hg
      unfold addT; rw [if_pos hE]
      exact ⟨⟨mb, _, _, r1⟩, r2⟩)
    have hkey : keyOf Try.prog 3 (.int .i64 x) = some (.int .i64 x) := keyOf_int_mk Try.underlying3 wx
    -- the map stays, through the joining
    have hmap := Lib.hid (fun (hp : In T p) => show (joinW (w.alloc (.cells (newC x) 53)) w.heap.size (b p) ((kids T p).getLast?.map b)).ownsMap Try.prog 3 raw mb T.length D ∧ (joinW (w.alloc (.cells (newC x) 53)) w.heap.size (b p) ((kids T p).getLast?.map b)).cell? ⟨tb, 0, none⟩ = some (.map (some mb)) from by
      have hz : ∀ q r, q = tb ∨ q = mb → (kids T p).getLast?.map b = some r → q ≠ r := fun q r hq hr => by
        cases hl : (kids T p).getLast? with
        | none => rw [hl] at hr; simp at hr
        | some z =>
          rw [hl] at hr
          simp at hr
          subst hr
          have hzi : In T z := .inr (kids_in G.out (List.mem_of_getLast? hl))
          rcases hq with rfl | rfl
          · exact (hA.out.nt hzi).symm
          · exact (hA.out.nm hzi).symm
      constructor
      · obtain ⟨es, clock, hb, r⟩ := hA.out.map
        exact ⟨es, clock, join_keep ((Below.heap_alloc _ _ _ (hA.out.lt _ hA.out.mS)).trans hb) (by have := hA.out.lt _ hA.out.mS; omega) (hA.out.nm hp).symm (fun r hr => hz mb r (.inr rfl) hr), r⟩
      · have := join_keep (m := w.heap.size) (p := b p) (z := (kids T p).getLast?.map b) ((Below.heap_alloc _ (.cells (newC x) 53) _ (hA.out.lt _ hA.out.hS)).trans hA.out.head) (by have := hA.out.lt _ hA.out.hS; omega) (hA.out.nt hp).symm (fun r hr => hz tb r (.inl rfl) hr)
        simp [World.cell?, this])
    have hjn := Lib.hid (fun (hp : In T p) => show Calls Try.prog 25 #[.pointer (some ⟨w.heap.size, 0, none⟩), .pointer (some ⟨b p, 0, none⟩)] (w.alloc (.cells #[.int .i64 x, .pointer none, .pointer none, .pointer none, .pointer none, .pointer none] 53)) fun e w' => e = .returned (.tuple #[]) ∧ w' = joinW (w.alloc (.cells (newC x) 53)) w.heap.size (b p) ((kids T p).getLast?.map b) from by
      have hN := heap_new w (.cells (newC x) 53)
      have hW : ∀ y, In T y → (w.alloc (.cells (newC x) 53)).heap[b y]? = some (.cells (Tr.node T b y) 53 (0, 0)) ∧ b y ≠ w.heap.size := fun y hy => by
        have hlt := hA.out.lt _ (hA.out.own y hy)
        exact ⟨(Below.heap_alloc _ _ _ hlt).trans (hA.out.node y hy), by omega⟩
      obtain ⟨hp1, hp2⟩ := hW p hp
      have e2 : (w.alloc (.cells (newC x) 53)).cell? ⟨b p, 2, none⟩ = some (opt b (kids T p).head?) := by simp [World.cell?, hp1, Tr.node]
      have e3 : (w.alloc (.cells (newC x) 53)).cell? ⟨b p, 3, none⟩ = some (opt b (kids T p).getLast?) := by simp [World.cell?, hp1, Tr.node]
      cases hl : (kids T p).getLast? with
      | none => rw [hl] at e3; exact join_none hN hp1 e2 e3 hp2
      | some z =>
        have hz := List.mem_of_getLast? hl
        have hzm := kids_in G.out hz
        obtain ⟨hz1, hz2⟩ := hW z (.inr hzm)
        have hzp : b p ≠ b z := fun e => by
          have := hA.out.inj _ _ hp (.inr hzm) e
          subst this
          exact G.out.ne hzm (G.out.kid.1 hz).2.symm
        rw [hl] at e3
        have e5 : (w.alloc (.cells (newC x) 53)).cell? ⟨b z, 5, none⟩ = some (opt b (nextOf (sib T z) z)) := by simp [World.cell?, hz1, Tr.node]
        exact join_some hN hp1 hz1 e5 e3 hp2 hz2 hzp)
    have few' := Lib.hid few
    by_cases hp0 : p = 0
    · subst hp0
      have c2 := a.c2 (.inl rfl)
      have he := a.eqP (.inl rfl) (.inl rfl)
      simp only [decide_true] at he
      by_cases hT : T = []
      · have hE : addE T 0 x = 0 := by unfold addE; rw [if_neg h1, hx]; simp [hT]
        have ff := Lib.hid (fin.out hE)
        have hjn' := Lib.hid (hjn.out (.inl rfl))
        obtain ⟨hm, hc⟩ := hmap.out (.inl rfl)
        have hm' := Lib.hid hm
        rw [show kids T 0 = [] from by rw [hT]; rfl] at c2
        simp only [List.head?_nil, opt] at c2
        rw [hE]
        generalize joinW (w.alloc (.cells (newC x) 53)) w.heap.size (b 0) ((kids T 0).getLast?.map b) = W2 at *
        clear a hE no hT hx fin hjn hmap hl hvp hm few
        go_enter Try.func12, Try.ntmps12
        go_wp2_with (first
          | (go_at_call 17; (with_reducible refine hH.out.mono ?_); rintro e w1 ⟨rfl, rfl⟩)
          | (go_at_call 25; (with_reducible refine hjn'.out.mono ?_); rintro e w1 ⟨rfl, rfl⟩)
          | (at_mapUpdate; refine wpList_mapUpdate_own _ rfl _ _ _ 50 rfl 3 51 Try.law Try.underlying50 raw mb T.length D rfl hm'.out (by have := few'.out; unfold maxLen; omega) _ _ _ rfl rfl hkey _ [] rfl ?_; intro w3 hown3 hg3; have q := Lib.hid (ff.out w3 hown3 hg3); clear hown3 hg3))
        go_ret
        exact ⟨rfl, q.out⟩
      · have hE : addE T 0 x = 4 := by unfold addE; rw [if_neg h1, hx]; simp [hT]
        have nn := Lib.hid (no.out (by rw [hE]; decide))
        obtain ⟨k, hk⟩ : ∃ k, (kids T 0).head? = some k := by
          cases hk : kids T 0 with
          | nil => exact absurd (G.out.root.1 hk) hT
          | cons k K => exact ⟨k, rfl⟩
        rw [hk] at c2
        simp only [opt] at c2
        rw [hE]
        clear a hE no hT hx fin hjn hmap hl hvp
        go_enter Try.func12, Try.ntmps12
        go_wp2_with (go_at_call 17; (with_reducible refine hH.out.mono ?_); rintro e w1 ⟨rfl, rfl⟩)
        go_ret
        exact ⟨rfl, nn.out⟩
    · cases hpT : has T p with
      | true =>
        have hE : addE T p x = 0 := by unfold addE; rw [if_neg h1, hx]; simp [hp0, hpT]
        have ff := Lib.hid (fin.out hE)
        have hjn' := Lib.hid (hjn.out (.inr hpT))
        obtain ⟨hm, hc⟩ := hmap.out (.inr hpT)
        have hm' := Lib.hid hm
        rw [hpT, if_pos rfl] at hvp
        have he := a.eqP (.inr hpT) (.inl rfl)
        rw [decide_eq_false hp0] at he
        rw [hE]
        generalize joinW (w.alloc (.cells (newC x) 53)) w.heap.size (b p) ((kids T p).getLast?.map b) = W2 at *
        subst hvp
        clear a hE no hx fin hjn hmap hm few hpT
        go_enter Try.func12, Try.ntmps12
        go_wp2_with (first
          | (go_at_call 17; (with_reducible refine hH.out.mono ?_); rintro e w1 ⟨rfl, rfl⟩)
          | (go_at_call 25; (with_reducible refine hjn'.out.mono ?_); rintro e w1 ⟨rfl, rfl⟩)
          | (at_mapUpdate; refine wpList_mapUpdate_own _ rfl _ _ _ 50 rfl 3 51 Try.law Try.underlying50 raw mb T.length D rfl hm'.out (by have := few'.out; unfold maxLen; omega) _ _ _ rfl rfl hkey _ [] rfl ?_; intro w3 hown3 hg3; have q := Lib.hid (ff.out w3 hown3 hg3); clear hown3 hg3))
        go_ret
        exact ⟨rfl, q.out⟩
      | false =>
        have hE : addE T p x = 2 := by unfold addE; rw [if_neg h1, hx]; simp [hp0, hpT]
        have nn := Lib.hid (no.out (by rw [hE]; decide))
        rw [hpT] at hvp
        simp only [Bool.false_eq_true, if_false] at hvp
        rw [hE]
        subst hvp
        clear a hE no hx fin hjn hmap few hpT
        go_enter Try.func12, Try.ntmps12
        go_wp2_with (go_at_call 17; (with_reducible refine hH.out.mono ?_); rintro e w1 ⟨rfl, rfl⟩)
        go_ret
        exact ⟨rfl, nn.out⟩
end Go.Proofs.Ytkeaenkkencmdaa.Tr
