/- tree: Below: the closure that calls itself. -/
import Derived.Test.YtkeaenkkencmdaaTrI
import Derived.OrdersHeld
set_option linter.unusedSimpArgs false
set_option linter.unusedVariables false
namespace Go.Proofs.Ytkeaenkkencmdaa.Tr
open Go.RowKit Go.Proofs.Ytkeaenkkencmdaa Go.Maps

/-- append, as one step of a region that draws its order: whatever it runs to. -/
theorem step_append_run {P : Program} {ops : Array Oper} {o : Oper} {a : Act} {w : World} {K : Act → World → Prop} {Q : Exit → Act → World → Prop} {E : Prop}
    (hgd : o.guard = none) (s x : Operand) (t : TypeId) (hop : o.op = Op.call { callee := Callee.builtin Builtin.append, args := #[s, x], argTypes := #[t, t] })
    (v1 v2 : Value) (hs : a.eval s = v1) (hx : a.eval x = v2) (v : Value) (w' : World) (hrun : (Builtin.append_ #[t, t] o.type #[v1, v2]).run P w = .ok v w') (h : K (a.put o.dst v) w') :
    if Region.wanted o (yielded ops a.tmps) = true then Oper.wp P o a w K Q else E := by
  have hw : Region.wanted o (yielded ops a.tmps) = true := by simp [Region.wanted, hgd]
  rw [if_pos hw]
  unfold Oper.wp
  simp [execOp, hop, resolve, invoke, builtin, hs, hx, hrun, Result.andThen]
  exact h

theorem take_dst {P : Program} {md : Region.Mode} {ops : Array Oper} {Q : Exit → Act → World → Prop} {S : World → Prop} (d : Option Tmp) {i : Nat} {oi : Oper} {v : Value} {fuel : Nat} {listed : Array Bool} {a : Act} {w : World} (hi : ops[i]? = some oi) (hd : oi.dst = d)
    (hs : Region.noSelect ops = true) (hf : Region.free md ops listed i = true) (hr : (Region.ready md ops listed).contains i = true)
    (hQ : ∀ c a w, Q (.panic c) (a.put oi.dst v) w → Q (.panic c) a w) (hy : YieldsIf P ops S oi v a) (hS : S w)
    (h : wpAnyH P md ops Q S fuel (listed.setIfInBounds i true) (a.put d v) w) : wpAnyH P md ops Q S (fuel + 1) listed a w := by
  subst hd
  exact wpAnyH_take hi hs hf hr hQ hy hS h
/-- The closure, as a value. -/
def visV (vb bb : Nat) : Value := .func (.func 28) #[] #[.pointer (some ⟨vb, 0, none⟩), .pointer (some ⟨bb, 0, none⟩)]
/-- In the midst of Below: the closure lies in vb, the row so far in bb. -/
structure Vs (w0 w : World) (vb bb : Nat) (v : Value) (L : List Int) : Prop where
  row : Fr w0 w v L
  vis : w.heap[vb]? = some (.cells #[visV vb bb] 58 (0, 0))
  box : w.heap[bb]? = some (.cells #[v] 40 (0, 0))
  vn : w0.heap.size ≤ vb
  bn : w0.heap.size ≤ bb
section
variable {w0 w w' : World} {vb bb : Nat} {v : Value} {L : List Int}
theorem Vs.c0 (h : Vs w0 w vb bb v L) : w.cell? ⟨vb, 0, none⟩ = some (visV vb bb) := by simp [World.cell?, h.vis]
theorem Vs.c1 (h : Vs w0 w vb bb v L) : w.cell? ⟨bb, 0, none⟩ = some v := by simp [World.cell?, h.box]
theorem Vs.f1 (h : Vs w0 w vb bb v L) : w.frozen? ⟨bb, 0, none⟩ = false := blk_free h.box
theorem own_ne {w : World} {v : Value} {X : List Int} {n k : Nat} {y : Array Value} {t : TypeId} (h : w.ownsRow 0 3 1 v n (iv X)) (hk : w.heap[k]? = some (.cells y t (0, 0))) (ht : 3 ≠ t) : ¬ (some k = v.ownBlock) := by
  intro e
  rcases h.2 with ⟨rfl, _⟩ | ⟨g', c, cur, rfl, _, hh, _⟩
  · simp [Value.ownBlock] at e
  · have : k = g' := by simpa [Value.ownBlock] using e
    subst this
    exact blk_ne hh hk ht rfl
/-- The row has grown, and is stored. -/
theorem Vs.put {w5 w6 : World} {v' : Value} {X : List Int} (h : Vs w0 w vb bb v L) (G : Gr w w5 v v' X) (e : w6.heap = (w5.setCell ⟨bb, 0, none⟩ v').heap) (h1 : w6.os = w5.os) (h2 : w6.tape = w5.tape) (h3 : w6.output = w5.output) : Vs w0 w6 vb bb v' X := by
  have F := h.row.grown G
  have kb := (G.only.block bb (lt_of_block h.box) (own_ne h.row.row h.box (by decide))).trans h.box
  have kv := (G.only.block vb (lt_of_block h.vis) (own_ne h.row.row h.vis (by decide))).trans h.vis
  have hvb : vb ≠ bb := blk_ne kv kb (by decide)
  have o : Only (fun q => q = bb) w5 (w5.setCell ⟨bb, 0, none⟩ v') := (Only.refl (fun q => q = bb) w5).setCell (p := ⟨bb, 0, none⟩) rfl v'
  have o6 : Only (fun q => q = bb) w5 w6 := ⟨h1, h2, h3, by rw [e]; exact o.size, fun k hk hs => by rw [e]; exact o.block k hk hs⟩
  refine ⟨⟨own_keep F.row o6 (fun k hk e2 => own_ne F.row kb (by decide) (e2 ▸ hk)), F.new, F.only.then o6 (fun i hi hlt => by have := h.bn; omega)⟩, ?_, ?_, h.vn, h.bn⟩
  · rw [e]; exact at_other hvb kv _
  · rw [e]; exact at_same kb _
end

set_option maxRecDepth 100000 in
set_option maxHeartbeats 4000000 in
theorem visit_any {w0 : World} {S : Nat → Prop} {tb mb : Nat} {D : DataW Value} {b : Int → Nat} {T : List Mb} (a : Hid (A0 w0 S tb mb D b T)) {vb bb : Nat} (k : Nat) :
    ∀ (x : Int) (w : World) (L : List Int) (aa : Option Addr) (n c : Nat), has T x = true → T.length ≤ k + pos T x → Vs w0 w vb bb (.slice aa n c) L → L.length = n → n + (bel k T x).length ≤ 60000 →
      Calls Try.prog 28 #[.pointer (some ⟨b x, 0, none⟩), .pointer (some ⟨vb, 0, none⟩), .pointer (some ⟨bb, 0, none⟩)] w fun e w' => e = .returned (.tuple #[]) ∧ Hid (∃ aa' c', Vs w0 w' vb bb (.slice aa' (n + (bel k T x).length) c') (L ++ bel k T x)) := by
  induction k with
  | zero =>
    intro x w L aa n c hx hk
    have := pos_lt.1 hx
    omega
  | succ k ih =>
    intro x w L aa n c hx hk hV hn hfew
    have G := a.out.good
    have hIH := Lib.hid ih
    have hcell := Lib.hid (fun (done : List Int) (z : Int) (rest : List Int) (he : kids T x = done ++ z :: rest) (w' : World) (o : Only Nil w0 w') => show w'.cell? ⟨b z, 5, none⟩ = some (opt b rest.head?) ∧ has T z = true ∧ T.length ≤ k + pos T z from by
      have hk1 : z ∈ kids T x := by rw [he]; simp
      obtain ⟨k1, k2⟩ := G.kid.1 hk1
      have k3 := (G.kidpos hx hk1).2
      have a' := a.out.nil o
      have c5 := a'.c5 (.inr k1)
      have hs : sib T z = done ++ z :: rest := by unfold sib; rw [if_neg (by have := G.pos1 k1; omega), k2, he]
      have hn := G.knodup (x := x)
      rw [he, List.nodup_append] at hn
      rw [hs, next_mid (fun e => hn.2.2 z e z List.mem_cons_self rfl)] at c5
      exact ⟨c5, k1, by omega⟩)
    have hown := Lib.hid (fun (w' : World) (o : Only Nil w0 w') => (a.out.nil o).c0 (.inr hx))
    have c2 := (a.out.nil hV.row.only).c2 (.inr hx)
    have hself := Lib.hid (fun (z : Int) (hz : has T z = true) (hk : T.length ≤ k + pos T z) => show 1 ≤ (bel k T z).length from List.length_pos_of_mem (bel_self (T := T) (n := k) (x := z) (by have := pos_lt.1 hz; omega)))
    have hb : bel (k + 1) T x = (kids T x).flatMap (bel k T) ++ [x] := rfl
    have HB := Lib.hid hb
    have Hfew := Lib.hid hfew
    have HV := Lib.hid hV
    have HN := Lib.hid hn
    rw [hb] at hfew ⊢
    have hfew2 : n + ((kids T x).flatMap (bel k T)).length + 1 ≤ 60000 := by simp at hfew ⊢; omega
    have HF := Lib.hid hfew2
    have hn1 : n ≤ 60000 := by omega
    clear hfew hfew2 hb hV hn hk G ih
    generalize hK : kids T x = K at *
    have HK := Lib.hid hK
    clear hK hx
    go_enter Try.func28, Try.ntmps28
    go_wp2_with (fail)
    go_loopw [4] (fun s4 wr => ∃ (aa' : Option Addr) (n' c' : Nat) (rest : List Int), n' ≤ 60000 ∧ s4 = opt b rest.head? ∧ wr.cell? ⟨bb, 0, none⟩ = some (.slice aa' n' c') ∧ Hid (∃ done, K = done ++ rest ∧ n' = n + (done.flatMap (bel k T)).length ∧ (L ++ done.flatMap (bel k T)).length = n' ∧ Vs w0 wr vb bb (.slice aa' n' c') (L ++ done.flatMap (bel k T))))
      (fun _ wr => 60001 - lenV ((wr.cell? ⟨bb, 0, none⟩).getD undef))
    case atStart => exact ⟨aa, n, c, K, hn1, rfl, HV.out.c1, Lib.hid ⟨[], rfl, by simp, by simp [HN.out], by simpa using HV.out⟩⟩
    case round =>
      obtain ⟨aa', n', c', rest, hn', rfl, hc, H⟩ := hrel
      cases rest with
      | nil =>
        rw [show opt b ([] : List Int).head? = .pointer none from rfl]
        have HD := Lib.hid (show n' = n + (K.flatMap (bel k T)).length ∧ (L ++ K.flatMap (bel k T)).length = n' ∧ Vs w0 wr vb bb (.slice aa' n' c') (L ++ K.flatMap (bel k T)) from by
          obtain ⟨done, e, e2, e3, V⟩ := H.out
          rw [List.append_nil] at e
          subst e
          exact ⟨e2, e3, V⟩)
        have x0 := hown.out wr HD.out.2.2.row.only
        have z1 := HD.out.2.2.f1
        obtain ⟨a5, c5, w5, hr, hg⟩ := push (w := wr.drew) (own_keep HD.out.2.2.row.row (Only.refl Nil wr).drew (fun _ _ h => h)) HD.out.2.1 x (by have := HD.out.1; have := HF.out; omega)
        have hg' : Gr wr w5 (.slice aa' n' c') (.slice a5 (n' + 1) c5) (L ++ K.flatMap (bel k T) ++ [x]) := ⟨hg.row, ((Only.refl _ wr).drew).trans hg.only, hg.new⟩
        have HG := Lib.hid hg'
        have kk : w5.cell? ⟨bb, 0, none⟩ = some (.slice aa' n' c') ∧ w5.cell? ⟨b x, 0, none⟩ = some (.int .i64 x) ∧ w5.frozen? ⟨bb, 0, none⟩ = false := by
          have kb := (hg'.only.block bb (lt_of_block HD.out.2.2.box) (own_ne HD.out.2.2.row.row HD.out.2.2.box (by decide))).trans HD.out.2.2.box
          exact ⟨by simp [World.cell?, kb], hown.out w5 (HD.out.2.2.row.grown hg').only, blk_free kb⟩
        obtain ⟨k1, k2, k3⟩ := kk
        obtain ⟨j1, j2, j3⟩ : (wr.alloc (.cells #[.int .i64 x] 3)).drew.cell? ⟨bb, 0, none⟩ = some (.slice aa' n' c') ∧ (wr.alloc (.cells #[.int .i64 x] 3)).drew.cell? ⟨b x, 0, none⟩ = some (.int .i64 x) ∧ (wr.alloc (.cells #[.int .i64 x] 3)).drew.frozen? ⟨bb, 0, none⟩ = false := by
          have oA : Only Nil wr (wr.alloc (.cells #[.int .i64 x] 3)).drew := ((Only.refl Nil wr).alloc _).drew
          have kb := (oA.block bb (lt_of_block HD.out.2.2.box) (fun h => h)).trans HD.out.2.2.box
          exact ⟨by simp [World.cell?, kb], hown.out _ (HD.out.2.2.row.only.trans oA), blk_free kb⟩
        have d1 : wr.drew.cell? ⟨bb, 0, none⟩ = some (.slice aa' n' c') := hc
        have d2 : wr.drew.cell? ⟨b x, 0, none⟩ = some (.int .i64 x) := x0
        have VN := HD.out.2.2.put (w6 := w5.setCell ⟨bb, 0, none⟩ (.slice a5 (n' + 1) c5)) HG.out rfl rfl rfl rfl
        have k4 := hown.out _ VN.row.only
        have fin := Lib.hid (show Ending.returned (.tuple #[]) = Ending.returned (.tuple #[]) ∧ Hid (∃ aa' c', Vs w0 (w5.setCell ⟨bb, 0, none⟩ (.slice a5 (n' + 1) c5)) vb bb (.slice aa' (n + (K.flatMap (bel k T) ++ [x]).length) c') (L ++ (K.flatMap (bel k T) ++ [x]))) from by
          refine ⟨rfl, Lib.hid ⟨a5, c5, ?_⟩⟩
          have e1 : n' + 1 = n + (K.flatMap (bel k T) ++ [x]).length := by rw [HD.out.1]; simp; omega
          rw [← e1, ← List.append_assoc]
          exact VN)
        clear hg hg' VN
        go_wp2_with (fail)
        refine wp_region_held_drew (S := fun w' => w'.cell? ⟨b x, 0, none⟩ = some (.int .i64 x)) (by kernel_rfl) d2 (fun hHeld => ?_)
        refine take_dst (some 19) (i := 1) (v := ?va1) rfl (by as_aux_lemma => kernel_rfl) (by as_aux_lemma => kernel_rfl) (by as_aux_lemma => kernel_rfl) (by as_aux_lemma => kernel_rfl) (fun _ _ _ h => h) (Or.inl ⟨by kernel_rfl, ?ha1⟩) (by assumption) ?ra1
        case ha1 => (intro w hSw; (try dsimp only at hSw); first | (go_simp; done) | (go_simp; with_reducible rfl))
        try simp only [Act.put, List.setIfInBounds_toArray, List.set_cons_zero, List.set_cons_succ]
        refine take_dst (some 20) (i := 2) (v := ?va2) rfl (by as_aux_lemma => kernel_rfl) (by as_aux_lemma => kernel_rfl) (by as_aux_lemma => kernel_rfl) (by as_aux_lemma => kernel_rfl) (fun _ _ _ h => h) (Or.inl ⟨by kernel_rfl, ?ha2⟩) (by assumption) ?ra2
        case ha2 => (intro w hSw; (try dsimp only at hSw); first | (go_simp; done) | (go_simp; with_reducible rfl))
        try simp only [Act.put, List.setIfInBounds_toArray, List.set_cons_zero, List.set_cons_succ]
        refine take_dst (some 21) (i := 3) (v := ?va3) rfl (by as_aux_lemma => kernel_rfl) (by as_aux_lemma => kernel_rfl) (by as_aux_lemma => kernel_rfl) (by as_aux_lemma => kernel_rfl) (fun _ _ _ h => h) (Or.inl ⟨by kernel_rfl, ?ha3⟩) (by assumption) ?ra3
        case ha3 => (intro w hSw; (try dsimp only at hSw); first | (go_simp; done) | (go_simp; with_reducible rfl))
        try simp only [Act.put, List.setIfInBounds_toArray, List.set_cons_zero, List.set_cons_succ]
        refine take_dst (some 22) (i := 4) (v := ?va4) rfl (by as_aux_lemma => kernel_rfl) (by as_aux_lemma => kernel_rfl) (by as_aux_lemma => kernel_rfl) (by as_aux_lemma => kernel_rfl) (fun _ _ _ h => h) (Or.inl ⟨by kernel_rfl, ?ha4⟩) (by assumption) ?ra4
        case ha4 => (intro w hSw; (try dsimp only at hSw); first | (go_simp; done) | (go_simp; with_reducible rfl))
        try simp only [Act.put, List.setIfInBounds_toArray, List.set_cons_zero, List.set_cons_succ]
        refine wpAnyH_ready (rs := [0, 5]) (by as_aux_lemma => kernel_rfl) (by simp) ?_
        refine (AllReadyH.cons rfl (fun K1 hK1 => ?_) (AllReadyH.cons rfl (fun K2 hK2 => ?_) AllReadyH.nil))
        · skip
          go_simp
          refine hK1.out _ _ ?sm1 (fun hHeld => ?_)
          case sm1 => exact d2
          clear hK1 K1
          try simp only [Act.put, List.setIfInBounds_toArray, List.set_cons_zero, List.set_cons_succ]
          refine wpAnyH_ready (rs := [5]) (by as_aux_lemma => kernel_rfl) (by simp) ?_
          refine AllReadyH.cons rfl (fun K5 hK5 => ?_) AllReadyH.nil
          go_simp
          refine hK5.out _ _ ?sm5 (fun hHeld => ?_)
          case sm5 => exact j2
          clear hK5 K5
          try simp only [Act.put, List.setIfInBounds_toArray, List.set_cons_zero, List.set_cons_succ]
          refine wpAnyH_ready (rs := [6]) (by as_aux_lemma => kernel_rfl) (by simp) ?_
          refine AllReadyH.cons rfl (fun K6a hK6a => ?_) AllReadyH.nil
          refine step_append_run rfl (.tmp 18) (.tmp 23) 40 rfl _ _ rfl rfl _ _ hr.out ?_
          refine hK6a.out _ _ ?sm6a (fun hHeld => ?_)
          case sm6a => exact k2
          clear hK6a K6a
          try simp only [Act.put, List.setIfInBounds_toArray, List.set_cons_zero, List.set_cons_succ]
          refine wpAnyH_ready (rs := [7]) (by as_aux_lemma => kernel_rfl) (by simp) ?_
          refine AllReadyH.cons rfl (fun K7a hK7a => ?_) AllReadyH.nil
          go_simp
          refine hK7a.out _ _ ?sm7a (fun hHeld => ?_)
          case sm7a => exact k4
          clear hK7a K7a
          try simp only [Act.put, List.setIfInBounds_toArray, List.set_cons_zero, List.set_cons_succ]
          refine wpAnyH_done (by as_aux_lemma => kernel_rfl) ?_ _
          go_wp2_with fail
          go_end0
          exact ⟨rfl, fin.out.2⟩
        · skip
          go_simp
          refine hK2.out _ _ ?sm2 (fun hHeld => ?_)
          case sm2 => exact j2
          clear hK2 K2
          try simp only [Act.put, List.setIfInBounds_toArray, List.set_cons_zero, List.set_cons_succ]
          refine wpAnyH_ready (rs := [0]) (by as_aux_lemma => kernel_rfl) (by simp) ?_
          refine AllReadyH.cons rfl (fun K0 hK0 => ?_) AllReadyH.nil
          go_simp
          refine hK0.out _ _ ?sm0 (fun hHeld => ?_)
          case sm0 => exact j2
          clear hK0 K0
          try simp only [Act.put, List.setIfInBounds_toArray, List.set_cons_zero, List.set_cons_succ]
          refine wpAnyH_ready (rs := [6]) (by as_aux_lemma => kernel_rfl) (by simp) ?_
          refine AllReadyH.cons rfl (fun K6b hK6b => ?_) AllReadyH.nil
          refine step_append_run rfl (.tmp 18) (.tmp 23) 40 rfl _ _ rfl rfl _ _ hr.out ?_
          refine hK6b.out _ _ ?sm6b (fun hHeld => ?_)
          case sm6b => exact k2
          clear hK6b K6b
          try simp only [Act.put, List.setIfInBounds_toArray, List.set_cons_zero, List.set_cons_succ]
          refine wpAnyH_ready (rs := [7]) (by as_aux_lemma => kernel_rfl) (by simp) ?_
          refine AllReadyH.cons rfl (fun K7b hK7b => ?_) AllReadyH.nil
          go_simp
          refine hK7b.out _ _ ?sm7b (fun hHeld => ?_)
          case sm7b => exact k4
          clear hK7b K7b
          try simp only [Act.put, List.setIfInBounds_toArray, List.set_cons_zero, List.set_cons_succ]
          refine wpAnyH_done (by as_aux_lemma => kernel_rfl) ?_ _
          go_wp2_with fail
          go_end0
          exact ⟨rfl, fin.out.2⟩
      | cons z rest =>
        rw [show opt b (z :: rest).head? = .pointer (some ⟨b z, 0, none⟩) from rfl]
        have HC : Hid (Calls Try.prog 28 #[.pointer (some ⟨b z, 0, none⟩), .pointer (some ⟨vb, 0, none⟩), .pointer (some ⟨bb, 0, none⟩)] wr fun e w' => ∃ (a2 : Option Addr) (n2 c2 : Nat), e = .returned (.tuple #[]) ∧ w'.cell? ⟨b z, 5, none⟩ = some (opt b rest.head?) ∧ w'.cell? ⟨bb, 0, none⟩ = some (.slice a2 n2 c2) ∧ n' < n2 ∧ n2 ≤ 60000 ∧
            Hid (∃ done, K = done ++ rest ∧ n2 = n + (done.flatMap (bel k T)).length ∧ (L ++ done.flatMap (bel k T)).length = n2 ∧ Vs w0 w' vb bb (.slice a2 n2 c2) (L ++ done.flatMap (bel k T)))) := by
          obtain ⟨done, e, e2, e3, V⟩ := H.out
          obtain ⟨_, z1, z2⟩ := hcell.out done z rest e wr V.row.only
          have hle : n' + (bel k T z).length ≤ 60000 := by
            have := HF.out
            rw [e] at this
            simp only [List.flatMap_append, List.flatMap_cons, List.length_append] at this
            omega
          refine Lib.hid ((hIH.out z wr _ aa' n' c' z1 z2 V e3 hle).mono fun e' w' h2 => ?_)
          obtain ⟨he, hV⟩ := h2
          obtain ⟨a2, c2, V2⟩ := hV.out
          have h1 := hself.out z z1 z2
          refine ⟨a2, _, c2, he, (hcell.out done z rest e w' V2.row.only).1, V2.c1, by omega, hle, Lib.hid ⟨done ++ [z], by rw [e]; simp, ?_, ?_, ?_⟩⟩
          · rw [e2]; simp; omega
          · rw [← e3]; simp; omega
          · have e4 : L ++ (done ++ [z]).flatMap (bel k T) = L ++ done.flatMap (bel k T) ++ bel k T z := by simp
            rw [e4]; exact V2
        have hv : wr.cell? ⟨vb, 0, none⟩ = some (.func (.func 28) #[] #[.pointer (some ⟨vb, 0, none⟩), .pointer (some ⟨bb, 0, none⟩)]) := by
          obtain ⟨_, _, _, _, V⟩ := H.out
          exact V.c0
        go_wp2_with (go_at_call 28; (with_reducible refine HC.out.mono ?_); rintro e w1 ⟨a2, n2, c2, rfl, k5, kc, hlt2, hle2, H2⟩)
        go_roundw
        case rel => exact ⟨a2, n2, c2, rest, hle2, rfl, kc, H2⟩
        case measure => simp [kc, hc, lenV]; omega
end Go.Proofs.Ytkeaenkkencmdaa.Tr
