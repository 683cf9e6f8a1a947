/- ledger: the places sorted by their messages' numbers. -/
import Derived.Test.YtlhdecjpjpnlhaaLgS
namespace Go.Proofs.Ytlhdecjpjpnlhaa.Lg
open Go.RowKit Go.Proofs.Ytlhdecjpjpnlhaa Go.Maps Go.Shelf Go.Sort

theorem nan_any (x : Int) (w : World) : Calls Try.prog 36 #[.int .i64 x] w fun e w' => e = .returned (.bool false) ∧ w = w' := by
  go_enter Try.func36, Try.ntmps36
  go_wp2
  go_ret
  exact ⟨rfl, rfl⟩

theorem compare_any (x y : Int) (w : World) : Calls Try.prog 28 #[.int .i64 x, .int .i64 y] w fun e w' => e = .returned (.int .i64 (Lib.compareInt x y)) ∧ w = w' := by
  by_cases h1 : x < y
  · rw [show Lib.compareInt x y = -1 by simp [Lib.compareInt, h1]]
    go_enter Try.func28, Try.ntmps28
    go_wp2_with (go_at_call 36; (with_reducible refine (nan_any _ _).mono ?_); rintro e w' ⟨rfl, rfl⟩)
    go_ret
    exact ⟨rfl, rfl⟩
  by_cases h2 : y < x
  · rw [show Lib.compareInt x y = 1 by simp [Lib.compareInt, h1, h2]]
    go_enter Try.func28, Try.ntmps28
    go_wp2_with (go_at_call 36; (with_reducible refine (nan_any _ _).mono ?_); rintro e w' ⟨rfl, rfl⟩)
    go_ret
    exact ⟨rfl, rfl⟩
  · rw [show Lib.compareInt x y = 0 by simp [Lib.compareInt, h1, h2]]
    go_enter Try.func28, Try.ntmps28
    go_wp2_with (go_at_call 36; (with_reducible refine (nan_any _ _).mono ?_); rintro e w' ⟨rfl, rfl⟩)
    go_ret
    exact ⟨rfl, rfl⟩

/-- The number at a key, 0 where there is none. -/
def nm (D : DataW Unit) (x : Int) : Int :=
  match D.atKey (.int .u64 x) (.lit (.int .i64 0)) with
  | .lit (.int _ c) => c
  | _ => 0
/-- The order of Held: by number. -/
def cfP (D : DataW Unit) (x y : Ms) : Int := Lib.compareInt (nm D x.id) (nm D y.id)
theorem ltP (D : DataW Unit) (x y : Ms) : ltOf (cfP D) x y = decide (nm D x.id < nm D y.id) := by
  unfold ltOf cfP Lib.compareInt
  by_cases h1 : nm D x.id < nm D y.id
  · simp [h1]
  · by_cases h2 : nm D y.id < nm D x.id
    · simp [h1, h2]
    · simp [h1, h2]
theorem swoP (D : DataW Unit) : Sort.SWO (ltOf (cfP D)) where
  irrefl x := by rw [ltP]; simp
  trans x y z h1 h2 := by rw [ltP] at *; simp at *; omega
  ntrans x y z h1 h2 := by rw [ltP] at *; simp at *; omega

theorem A0.look2 {w : World} {S : Nat → Prop} {hb m1 m2 n : Nat} {D1 D2 : DataW Unit} {C : Nat → Int} (h : A0 w S hb m1 m2 n D1 C D2) {x : Int} (hx : (Lit.int .u64 x).wf = true) :
    (Instr.lookup 48 (.map (some m2)) (.int .u64 x) false).run Try.prog w = .ok (.int .i64 (nm D2 x)) w := by
  obtain ⟨c, hrun, hat, _⟩ := h.map2.lookup_int Try.law Try.underlying48 Try.underlying3 (Try.zeroInt _) (keyOf_int_mk Try.underlying29 hx)
  rw [show nm D2 x = c by unfold nm; rw [hat]]
  exact hrun

set_option maxRecDepth 100000 in
theorem held1_any {w : World} {S : Nat → Prop} {hb m1 m2 n : Nat} {D1 D2 : DataW Unit} {C : Nat → Int} (h : A0 w S hb m1 m2 n D1 C D2) {b : Nat} (hbx : w.heap[b]? = some (.cells #[.pointer (some ⟨hb, 0, none⟩)] 24 (0, 0))) (x y : Ms) :
    Calls Try.prog 27 #[.agg #[.int .u64 x.id, .int .i64 x.wh], .agg #[.int .u64 y.id, .int .i64 y.wh], .pointer (some ⟨b, 0, none⟩)] w fun e w' =>
      e = .returned (.int .i64 (cfP D2 x y)) ∧ ∃ q os', w' = Sort.grow (w.drewN q) os' := by
  have hcon := Lib.hid (fun W' => compare_any (nm D2 x.id) (nm D2 y.id) W')
  have hr : Hid (cfP D2 x y = Lib.compareInt (nm D2 x.id) (nm D2 y.id)) := Lib.hid rfl
  obtain ⟨W2, hW2⟩ : ∃ W2, W2 = (w.alloc (.cells #[.int .u64 x.id, .int .i64 x.wh] 43)).alloc (.cells #[.int .u64 y.id, .int .i64 y.wh] 43) := ⟨_, rfl⟩
  have o2 : Only Nil w W2 := by rw [hW2]; exact ((Only.refl Nil w).alloc _).alloc _
  have h2 := h.nil o2
  have hd2 : A0 W2.drew S hb m1 m2 n D1 C D2 := h2.nil (Only.refl Nil W2).drew
  have l1 := hd2.look2 x.ok
  have l2 := hd2.look2 y.ok
  have c10 := h2.c10
  have cb : W2.cell? ⟨b, 0, none⟩ = some (.pointer (some ⟨hb, 0, none⟩)) := by
    have := (o2.block b (lt_of_block hbx) (fun h => h)).trans hbx
    simp [World.cell?, this]
  have b1 : W2.heap[w.heap.size]? = some (.cells #[.int .u64 x.id, .int .i64 x.wh] 43 (0, 0)) := by
    rw [hW2, Below.heap_alloc _ _ _ (by simp)]
    exact heap_new _ _
  have b2 : W2.heap[w.heap.size + 1]? = some (.cells #[.int .u64 y.id, .int .i64 y.wh] 43 (0, 0)) := by
    rw [hW2]
    have := heap_new (w.alloc (.cells #[.int .u64 x.id, .int .i64 x.wh] 43)) (.cells #[.int .u64 y.id, .int .i64 y.wh] 43)
    rw [show (w.alloc (.cells #[.int .u64 x.id, .int .i64 x.wh] 43)).heap.size = w.heap.size + 1 by simp] at this
    exact this
  have d1 : W2.cell? ⟨w.heap.size, 0, none⟩ = some (.int .u64 x.id) := by simp [World.cell?, b1]
  have d2 : W2.cell? ⟨w.heap.size + 1, 0, none⟩ = some (.int .u64 y.id) := by simp [World.cell?, b2]
  have hg : Hid (∃ os', W2.drew = Sort.grow (w.drewN 1) os') := Lib.hid ⟨_, by rw [hW2, Sort.alloc_eq_grow, Sort.alloc_eq_grow, Sort.grow_grow]; rfl⟩
  generalize cfP D2 x y = r at *
  generalize nm D2 x.id = n1 at *
  generalize nm D2 y.id = n2 at *
  generalize x.id = x0 at *
  generalize y.id = y0 at *
  generalize x.wh = x1 at *
  generalize y.wh = y1 at *
  clear h hbx o2 h2 hd2 b1 b2
  go_enter Try.func27, Try.ntmps27
  go_wp2_with fail
  rw [← hW2]
  clear hW2
  go_still_tail 14, (by kernel_rfl)
  change wpList _ _ _ _ _ W2.drew
  go_wp2_with (go_at_call 28; refine (hcon.out _).mono ?_; rintro e w' ⟨rfl, rfl⟩)
  go_ret
  exact ⟨by rw [hr.out]; rfl, 1, hg.out⟩

theorem holdsP {w : World} {T m cap : Nat} {P : List Ms} (hm : P.length = m) (ho : w.ownsRow 0 43 2 (.slice (some ⟨T, 0, none⟩) m cap) m (pls P)) : HoldsK pl 2 w T 0 P.toArray ∧ T < w.heap.size := by
  rcases ho.2 with ⟨e, _⟩ | ⟨g, c', cur, hv, _, hg, _⟩
  · simp at e
  · simp only [Value.slice.injEq, Option.some.injEq, Addr.mk.injEq, and_true, true_and] at hv
    obtain ⟨rfl, rfl⟩ := hv
    refine ⟨fun j hj => ?_, lt_of_block hg⟩
    have hj' : j < P.toArray.size * 2 := by simpa [flatK] using hj
    refine ⟨?_, by simp [World.frozen?, hg]⟩
    rw [get_flatK _ _ _ _ hj', Nat.zero_add]
    have hP : j < P.length * 2 := by simpa using hj'
    rw [ho.cellAt _ (by omega)]
    have hq : j / 2 < P.length := by omega
    obtain ⟨e0, e1⟩ := pls_get P (j / 2) hq
    have ed : P.toArray[j / 2]! = P.getD (j / 2) default := by
      simp [List.getD, hq]
    have hr : j = j / 2 * 2 + j % 2 := by omega
    rw [ed]
    have h3 : j % 2 = 0 ∨ j % 2 = 1 := by omega
    rcases h3 with h | h
    · rw [h]; rw [h] at hr; rw [hr, ← show j / 2 = (j / 2 * 2 + 0) / 2 by omega, Nat.add_zero, e0]; rfl
    · rw [h]; rw [h] at hr; rw [hr, ← show j / 2 = (j / 2 * 2 + 1) / 2 by omega, e1]; rfl

theorem only_map {w : World} {T : Nat} {f : Array Value → Array Value} : Only (fun q => q = T) w (Sort.mapBlock w T f) :=
  ⟨rfl, rfl, rfl, by simp [Sort.mapBlock], fun k _ hk => by
    simp only [Sort.mapBlock, Array.getElem?_modify]
    rw [if_neg (fun e => hk e.symm)]⟩
theorem only_grow {S : Nat → Prop} {w : World} {os : Array Obj} : Only S w (Sort.grow w os) :=
  ⟨rfl, rfl, rfl, by simp [Sort.grow], fun k hk _ => Sort.heap_grow_old w os hk⟩
theorem only_sort {w : World} {T n : Nat} {d : Array Ms} {os : Array Obj} : Only (fun q => q = T) w (sortWorldK pl 2 w T 0 n d os) := by
  have o1 : Only (fun q => q = T) w (Sort.ahead w n) := ⟨rfl, rfl, rfl, Nat.le_refl _, fun _ _ _ => rfl⟩
  exact (o1.trans only_map).trans only_grow

theorem key_uniq {f : Ms → Int} : ∀ {L : List Ms}, (L.Pairwise fun a b => f a < f b) → ∀ {a b : Ms}, a ∈ L → b ∈ L → f a = f b → a = b := by
  intro L h
  induction h with
  | nil => intro a b ha; cases ha
  | cons hx _ ih =>
    intro a b ha hb e
    rcases List.mem_cons.1 ha with rfl | ha' <;> rcases List.mem_cons.1 hb with rfl | hb'
    · rfl
    · have := hx b hb'; omega
    · have := hx a ha'; omega
    · exact ih ha' hb' e
theorem sorted_eq {D : DataW Unit} {P L : List Ms} {d' : Array Ms} (hp : P.Perm L) (hL : L.Pairwise fun a b => nm D a.id < nm D b.id) (h1 : Sort.PermIn 0 P.toArray.size P.toArray d') (h2 : Sort.SortedIn (ltOf (cfP D)) 0 P.toArray.size d') : d'.toList = L := by
  obtain ⟨hs, _, hq⟩ := h1
  have hq' : d'.toList.Perm P := by
    have e1 : d'.extract 0 P.toArray.size = d' := by rw [← hs]; simp
    rw [e1] at hq
    simpa using hq
  have hm : d'.toList.Pairwise fun a b => nm D a.id ≤ nm D b.id := by
    rw [List.pairwise_iff_getElem]
    intro i j hi hj hij
    have hi' : i < d'.size := by simpa using hi
    have hj' : j < d'.size := by simpa using hj
    have := h2 i j (Nat.zero_le _) hij (by omega)
    rw [ltP, getElem!_pos d' i hi', getElem!_pos d' j hj'] at this
    simp at this
    simpa using this
  refine List.Perm.eq_of_pairwise (le := fun a b => nm D a.id ≤ nm D b.id) ?_ hm (hL.imp (fun h => by omega)) (hq'.trans hp)
  intro a b ha hb h1 h2
  exact key_uniq (f := fun m => nm D m.id) hL ((hq'.trans hp).mem_iff.1 ha) hb (by show nm D a.id = nm D b.id; omega)

/-- The row at T, from its first cell on: the messages X; it may be written. -/
def PIn (w : World) (T : Nat) (X : List Ms) : Prop := T < w.heap.size ∧ (∀ i, w.frozen? ⟨T, i, none⟩ = false ∨ X.length * 2 ≤ i) ∧ ∀ j, j < X.length →
  w.cell? ⟨T, j * 2, none⟩ = some (.int .u64 (X.getD j default).id) ∧ w.cell? ⟨T, j * 2 + 1, none⟩ = some (.int .i64 (X.getD j default).wh)
theorem PIn.keep {S : Nat → Prop} {w w' : World} {T : Nat} {X : List Ms} (h : PIn w T X) (o : Only S w w') (hS : ¬ S T) : PIn w' T X := by
  have e := o.block T h.1 hS
  refine ⟨Nat.lt_of_lt_of_le h.1 o.size, fun i => (h.2.1 i).imp (fun hf => ?_) id, fun j hj => ?_⟩
  · simp only [World.frozen?] at hf ⊢
    rw [e]
    exact hf
  · obtain ⟨c1, c2⟩ := h.2.2 j hj
    exact ⟨(World.cell?_of_block (a := ⟨T, j * 2, none⟩) e).trans c1, (World.cell?_of_block (a := ⟨T, j * 2 + 1, none⟩) e).trans c2⟩
theorem PIn.nil {w w' : World} {T : Nat} {X : List Ms} (h : PIn w T X) (o : Only Nil w w') : PIn w' T X := h.keep o (fun h => h)

set_option maxHeartbeats 1000000 in
/-- The row, sorted by number. -/
theorem sort_any {w : World} {S : Nat → Prop} {hb m1 m2 n : Nat} {D1 D2 : DataW Unit} {C : Nat → Int} (h : A0 w S hb m1 m2 n D1 C D2) {b : Nat} (hbx : w.heap[b]? = some (.cells #[.pointer (some ⟨hb, 0, none⟩)] 24 (0, 0)))
    {T m cap : Nat} {P L : List Ms} (hST : ¬ S T) (hm : P.length = m) (h64 : m ≤ 65000) (ho : w.ownsRow 0 43 2 (.slice (some ⟨T, 0, none⟩) m cap) m (pls P)) (hp : P.Perm L) (hL : L.Pairwise fun a b => nm D2 a.id < nm D2 b.id) :
    Calls Try.prog 26 #[.slice (some ⟨T, 0, none⟩) m cap, .func (.func 27) #[] #[.pointer (some ⟨b, 0, none⟩)]] w fun e w' =>
      e = .returned (.tuple #[]) ∧ PIn w' T L ∧ Only (fun q => q = T) w w' := by
  obtain ⟨hH, hblk⟩ := holdsP hm ho
  have neb : b ≠ T := by
    rcases ho.2 with ⟨e, _⟩ | ⟨g, c', cur, hv, _, hg, _⟩
    · simp at e
    · simp only [Value.slice.injEq, Option.some.injEq, Addr.mk.injEq, and_true, true_and] at hv
      obtain ⟨rfl, _⟩ := hv
      exact blk_ne hbx hg (by decide)
  have eg : ∀ args w, (callFunc 27 args).run Try.prog w = .ok (.enter 27 args) w := enters_of Try.func27 (by kernel_rfl) rfl
  have hcmp : CmpLays Try.prog 27 #[.pointer (some ⟨b, 0, none⟩)] pl 2 (cfP D2) T 0 P.toArray.size w := fun q os dk _ x y => by
    have o : Only (fun q => q = T) w (sortWorldK pl 2 w T 0 q dk os) := only_sort
    exact held1_any (h.keep o (fun q hq e => hST (e ▸ hq))) ((o.block b (lt_of_block hbx) neb).trans hbx) x y
  have hcon := AnyQ.slices_SortFunc Try.sortPl 2 Try.isAgg43 Try.sizeOf43 pl (fun _ => rfl) (fun x => pl_oneCell x) (cfP D2) (swoP D2) 27 #[.pointer (some ⟨b, 0, none⟩)] T 0 cap P.toArray w eg hcmp hH hblk (by simp; omega)
  change Calls Try.prog 26 _ _ _ at hcon
  rw [show P.toArray.size = m by simpa using hm] at hcon
  refine hcon.mono ?_
  rintro e w' ⟨rfl, d', n, os, h1, h2, rfl⟩
  have hs : P.toArray.size = m := by simpa using hm
  have hl := sorted_eq hp hL (by rw [hs]; exact h1) (by rw [hs]; exact h2)
  have hds : d'.size = P.toArray.size := h1.1
  have hK := holdsK_sortWorldK_c pl 2 w T 0 P.toArray d' n os hH hblk hds
  have oo : Only (fun q => q = T) w (sortWorldK pl 2 w T 0 n d' os) := only_sort
  refine ⟨rfl, ⟨Nat.lt_of_lt_of_le hblk oo.size, fun i => ?_, ?_⟩, oo⟩
  · subst hl
    by_cases hi : i < d'.size * 2
    · refine .inl ?_
      have := (hK i (by simpa [flatK] using hi)).2
      simpa using this
    · refine .inr ?_
      have : d'.toList.length = d'.size := by simp
      omega
  · subst hl
    intro j hj
    have hj' : j < d'.size := by simpa using hj
    have ed : d'[j]! = d'.toList.getD j default := by simp [List.getD, hj']
    have c0 := (hK.cell hj' (c := 0) (by decide)).1
    have c1 := (hK.cell hj' (c := 1) (by decide)).1
    rw [ed, Nat.zero_add] at c0 c1
    exact ⟨c0, c1⟩
end Go.Proofs.Ytlhdecjpjpnlhaa.Lg
