/- act: copies; Row; Find. -/
import Derived.Test.YtimnaiahokafaaaAcJ
import Derived.StillTailTactics
import Derived.Lib.LazyBuf
set_option linter.unusedVariables false
set_option linter.unusedSimpArgs false
namespace Go.Proofs.Ytimnaiahokafaaa.Ac
open Go Go.RowKit Go.Proofs.Ytimnaiahokafaaa Lx Ps Ch

theorem cin_none {D : Nat} {w : World} {n c s : Nat} {cs : List Value} (hs : 0 < s) (h : CIn D w (.slice none n c) n s cs) : n = 0 ∧ cs = [] := by
  obtain ⟨a', c', ⟨h1, _⟩, h2, h3⟩ := h
  simp only [Value.slice.injEq] at h1
  obtain ⟨rfl, _, rfl⟩ := h1
  rcases Nat.eq_zero_or_pos n with h0 | h0
  · subst h0; exact ⟨rfl, List.length_eq_zero_iff.1 (by rw [h2, Nat.zero_mul])⟩
  · obtain ⟨b, off, e, _⟩ := h3 0 (by rw [h2]; exact Nat.mul_pos h0 hs)
    cases e
/-- append of a row that came in to an empty one: a row of one's own. -/
theorem clone_run {P : Program} {w : World} {t ty e : TypeId} {z : Value} {size bytes : Nat} (ht : P.underlying t = some (.slice e)) (hi : (P.info? e).map (fun i => (i.zero, i.size, i.bytes)) = some (some z, size, bytes)) (hzs : z.cells.size = size)
    {D n c : Nat} {ad : Addr} {cs : List Value} (h : CIn D w (.slice (some ad) n c) n size cs) (hs : 0 < size) (hy : 0 < bytes) (hb : n * bytes ≤ 140737488355328) :
    ∃ a' c' w', (Builtin.append_ #[t, t] ty #[.slice (some ⟨w.heap.size, 0, none⟩) 0 0, .slice (some ad) n c]).run P (w.alloc (.cells #[] e)) = .ok (.slice a' n c') w' ∧ w'.ownsRow 0 e size (.slice a' n c') n cs ∧ New w (.slice a' n c') ∧ Only Nil w w' := by
  have oA : Only Nil w (w.alloc (.cells #[] e)) := (Only.refl Nil w).alloc _
  have h' := h.keep oA (nilS · D)
  have hE := own_empty w e size
  rcases Nat.eq_zero_or_pos n with h0 | h0
  · subst h0
    obtain ⟨i0, hi0, hz0, hz1, hz2⟩ := info_parts hi
    have hcs : cs = [] := by obtain ⟨_, _, _, h2, _⟩ := h; exact List.length_eq_zero_iff.1 (by rw [h2, Nat.zero_mul])
    subst hcs
    obtain ⟨w', hr, ho, hg⟩ := run_append_fits (P := P) (w.alloc (.cells #[] e)) 0 t ty _ i0 size ht hi0 hz1 w.heap.size 0 0 [] hE ad 0 c [] (by simp) (fun j u hj => by simp at hj) (fun u hu => nomatch hu) (Nat.le_refl _)
    refine ⟨_, _, w', hr, by simpa using ho, fun g hg' => by simp [Value.ownBlock] at hg'; omega, ?_⟩
    have := (Only.ofGrown hg)
    exact oA.then this (fun k hk hlt => by simp at hk; omega)
  · obtain ⟨c', w', hr, ho, hon⟩ := copy_cin (P := P) (t := t) (ty := ty) ht hi hzs h' hE h0 hs hy hb
    refine ⟨_, c', w', hr, ho, fun g hg' => ?_, oA.trans hon⟩
    simp [Value.ownBlock] at hg'
    have := oA.size
    omega

set_option maxHeartbeats 1000000 in
theorem clone_eff {D : Nat} {w : World} {a : Option Addr} {n c : Nat} {L : List Eff} (h : XE D w (.slice a n c) L) (hn : L.length = n) (hb : n * 80 ≤ 140737488355328) :
    Calls Try.prog 44 #[.slice a n c] w fun e w' => (∃ a' c', e = .returned (.slice a' n c') ∧ Hid (MEff w' (.slice a' n c') L ∧ New w (.slice a' n c'))) ∧ Only Nil w w' := by
  subst hn
  cases a with
  | none =>
    have h0 := cin_none (by decide) h
    have hL : L = [] := List.length_eq_zero_iff.1 h0.1
    subst hL
    have hq : ∀ w, (binOp .eql 28 (.slice none 0 c) (.slice none 0 0)).run Try.prog w = .ok (.bool true) w := fun w => Lib.run_eql_slice_nil w _ _ none 0 c 0 0 Try.underlying28
    clear h h0 hb
    go_enter Try.func44, Try.ntmps44
    go_wp2
    go_ret
    exact ⟨⟨none, 0, rfl, Lib.hid ⟨World.ownsRow_nil w 0 _ _, new_none _⟩⟩, Only.refl _ _⟩
  | some ad =>
    obtain ⟨a', c', w', hr, ho, hN, oo⟩ := clone_run (P := Try.prog) (t := 28) (ty := 28) Try.underlying28 Try.infoEff rfl h (by decide) (by decide) hb
    have hr' := Lib.hid hr
    have H := Lib.hid (show MEff w' (.slice a' L.length c') L ∧ New w (.slice a' L.length c') from ⟨ho, hN⟩)
    have OO := Lib.hid oo
    have hq : ∀ w, (binOp .eql 28 (.slice (some ad) L.length c) (.slice none 0 0)).run Try.prog w = .ok (.bool false) w := fun w => Lib.run_eql_slice_nil w _ _ (some ad) L.length c 0 0 Try.underlying28
    generalize L.length = n at *
    clear h hb hr ho hN oo
    go_enter Try.func44, Try.ntmps44
    go_wp2_with (at_builtin; refine Lib.wpList_append_run _ rfl (.tmp 5) (.tmp 6) 28 28 rfl _ _ rfl rfl _ _ hr'.out ?_)
    go_ret
    exact ⟨⟨a', c', rfl, H⟩, OO.out⟩

set_option maxHeartbeats 1000000 in
theorem clone_cs {D : Nat} {w : World} {a : Option Addr} {n c : Nat} {L : List Cs} (h : XC D w (.slice a n c) L) (hn : L.length = n) (hb : n * 24 ≤ 140737488355328) :
    Calls Try.prog 41 #[.slice a n c] w fun e w' => (∃ a' c', e = .returned (.slice a' n c') ∧ Hid (MCs w' (.slice a' n c') L ∧ New w (.slice a' n c'))) ∧ Only Nil w w' := by
  subst hn
  cases a with
  | none =>
    have h0 := cin_none (by decide) h
    have hL : L = [] := List.length_eq_zero_iff.1 h0.1
    subst hL
    have hq : ∀ w, (binOp .eql 22 (.slice none 0 c) (.slice none 0 0)).run Try.prog w = .ok (.bool true) w := fun w => Lib.run_eql_slice_nil w _ _ none 0 c 0 0 Try.underlying22
    clear h h0 hb
    go_enter Try.func41, Try.ntmps41
    go_wp2
    go_ret
    exact ⟨⟨none, 0, rfl, Lib.hid ⟨World.ownsRow_nil w 0 _ _, new_none _⟩⟩, Only.refl _ _⟩
  | some ad =>
    obtain ⟨a', c', w', hr, ho, hN, oo⟩ := clone_run (P := Try.prog) (t := 22) (ty := 22) Try.underlying22 Try.infoCs rfl h (by decide) (by decide) hb
    have hr' := Lib.hid hr
    have H := Lib.hid (show MCs w' (.slice a' L.length c') L ∧ New w (.slice a' L.length c') from ⟨ho, hN⟩)
    have OO := Lib.hid oo
    have hq : ∀ w, (binOp .eql 22 (.slice (some ad) L.length c) (.slice none 0 0)).run Try.prog w = .ok (.bool false) w := fun w => Lib.run_eql_slice_nil w _ _ (some ad) L.length c 0 0 Try.underlying22
    generalize L.length = n at *
    clear h hb hr ho hN oo
    go_enter Try.func41, Try.ntmps41
    go_wp2_with (at_builtin; refine Lib.wpList_append_run _ rfl (.tmp 5) (.tmp 6) 22 22 rfl _ _ rfl rfl _ _ hr'.out ?_)
    go_ret
    exact ⟨⟨a', c', rfl, H⟩, OO.out⟩

/-! ### Rows and states of one's own, all of them new -/
def FR (w0 w : World) (v : Value) (L : List Rw) : Prop :=
  ∃ Z : List (Rw × Value), Z.map Prod.fst = L ∧ w.ownsRow 0 40 4 v L.length (Z.flatMap rowCs) ∧ New w0 v ∧ ∀ x ∈ Z, MEff w x.2 x.1.effs ∧ New w0 x.2
def FS (w0 w : World) (v : Value) (L : List Sta) : Prop :=
  ∃ Z : List (Sta × Value), Z.map Prod.fst = L ∧ w.ownsRow 0 48 2 v L.length (Z.flatMap staCs) ∧ New w0 v ∧ ∀ x ∈ Z, FR w0 w x.2 x.1.rows
theorem new_mono {w0 w1 : World} {v : Value} (h : New w1 v) (hs : w0.heap.size ≤ w1.heap.size) : New w0 v := fun g hg => Nat.le_trans hs (h g hg)
theorem FR.mono {w0 w1 w : World} {v : Value} {L : List Rw} (h : FR w1 w v L) (hs : w0.heap.size ≤ w1.heap.size) : FR w0 w v L := by
  obtain ⟨Z, h1, h2, h3, h4⟩ := h; exact ⟨Z, h1, h2, new_mono h3 hs, fun x hx => ⟨(h4 x hx).1, new_mono (h4 x hx).2 hs⟩⟩
theorem FR.keep {S : Nat → Prop} {w0 w w' : World} {t : TypeId} {v : Value} {L : List Rw} (h : FR w0 w v L) (o : Only S w w') (hS : OfT t S w) (h1 : t ≠ 50) (h2 : t ≠ 40) : FR w0 w' v L := by
  obtain ⟨Z, hz, ho, hN, hi⟩ := h
  exact ⟨Z, hz, own_keepT ho o hS h2, hN, fun x hx => ⟨(hi x hx).1.keep o hS h1, (hi x hx).2⟩⟩
theorem FS.keep {S : Nat → Prop} {w0 w w' : World} {t : TypeId} {v : Value} {L : List Sta} (h : FS w0 w v L) (o : Only S w w') (hS : OfT t S w) (h1 : t ≠ 50) (h2 : t ≠ 40) (h3 : t ≠ 48) : FS w0 w' v L := by
  obtain ⟨Z, hz, ho, hN, hi⟩ := h
  exact ⟨Z, hz, own_keepT ho o hS h3, hN, fun x hx => (hi x hx).keep o hS h1 h2⟩
theorem FR.slice {w0 w : World} {v : Value} {L : List Rw} (h : FR w0 w v L) : ∃ a c, v = .slice a L.length c := by obtain ⟨_, _, h, _⟩ := h; exact own_slice_n h
theorem FS.slice {w0 w : World} {v : Value} {L : List Sta} (h : FS w0 w v L) : ∃ a c, v = .slice a L.length c := by obtain ⟨_, _, h, _⟩ := h; exact own_slice_n h
theorem FR.nil (w0 w : World) : FR w0 w (.slice none 0 0) [] := ⟨[], rfl, World.ownsRow_nil w 0 _ _, new_none _, fun x hx => nomatch hx⟩
theorem FS.nil (w0 w : World) : FS w0 w (.slice none 0 0) [] := ⟨[], rfl, World.ownsRow_nil w 0 _ _, new_none _, fun x hx => nomatch hx⟩
theorem FR.x {w0 w : World} {v : Value} {L : List Rw} (h : FR w0 w v L) : XR w.heap.size w v L := by
  obtain ⟨Z, hz, ho, _, hi⟩ := h; exact ⟨Z, hz, own_cin ho, fun x hx => MEff.x (hi x hx).1⟩
theorem FS.x {w0 w : World} {v : Value} {L : List Sta} (h : FS w0 w v L) : XS w.heap.size w v L := by
  obtain ⟨Z, hz, ho, _, hi⟩ := h; exact ⟨Z, hz, own_cin ho, fun x hx => (hi x hx).x⟩
theorem frow_pushed {w0 w : World} {a : Option Addr} {n c : Nat} {X : List Rw} (h : FR w0 w (.slice a n c) X) (hn : X.length = n) (hw : w0.heap.size ≤ w.heap.size) (few : (n + 1) * 56 ≤ 140737488355328) (x : Rw) (sl : Value) (hv : MEff w sl x.effs) (hs : New w0 sl) :
    ∃ a' c' w5, (Builtin.append_ #[46, 46] 46 #[.slice a n c, .slice (some ⟨w.heap.size, 0, none⟩) 1 1]).run Try.prog (w.alloc (.cells #[.string (bs x.tag), .bool x.only, .int .i64 x.n, sl] 40)) = .ok (.slice a' (n + 1) c') w5 ∧
      Hid (FR w0 w5 (.slice a' (n + 1) c') (X ++ [x])) ∧ Only (RowOf a) w w5 := by
  subst hn
  obtain ⟨Z, hz, ho0, fr, hi⟩ := h
  subst hz
  rw [List.length_map] at ho0 fr few ⊢
  obtain ⟨a', c', w5, hr, ho, hN, o⟩ := push_any (P := Try.prog) (t := 46) (ty := 46) Try.underlying46 Try.infoRow rfl (by decide) ho0 fr hw few (rowCs (x, sl)) rfl (by obtain ⟨a1, c1, hs1⟩ := own_slice_n hv; subst hs1; intro u hu; simp [rowCs] at hu; rcases hu with rfl | rfl | rfl | rfl <;> rfl)
  have hS := ofT_row ho0
  refine ⟨a', c', w5, hr, Lib.hid ⟨Z ++ [(x, sl)], by simp, ?_, hN, fun y hy => ?_⟩, o⟩
  · rw [List.length_append, List.flatMap_append]
    simpa using ho
  · rcases List.mem_append.1 hy with hy | hy
    · exact ⟨(hi y hy).1.keep o hS (by decide), (hi y hy).2⟩
    · obtain rfl := List.mem_singleton.1 hy
      exact ⟨hv.keep o hS (by decide), hs⟩
theorem fsta_pushed {w0 w : World} {a : Option Addr} {n c : Nat} {X : List Sta} (h : FS w0 w (.slice a n c) X) (hn : X.length = n) (hw : w0.heap.size ≤ w.heap.size) (few : (n + 1) * 40 ≤ 140737488355328) (x : Sta) (sl : Value) (hv : FR w0 w sl x.rows) :
    ∃ a' c' w5, (Builtin.append_ #[23, 23] 23 #[.slice a n c, .slice (some ⟨w.heap.size, 0, none⟩) 1 1]).run Try.prog (w.alloc (.cells #[.string (bs x.name), sl] 48)) = .ok (.slice a' (n + 1) c') w5 ∧
      Hid (FS w0 w5 (.slice a' (n + 1) c') (X ++ [x])) ∧ Only (RowOf a) w w5 := by
  subst hn
  obtain ⟨Z, hz, ho0, fr, hi⟩ := h
  subst hz
  rw [List.length_map] at ho0 fr few ⊢
  obtain ⟨a', c', w5, hr, ho, hN, o⟩ := push_any (P := Try.prog) (t := 23) (ty := 23) Try.underlying23 Try.infoSta rfl (by decide) ho0 fr hw few (staCs (x, sl)) rfl (by obtain ⟨a1, c1, hs1⟩ := hv.slice; subst hs1; intro u hu; simp [staCs] at hu; rcases hu with rfl | rfl <;> rfl)
  have hS := ofT_row ho0
  refine ⟨a', c', w5, hr, Lib.hid ⟨Z ++ [(x, sl)], by simp, ?_, hN, fun y hy => ?_⟩, o⟩
  · rw [List.length_append, List.flatMap_append]
    simpa using ho
  · rcases List.mem_append.1 hy with hy | hy
    · exact (hi y hy).keep o hS (by decide) (by decide)
    · obtain rfl := List.mem_singleton.1 hy
      exact hv.keep o hS (by decide) (by decide)

set_option maxHeartbeats 2000000 in
set_option maxRecDepth 100000 in
theorem copyRow_any {D : Nat} {w : World} (r : Rw) {a : Option Addr} {n c : Nat} (h : XE D w (.slice a n c) r.effs) (hn : r.effs.length = n) (hb : n * 80 ≤ 140737488355328) :
    Calls Try.prog 33 #[.agg #[.string (bs r.tag), .bool r.only, .int .i64 r.n, .slice a n c]] w fun e w' => (∃ a' c', e = .returned (.agg #[.string (bs r.tag), .bool r.only, .int .i64 r.n, (.slice a' n c')]) ∧ Hid (MEff w' (.slice a' n c') r.effs ∧ New w (.slice a' n c'))) ∧ Only Nil w w' := by
  obtain ⟨W1, hW1⟩ : ∃ W, W = w.alloc (.cells #[.string (bs r.tag), .bool r.only, .int .i64 r.n, .slice a n c] 40) := ⟨_, rfl⟩
  have s1 : W1.heap.size = w.heap.size + 1 := by rw [hW1]; simp
  have o1 : Only Nil w W1 := hW1 ▸ (Only.refl Nil w).alloc _
  have b1 : Bx W1 (w.heap.size) [.string (bs r.tag), .bool r.only, .int .i64 r.n, .slice a n c] 40 := hW1 ▸ bx_new w _ _
  obtain ⟨W2, hW2⟩ : ∃ W, W = W1.alloc (.cells #[.string ⟨#[]⟩, .bool false, .int .i64 0, .slice none 0 0] 40) := ⟨_, rfl⟩
  have s2 : W2.heap.size = w.heap.size + 1 + 1 := by rw [hW2]; simp [s1]
  have o2 : Only Nil W1 W2 := hW2 ▸ (Only.refl Nil W1).alloc _
  have b2 : Bx W2 (w.heap.size + 1) [.string ⟨#[]⟩, .bool false, .int .i64 0, .slice none 0 0] 40 := by have h := bx_new W1 [.string ⟨#[]⟩, .bool false, .int .i64 0, .slice none 0 0] 40; rw [s1] at h; rw [hW2]; exact h
  have X1 := Lib.hid (b1.keep o2)
  have X2 := Lib.hid b2
  have O := Lib.hid (o1.trans o2)
  have SZ := Lib.hid s2
  have HC := Lib.hid (clone_eff (h.keep O.out (nilS · D)) hn hb)
  clear h hn hb
  go_enter Try.func33, Try.ntmps33
  go_upto_region 1 with (fail)
  (try simp only [World.size_alloc])
  rw [← hW1, ← hW2]
  clear hW1 s1 o1 b1 hW2 s2 o2 b2
  generalize hB2 : w.heap.size + 1 = B2 at *
  generalize hB1 : w.heap.size = B1 at *
  have HB1 := Lib.hid hB1
  have HB2 := Lib.hid hB2
  clear hB1 hB2
  have k3 := X1.out.cell 3 (v := .slice a n c) rfl
  go_wp2_with fail
  refine HC.out.mono ?_
  rintro e w1 ⟨⟨a', c', rfl, hM⟩, o1⟩
  have Y1 := X1.out.keep o1
  have Y2 := X2.out.keep o1
  have hs := o1.size
  have OW := Lib.hid (O.out.trans o1)
  have k3 := Y1.cell 3 (v := .slice a n c) rfl
  have f3 := Y1.free 3
  go_upto_region 2 with (fail)
  have P1 := bx_set Y1 3 (.slice a' n c')
  simp only [List.set_cons_zero, List.set_cons_succ] at P1
  have oA := (Only.refl (At B1) w1).setCell (p := ⟨B1, 3, none⟩) rfl (.slice a' n c')
  have P2 := Y2.at_ oA (by have := HB2.out; omega)
  have M1 := MEff.keep (t := 40) hM.out.1 oA (ofT_at (show w1.heap[B1]? = _ from Y1)) (by decide)
  have hNw := new_mono hM.out.2 O.out.size
  have O2 := OW.out.then oA (fun k hk hlt => by have e1 : k = B1 := hk; have := HB1.out; omega)
  generalize w1.setCell ⟨B1, 3, none⟩ (.slice a' n c') = w2 at *
  clear k3 f3 oA Y1 Y2
  have k0 := P1.cell 0 (v := .string (bs r.tag)) rfl
  have k1 := P1.cell 1 (v := .bool r.only) rfl
  have k2 := P1.cell 2 (v := .int .i64 r.n) rfl
  have k3 := P1.cell 3 (v := (.slice a' n c')) rfl
  have z0 := P2.cell 0 (v := .string ⟨#[]⟩) rfl
  have z1 := P2.cell 1 (v := .bool false) rfl
  have z2 := P2.cell 2 (v := .int .i64 0) rfl
  have z3 := P2.cell 3 (v := .slice none 0 0) rfl
  have f0 := P2.free 0
  have f1 := P2.free 1
  have f2 := P2.free 2
  have f3 := P2.free 3
  go_wp2
  have t1 := bx_set (P2) 0 (.string (bs r.tag))
  have t2 := bx_set (t1) 1 (.bool r.only)
  have t3 := bx_set (t2) 2 (.int .i64 r.n)
  have t4 := bx_set (t3) 3 ((.slice a' n c'))
  simp only [List.set_cons_zero, List.set_cons_succ] at t4
  have oB := (((((Only.refl (At B2) w2).setCell (p := ⟨B2, 0, none⟩) rfl (.string (bs r.tag))).setCell (p := ⟨B2, 1, none⟩) rfl (.bool r.only)).setCell (p := ⟨B2, 2, none⟩) rfl (.int .i64 r.n)).setCell (p := ⟨B2, 3, none⟩) rfl ((.slice a' n c')))
  have hT : OfT 40 (At B2) w2 := ofT_at (show w2.heap[B2]? = _ from P2)
  refine bodyPost_ret (results_agg rfl _ _ B2 [.string (bs r.tag), .bool r.only, .int .i64 r.n, (.slice a' n c')] Try.isAgg40 Try.sizeOf40 rfl t4) rfl ?_
  exact ⟨⟨a', c', rfl, Lib.hid ⟨MEff.keep (t := 40) M1 oB hT (by decide), hNw⟩⟩, O2.then oB (fun k hk hlt => by have e1 : k = B2 := hk; have := HB2.out; have := HB1.out; omega)⟩

set_option maxHeartbeats 4000000 in
set_option maxRecDepth 100000 in
theorem eachRow_any {D : Nat} {w : World} {a : Option Addr} {n c : Nat} {L : List Rw} (h : XR D w (.slice a n c) L) (hn : L.length = n) (hb : n * 56 ≤ 140737488355328) (hz : ∀ x ∈ L, bzR x) :
    Calls Try.prog 47 #[.slice a n c, .func (.func 33) #[] #[]] w fun e w' => (∃ a' c', e = .returned (.slice a' n c') ∧ Hid (FR w w' (.slice a' n c') L)) ∧ Only Nil w w' := by
  have H := Lib.hid h
  have HN := Lib.hid hn
  have HB := Lib.hid hb
  have HZ := Lib.hid hz
  have hbi : (n : Int) ≤ 140737488355328 := by omega
  have eg := Lib.hid (fun args w => enters_of Try.func33 (by kernel_rfl) rfl args w)
  have eg : ∀ args w, (callFunc 33 args).run Try.prog w = .ok (.enter 33 args) w := eg.out
  clear h hn hb hz
  go_enter Try.func47, Try.ntmps47
  go_wp2
  go_loopw [5, 10] (fun s5 s10 wr => ∃ (i : Nat) (va : Option Addr) (vc : Nat), i ≤ n ∧ s5 = .slice va i vc ∧ s10 = .int .i64 (i : Int) ∧ Hid (FR w wr (.slice va i vc) (L.take i)) ∧ Hid (Only Nil w wr)) (fun _ s10 _ => n - (intOf s10).toNat)
  case atStart => exact ⟨0, none, 0, Nat.zero_le _, rfl, rfl, Lib.hid (FR.nil _ _), Lib.hid (Only.refl _ _)⟩
  case round =>
    obtain ⟨i, va, vc, hi, rfl, rfl, hF, hO⟩ := hrel
    by_cases him : i < n
    · obtain ⟨s1, ⟨q, off, rfl, hlt, hc⟩, g1⟩ := (H.out.keep hO.out (nilS · D)).at_ HN.out i him
      have hil : i < L.length := by rw [HN.out]; exact him
      have HL := Lib.hid (List.getElem?_eq_getElem hil)
      have HM := Lib.hid (HZ.out _ (List.getElem_mem hil))
      have HT := Lib.hid (List.take_succ_eq_append_getElem hil)
      generalize L[i] = x at *
      obtain ⟨a1, c1, rfl⟩ := g1.slice
      have e0 : wr.cell? ⟨q, off + i * 4, none⟩ = some (.string (bs x.tag)) := hc 0 (by decide)
      have e1 : wr.cell? ⟨q, off + i * 4 + 1, none⟩ = some (.bool x.only) := hc 1 (by decide)
      have e2 : wr.cell? ⟨q, off + i * 4 + 2, none⟩ = some (.int .i64 x.n) := hc 2 (by decide)
      have e3 : wr.cell? ⟨q, off + i * 4 + 3, none⟩ = some (.slice a1 x.effs.length c1) := hc 3 (by decide)
      have hm := HM.out
      have hmi : (x.effs.length : Int) ≤ 140737488355328 := by unfold bzR at hm; omega
      generalize hmm : x.effs.length = m at *
      have himi : (i : Int) < (n : Int) := by omega
      have HI := Lib.hid him
      obtain ⟨w2, hw2⟩ : ∃ w2, w2 = wr.alloc (.cells #[.string (bs x.tag), .bool x.only, .int .i64 x.n, .slice a1 m c1] 40) := ⟨_, rfl⟩
      have o2 : Only Nil wr w2 := hw2 ▸ (Only.refl Nil wr).alloc _
      have BX := Lib.hid (show Bx w2 wr.heap.size [.string (bs x.tag), .bool x.only, .int .i64 x.n, .slice a1 m c1] 40 from hw2 ▸ bx_new wr [.string (bs x.tag), .bool x.only, .int .i64 x.n, .slice a1 m c1] _)
      have HC := Lib.hid (copyRow_any x (show XE D w2 (.slice a1 m c1) x.effs from g1.keep o2 (nilS · D)) hmm (by have h := hm; unfold bzR at h; omega))
      have F2 := Lib.hid (FR.keep (t := 30) hF.out o2 (ofT_nil _ _) (by decide) (by decide))
      have O2 := Lib.hid (hO.out.trans o2)
      have HS2 := Lib.hid (show w.heap.size ≤ w2.heap.size from O2.out.size)
      have few : (i + 1) * 56 ≤ 140737488355328 := Nat.le_trans (Nat.mul_le_mul_right 56 HI.out) HB.out
      have FEW := Lib.hid few
      have hti : (L.take i).length = i := by rw [List.length_take, HN.out]; omega
      have HTI := Lib.hid hti
      clear hc g1 o2 hF hm him hi few hti hlt
      go_upto_region 5 with (fail)
      rw [← hw2]; clear hw2 e0 e1 e2 e3
      generalize wr.heap.size = B7 at *
      have k0 := BX.out.cell 0 (v := .string (bs x.tag)) rfl
      have k1 := BX.out.cell 1 (v := .bool x.only) rfl
      have k2 := BX.out.cell 2 (v := .int .i64 x.n) rfl
      have k3 := BX.out.cell 3 (v := .slice a1 m c1) rfl
      go_wp2_with (first
        | (go_at_fn 33; refine HC.out.mono ?_; rintro e w3 ⟨⟨a', c', rfl, hM⟩, o3⟩; have F3 := FR.keep (t := 30) F2.out o3 (ofT_nil _ _) (by decide) (by decide); obtain ⟨a6, c6, w6, hr, F6, o6⟩ := frow_pushed F3 HTI.out (Nat.le_trans HS2.out o3.size) FEW.out x (.slice a' m c') hM.out.1 (new_mono hM.out.2 HS2.out); have hr' := Lib.hid hr; have O6 := Lib.hid ((O2.out.trans o3).then o6 (fun g hg hlt => by obtain ⟨Z, _, _, hN, _⟩ := F3; obtain ⟨y, rfl, rfl⟩ := hg; have := hN y.block rfl; omega)); clear hr o6 F3 o3 hM)
        | (at_builtin; refine Lib.wpList_append_run _ rfl (.tmp 14) (.tmp 18) 46 46 rfl _ _ rfl rfl _ _ hr'.out ?_))
      go_roundw
      case rel => exact ⟨i + 1, a6, c6, HI.out, rfl, by go_num, Lib.hid (by rw [HT.out]; exact F6.out), O6⟩
      case measure => have := HI.out; simp [intOf]; omega
    · obtain rfl : n = i := by omega
      have hk0 : ¬ (n : Int) < (n : Int) := by omega
      clear him
      go_wp2
      go_ret
      exact ⟨⟨va, vc, rfl, Lib.hid (by have := hF.out; rw [List.take_of_length_le (by rw [HN.out]; exact Nat.le_refl _)] at this; exact this)⟩, hO.out⟩

set_option maxHeartbeats 2000000 in
set_option maxRecDepth 100000 in
theorem copySta_any {D : Nat} {w : World} (x : Sta) {a : Option Addr} {n c : Nat} (h : XR D w (.slice a n c) x.rows) (hn : x.rows.length = n) (hb : bzS x) :
    Calls Try.prog 43 #[.agg #[.string (bs x.name), .slice a n c]] w fun e w' => (∃ a' c', e = .returned (.agg #[.string (bs x.name), (.slice a' n c')]) ∧ Hid (FR w w' (.slice a' n c') x.rows)) ∧ Only Nil w w' := by
  obtain ⟨W1, hW1⟩ : ∃ W, W = w.alloc (.cells #[.string (bs x.name), .slice a n c] 48) := ⟨_, rfl⟩
  have s1 : W1.heap.size = w.heap.size + 1 := by rw [hW1]; simp
  have o1 : Only Nil w W1 := hW1 ▸ (Only.refl Nil w).alloc _
  have b1 : Bx W1 (w.heap.size) [.string (bs x.name), .slice a n c] 48 := hW1 ▸ bx_new w _ _
  obtain ⟨W2, hW2⟩ : ∃ W, W = W1.alloc (.cells #[.string ⟨#[]⟩, .slice none 0 0] 48) := ⟨_, rfl⟩
  have s2 : W2.heap.size = w.heap.size + 1 + 1 := by rw [hW2]; simp [s1]
  have o2 : Only Nil W1 W2 := hW2 ▸ (Only.refl Nil W1).alloc _
  have b2 : Bx W2 (w.heap.size + 1) [.string ⟨#[]⟩, .slice none 0 0] 48 := by have h := bx_new W1 [.string ⟨#[]⟩, .slice none 0 0] 48; rw [s1] at h; rw [hW2]; exact h
  have X1 := Lib.hid (b1.keep o2)
  have X2 := Lib.hid b2
  have O := Lib.hid (o1.trans o2)
  have SZ := Lib.hid s2
  have HC := Lib.hid (eachRow_any (h.keep O.out (nilS · D)) hn (hn ▸ hb.1) hb.2)
  clear h hn hb
  go_enter Try.func43, Try.ntmps43
  go_upto_region 1 with (fail)
  (try simp only [World.size_alloc])
  rw [← hW1, ← hW2]
  clear hW1 s1 o1 b1 hW2 s2 o2 b2
  generalize hB2 : w.heap.size + 1 = B2 at *
  generalize hB1 : w.heap.size = B1 at *
  have HB1 := Lib.hid hB1
  have HB2 := Lib.hid hB2
  clear hB1 hB2
  have k1 := X1.out.cell 1 (v := .slice a n c) rfl
  go_wp2_with fail
  refine HC.out.mono ?_
  rintro e w1 ⟨⟨a', c', rfl, hM⟩, o1⟩
  have Y1 := X1.out.keep o1
  have Y2 := X2.out.keep o1
  have OW := Lib.hid (O.out.trans o1)
  have k1 := Y1.cell 1 (v := .slice a n c) rfl
  have f1 := Y1.free 1
  go_upto_region 2 with (fail)
  have P1 := bx_set Y1 1 (.slice a' n c')
  simp only [List.set_cons_zero, List.set_cons_succ] at P1
  have oA := (Only.refl (At B1) w1).setCell (p := ⟨B1, 1, none⟩) rfl (.slice a' n c')
  have P2 := Y2.at_ oA (by have := HB2.out; omega)
  have M1 := FR.keep (t := 48) hM.out oA (ofT_at (show w1.heap[B1]? = _ from Y1)) (by decide) (by decide)
  have O2 := OW.out.then oA (fun k hk hlt => by have e1 : k = B1 := hk; have := HB1.out; omega)
  generalize w1.setCell ⟨B1, 1, none⟩ (.slice a' n c') = w2 at *
  clear k1 f1 oA Y1 Y2
  have k0 := P1.cell 0 (v := .string (bs x.name)) rfl
  have k1 := P1.cell 1 (v := (.slice a' n c')) rfl
  have z0 := P2.cell 0 (v := .string ⟨#[]⟩) rfl
  have z1 := P2.cell 1 (v := .slice none 0 0) rfl
  have f0 := P2.free 0
  have f1 := P2.free 1
  go_wp2
  have t1 := bx_set (P2) 0 (.string (bs x.name))
  have t2 := bx_set (t1) 1 ((.slice a' n c'))
  simp only [List.set_cons_zero, List.set_cons_succ] at t2
  have oB := (((Only.refl (At B2) w2).setCell (p := ⟨B2, 0, none⟩) rfl (.string (bs x.name))).setCell (p := ⟨B2, 1, none⟩) rfl ((.slice a' n c')))
  have hT : OfT 48 (At B2) w2 := ofT_at (show w2.heap[B2]? = _ from P2)
  refine bodyPost_ret (results_agg rfl _ _ B2 [.string (bs x.name), (.slice a' n c')] Try.isAgg48 Try.sizeOf48 rfl t2) rfl ?_
  exact ⟨⟨a', c', rfl, Lib.hid ((FR.keep (t := 48) M1 oB hT (by decide) (by decide)).mono O.out.size)⟩, O2.then oB (fun k hk hlt => by have e1 : k = B2 := hk; have := HB2.out; have := HB1.out; omega)⟩

set_option maxHeartbeats 4000000 in
set_option maxRecDepth 100000 in
theorem eachSta_any {D : Nat} {w : World} {a : Option Addr} {n c : Nat} {L : List Sta} (h : XS D w (.slice a n c) L) (hn : L.length = n) (hb : n * 40 ≤ 140737488355328) (hz : ∀ x ∈ L, bzS x) :
    Calls Try.prog 42 #[.slice a n c, .func (.func 43) #[] #[]] w fun e w' => (∃ a' c', e = .returned (.slice a' n c') ∧ Hid (FS w w' (.slice a' n c') L)) ∧ Only Nil w w' := by
  have H := Lib.hid h
  have HN := Lib.hid hn
  have HB := Lib.hid hb
  have HZ := Lib.hid hz
  have hbi : (n : Int) ≤ 140737488355328 := by omega
  have eg := Lib.hid (fun args w => enters_of Try.func43 (by kernel_rfl) rfl args w)
  have eg : ∀ args w, (callFunc 43 args).run Try.prog w = .ok (.enter 43 args) w := eg.out
  clear h hn hb hz
  go_enter Try.func42, Try.ntmps42
  go_wp2
  go_loopw [5, 10] (fun s5 s10 wr => ∃ (i : Nat) (va : Option Addr) (vc : Nat), i ≤ n ∧ s5 = .slice va i vc ∧ s10 = .int .i64 (i : Int) ∧ Hid (FS w wr (.slice va i vc) (L.take i)) ∧ Hid (Only Nil w wr)) (fun _ s10 _ => n - (intOf s10).toNat)
  case atStart => exact ⟨0, none, 0, Nat.zero_le _, rfl, rfl, Lib.hid (FS.nil _ _), Lib.hid (Only.refl _ _)⟩
  case round =>
    obtain ⟨i, va, vc, hi, rfl, rfl, hF, hO⟩ := hrel
    by_cases him : i < n
    · obtain ⟨s1, ⟨q, off, rfl, hlt, hc⟩, g1⟩ := (H.out.keep hO.out (nilS · D)).at_ HN.out i him
      have hil : i < L.length := by rw [HN.out]; exact him
      have HL := Lib.hid (List.getElem?_eq_getElem hil)
      have HM := Lib.hid (HZ.out _ (List.getElem_mem hil))
      have HT := Lib.hid (List.take_succ_eq_append_getElem hil)
      generalize L[i] = x at *
      obtain ⟨a1, c1, rfl⟩ := g1.slice
      have e0 : wr.cell? ⟨q, off + i * 2, none⟩ = some (.string (bs x.name)) := hc 0 (by decide)
      have e1 : wr.cell? ⟨q, off + i * 2 + 1, none⟩ = some (.slice a1 x.rows.length c1) := hc 1 (by decide)
      have hm := HM.out
      have hmi : (x.rows.length : Int) ≤ 140737488355328 := by have hq := hm.1; omega
      generalize hmm : x.rows.length = m at *
      have himi : (i : Int) < (n : Int) := by omega
      have HI := Lib.hid him
      obtain ⟨w2, hw2⟩ : ∃ w2, w2 = wr.alloc (.cells #[.string (bs x.name), .slice a1 m c1] 48) := ⟨_, rfl⟩
      have o2 : Only Nil wr w2 := hw2 ▸ (Only.refl Nil wr).alloc _
      have BX := Lib.hid (show Bx w2 wr.heap.size [.string (bs x.name), .slice a1 m c1] 48 from hw2 ▸ bx_new wr [.string (bs x.name), .slice a1 m c1] _)
      have HC := Lib.hid (copySta_any x (show XR D w2 (.slice a1 m c1) x.rows from g1.keep o2 (nilS · D)) hmm hm)
      have F2 := Lib.hid (FS.keep (t := 30) hF.out o2 (ofT_nil _ _) (by decide) (by decide) (by decide))
      have O2 := Lib.hid (hO.out.trans o2)
      have HS2 := Lib.hid (show w.heap.size ≤ w2.heap.size from O2.out.size)
      have few : (i + 1) * 40 ≤ 140737488355328 := Nat.le_trans (Nat.mul_le_mul_right 40 HI.out) HB.out
      have FEW := Lib.hid few
      have hti : (L.take i).length = i := by rw [List.length_take, HN.out]; omega
      have HTI := Lib.hid hti
      clear hc g1 o2 hF hm him hi few hti hlt
      go_upto_region 5 with (fail)
      rw [← hw2]; clear hw2 e0 e1
      generalize wr.heap.size = B7 at *
      have k0 := BX.out.cell 0 (v := .string (bs x.name)) rfl
      have k1 := BX.out.cell 1 (v := .slice a1 m c1) rfl
      go_wp2_with (first
        | (go_at_fn 43; refine HC.out.mono ?_; rintro e w3 ⟨⟨a', c', rfl, hM⟩, o3⟩; have F3 := FS.keep (t := 30) F2.out o3 (ofT_nil _ _) (by decide) (by decide) (by decide); obtain ⟨a6, c6, w6, hr, F6, o6⟩ := fsta_pushed F3 HTI.out (Nat.le_trans HS2.out o3.size) FEW.out x (.slice a' m c') (hM.out.mono HS2.out); have hr' := Lib.hid hr; have O6 := Lib.hid ((O2.out.trans o3).then o6 (fun g hg hlt => by obtain ⟨Z, _, _, hN, _⟩ := F3; obtain ⟨y, rfl, rfl⟩ := hg; have := hN y.block rfl; omega)); clear hr o6 F3 o3 hM)
        | (at_builtin; refine Lib.wpList_append_run _ rfl (.tmp 14) (.tmp 18) 23 23 rfl _ _ rfl rfl _ _ hr'.out ?_))
      go_roundw
      case rel => exact ⟨i + 1, a6, c6, HI.out, rfl, by go_num, Lib.hid (by rw [HT.out]; exact F6.out), O6⟩
      case measure => have := HI.out; simp [intOf]; omega
    · obtain rfl : n = i := by omega
      have hk0 : ¬ (n : Int) < (n : Int) := by omega
      clear him
      go_wp2
      go_ret
      exact ⟨⟨va, vc, rfl, Lib.hid (by have := hF.out; rw [List.take_of_length_le (by rw [HN.out]; exact Nat.le_refl _)] at this; exact this)⟩, hO.out⟩
end Go.Proofs.Ytimnaiahokafaaa.Ac
