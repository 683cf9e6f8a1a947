/- lex: contracts: word, token, name, number. -/
import Derived.Test.YtnkokonkbklelaaGreatDoorLxM1
import Derived.Lib.AppendZerosOnto
namespace Go.Proofs.YtnkokonkbklelaaGreatDoor.Lx
open Go.RowKit Go.Proofs.YtnkokonkbklelaaGreatDoor Go.Shelf

theorem indexF_any (l : List UInt8) (w : World) : Calls Tryz.prog 66 #[.string (bs l), .func (.func 67) #[] #[]] w fun e w' => e = .returned (.int .i64 (wi l)) ∧ Only Nil w w' := by
  go_enter Tryz.func66, Tryz.ntmps66
  go_wp2_with (go_at_call 92; refine (indexFunc_any l _).mono ?_; rintro e w' ⟨rfl, o⟩)
  go_ret
  exact ⟨rfl, o⟩
theorem take_wn (l : List UInt8) : l.take (wn l) = l.takeWhile isWd := by
  have h := List.takeWhile_prefix (l := l) isWd
  exact (List.prefix_iff_eq_take.1 h).symm
theorem word_any (l : List UInt8) (w : World) : Calls Tryz.prog 40 #[.string (bs l)] w fun e w' => e = .returned (.string (bs (l.takeWhile isWd))) ∧ Only Nil w w' := by
  have hle := wn_le l
  rw [← take_wn]
  have hs : (bs l).size = l.length := bs_size l
  by_cases h : wn l < l.length
  · have H : Hid (wi l = (wn l : Int)) := Lib.hid (if_pos h)
    have hd : decide ((wn l : Int) < 0) = false := by simp
    generalize hn : wn l = n at *
    clear hn
    go_enter Tryz.func40, Tryz.ntmps40
    go_wp2_with (go_at_call 66; refine (indexF_any l _).mono ?_; rintro e w' ⟨rfl, o⟩; rw [H.out])
    go_ret
    refine ⟨?_, o⟩
    simp only [bs_extract]
    rfl
  · have H : Hid (wi l = -1) := Lib.hid (if_neg h)
    have e : l.take (wn l) = l := List.take_of_length_le (by omega)
    rw [e]
    clear e h hle hs
    go_enter Tryz.func40, Tryz.ntmps40
    go_wp2_with (go_at_call 66; refine (indexF_any l _).mono ?_; rintro e w' ⟨rfl, o⟩; rw [H.out])
    go_ret
    exact ⟨rfl, o⟩

/-! ### A token's four cells -/
theorem four_cells {w : World} {b : Nat} {x0 x1 x2 x3 : Value} {t : TypeId} (h : w.heap[b]? = some (.cells #[x0, x1, x2, x3] t (0, 0))) :
    w.cell? ⟨b, 0, none⟩ = some x0 ∧ w.cell? ⟨b, 1, none⟩ = some x1 ∧ w.cell? ⟨b, 2, none⟩ = some x2 ∧ w.cell? ⟨b, 3, none⟩ = some x3 ∧
    w.frozen? ⟨b, 0, none⟩ = false ∧ w.frozen? ⟨b, 1, none⟩ = false ∧ w.frozen? ⟨b, 2, none⟩ = false ∧ w.frozen? ⟨b, 3, none⟩ = false := by
  refine ⟨?_, ?_, ?_, ?_, ?_, ?_, ?_, ?_⟩ <;> simp [World.cell?, World.frozen?, h]
def set4 (w : World) (b : Nat) (a c d e : Value) : World := (((w.setCell ⟨b, 0, none⟩ a).setCell ⟨b, 1, none⟩ c).setCell ⟨b, 2, none⟩ d).setCell ⟨b, 3, none⟩ e
theorem set4_heap {w : World} {b : Nat} {x y z u : Value} {t : TypeId} (h : w.heap[b]? = some (.cells #[x, y, z, u] t (0, 0))) (a c d e : Value) :
    (set4 w b a c d e).heap[b]? = some (.cells #[a, c, d, e] t (0, 0)) := by
  have h1 : (w.setCell ⟨b, 0, none⟩ a).heap[b]? = some (.cells #[a, y, z, u] t (0, 0)) := heap_setCell_self (o := 0) a h
  have h2 : ((w.setCell ⟨b, 0, none⟩ a).setCell ⟨b, 1, none⟩ c).heap[b]? = some (.cells #[a, c, z, u] t (0, 0)) := heap_setCell_self (o := 1) c h1
  have h3 : (((w.setCell ⟨b, 0, none⟩ a).setCell ⟨b, 1, none⟩ c).setCell ⟨b, 2, none⟩ d).heap[b]? = some (.cells #[a, c, d, u] t (0, 0)) := heap_setCell_self (o := 2) d h2
  exact heap_setCell_self (o := 3) e h3
theorem set4_only {w : World} {b : Nat} (a c d e : Value) : Only (fun q => q = b) w (set4 w b a c d e) :=
  ((((Only.refl (fun q => q = b) w).setCell (p := ⟨b, 0, none⟩) rfl _).setCell (p := ⟨b, 1, none⟩) rfl _).setCell (p := ⟨b, 2, none⟩) rfl _).setCell (p := ⟨b, 3, none⟩) rfl _
theorem results_ag1 {P : Program} {fn : Func} {p q : Tmp} {ty te : TypeId} (h : fn.results = #[.cell p ty, .tmp q]) (tmps : Array Value) (w : World) (b : Nat) (cs : List Value) (u : Value)
    (hag : ∀ w, (isAgg ty).run P w = .ok true w) (hsz : ∀ w, (Go.sizeOf ty).run P w = .ok cs.length w) (hp : tmps.getD p undef = .pointer (some ⟨b, 0, none⟩)) (hq : tmps.getD q undef = u) (hc : w.heap[b]? = some (.cells cs.toArray te (0, 0))) :
    (results fn tmps).run P w = .ok (.tuple #[.agg cs.toArray, u]) w := by
  have hp' : tmps[p]?.getD undef = .pointer (some ⟨b, 0, none⟩) := by simpa using hp
  have hq' : tmps[q]?.getD undef = u := by simpa using hq
  have hl := run_loadCells_list (P := P) w ⟨b, 0, none⟩ cs (fun j v hj => by
    have e : (⟨b, 0, none⟩ : Addr).add j = ⟨b, j, none⟩ := by unfold Addr.add; split <;> simp_all
    rw [e, cell_of_row w b j _ _ _ hc]; simpa using hj)
  simp only [results, h]
  simp [Sem.run_bind, Result.andThen, asAddr, loadVar, hag, hsz, hp', hq', hl]
/-- A result's cells in a block of their own. -/
structure Box (w : World) (O : Nat) (wB : World) : Prop where
  only : Only Nil w wB
  old : w.heap.size = O
  heap : wB.heap[O]? = some (.cells #[.int .i64 0, .string ⟨#[]⟩, .int .i64 0, .int .i64 0] 67 (0, 0))
theorem box_new (w : World) : Box w w.heap.size (w.alloc (.cells #[.int .i64 0, .string ⟨#[]⟩, .int .i64 0, .int .i64 0] 67)) :=
  ⟨(Only.refl Nil w).alloc _, rfl, heap_new _ _⟩
theorem Box.lt {w wB : World} {O : Nat} (h : Box w O wB) : O < wB.heap.size := lt_of_block h.heap
theorem Box.keep {w wB w' : World} {O : Nat} (h : Box w O wB) (o : Only Nil wB w') : Box w O w' :=
  ⟨h.only.trans o, h.old, (o.block O h.lt (fun q => q.elim)).trans h.heap⟩
theorem Box.set {w wB : World} {O : Nat} (h : Box w O wB) (a c d e : Value) : Only Nil w (set4 wB O a c d e) :=
  h.only.then (set4_only _ _ _ _) (fun q hq hlt => by have := h.old; omega)

set_option maxHeartbeats 1000000 in
theorem token_any (k n : Int) (l : List UInt8) (w : World) (hl : l.length ≤ 16384) : Calls Tryz.prog 43 #[.int .i64 k, .string (bs l), .int .i64 n] w fun e w' => e = .returned (.agg #[.int .i64 k, .string (bs l), .int .i64 n, .int .i64 0]) ∧ Only Nil w w' := by
  have HB := Lib.hid (box_new w)
  obtain ⟨wB, hwB⟩ : ∃ wB, wB = w.alloc (.cells #[.int .i64 0, .string ⟨#[]⟩, .int .i64 0, .int .i64 0] 67) := ⟨_, rfl⟩
  rw [← hwB] at HB
  generalize hO : w.heap.size = O at HB
  have HO := Lib.hid hO
  clear hO
  go_enter Tryz.func43, Tryz.ntmps43
  go_upto_region 1 with (fail)
  rw [HO.out, ← hwB]; clear hwB
  go_wp2_with (go_at_call 69; refine (sclone_any l _ hl).mono ?_; rintro e w1 ⟨rfl, o⟩; have B1 := Lib.hid (HB.out.keep o); obtain ⟨c0, c1, c2, c3, f0, f1, f2, f3⟩ := four_cells B1.out.heap)
  refine bodyPost_ret (results_agg rfl _ _ O [.int .i64 k, .string (bs l), .int .i64 n, .int .i64 0] Tryz.isAgg67 Tryz.sizeOf67 rfl (set4_heap B1.out.heap _ _ _ _)) rfl ?_
  exact ⟨rfl, B1.out.set _ _ _ _⟩

set_option maxHeartbeats 1000000 in
theorem name_long (l : List UInt8) (w : World) (h : 16 < l.length) (hl : l.length ≤ 16384) : Calls Tryz.prog 39 #[.string (bs l)] w fun e w' => e = .returned (.tuple #[.agg #[.int .i64 0, .string (bs []), .int .i64 0, .int .i64 0], .int .i64 22]) ∧ Only Nil w w' := by
  have HB := Lib.hid (box_new w)
  have hz : (bs l).size = l.length := bs_size l
  obtain ⟨wB, hwB⟩ : ∃ wB, wB = w.alloc (.cells #[.int .i64 0, .string ⟨#[]⟩, .int .i64 0, .int .i64 0] 67) := ⟨_, rfl⟩
  rw [← hwB] at HB
  generalize hO : w.heap.size = O at HB
  have HO := Lib.hid hO
  clear hO
  obtain ⟨c0, c1, c2, c3, f0, f1, f2, f3⟩ := four_cells HB.out.heap
  go_enter Tryz.func39, Tryz.ntmps39
  go_upto_region 1 with (fail)
  rw [HO.out, ← hwB]; clear hwB
  go_wp2
  refine bodyPost_ret (results_ag1 rfl _ _ O [.int .i64 0, .string ⟨#[]⟩, .int .i64 0, .int .i64 0] (.int .i64 22) Tryz.isAgg67 Tryz.sizeOf67 rfl rfl (set4_heap HB.out.heap _ _ _ _)) rfl ?_
  exact ⟨rfl, HB.out.set _ _ _ _⟩
set_option maxHeartbeats 1000000 in
theorem name_short (l : List UInt8) (w : World) (h : l.length ≤ 16) : Calls Tryz.prog 39 #[.string (bs l)] w fun e w' => e = .returned (.tuple #[.agg #[.int .i64 1, .string (bs l), .int .i64 0, .int .i64 0], .int .i64 0]) ∧ Only Nil w w' := by
  have HB := Lib.hid (box_new w)
  have hz : (bs l).size = l.length := bs_size l
  obtain ⟨wB, hwB⟩ : ∃ wB, wB = w.alloc (.cells #[.int .i64 0, .string ⟨#[]⟩, .int .i64 0, .int .i64 0] 67) := ⟨_, rfl⟩
  rw [← hwB] at HB
  generalize hO : w.heap.size = O at HB
  have HO := Lib.hid hO
  clear hO
  go_enter Tryz.func39, Tryz.ntmps39
  go_upto_region 1 with (fail)
  rw [HO.out, ← hwB]; clear hwB
  go_wp2_with (go_at_call 43; refine (token_any 1 0 l _ (by omega)).mono ?_; rintro e w1 ⟨rfl, o⟩; have B1 := Lib.hid (HB.out.keep o); obtain ⟨c0, c1, c2, c3, f0, f1, f2, f3⟩ := four_cells B1.out.heap)
  refine bodyPost_ret (results_ag1 rfl _ _ O [.int .i64 1, .string (bs l), .int .i64 0, .int .i64 0] (.int .i64 0) Tryz.isAgg67 Tryz.sizeOf67 rfl rfl (set4_heap B1.out.heap _ _ _ _)) rfl ?_
  exact ⟨rfl, B1.out.set _ _ _ _⟩

/-- The package variables that the layer's code looks into. -/
structure Env (w : World) : Prop where
  et : w.cell? ⟨0, 0, none⟩ = some (.iface 125 (.agg #[.pointer (some ⟨9, 27, none⟩)]))
  sy : ∃ te pe, w.cell? ⟨4, 0, none⟩ = some (.iface te pe)
  ra : ∃ te pe, w.cell? ⟨5, 0, none⟩ = some (.iface te pe)
theorem cell_lt {w : World} {b o : Nat} {v : Value} (h : w.cell? ⟨b, o, none⟩ = some v) : b < w.heap.size := by
  rcases Nat.lt_or_ge b w.heap.size with hlt | hge
  · exact hlt
  · simp [World.cell?, Array.getElem?_eq_none hge] at h
theorem only_cell {w w' : World} (o : Only Nil w w') {b k : Nat} {v : Value} (h : w.cell? ⟨b, k, none⟩ = some v) : w'.cell? ⟨b, k, none⟩ = some v := by
  have := o.block b (cell_lt h) (fun q => q.elim)
  simp only [World.cell?] at h ⊢
  rw [this]; exact h
theorem Env.keep {w w' : World} (h : Env w) (o : Only Nil w w') : Env w' :=
  ⟨only_cell o h.et, h.sy.elim fun te k => k.elim fun pe e => ⟨te, pe, only_cell o e⟩, h.ra.elim fun te k => k.elim fun pe e => ⟨te, pe, only_cell o e⟩⟩

theorem pu_any (l : List UInt8) (hne : l ≠ []) (w : World) (h : l.all isDi = true ∧ vl 0 l ≤ 65535) (hl : l.length ≤ 16384) : Calls Tryz.prog 68 #[.string (bs l), .int .i64 10, .int .i64 16] w fun e w' => e = .returned (.tuple #[.int .u64 (vl 0 l : Nat), .nilIface]) ∧ Only Nil w w' :=
  (Any.strconv_ParseUint_10_at16_ok Tryz.lp (bs l) (by rw [bs_size]; omega) (vl 0 l) (by rw [bs_list]; unfold Lib.parseUintB; rw [if_neg hne]; exact pu_ok l 0 h.1 h.2) w).mono
    fun _ _ ⟨h1, h2⟩ => ⟨h1, by rcases h2 with rfl | rfl; exact Only.refl _ _; exact Only.ofBelow (Lib.bytesWorld_below _ _ _) _⟩
theorem pu_err (l : List UInt8) (hne : l ≠ []) (w : World) (h : ¬ (l.all isDi = true ∧ vl 0 l ≤ 65535)) (hl : l.length ≤ 16384) (E : Env w) : Calls Tryz.prog 68 #[.string (bs l), .int .i64 10, .int .i64 16] w fun e w' => Hid (∃ u t p, e = .returned (.tuple #[.int .u64 u, .iface t p])) ∧ Only Nil w w' := by
  have hp : Lib.parseUintB 16 (bs l).data.toList = Lib.parseUintM 65535 0 l := by rw [bs_list]; unfold Lib.parseUintB; rw [if_neg hne]
  rcases pu_bad l 0 h (by omega) with h1 | h1
  · obtain ⟨te, pe, hv⟩ := E.sy
    exact (Any.strconv_ParseUint_10_at16_syntax Tryz.lp (bs l) (by rw [bs_size]; omega) (hp.trans h1) _ w hv (Or.inr ⟨te, pe, rfl⟩)).mono fun _ _ ⟨N, he, _, _, hb⟩ => ⟨Lib.hid ⟨_, _, _, he⟩, Only.ofBelow hb _⟩
  · obtain ⟨te, pe, hv⟩ := E.ra
    exact (Any.strconv_ParseUint_10_at16_range Tryz.lp (bs l) (by rw [bs_size]; omega) (hp.trans h1) _ w hv (Or.inr ⟨te, pe, rfl⟩)).mono fun _ _ ⟨N, he, _, _, hb⟩ => ⟨Lib.hid ⟨_, _, _, he⟩, Only.ofBelow hb _⟩
end Go.Proofs.YtnkokonkbklelaaGreatDoor.Lx

/- lex: contracts: number, first. -/
namespace Go.Proofs.YtnkokonkbklelaaGreatDoor.Lx
open Go.RowKit Go.Proofs.YtnkokonkbklelaaGreatDoor Go.Shelf

set_option maxHeartbeats 1000000 in
theorem number_ok (l : List UInt8) (hne : l ≠ []) (w : World) (h : l.all isDi = true ∧ vl 0 l ≤ 65535) (hl : l.length ≤ 16384) : Calls Tryz.prog 42 #[.string (bs l)] w fun e w' => e = .returned (.tuple #[.agg #[.int .i64 2, .string (bs l), .int .i64 (vl 0 l : Nat), .int .i64 0], .int .i64 0]) ∧ Only Nil w w' := by
  have HB := Lib.hid (box_new w)
  obtain ⟨wB, hwB⟩ : ∃ wB, wB = w.alloc (.cells #[.int .i64 0, .string ⟨#[]⟩, .int .i64 0, .int .i64 0] 67) := ⟨_, rfl⟩
  rw [← hwB] at HB
  generalize hO : w.heap.size = O at HB
  have HO := Lib.hid hO
  have hv := h.2
  have HH := Lib.hid (And.intro hne h)
  clear hO hne h
  have P : Hid (∀ w, Calls Tryz.prog 68 #[.string (bs l), .int .i64 10, .int .i64 16] w fun e w' => e = .returned (.tuple #[.int .u64 (vl 0 l : Nat), .nilIface]) ∧ Only Nil w w') := Lib.hid fun w => pu_any l HH.out.1 w HH.out.2 hl
  have T : Hid (∀ w, Calls Tryz.prog 43 #[.int .i64 2, .string (bs l), .int .i64 (vl 0 l : Nat)] w fun e w' => e = .returned (.agg #[.int .i64 2, .string (bs l), .int .i64 (vl 0 l : Nat), .int .i64 0]) ∧ Only Nil w w') := Lib.hid fun w => token_any 2 _ l w hl
  generalize vl 0 l = v at *
  go_enter Tryz.func42, Tryz.ntmps42
  go_upto_region 1 with (fail)
  rw [HO.out, ← hwB]; clear hwB
  go_wp2_with (first
    | (go_at_call 68; refine (P.out _).mono ?_; rintro e w1 ⟨rfl, o1⟩)
    | (go_at_call 43; refine (T.out _).mono ?_; rintro e w2 ⟨rfl, o2⟩; have B1 := Lib.hid ((HB.out.keep o1).keep o2); obtain ⟨c0, c1, c2, c3, f0, f1, f2, f3⟩ := four_cells B1.out.heap))
  refine bodyPost_ret (results_ag1 rfl _ _ O [.int .i64 2, .string (bs l), .int .i64 (v : Nat), .int .i64 0] (.int .i64 0) Tryz.isAgg67 Tryz.sizeOf67 rfl rfl (set4_heap B1.out.heap _ _ _ _)) rfl ?_
  exact ⟨rfl, B1.out.set _ _ _ _⟩
set_option maxHeartbeats 1000000 in
theorem number_bad (l : List UInt8) (hne : l ≠ []) (w : World) (h : ¬ (l.all isDi = true ∧ vl 0 l ≤ 65535)) (hl : l.length ≤ 16384) (E : Env w) : Calls Tryz.prog 42 #[.string (bs l)] w fun e w' => e = .returned (.tuple #[.agg #[.int .i64 0, .string (bs []), .int .i64 0, .int .i64 0], .int .i64 21]) ∧ Only Nil w w' := by
  have HB := Lib.hid (box_new w)
  obtain ⟨wB, hwB⟩ : ∃ wB, wB = w.alloc (.cells #[.int .i64 0, .string ⟨#[]⟩, .int .i64 0, .int .i64 0] 67) := ⟨_, rfl⟩
  rw [← hwB] at HB
  have EB := Lib.hid (E.keep HB.out.only)
  generalize hO : w.heap.size = O at HB
  have HO := Lib.hid hO
  have HH := Lib.hid (And.intro hne h)
  clear hO hne h
  go_enter Tryz.func42, Tryz.ntmps42
  go_upto_region 1 with (fail)
  rw [HO.out, ← hwB]; clear hwB
  go_wp2_with (go_at_call 68; refine (pu_err l HH.out.1 _ HH.out.2 hl EB.out).mono ?_; rintro e w1 ⟨he, o1⟩; obtain ⟨u, t, p, rfl⟩ := he.out; have B1 := Lib.hid (HB.out.keep o1); obtain ⟨c0, c1, c2, c3, f0, f1, f2, f3⟩ := four_cells B1.out.heap)
  refine bodyPost_ret (results_ag1 rfl _ _ O [.int .i64 0, .string ⟨#[]⟩, .int .i64 0, .int .i64 0] (.int .i64 21) Tryz.isAgg67 Tryz.sizeOf67 rfl rfl (set4_heap B1.out.heap _ _ _ _)) rfl ?_
  exact ⟨rfl, B1.out.set _ _ _ _⟩

def tv (t : Tok) (q : Nat) : Value := .agg #[.int .i64 t.k, .string (bs t.w), .int .i64 t.n, .int .i64 q]

theorem isLetter_c (c : UInt8) (w : World) : Calls Tryz.prog 38 #[.int .i32 (c.toNat : Int)] w fun e w' => e = .returned (.bool (isLe c)) ∧ w = w' := by
  have h1 : decide ((97 : Int) ≤ (c.toNat : Int)) = decide (97 ≤ c.toNat) := by simp only [decide_eq_decide]; omega
  have h2 : decide ((c.toNat : Int) ≤ 122) = decide (c.toNat ≤ 122) := by simp only [decide_eq_decide]; omega
  have := isLetter_any (c.toNat : Int) w
  rw [h1, h2] at this
  exact this
theorem isDigit_c (c : UInt8) (w : World) : Calls Tryz.prog 41 #[.int .i32 (c.toNat : Int)] w fun e w' => e = .returned (.bool (isDi c)) ∧ w = w' := by
  have h1 : decide ((48 : Int) ≤ (c.toNat : Int)) = decide (48 ≤ c.toNat) := by simp only [decide_eq_decide]; omega
  have h2 : decide ((c.toNat : Int) ≤ 57) = decide (c.toNat ≤ 57) := by simp only [decide_eq_decide]; omega
  have := isDigit_any (c.toNat : Int) w
  rw [h1, h2] at this
  exact this
theorem bs_zero (c : UInt8) (r : List UInt8) (h : 0 < (bs (c :: r)).size) : (bs (c :: r))[0]'h = c := by rw [bs_get]; rfl

theorem first_byte (c : UInt8) (r : List UInt8) (h : 0 < (bs (c :: r)).size) : wrap32 (((bs (c :: r))[0]'h).toNat : Int) = (c.toNat : Int) := by
  rw [bs_zero]
  have := c.toNat_lt
  unfold wrap32
  omega
/-- What first answers. -/
def Firsts (w : World) (l : List UInt8) (e : Ending) (w' : World) : Prop := e = .returned (.tuple #[tv (tok l).2 0, .int .i64 (tok l).1]) ∧ Only Nil w w'

set_option maxRecDepth 100000 in
set_option maxHeartbeats 1000000 in
theorem first_letter (c : UInt8) (r : List UInt8) (w : World) (h1 : isLe c = true) (k n z : Int) (s : ByteArray)
    (N : ∀ w, Calls Tryz.prog 39 #[.string (bs ((c :: r).takeWhile isWd))] w fun e w' => e = .returned (.tuple #[.agg #[.int .i64 k, .string s, .int .i64 n, .int .i64 0], .int .i64 z]) ∧ Only Nil w w') :
    Calls Tryz.prog 23 #[.string (bs (c :: r))] w fun e w' => e = .returned (.tuple #[.agg #[.int .i64 k, .string s, .int .i64 n, .int .i64 0], .int .i64 z]) ∧ Only Nil w w' := by
  have hz : 0 < (bs (c :: r)).size := by rw [bs_size]; simp
  have NN := Lib.hid N
  clear N
  have HB := Lib.hid (box_new w)
  obtain ⟨wB, hwB⟩ : ∃ wB, wB = w.alloc (.cells #[.int .i64 0, .string ⟨#[]⟩, .int .i64 0, .int .i64 0] 67) := ⟨_, rfl⟩
  rw [← hwB] at HB
  generalize hO : w.heap.size = O at HB
  have HO := Lib.hid hO
  clear hO
  have H1 := Lib.hid h1
  clear h1
  go_enter Tryz.func23, Tryz.ntmps23
  go_upto_region 1 with (fail)
  rw [HO.out, ← hwB]; clear hwB
  go_wp2_with fail
  simp only [first_byte]
  go_wp2_with (first
    | (go_at_call 38; refine (isLetter_c c _).mono ?_; rintro e w1 ⟨rfl, rfl⟩; rw [H1.out])
    | (go_at_call 40; refine (word_any (c :: r) _).mono ?_; rintro e w2 ⟨rfl, o2⟩)
    | (go_at_call 39; refine (NN.out _).mono ?_; rintro e w3 ⟨rfl, o3⟩; have B1 := Lib.hid ((HB.out.keep o2).keep o3); obtain ⟨c0, c1, c2, c3, f0, f1, f2, f3⟩ := four_cells B1.out.heap))
  refine bodyPost_ret (results_ag1 rfl _ _ O [.int .i64 k, .string s, .int .i64 n, .int .i64 0] (.int .i64 z) Tryz.isAgg67 Tryz.sizeOf67 rfl rfl (set4_heap B1.out.heap _ _ _ _)) rfl ?_
  exact ⟨rfl, B1.out.set _ _ _ _⟩
set_option maxRecDepth 100000 in
set_option maxHeartbeats 1000000 in
theorem first_digit (c : UInt8) (r : List UInt8) (w : World) (h1 : isLe c = false) (h2 : isDi c = true) (k n z : Int) (s : ByteArray)
    (E : Env w) (N : ∀ w, Env w → Calls Tryz.prog 42 #[.string (bs ((c :: r).takeWhile isWd))] w fun e w' => e = .returned (.tuple #[.agg #[.int .i64 k, .string s, .int .i64 n, .int .i64 0], .int .i64 z]) ∧ Only Nil w w') :
    Calls Tryz.prog 23 #[.string (bs (c :: r))] w fun e w' => e = .returned (.tuple #[.agg #[.int .i64 k, .string s, .int .i64 n, .int .i64 0], .int .i64 z]) ∧ Only Nil w w' := by
  have hz : 0 < (bs (c :: r)).size := by rw [bs_size]; simp
  have NN := Lib.hid N
  have HE := Lib.hid E
  clear N E
  have HB := Lib.hid (box_new w)
  obtain ⟨wB, hwB⟩ : ∃ wB, wB = w.alloc (.cells #[.int .i64 0, .string ⟨#[]⟩, .int .i64 0, .int .i64 0] 67) := ⟨_, rfl⟩
  rw [← hwB] at HB
  generalize hO : w.heap.size = O at HB
  have HO := Lib.hid hO
  clear hO
  have H1 := Lib.hid h1
  have H2 := Lib.hid h2
  clear h1 h2
  go_enter Tryz.func23, Tryz.ntmps23
  go_upto_region 1 with (fail)
  rw [HO.out, ← hwB]; clear hwB
  go_wp2_with fail
  simp only [first_byte]
  go_wp2_with (first
    | (go_at_call 38; refine (isLetter_c c _).mono ?_; rintro e w1 ⟨rfl, rfl⟩; rw [H1.out])
    | (go_at_call 41; refine (isDigit_c c _).mono ?_; rintro e w1 ⟨rfl, rfl⟩; rw [H2.out])
    | (go_at_call 40; refine (word_any (c :: r) _).mono ?_; rintro e w2 ⟨rfl, o2⟩)
    | (go_at_call 42; refine (NN.out _ ((HE.out.keep HB.out.only).keep o2)).mono ?_; rintro e w3 ⟨rfl, o3⟩; have B1 := Lib.hid ((HB.out.keep o2).keep o3); obtain ⟨c0, c1, c2, c3, f0, f1, f2, f3⟩ := four_cells B1.out.heap))
  refine bodyPost_ret (results_ag1 rfl _ _ O [.int .i64 k, .string s, .int .i64 n, .int .i64 0] (.int .i64 z) Tryz.isAgg67 Tryz.sizeOf67 rfl rfl (set4_heap B1.out.heap _ _ _ _)) rfl ?_
  exact ⟨rfl, B1.out.set _ _ _ _⟩
theorem sg_facts (c : UInt8) : (((c.toNat : Int) == 123) = (c == 123)) ∧ (((c.toNat : Int) == 125) = (c == 125)) ∧ (((c.toNat : Int) == 59) = (c == 59)) := by
  have h : ∀ (d : UInt8) (n : Nat), d.toNat = n → ((c.toNat : Int) == (n : Int)) = (c == d) := by
    intro d n hd
    rw [Bool.eq_iff_iff]
    have : c = d ↔ c.toNat = d.toNat := ⟨fun h => by rw [h], fun h => UInt8.toNat_inj.1 h⟩
    simp [this, hd]
    omega
  exact ⟨h 123 123 rfl, h 125 125 rfl, h 59 59 rfl⟩
set_option maxRecDepth 100000 in
set_option maxHeartbeats 1000000 in
theorem first_sign (c : UInt8) (r : List UInt8) (w : World) (h1 : isLe c = false) (h2 : isDi c = false) (h3 : isSg c = true) :
    Calls Tryz.prog 23 #[.string (bs (c :: r))] w fun e w' => e = .returned (.tuple #[.agg #[.int .i64 3, .string (bs [c]), .int .i64 0, .int .i64 0], .int .i64 0]) ∧ Only Nil w w' := by
  have hz : 0 < (bs (c :: r)).size := by rw [bs_size]; simp
  have HB := Lib.hid (box_new w)
  obtain ⟨wB, hwB⟩ : ∃ wB, wB = w.alloc (.cells #[.int .i64 0, .string ⟨#[]⟩, .int .i64 0, .int .i64 0] 67) := ⟨_, rfl⟩
  rw [← hwB] at HB
  generalize hO : w.heap.size = O at HB
  have HO := Lib.hid hO
  clear hO
  have H1 := Lib.hid h1
  have H2 := Lib.hid h2
  clear h1 h2
  obtain ⟨g1, g2, g3⟩ := sg_facts c
  have hs1 : (bs (c :: r)).size = (c :: r).length := bs_size _
  have hx : (bs (c :: r)).extract 0 1 = bs [c] := by rw [bs_extract]; rfl
  have hsl : ∀ w, (Instr.slice 9 (.string (bs (c :: r))) none (some (.int .i64 1)) none).run Tryz.prog w = .ok (.string (bs [c])) w := by
    intro w
    rw [← hx]
    simp [go_sem, Tryz.underlying9]
    intro h; omega
  clear hs1 hx
  have h3' : (((c.toNat : Int) == 123) = true ∨ ((c.toNat : Int) == 123) = false ∧ ((c.toNat : Int) == 125) = true ∨ ((c.toNat : Int) == 123) = false ∧ ((c.toNat : Int) == 125) = false ∧ ((c.toNat : Int) == 59) = true) := by
    rw [g1, g2, g3]
    unfold isSg at h3
    cases h : (c == 123) <;> cases h' : (c == 125) <;> cases h'' : (c == 59) <;> simp_all
  clear g1 g2 g3 h3
  generalize hcn : (c.toNat : Int) = z at h3'
  have HCN := Lib.hid hcn
  clear hcn
  rcases h3' with k1 | ⟨k1, k2⟩ | ⟨k1, k2, k3⟩
  all_goals
    go_enter Tryz.func23, Tryz.ntmps23
    go_upto_region 1 with (fail)
    rw [HO.out, ← hwB]; clear hwB
    go_wp2_with fail
    simp only [first_byte]
    go_wp2_with (first
      | (go_at_call 38; refine (isLetter_c c _).mono ?_; rintro e w1 ⟨rfl, rfl⟩; rw [H1.out])
      | (go_at_call 41; refine (isDigit_c c _).mono ?_; rintro e w1 ⟨rfl, rfl⟩; rw [H2.out]; rw [HCN.out])
      | (go_at_call 43; refine (token_any 3 0 [c] _ (by simp)).mono ?_; rintro e w3 ⟨rfl, o3⟩; have B1 := Lib.hid (HB.out.keep o3); obtain ⟨c0, c1, c2, c3, f0, f1, f2, f3⟩ := four_cells B1.out.heap))
    refine bodyPost_ret (results_ag1 rfl _ _ O [.int .i64 3, .string (bs [c]), .int .i64 0, .int .i64 0] (.int .i64 0) Tryz.isAgg67 Tryz.sizeOf67 rfl rfl (set4_heap B1.out.heap _ _ _ _)) rfl ?_
    exact ⟨rfl, B1.out.set _ _ _ _⟩
set_option maxRecDepth 100000 in
set_option maxHeartbeats 1000000 in
theorem first_other (c : UInt8) (r : List UInt8) (w : World) (h1 : isLe c = false) (h2 : isDi c = false) (h3 : isSg c = false) :
    Calls Tryz.prog 23 #[.string (bs (c :: r))] w fun e w' => e = .returned (.tuple #[.agg #[.int .i64 0, .string (bs []), .int .i64 0, .int .i64 0], .int .i64 20]) ∧ Only Nil w w' := by
  have hz : 0 < (bs (c :: r)).size := by rw [bs_size]; simp
  have HB := Lib.hid (box_new w)
  obtain ⟨wB, hwB⟩ : ∃ wB, wB = w.alloc (.cells #[.int .i64 0, .string ⟨#[]⟩, .int .i64 0, .int .i64 0] 67) := ⟨_, rfl⟩
  rw [← hwB] at HB
  generalize hO : w.heap.size = O at HB
  have HO := Lib.hid hO
  clear hO
  have H1 := Lib.hid h1
  have H2 := Lib.hid h2
  clear h1 h2
  obtain ⟨g1, g2, g3⟩ := sg_facts c
  have h3' : ((c.toNat : Int) == 123) = false ∧ ((c.toNat : Int) == 125) = false ∧ ((c.toNat : Int) == 59) = false := by
    rw [g1, g2, g3]
    unfold isSg at h3
    cases h : (c == 123) <;> cases h' : (c == 125) <;> cases h'' : (c == 59) <;> simp_all
  clear g1 g2 g3 h3
  generalize hcn : (c.toNat : Int) = z at h3'
  have HCN := Lib.hid hcn
  clear hcn
  obtain ⟨k1, k2, k3⟩ := h3'
  obtain ⟨c0, c1, c2, c3, f0, f1, f2, f3⟩ := four_cells HB.out.heap
  go_enter Tryz.func23, Tryz.ntmps23
  go_upto_region 1 with (fail)
  rw [HO.out, ← hwB]; clear hwB
  go_wp2_with fail
  simp only [first_byte]
  go_wp2_with (first
    | (go_at_call 38; refine (isLetter_c c _).mono ?_; rintro e w1 ⟨rfl, rfl⟩; rw [H1.out])
    | (go_at_call 41; refine (isDigit_c c _).mono ?_; rintro e w1 ⟨rfl, rfl⟩; rw [H2.out]; rw [HCN.out]))
  refine bodyPost_ret (results_ag1 rfl _ _ O [.int .i64 0, .string ⟨#[]⟩, .int .i64 0, .int .i64 0] (.int .i64 20) Tryz.isAgg67 Tryz.sizeOf67 rfl rfl (set4_heap HB.out.heap _ _ _ _)) rfl ?_
  exact ⟨rfl, HB.out.set _ _ _ _⟩
theorem take_pos {c : UInt8} {r : List UInt8} (h : isWd c = true) : (c :: r).takeWhile isWd ≠ [] := by simp [h]
theorem first_any (c : UInt8) (r : List UInt8) (w : World) (hl : (c :: r).length ≤ 16384) (E : Env w) : Calls Tryz.prog 23 #[.string (bs (c :: r))] w (Firsts w (c :: r)) := by
  have hp := (List.takeWhile_prefix (l := c :: r) isWd).length_le
  unfold Firsts
  rw [tok_c]
  cases h1 : isLe c with
  | true =>
    by_cases h16 : 16 < ((c :: r).takeWhile isWd).length
    · rw [if_pos rfl, if_pos h16]
      exact first_letter c r w h1 0 0 22 _ (fun w => name_long _ w h16 (by omega))
    · rw [if_pos rfl, if_neg h16]
      exact first_letter c r w h1 1 0 0 _ (fun w => name_short _ w (by omega))
  | false =>
    rw [if_neg (show ¬ (false = true) by simp)]
    cases h2 : isDi c with
    | true =>
      rw [if_pos rfl]
      have hne := take_pos (r := r) (isWd_of_di h2)
      by_cases h3 : ((c :: r).takeWhile isWd).all isDi = true ∧ vl 0 ((c :: r).takeWhile isWd) ≤ 65535
      · rw [if_pos (by rw [h3.1]; simpa using h3.2)]
        exact first_digit c r w h1 h2 2 _ 0 _ E (fun w _ => number_ok _ hne w h3 (by omega))
      · rw [if_neg (by simpa using h3)]
        exact first_digit c r w h1 h2 0 0 21 _ E (fun w E => number_bad _ hne w h3 (by omega) E)
    | false =>
      rw [if_neg (show ¬ (false = true) by simp)]
      cases h3 : isSg c with
      | true => rw [if_pos rfl]; exact first_sign c r w h1 h2 h3
      | false => rw [if_neg (show ¬ (false = true) by simp)]; exact first_other c r w h1 h2 h3
end Go.Proofs.YtnkokonkbklelaaGreatDoor.Lx

/- lex: rows of tokens, each with its place; lex.All. -/
namespace Go.Proofs.YtnkokonkbklelaaGreatDoor.Lx
open Go.RowKit Go.Proofs.YtnkokonkbklelaaGreatDoor Go.Shelf

/-- A token as cells. -/
def pl (x : Tok × Nat) : List Value := [.int .i64 x.1.k, .string (bs x.1.w), .int .i64 x.1.n, .int .i64 x.2]
def pls (L : List (Tok × Nat)) : List Value := L.flatMap pl
theorem pls_cons (t : Tok × Nat) (L : List (Tok × Nat)) : pls (t :: L) = .int .i64 t.1.k :: .string (bs t.1.w) :: .int .i64 t.1.n :: .int .i64 t.2 :: pls L := rfl
theorem pls_length (L : List (Tok × Nat)) : (pls L).length = L.length * 4 := by
  induction L with
  | nil => rfl
  | cons t L ih => rw [pls_cons]; simp [ih]; omega
theorem pls_append (L M : List (Tok × Nat)) : pls (L ++ M) = pls L ++ pls M := by simp [pls]
theorem pls_one (t : Tok × Nat) : pls [t] = pl t := by simp [pls]
theorem pl_oneCell (t : Tok × Nat) : ∀ v ∈ pl t, v.oneCell' = true := by intro v hv; simp [pl] at hv; rcases hv with rfl | rfl | rfl | rfl <;> rfl
theorem pls_get : ∀ (L : List (Tok × Nat)) (j : Nat), j < L.length → (pls L)[j * 4]? = some (.int .i64 (L.getD j default).1.k) ∧ (pls L)[j * 4 + 1]? = some (.string (bs (L.getD j default).1.w)) ∧
    (pls L)[j * 4 + 2]? = some (.int .i64 (L.getD j default).1.n) ∧ (pls L)[j * 4 + 3]? = some (.int .i64 (L.getD j default).2) := by
  intro L
  induction L with
  | nil => intro j hj; simp at hj
  | cons t L ih =>
    intro j hj
    cases j with
    | zero => rw [pls_cons]; simp
    | succ j =>
      obtain ⟨a, b, c, d⟩ := ih j (by simp at hj; omega)
      have e : (j + 1) * 4 = j * 4 + 4 := by omega
      rw [pls_cons, e]
      refine ⟨?_, ?_, ?_, ?_⟩
      · simpa using a
      · simpa [Nat.add_right_comm] using b
      · simpa [Nat.add_right_comm] using c
      · simpa [Nat.add_right_comm] using d

/-- The slice at a, of the tokens X. -/
def RIn (w : World) (a : Option Addr) (X : List (Tok × Nat)) : Prop :=
  ∀ i, i < X.length → ∃ b, a = some ⟨b, 0, none⟩ ∧ b < w.heap.size ∧ ∀ j, j < X.length →
    w.cell? ⟨b, j * 4, none⟩ = some (.int .i64 (X.getD j default).1.k) ∧ w.cell? ⟨b, j * 4 + 1, none⟩ = some (.string (bs (X.getD j default).1.w)) ∧
    w.cell? ⟨b, j * 4 + 2, none⟩ = some (.int .i64 (X.getD j default).1.n) ∧ w.cell? ⟨b, j * 4 + 3, none⟩ = some (.int .i64 (X.getD j default).2)
theorem RIn.keep {w w' : World} {a : Option Addr} {X : List (Tok × Nat)} (h : RIn w a X) (o : Only Nil w w') : RIn w' a X := by
  intro i hi
  obtain ⟨g, ha, hlt, hc⟩ := h i hi
  refine ⟨g, ha, Nat.lt_of_lt_of_le hlt o.size, fun j hj => ?_⟩
  obtain ⟨c1, c2, c3, c4⟩ := hc j hj
  exact ⟨only_cell o c1, only_cell o c2, only_cell o c3, only_cell o c4⟩
theorem own_rin {w : World} {base : Nat} {a : Option Addr} {n c : Nat} {X : List (Tok × Nat)} (h : w.ownsRow base 67 4 (.slice a n c) n (pls X)) : RIn w a X := by
  have hl : X.length = n := by have := h.1; rw [pls_length] at this; omega
  subst hl
  intro i hi
  rcases h.2 with ⟨_, h0⟩ | ⟨g, c', cur, hv, _, hg, _⟩
  · omega
  · simp only [Value.slice.injEq] at hv
    obtain ⟨rfl, _, rfl⟩ := hv
    refine ⟨g, rfl, lt_of_block hg, fun j hj => ?_⟩
    have e := pls_get X j hj
    exact ⟨by rw [h.cellAt _ (by omega)]; exact e.1, by rw [h.cellAt _ (by omega)]; exact e.2.1, by rw [h.cellAt _ (by omega)]; exact e.2.2.1, by rw [h.cellAt _ (by omega)]; exact e.2.2.2⟩

theorem Tryz.infoPl : (Tryz.prog.info? 67).map (fun i => (i.zero, i.size, i.bytes)) = some (some (.agg #[.int .i64 0, .string ⟨#[]⟩, .int .i64 0, .int .i64 0]), 4, 40) := by kernel_rfl

/-- In world w' there is a new row v' of the tokens X; nothing that there was in w has turned. -/
structure Rs (w w' : World) (v' : Value) (X : List (Tok × Nat)) : Prop where
  row : w'.ownsRow 0 67 4 v' X.length (pls X)
  fr : ∀ g, v'.ownBlock = some g → w.heap.size ≤ g
  only : Only Nil w w'
theorem rs_none {w w' : World} (o : Only Nil w w') : Rs w w' (.slice none 0 0) [] :=
  ⟨⟨rfl, .inl ⟨rfl, rfl⟩⟩, fun g h => by simp [Value.ownBlock] at h, o⟩
theorem Rs.more {w w' w'' : World} {v' : Value} {X : List (Tok × Nat)} (h : Rs w w' v' X) (o : Only Nil w' w'') : Rs w w'' v' X := ⟨own_keep h.row o (fun _ _ h => h), h.fr, h.only.trans o⟩
theorem Rs.rin {w w' : World} {a : Option Addr} {n c : Nat} {X : List (Tok × Nat)} (h : Rs w w' (.slice a n c) X) (hn : X.length = n) : RIn w' a X := by
  subst hn; exact own_rin h.row
/-- What turned is new. -/
theorem Rs.push {w0 w : World} {a : Option Addr} {c n : Nat} {X : List (Tok × Nat)} (h : Rs w0 w (.slice a n c) X) (hn : X.length = n) (m : Tok × Nat) (few : n ≤ 65000) (cs : Array Value) (hcs : cs = #[.int .i64 m.1.k, .string (bs m.1.w), .int .i64 m.1.n, .int .i64 m.2]) :
    ∃ a' c' w5, (Builtin.append_ #[51, 51] 51 #[.slice a n c, .slice (some ⟨w.heap.size, 0, none⟩) 1 1]).run Tryz.prog (w.alloc (.cells cs 67)) = .ok (.slice a' (n + 1) c') w5 ∧
      Hid (Rs w0 w5 (.slice a' (n + 1) c') (X ++ [m])) ∧ ∀ g, g < w.heap.size → (Value.slice a n c).ownBlock ≠ some g → w5.heap[g]? = w.heap[g]? := by
  subst hcs
  subst hn
  have oA : Only Nil w (w.alloc (.cells #[.int .i64 m.1.k, .string (bs m.1.w), .int .i64 m.1.n, .int .i64 m.2] 67)) := (Only.refl Nil w).alloc _
  obtain ⟨a', c', w5, hr, ho, hon, hsn⟩ := run_append_end (P := Tryz.prog) (w := w.alloc (.cells #[.int .i64 m.1.k, .string (bs m.1.w), .int .i64 m.1.n, .int .i64 m.2] 67)) (t := 51) (ty := 51) (e := 67) (size := 4) (bytes := 40) Tryz.underlying51 Tryz.infoPl rfl (own_keep h.row oA (fun _ _ h => h)) ⟨w.heap.size, 0, none⟩ [.int .i64 m.1.k, .string (bs m.1.w), .int .i64 m.1.n, .int .i64 m.2] rfl (pl_oneCell m)
    (fun j u hj => by
      rw [add_lit0, cell_of_row _ w.heap.size _ _ _ _ (heap_new w (.cells #[.int .i64 m.1.k, .string (bs m.1.w), .int .i64 m.1.n, .int .i64 m.2] 67)), Nat.zero_add]
      simpa using hj) (by omega) (by decide)
  have hrow : ∀ q, RowOf a q → some q = (Value.slice a X.length c).ownBlock := by rintro q ⟨x, rfl, rfl⟩; rfl
  refine ⟨a', c', w5, hr, Lib.hid ⟨?_, fun g hg => ?_, ?_⟩, fun g hg hne => (hon.block g (Nat.lt_of_lt_of_le hg oA.size) (fun q => hne (hrow g q).symm)).trans (oA.block g hg (fun q => q.elim))⟩
  · rw [List.length_append, pls_append, pls_one]
    exact ho
  · cases a' with
    | none => simp [Value.ownBlock] at hg
    | some x =>
      have hg' : x.block = g := by simpa [Value.ownBlock] using hg
      have hs := h.only.size
      have hs2 := oA.size
      rcases hsn x rfl with ⟨y, hy, e⟩ | e
      · have h1 := h.fr y.block (by rw [hy]; rfl)
        omega
      · omega
  · refine (h.only.trans oA).then hon (fun q hq hlt => ?_)
    have h1 := h.fr q (hrow q hq).symm
    omega
theorem Rs.old {w0 w : World} {v : Value} {X : List (Tok × Nat)} (h : Rs w0 w v X) {g : Nat} (hg : v.ownBlock = some g) : g < w.heap.size := by
  rcases h.row.2 with ⟨rfl, _⟩ | ⟨b, c, cur, rfl, _, hb, _⟩
  · simp [Value.ownBlock] at hg
  · have : b = g := by simpa [Value.ownBlock] using hg
    subst this
    exact lt_of_block hb
end Go.Proofs.YtnkokonkbklelaaGreatDoor.Lx

/- lex: lex.All. -/
namespace Go.Proofs.YtnkokonkbklelaaGreatDoor.Lx
open Go.RowKit Go.Proofs.YtnkokonkbklelaaGreatDoor Go.Shelf

theorem first_tok (c : UInt8) (r : List UInt8) (z : Nat) (t : Tok) (ht : tok (c :: r) = (z, t)) (w : World) (hl : (c :: r).length ≤ 16384) (E : Env w) : Calls Tryz.prog 23 #[.string (bs (c :: r))] w fun e w' =>
    e = .returned (.tuple #[.agg #[.int .i64 t.k, .string (bs t.w), .int .i64 t.n, .int .i64 0], .int .i64 z]) ∧ Only Nil w w' :=
  (first_any c r w hl E).mono fun e w' ⟨h1, h2⟩ => ⟨by rw [h1, ht]; rfl, h2⟩

theorem bs_toList (l : List UInt8) : (bs l).toList = l := by rw [ByteArray.toList_eq, bs_list]
theorem not_empty (c : UInt8) (r : List UInt8) : (!(bs (c :: r)).toList.isEmpty) = true := by rw [bs_toList]; rfl
/-- What lex.All answers. -/
inductive AllPost (w : World) (l : List UInt8) (e : Ending) (w' : World) : Prop
  | ok (a : Option Addr) (n c : Nat) : (whole l).2.1 = 0 → (whole l).1.length = n → e = .returned (.tuple #[.slice a n c, .nilIface]) → Rs w w' (.slice a n c) (whole l).1 → AllPost w l e w'
  | bad (b : Nat) : (whole l).2.1 ≠ 0 → e = .returned (.tuple #[.slice none 0 0, .iface 54 (.pointer (some ⟨b, 0, none⟩))]) → w.heap.size ≤ b →
      w'.heap[b]? = some (.cells #[.int .i64 (whole l).2.1, .int .i64 (whole l).2.2] 70 (0, 0)) → Only Nil w w' → AllPost w l e w'

set_option maxRecDepth 100000 in
set_option maxHeartbeats 1000000 in
theorem all_long (l : List UInt8) (w : World) (h : 16384 < l.length) (hl : l.length ≤ 140737488355328) : Calls Tryz.prog 11 #[.string (bs l)] w (AllPost w l) := by
  have e : whole l = ([], 5, 0) := if_pos h
  have hz : (bs l).size = l.length := bs_size l
  have HE := Lib.hid e
  clear e
  go_enter Tryz.func11, Tryz.ntmps11
  go_wp2
  go_ret2
  exact .bad w.heap.size (by rw [HE.out]; decide) rfl (Nat.le_refl _) (by rw [HE.out]; exact heap_new _ _) ((Only.refl _ _).alloc _)

theorem pushed {w wr w2 : World} {a : Option Addr} {n c : Nat} {X : List (Tok × Nat)} (h : Rs w wr (.slice a n c) X) (o : Only Nil wr w2) (hn : X.length = n) (t : Tok) (q : Nat) (few : n ≤ 65000) :
    ∃ a' c' w5, (Builtin.append_ #[51, 51] 51 #[.slice a n c, .slice (some ⟨w2.heap.size + 1, 0, none⟩) 1 1]).run Tryz.prog
      ((w2.alloc (.cells #[.int .i64 t.k, .string (bs t.w), .int .i64 t.n, .int .i64 q] 67)).alloc (.cells #[.int .i64 t.k, .string (bs t.w), .int .i64 t.n, .int .i64 q] 67)) = .ok (.slice a' (n + 1) c') w5 ∧
      Hid (Rs w w5 (.slice a' (n + 1) c') (X ++ [(t, q)])) ∧ w5.cell? ⟨w2.heap.size, 1, none⟩ = some (.string (bs t.w)) := by
  obtain ⟨a', c', w5, hr, hR, hf⟩ := ((h.more o).more ((Only.refl Nil w2).alloc (.cells #[.int .i64 t.k, .string (bs t.w), .int .i64 t.n, .int .i64 q] 67))).push hn (t, q) few _ rfl
  refine ⟨a', c', w5, ?_, hR, ?_⟩
  · rw [show (w2.alloc (.cells #[.int .i64 t.k, .string (bs t.w), .int .i64 t.n, .int .i64 q] 67)).heap.size = w2.heap.size + 1 by simp] at hr
    exact hr
  · have h1 := hf w2.heap.size (by simp) (fun e => by have := (h.more o).old e; omega)
    have h2 : (w2.alloc (.cells #[.int .i64 t.k, .string (bs t.w), .int .i64 t.n, .int .i64 q] 67)).heap[w2.heap.size]? = some (.cells #[.int .i64 t.k, .string (bs t.w), .int .i64 t.n, .int .i64 q] 67 (0, 0)) := heap_new _ _
    rw [h2] at h1
    simp [World.cell?, h1]

set_option maxRecDepth 100000 in
set_option maxHeartbeats 2000000 in
theorem all_short (l : List UInt8) (w : World) (h : l.length ≤ 16384) (E : Env w) : Calls Tryz.prog 11 #[.string (bs l)] w (AllPost w l) := by
  have e : whole l = LX l.length l := if_neg (by omega)
  have hz : (bs l).size = l.length := bs_size l
  have HE := Lib.hid e
  have EV := Lib.hid E
  clear e E
  go_enter Tryz.func11, Tryz.ntmps11
  go_wp2_with (go_at_call 22; refine (skip_any l _ h).mono ?_; rintro e w1 ⟨rfl, o1⟩)
  go_loopw [4, 5] (fun s4 s5 wr => ∃ (m : List UInt8) (X : List (Tok × Nat)) (a : Option Addr) (n c : Nat), s4 = .slice a n c ∧ s5 = .string (bs m) ∧ X.length = n ∧ n + m.length ≤ l.length ∧ sk false m = m ∧
      Hid (LX l.length l = (X ++ (LX l.length m).1, (LX l.length m).2)) ∧ Rs w wr (.slice a n c) X) (fun _ s5 _ => strLen s5)
  case atStart =>
    refine ⟨sk false l, [], none, 0, 0, rfl, rfl, rfl, ?_, sk_idem _ _, Lib.hid ?_, rs_none o1⟩
    · have := sk_le false l; omega
    · rw [List.nil_append]
      exact LX_sk _ _ _ (sk_idem _ _).symm
  case round =>
    obtain ⟨m, X, a, n, c, rfl, rfl, hn, hm, hsk, hX, hR⟩ := hrel
    have HN := Lib.hid hn
    have HS := Lib.hid hsk
    have HR := Lib.hid hR
    clear hn hsk hR
    cases m with
    | nil =>
      have hne : (!(bs []).toList.isEmpty) = false := by rw [bs_toList]; rfl
      go_wp2
      go_ret2
      have e1 : LX l.length [] = ([], 0, 0) := LX_nil rfl
      have e2 : whole l = (X, 0, 0) := by rw [HE.out, hX.out, e1, List.append_nil]
      exact .ok a n c (by rw [e2]) (by rw [e2]; exact HN.out) rfl (by rw [e2]; exact HR.out)
    | cons ch r =>
      have hne : (!(bs (ch :: r)).toList.isEmpty) = true := not_empty _ _
      have hm' : n + (r.length + 1) ≤ l.length := by simpa using hm
      have hml : (ch :: r).length ≤ 16384 := by simp; omega
      obtain ⟨q, hq⟩ : ∃ q : Nat, (l.length : Int) - ((r.length : Int) + 1) = q := ⟨l.length - (r.length + 1), by omega⟩
      have hq0 : (q : Int) ≤ 16384 := by omega
      have HQ := Lib.hid hq
      have HM := Lib.hid hm
      have HL := Lib.hid hml
      clear hm hml
      obtain ⟨z, t, ht⟩ : ∃ z t, tok (ch :: r) = (z, t) := ⟨_, _, rfl⟩
      have HT := Lib.hid ht
      clear ht
      by_cases h0 : z = 0
      · subst h0
        have hlen : t.w.length ≤ r.length + 1 := by
          have := (tok_pos (l := ch :: r) (by rw [HT.out])).2.length_le
          rw [HT.out] at this
          simpa using this
        have hcap : t.w.length ≤ 16384 := by omega
        go_wp2_with (first
          | (go_at_call 23; refine (first_tok ch r 0 t HT.out _ HL.out (EV.out.keep HR.out.only)).mono ?_; rintro e w2 ⟨rfl, o2⟩; obtain ⟨a', c', w5, hr, hR5, hc5⟩ := pushed HR.out o2 HN.out t q (by omega); have hr' := Lib.hid hr; clear hr)
          | (at_builtin; refine Lib.wpList_append_run _ rfl (.tmp 38) (.tmp 40) 51 51 rfl _ _ rfl rfl _ _ hr'.out ?_))
        simp only [bs_extract]
        rw [show ((ch :: r).take (r.length + 1)) = ch :: r from List.take_of_length_le (by simp)]
        go_wp2_with (go_at_call 22; refine (skip_any ((ch :: r).drop t.w.length) _ (by simp; omega)).mono ?_; rintro e w6 ⟨rfl, o6⟩)
        have hsz := sk_le false ((ch :: r).drop t.w.length)
        have hpos := (tok_pos (l := ch :: r) (by rw [HT.out])).1
        rw [HT.out] at hpos
        have hsz' : (sk false ((ch :: r).drop t.w.length)).length < r.length + 1 := by
          simp at hsz hpos; omega
        go_roundw
        case rel =>
          refine ⟨_, X ++ [(t, q)], a', n + 1, c', rfl, rfl, ?_, by omega, sk_idem _ _, Lib.hid ?_, hR5.out.more o6⟩
          · rw [List.length_append, HN.out]; rfl
          · have e1 := LX_tok (N := l.length) HS.out (by rw [HT.out])
            rw [HT.out] at e1
            have e2 : l.length - (r.length + 1) = q := by have := HQ.out; omega
            rw [hX.out, e1, e2, LX_sk l.length (sk false ((ch :: r).drop t.w.length)) ((ch :: r).drop t.w.length) (sk_idem _ _), List.append_assoc]
            rfl
        case measure =>
          show (bs _).size < (bs (ch :: r)).size
          rw [bs_size, bs_size]; simpa using hsz'
      · have hzc : ((z : Int) != 0) = true := by simpa using h0
        have H0 := Lib.hid h0
        clear h0
        go_wp2_with (go_at_call 23; refine (first_tok ch r z t HT.out _ HL.out (EV.out.keep HR.out.only)).mono ?_; rintro e w2 ⟨rfl, o2⟩)
        go_ret2
        have e1 := LX_bad (N := l.length) HS.out (by rw [HT.out]; exact H0.out)
        rw [HT.out] at e1
        have e2 : l.length - (r.length + 1) = q := by have := HQ.out; omega
        have e3 : whole l = (X, z, q) := by rw [HE.out, hX.out, e1, e2, List.append_nil]
        have o5 := HR.out.only.trans o2
        have hs5 := o5.size
        refine .bad (w2.heap.size + 1) (by rw [e3]; exact H0.out) rfl (by omega) ?_ ((o5.alloc _).alloc _)
        rw [e3]
        have := heap_new (w2.alloc (.cells #[.int .i64 t.k, .string (bs t.w), .int .i64 t.n, .int .i64 0] 67)) (.cells #[.int .i64 z, .int .i64 q] 70)
        rw [show (w2.alloc (.cells #[.int .i64 t.k, .string (bs t.w), .int .i64 t.n, .int .i64 0] 67)).heap.size = w2.heap.size + 1 by simp] at this
        exact this
end Go.Proofs.YtnkokonkbklelaaGreatDoor.Lx
