/- lex: contracts: word, token, name, number. -/
import Derived.Test.YtbicanlipgpioaaGreatDoorLxE
namespace Go.Proofs.YtbicanlipgpioaaGreatDoor.Lx
open Go.RowKit Go.Proofs.YtbicanlipgpioaaGreatDoor Go.Shelf

theorem indexF_any (l : List UInt8) (w : World) : Calls Tryz.prog 28 #[.string (bs l), .func (.func 29) #[] #[]] w fun e w' => e = .returned (.int .i64 (wi l)) ∧ Only Nil w w' := by
  go_enter Tryz.func28, Tryz.ntmps28
  go_wp2_with (go_at_call 42; refine (indexFunc_any l _).mono ?_; rintro e w' ⟨rfl, o⟩)
  go_ret
  exact ⟨rfl, o⟩
theorem take_wn (l : List UInt8) : l.take (wn l) = l.takeWhile isWd := by
  have h := List.takeWhile_prefix (l := l) isWd
  exact (List.prefix_iff_eq_take.1 h).symm
theorem word_any (l : List UInt8) (w : World) : Calls Tryz.prog 18 #[.string (bs l)] w fun e w' => e = .returned (.string (bs (l.takeWhile isWd))) ∧ Only Nil w w' := by
  have hle := wn_le l
  rw [← take_wn]
  have hs : (bs l).size = l.length := bs_size l
  by_cases h : wn l < l.length
  · have H : Hid (wi l = (wn l : Int)) := Lib.hid (if_pos h)
    have hd : decide ((wn l : Int) < 0) = false := by simp
    generalize hn : wn l = n at *
    clear hn
    go_enter Tryz.func18, Tryz.ntmps18
    go_wp2_with (go_at_call 28; refine (indexF_any l _).mono ?_; rintro e w' ⟨rfl, o⟩; rw [H.out])
    go_ret
    refine ⟨?_, o⟩
    simp only [bs_extract]
    rfl
  · have H : Hid (wi l = -1) := Lib.hid (if_neg h)
    have e : l.take (wn l) = l := List.take_of_length_le (by omega)
    rw [e]
    clear e h hle hs
    go_enter Tryz.func18, Tryz.ntmps18
    go_wp2_with (go_at_call 28; refine (indexF_any l _).mono ?_; rintro e w' ⟨rfl, o⟩; rw [H.out])
    go_ret
    exact ⟨rfl, o⟩

/-! ### A token's four cells -/
theorem four_cells {w : World} {b : Nat} {x0 x1 x2 x3 : Value} {t : TypeId} (h : w.heap[b]? = some (.cells #[x0, x1, x2, x3] t (0, 0))) :
    w.cell? ⟨b, 0, none⟩ = some x0 ∧ w.cell? ⟨b, 1, none⟩ = some x1 ∧ w.cell? ⟨b, 2, none⟩ = some x2 ∧ w.cell? ⟨b, 3, none⟩ = some x3 ∧
    w.frozen? ⟨b, 0, none⟩ = false ∧ w.frozen? ⟨b, 1, none⟩ = false ∧ w.frozen? ⟨b, 2, none⟩ = false ∧ w.frozen? ⟨b, 3, none⟩ = false := by
  refine ⟨?_, ?_, ?_, ?_, ?_, ?_, ?_, ?_⟩ <;> simp [World.cell?, World.frozen?, h]
def set4 (w : World) (b : Nat) (a c d e : Value) : World := (((w.setCell ⟨b, 0, none⟩ a).setCell ⟨b, 1, none⟩ c).setCell ⟨b, 2, none⟩ d).setCell ⟨b, 3, none⟩ e
theorem set4_heap {w : World} {b : Nat} {x y z u : Value} {t : TypeId} (h : w.heap[b]? = some (.cells #[x, y, z, u] t (0, 0))) (a c d e : Value) :
    (set4 w b a c d e).heap[b]? = some (.cells #[a, c, d, e] t (0, 0)) := by
  have h1 : (w.setCell ⟨b, 0, none⟩ a).heap[b]? = some (.cells #[a, y, z, u] t (0, 0)) := heap_setCell_self (o := 0) a h
  have h2 : ((w.setCell ⟨b, 0, none⟩ a).setCell ⟨b, 1, none⟩ c).heap[b]? = some (.cells #[a, c, z, u] t (0, 0)) := heap_setCell_self (o := 1) c h1
  have h3 : (((w.setCell ⟨b, 0, none⟩ a).setCell ⟨b, 1, none⟩ c).setCell ⟨b, 2, none⟩ d).heap[b]? = some (.cells #[a, c, d, u] t (0, 0)) := heap_setCell_self (o := 2) d h2
  exact heap_setCell_self (o := 3) e h3
theorem set4_only {w : World} {b : Nat} (a c d e : Value) : Only (fun q => q = b) w (set4 w b a c d e) :=
  ((((Only.refl (fun q => q = b) w).setCell (p := ⟨b, 0, none⟩) rfl _).setCell (p := ⟨b, 1, none⟩) rfl _).setCell (p := ⟨b, 2, none⟩) rfl _).setCell (p := ⟨b, 3, none⟩) rfl _
theorem results_ag1 {P : Program} {fn : Func} {p q : Tmp} {ty te : TypeId} (h : fn.results = #[.cell p ty, .tmp q]) (tmps : Array Value) (w : World) (b : Nat) (cs : List Value) (u : Value)
    (hag : ∀ w, (isAgg ty).run P w = .ok true w) (hsz : ∀ w, (Go.sizeOf ty).run P w = .ok cs.length w) (hp : tmps.getD p undef = .pointer (some ⟨b, 0, none⟩)) (hq : tmps.getD q undef = u) (hc : w.heap[b]? = some (.cells cs.toArray te (0, 0))) :
    (results fn tmps).run P w = .ok (.tuple #[.agg cs.toArray, u]) w := by
  have hp' : tmps[p]?.getD undef = .pointer (some ⟨b, 0, none⟩) := by simpa using hp
  have hq' : tmps[q]?.getD undef = u := by simpa using hq
  have hl := run_loadCells_list (P := P) w ⟨b, 0, none⟩ cs (fun j v hj => by
    have e : (⟨b, 0, none⟩ : Addr).add j = ⟨b, j, none⟩ := by unfold Addr.add; split <;> simp_all
    rw [e, cell_of_row w b j _ _ _ hc]; simpa using hj)
  simp only [results, h]
  simp [Sem.run_bind, Result.andThen, asAddr, loadVar, hag, hsz, hp', hq', hl]
/-- A result's cells in a block of their own. -/
structure Box (w : World) (O : Nat) (wB : World) : Prop where
  only : Only Nil w wB
  old : w.heap.size = O
  heap : wB.heap[O]? = some (.cells #[.int .i64 0, .string ⟨#[]⟩, .int .i64 0, .int .i64 0] 36 (0, 0))
theorem box_new (w : World) : Box w w.heap.size (w.alloc (.cells #[.int .i64 0, .string ⟨#[]⟩, .int .i64 0, .int .i64 0] 36)) :=
  ⟨(Only.refl Nil w).alloc _, rfl, heap_new _ _⟩
theorem Box.lt {w wB : World} {O : Nat} (h : Box w O wB) : O < wB.heap.size := lt_of_block h.heap
theorem Box.keep {w wB w' : World} {O : Nat} (h : Box w O wB) (o : Only Nil wB w') : Box w O w' :=
  ⟨h.only.trans o, h.old, (o.block O h.lt (fun q => q.elim)).trans h.heap⟩
theorem Box.set {w wB : World} {O : Nat} (h : Box w O wB) (a c d e : Value) : Only Nil w (set4 wB O a c d e) :=
  h.only.then (set4_only _ _ _ _) (fun q hq hlt => by have := h.old; omega)

set_option maxHeartbeats 1000000 in
theorem token_any (k n : Int) (l : List UInt8) (w : World) (hl : l.length ≤ 16384) : Calls Tryz.prog 25 #[.int .i64 k, .string (bs l), .int .i64 n] w fun e w' => e = .returned (.agg #[.int .i64 k, .string (bs l), .int .i64 n, .int .i64 0]) ∧ Only Nil w w' := by
  have HB := Lib.hid (box_new w)
  obtain ⟨wB, hwB⟩ : ∃ wB, wB = w.alloc (.cells #[.int .i64 0, .string ⟨#[]⟩, .int .i64 0, .int .i64 0] 36) := ⟨_, rfl⟩
  rw [← hwB] at HB
  generalize hO : w.heap.size = O at HB
  have HO := Lib.hid hO
  clear hO
  go_enter Tryz.func25, Tryz.ntmps25
  go_upto_region 1 with (fail)
  rw [HO.out, ← hwB]; clear hwB
  go_wp2_with (go_at_call 37; refine (sclone_any l _ hl).mono ?_; rintro e w1 ⟨rfl, o⟩; have B1 := Lib.hid (HB.out.keep o); obtain ⟨c0, c1, c2, c3, f0, f1, f2, f3⟩ := four_cells B1.out.heap)
  refine bodyPost_ret (results_agg rfl _ _ O [.int .i64 k, .string (bs l), .int .i64 n, .int .i64 0] Tryz.isAgg36 Tryz.sizeOf36 rfl (set4_heap B1.out.heap _ _ _ _)) rfl ?_
  exact ⟨rfl, B1.out.set _ _ _ _⟩

set_option maxHeartbeats 1000000 in
theorem name_long (l : List UInt8) (w : World) (h : 16 < l.length) (hl : l.length ≤ 16384) : Calls Tryz.prog 22 #[.string (bs l)] w fun e w' => e = .returned (.tuple #[.agg #[.int .i64 0, .string (bs []), .int .i64 0, .int .i64 0], .int .i64 22]) ∧ Only Nil w w' := by
  have HB := Lib.hid (box_new w)
  have hz : (bs l).size = l.length := bs_size l
  obtain ⟨wB, hwB⟩ : ∃ wB, wB = w.alloc (.cells #[.int .i64 0, .string ⟨#[]⟩, .int .i64 0, .int .i64 0] 36) := ⟨_, rfl⟩
  rw [← hwB] at HB
  generalize hO : w.heap.size = O at HB
  have HO := Lib.hid hO
  clear hO
  obtain ⟨c0, c1, c2, c3, f0, f1, f2, f3⟩ := four_cells HB.out.heap
  go_enter Tryz.func22, Tryz.ntmps22
  go_upto_region 1 with (fail)
  rw [HO.out, ← hwB]; clear hwB
  go_wp2
  refine bodyPost_ret (results_ag1 rfl _ _ O [.int .i64 0, .string ⟨#[]⟩, .int .i64 0, .int .i64 0] (.int .i64 22) Tryz.isAgg36 Tryz.sizeOf36 rfl rfl (set4_heap HB.out.heap _ _ _ _)) rfl ?_
  exact ⟨rfl, HB.out.set _ _ _ _⟩
set_option maxHeartbeats 1000000 in
theorem name_short (l : List UInt8) (w : World) (h : l.length ≤ 16) : Calls Tryz.prog 22 #[.string (bs l)] w fun e w' => e = .returned (.tuple #[.agg #[.int .i64 1, .string (bs l), .int .i64 0, .int .i64 0], .int .i64 0]) ∧ Only Nil w w' := by
  have HB := Lib.hid (box_new w)
  have hz : (bs l).size = l.length := bs_size l
  obtain ⟨wB, hwB⟩ : ∃ wB, wB = w.alloc (.cells #[.int .i64 0, .string ⟨#[]⟩, .int .i64 0, .int .i64 0] 36) := ⟨_, rfl⟩
  rw [← hwB] at HB
  generalize hO : w.heap.size = O at HB
  have HO := Lib.hid hO
  clear hO
  go_enter Tryz.func22, Tryz.ntmps22
  go_upto_region 1 with (fail)
  rw [HO.out, ← hwB]; clear hwB
  go_wp2_with (go_at_call 25; refine (token_any 1 0 l _ (by omega)).mono ?_; rintro e w1 ⟨rfl, o⟩; have B1 := Lib.hid (HB.out.keep o); obtain ⟨c0, c1, c2, c3, f0, f1, f2, f3⟩ := four_cells B1.out.heap)
  refine bodyPost_ret (results_ag1 rfl _ _ O [.int .i64 1, .string (bs l), .int .i64 0, .int .i64 0] (.int .i64 0) Tryz.isAgg36 Tryz.sizeOf36 rfl rfl (set4_heap B1.out.heap _ _ _ _)) rfl ?_
  exact ⟨rfl, B1.out.set _ _ _ _⟩

/-- The package variables that the layer's code looks into. -/
structure Env (w : World) : Prop where
  et : w.cell? ⟨0, 0, none⟩ = some (.iface 84 (.agg #[.pointer (some ⟨9, 25, none⟩)]))
  sy : ∃ te pe, w.cell? ⟨4, 0, none⟩ = some (.iface te pe)
  ra : ∃ te pe, w.cell? ⟨5, 0, none⟩ = some (.iface te pe)
theorem cell_lt {w : World} {b o : Nat} {v : Value} (h : w.cell? ⟨b, o, none⟩ = some v) : b < w.heap.size := by
  rcases Nat.lt_or_ge b w.heap.size with hlt | hge
  · exact hlt
  · simp [World.cell?, Array.getElem?_eq_none hge] at h
theorem only_cell {w w' : World} (o : Only Nil w w') {b k : Nat} {v : Value} (h : w.cell? ⟨b, k, none⟩ = some v) : w'.cell? ⟨b, k, none⟩ = some v := by
  have := o.block b (cell_lt h) (fun q => q.elim)
  simp only [World.cell?] at h ⊢
  rw [this]; exact h
theorem Env.keep {w w' : World} (h : Env w) (o : Only Nil w w') : Env w' :=
  ⟨only_cell o h.et, h.sy.elim fun te k => k.elim fun pe e => ⟨te, pe, only_cell o e⟩, h.ra.elim fun te k => k.elim fun pe e => ⟨te, pe, only_cell o e⟩⟩

theorem pu_any (l : List UInt8) (hne : l ≠ []) (w : World) (h : l.all isDi = true ∧ vl 0 l ≤ 65535) (hl : l.length ≤ 16384) : Calls Tryz.prog 36 #[.string (bs l), .int .i64 10, .int .i64 16] w fun e w' => e = .returned (.tuple #[.int .u64 (vl 0 l : Nat), .nilIface]) ∧ Only Nil w w' :=
  (Any.strconv_ParseUint_10_at16_ok Tryz.lp (bs l) (by rw [bs_size]; omega) (vl 0 l) (by rw [bs_list]; unfold Lib.parseUintB; rw [if_neg hne]; exact pu_ok l 0 h.1 h.2) w).mono
    fun _ _ ⟨h1, h2⟩ => ⟨h1, by rcases h2 with rfl | rfl; exact Only.refl _ _; exact Only.ofBelow (Lib.bytesWorld_below _ _ _) _⟩
theorem pu_err (l : List UInt8) (hne : l ≠ []) (w : World) (h : ¬ (l.all isDi = true ∧ vl 0 l ≤ 65535)) (hl : l.length ≤ 16384) (E : Env w) : Calls Tryz.prog 36 #[.string (bs l), .int .i64 10, .int .i64 16] w fun e w' => Hid (∃ u t p, e = .returned (.tuple #[.int .u64 u, .iface t p])) ∧ Only Nil w w' := by
  have hp : Lib.parseUintB 16 (bs l).data.toList = Lib.parseUintM 65535 0 l := by rw [bs_list]; unfold Lib.parseUintB; rw [if_neg hne]
  rcases pu_bad l 0 h (by omega) with h1 | h1
  · obtain ⟨te, pe, hv⟩ := E.sy
    exact (Any.strconv_ParseUint_10_at16_syntax Tryz.lp (bs l) (by rw [bs_size]; omega) (hp.trans h1) _ w hv (Or.inr ⟨te, pe, rfl⟩)).mono fun _ _ ⟨N, he, _, _, hb⟩ => ⟨Lib.hid ⟨_, _, _, he⟩, Only.ofBelow hb _⟩
  · obtain ⟨te, pe, hv⟩ := E.ra
    exact (Any.strconv_ParseUint_10_at16_range Tryz.lp (bs l) (by rw [bs_size]; omega) (hp.trans h1) _ w hv (Or.inr ⟨te, pe, rfl⟩)).mono fun _ _ ⟨N, he, _, _, hb⟩ => ⟨Lib.hid ⟨_, _, _, he⟩, Only.ofBelow hb _⟩
end Go.Proofs.YtbicanlipgpioaaGreatDoor.Lx
