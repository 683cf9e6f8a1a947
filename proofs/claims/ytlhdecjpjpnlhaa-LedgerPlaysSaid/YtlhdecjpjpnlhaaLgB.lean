/- ledger: worlds that hold a ledger; New, Where, Count, what is a place. -/
import Derived.Test.YtlhdecjpjpnlhaaLgA
import Derived.StillTailTactics
namespace Go.Proofs.Ytlhdecjpjpnlhaa.Lg
open Go.RowKit Go.Proofs.Ytlhdecjpjpnlhaa Go.Maps

theorem Try.law : Keyed Try.prog 29 := int_keyed Try.underlying29
theorem Try.zeroInt (w : World) : (zeroValue 3).run Try.prog w = .ok (.int .i64 0) w := by kernel_rfl

theorem wf_small {x : Int} (h1 : -1000000 ≤ x) (h2 : x ≤ 1000000) : (Lit.int .i64 x).wf = true := by
  simp [Lit.wf, IntKind.min, IntKind.max, IntKind.signed, IntKind.bits]
  omega

theorem tight {P : Program} {k : TypeId} {R : Value → Option (DataW Unit × List MemPlace)} {w : World} {b n : Nat} {D : DataW Unit} (h : w.ownsMap P k R b n D) {n' : Nat} (hn : Maps.size D ≤ n') : w.ownsMap P k R b n' D := by
  obtain ⟨es, clock, hb, F, _, rfl⟩ := h
  refine ⟨es, clock, hb, F, ?_, rfl⟩
  simpa [Maps.size, length_sorted] using hn

/-- A ledger's eleven cells. -/
def hd (m1 m2 : Nat) (C : Nat → Int) (i : Nat) : Value := if i = 0 then .map (some m1) else if i = 10 then .map (some m2) else .int .i64 (C (i - 1))

/-- World w holds a ledger at block hb; its maps lie at m1 and m2; all its blocks are of S. -/
structure A0 (w : World) (S : Nat → Prop) (hb m1 m2 n : Nat) (D1 : DataW Unit) (C : Nat → Int) (D2 : DataW Unit) : Prop where
  head : w.heap[hb]? = some (.cells (rowC 11 (hd m1 m2 C)) 51 (0, 0))
  map1 : w.ownsMap Try.prog 29 (plainElem Try.prog 3) m1 n D1
  map2 : w.ownsMap Try.prog 29 (plainElem Try.prog 3) m2 n D2
  hS : S hb
  S1 : S m1
  S2 : S m2
  lt : ∀ q, S q → q < w.heap.size
  ne : m1 ≠ m2

/-- .. of which L says where the messages are. -/
def At (w : World) (S : Nat → Prop) (hb : Nat) (L : List Ms) : Prop := ∃ (m1 m2 : Nat) (D1 : DataW Unit) (C : Nat → Int) (D2 : DataW Unit), A0 w S hb m1 m2 L.length D1 C D2 ∧ Dat D1 C D2 L

section
variable {w w' : World} {S T : Nat → Prop} {hb m1 m2 n : Nat} {D1 D2 : DataW Unit} {C : Nat → Int} {L : List Ms}
theorem ownsMap_keep {b : Nat} {D : DataW Unit} (h : w.ownsMap Try.prog 29 (plainElem (H := Unit) Try.prog 3) b n D) (o : Only T w w') (hT : ¬ T b) : w'.ownsMap Try.prog 29 (plainElem Try.prog 3) b n D := by
  have hlt := h.lt
  obtain ⟨es, clock, hb, r⟩ := h
  exact ⟨es, clock, (o.block b hlt hT).trans hb, r⟩
theorem A0.keep (h : A0 w S hb m1 m2 n D1 C D2) (o : Only T w w') (hT : ∀ q, S q → ¬ T q) : A0 w' S hb m1 m2 n D1 C D2 :=
  ⟨(o.block hb (h.lt _ h.hS) (hT _ h.hS)).trans h.head, ownsMap_keep h.map1 o (hT _ h.S1), ownsMap_keep h.map2 o (hT _ h.S2), h.hS, h.S1, h.S2, fun q hq => Nat.lt_of_lt_of_le (h.lt q hq) o.size, h.ne⟩
theorem A0.nil (h : A0 w S hb m1 m2 n D1 C D2) (o : Only Nil w w') : A0 w' S hb m1 m2 n D1 C D2 := h.keep o (fun _ _ h => h.elim)
theorem A0.c0 (h : A0 w S hb m1 m2 n D1 C D2) : w.cell? ⟨hb, 0, none⟩ = some (.map (some m1)) := row_cell h.head 0 (by decide)
theorem A0.c10 (h : A0 w S hb m1 m2 n D1 C D2) : w.cell? ⟨hb, 10, none⟩ = some (.map (some m2)) := row_cell h.head 10 (by decide)
theorem A0.cc (h : A0 w S hb m1 m2 n D1 C D2) (i : Nat) (hi : i ≤ 8) : w.cell? ⟨hb, 1 + i, none⟩ = some (.int .i64 (C i)) := by
  have := row_cell h.head (1 + i) (by omega)
  unfold hd at this
  rw [if_neg (by omega), if_neg (by omega), show 1 + i - 1 = i by omega] at this
  exact this
theorem A0.fz (h : A0 w S hb m1 m2 n D1 C D2) (i : Nat) : w.frozen? ⟨hb, i, none⟩ = false := row_frozen h.head i
theorem A0.lt_hb (h : A0 w S hb m1 m2 n D1 C D2) : hb < w.heap.size := h.lt _ h.hS
theorem A0.ne1 (h : A0 w S hb m1 m2 n D1 C D2) : hb ≠ m1 := by
  rintro rfl
  obtain ⟨es, clock, hm, _⟩ := h.map1
  rw [h.head] at hm
  cases hm
theorem A0.ne2 (h : A0 w S hb m1 m2 n D1 C D2) : hb ≠ m2 := by
  rintro rfl
  obtain ⟨es, clock, hm, _⟩ := h.map2
  rw [h.head] at hm
  cases hm
theorem A0.more (h : A0 w S hb m1 m2 n D1 C D2) {n' : Nat} (h1 : Maps.size D1 ≤ n') (h2 : Maps.size D2 ≤ n') : A0 w S hb m1 m2 n' D1 C D2 := ⟨h.head, tight h.map1 h1, tight h.map2 h2, h.hS, h.S1, h.S2, h.lt, h.ne⟩
theorem A0.count (h : A0 w S hb m1 m2 n D1 C D2) (i : Nat) (hi : i ≤ 8) (x : Int) : A0 (w.setCell ⟨hb, 1 + i, none⟩ (.int .i64 x)) S hb m1 m2 n D1 (upd C i x) D2 ∧ Only S w (w.setCell ⟨hb, 1 + i, none⟩ (.int .i64 x)) := by
  have o : Only (fun q => q = hb) w (w.setCell ⟨hb, 1 + i, none⟩ (.int .i64 x)) := Only.setCell (S := fun q => q = hb) (p := ⟨hb, 1 + i, none⟩) (Only.refl _ w) rfl _
  refine ⟨⟨?_, ownsMap_keep h.map1 o (fun e => h.ne1 e.symm), ownsMap_keep h.map2 o (fun e => h.ne2 e.symm), h.hS, h.S1, h.S2, fun q hq => Nat.lt_of_lt_of_le (h.lt q hq) o.size, h.ne⟩, o.mono (fun q hq => hq ▸ h.hS)⟩
  rw [row_set h.head]
  congr 2
  apply rowC_congr
  intro j hj
  by_cases e : j = 1 + i
  · subst e
    simp [upd, hd]
    omega
  · by_cases e0 : j = 0
    · subst e0
      have e1 : ¬ 0 = 1 + i := by omega
      simp [upd, hd, e1]
    · have e1 : ¬ j - 1 = i := by omega
      simp [upd, hd, e, e0, e1]
theorem A0.put1 (h : A0 w S hb m1 m2 n D1 C D2) {D' : DataW Unit} (own : w'.ownsMap Try.prog 29 (plainElem Try.prog 3) m1 (n + 1) D') (g : w.grownBy w' (some m1)) : A0 w' S hb m1 m2 (n + 1) D' C D2 ∧ Only S w w' := by
  have o : Only (fun q => some q = some m1) w w' := Only.ofGrown g
  have ne : ∀ q, q ≠ m1 → ¬ (some q = some m1) := fun q hq e => hq (by injection e)
  exact ⟨⟨(o.block hb h.lt_hb (ne _ h.ne1)).trans h.head, own, (ownsMap_keep h.map2 o (ne _ h.ne.symm)).mono (Nat.le_succ _), h.hS, h.S1, h.S2, fun q hq => Nat.lt_of_lt_of_le (h.lt q hq) o.size, h.ne⟩, o.mono (fun q hq => by injection hq with hq; exact hq ▸ h.S1)⟩
theorem A0.put2 (h : A0 w S hb m1 m2 n D1 C D2) {D' : DataW Unit} (own : w'.ownsMap Try.prog 29 (plainElem Try.prog 3) m2 (n + 1) D') (g : w.grownBy w' (some m2)) : A0 w' S hb m1 m2 (n + 1) D1 C D' ∧ Only S w w' := by
  have o : Only (fun q => some q = some m2) w w' := Only.ofGrown g
  have ne : ∀ q, q ≠ m2 → ¬ (some q = some m2) := fun q hq e => hq (by injection e)
  exact ⟨⟨(o.block hb h.lt_hb (ne _ h.ne2)).trans h.head, (ownsMap_keep h.map1 o (ne _ h.ne)).mono (Nat.le_succ _), own, h.hS, h.S1, h.S2, fun q hq => Nat.lt_of_lt_of_le (h.lt q hq) o.size, h.ne⟩, o.mono (fun q hq => by injection hq with hq; exact hq ▸ h.S2)⟩
theorem A0.look (h : A0 w S hb m1 m2 n D1 C D2) {x : Int} (hx : (Lit.int .u64 x).wf = true) {a : Int} (ha : D1.atKey (.int .u64 x) (.lit (.int .i64 0)) = .lit (.int .i64 a)) :
    (Instr.lookup 48 (.map (some m1)) (.int .u64 x) false).run Try.prog w = .ok (.int .i64 a) w := by
  obtain ⟨c, hrun, hat, _⟩ := h.map1.lookup_int Try.law Try.underlying48 Try.underlying3 (Try.zeroInt _) (keyOf_int_mk Try.underlying29 hx)
  rw [ha] at hat
  injection hat with hat
  injection hat with _ hat
  rw [hat]
  exact hrun
theorem At.good (h : At w S hb L) : Good L := by obtain ⟨_, _, _, _, _, _, d⟩ := h; exact d.good
theorem At.keep (h : At w S hb L) (o : Only T w w') (hT : ∀ q, S q → ¬ T q) : At w' S hb L := by
  obtain ⟨m1, m2, D1, C, D2, a, d⟩ := h
  exact ⟨m1, m2, D1, C, D2, a.keep o hT, d⟩
theorem At.nil (h : At w S hb L) (o : Only Nil w w') : At w' S hb L := h.keep o (fun _ _ h => h.elim)
theorem At.lt (h : At w S hb L) : ∀ q, S q → q < w.heap.size := by obtain ⟨_, _, _, _, _, a, _⟩ := h; exact a.lt
end

theorem isHeld_any (x : Int) (w : World) : Calls Try.prog 30 #[.int .i64 x] w fun e w' => e = .returned (.bool (held x)) ∧ w = w' := by
  by_cases h1 : 1 ≤ x
  · by_cases h2 : x ≤ 6
    · rw [(held_iff x).2 ⟨h1, h2⟩]
      go_enter Try.func30, Try.ntmps30
      go_wp2
      go_ret
      exact ⟨rfl, rfl⟩
    · rw [(held_not x).2 (by omega)]
      go_enter Try.func30, Try.ntmps30
      go_wp2
      go_ret
      exact ⟨rfl, rfl⟩
  · rw [(held_not x).2 (by omega)]
    go_enter Try.func30, Try.ntmps30
    go_wp2
    go_ret
    exact ⟨rfl, rfl⟩
theorem isPlace_any (x : Int) (w : World) : Calls Try.prog 25 #[.int .i64 x] w fun e w' => e = .returned (.bool (place x)) ∧ w = w' := by
  by_cases h1 : 0 < x
  · by_cases h2 : x ≤ 8
    · rw [(place_iff x).2 ⟨h1, h2⟩]
      go_enter Try.func25, Try.ntmps25
      go_wp2
      go_ret
      exact ⟨rfl, rfl⟩
    · rw [(place_not x).2 (by omega)]
      go_enter Try.func25, Try.ntmps25
      go_wp2
      go_ret
      exact ⟨rfl, rfl⟩
  · rw [(place_not x).2 (by omega)]
    go_enter Try.func25, Try.ntmps25
    go_wp2
    go_ret
    exact ⟨rfl, rfl⟩

theorem new_any (w : World) : Calls Try.prog 8 #[] w fun e w' =>
    e = .returned (.pointer (some ⟨w.heap.size + 2, 0, none⟩)) ∧ At w' (fun q => q = w.heap.size ∨ q = w.heap.size + 1 ∨ q = w.heap.size + 2) (w.heap.size + 2) [] ∧ Only Nil w w' := by
  have hmm := @run_makeMap Try.prog
  have fin := Lib.hid (show At (((w.alloc (.map #[] 0)).alloc (.map #[] 0)).alloc (.cells #[.map (some w.heap.size), .int .i64 0, .int .i64 0, .int .i64 0, .int .i64 0, .int .i64 0, .int .i64 0, .int .i64 0, .int .i64 0, .int .i64 0, .map (some (w.heap.size + 1))] 51)) (fun q => q = w.heap.size ∨ q = w.heap.size + 1 ∨ q = w.heap.size + 2) (w.heap.size + 2) [] from by
    have e := World.ownsMap_made (H := Unit) (w.alloc (.map #[] 0)) Try.prog 29 (plainElem Try.prog 3)
    have es : (w.alloc (.map #[] 0)).heap.size = w.heap.size + 1 := by simp
    rw [es] at e
    refine ⟨w.heap.size, w.heap.size + 1, .map [], fun _ => 0, .map [], ⟨?_, ((World.ownsMap_made w Try.prog 29 _).alloc _).alloc _, e.alloc _, .inr (.inr rfl), .inl rfl, .inr (.inl rfl), fun q hq => by simp; omega, by omega⟩, Dat.start⟩
    have es2 : ((w.alloc (.map #[] 0)).alloc (.map #[] 0)).heap.size = w.heap.size + 2 := by simp
    have := heap_new ((w.alloc (.map #[] 0)).alloc (.map #[] 0)) (.cells (rowC 11 (hd w.heap.size (w.heap.size + 1) fun _ => 0)) 51)
    rw [es2] at this
    exact this)
  go_enter Try.func8, Try.ntmps8
  go_wp2
  go_ret
  refine ⟨by simp, ?_, (((Only.refl Nil w).alloc _).alloc _).alloc _⟩
  exact fin.out

theorem where_any {w : World} {S : Nat → Prop} {hb : Nat} {L : List Ms} (h : At w S hb L) (x : Int) (hx : (Lit.int .u64 x).wf = true) :
    Calls Try.prog 10 #[.pointer (some ⟨hb, 0, none⟩), .int .u64 x] w fun e w' => e = .returned (.int .i64 (whOf L x)) ∧ w = w' := by
  obtain ⟨m1, m2, D1, C, D2, a, d⟩ := h
  have c0 := a.c0
  have hl := a.look hx (d.at1 x)
  generalize whOf L x = y at *
  clear a d
  go_enter Try.func10, Try.ntmps10
  go_wp2
  go_ret
  exact ⟨rfl, rfl⟩

theorem count_not {w : World} {hb : Nat} (p : Int) (hp : place p = false) :
    Calls Try.prog 12 #[.pointer (some ⟨hb, 0, none⟩), .int .i64 p] w fun e w' => e = .returned (.int .i64 0) ∧ w = w' := by
  have hi := isPlace_any p w
  rw [hp] at hi
  have hi' := Lib.hid hi
  clear hi hp
  go_enter Try.func12, Try.ntmps12
  go_wp2_with (go_at_call 25; (with_reducible refine hi'.out.mono ?_); rintro e w1 ⟨rfl, rfl⟩)
  go_ret
  exact ⟨rfl, rfl⟩
theorem count_any {w : World} {S : Nat → Prop} {hb : Nat} {L : List Ms} (h : At w S hb L) (p : Nat) (h1 : 1 ≤ p) (h8 : p ≤ 8) :
    Calls Try.prog 12 #[.pointer (some ⟨hb, 0, none⟩), .int .i64 (p : Int)] w fun e w' => e = .returned (.int .i64 (cnt L p : Nat)) ∧ w = w' := by
  obtain ⟨m1, m2, D1, C, D2, a, d⟩ := h
  have cp := a.cc p h8
  rw [d.cnt p h1 h8] at cp
  have hi := isPlace_any p w
  rw [(place_iff _).2 ⟨by omega, by omega⟩] at hi
  have hi' := Lib.hid hi
  clear hi a d
  generalize cnt L p = y at *
  have p8 : (p : Int) ≤ 8 := by omega
  clear h1 h8
  go_enter Try.func12, Try.ntmps12
  go_wp2_with (go_at_call 25; (with_reducible refine hi'.out.mono ?_); rintro e w1 ⟨rfl, rfl⟩)
  go_ret
  exact ⟨rfl, rfl⟩
end Go.Proofs.Ytlhdecjpjpnlhaa.Lg
