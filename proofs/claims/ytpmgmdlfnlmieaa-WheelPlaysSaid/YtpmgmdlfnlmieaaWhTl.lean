/- wheel: both wheels of one list: what a round of WheelPlays does. -/
import Derived.Test.YtpmgmdlfnlmieaaWhTk
import Derived.Test.YtpmgmdlfnlmieaaWhTe
import Derived.Test.YtpmgmdlfnlmieaaWhTf
import Derived.Test.YtpmgmdlfnlmieaaWhTg
namespace Go.Proofs.Ytpmgmdlfnlmieaa.Wh
open Go.RowKit Go.Proofs.Ytpmgmdlfnlmieaa

/-- The wheel at hb holds L; the rows x, y hold M; the blocks of K are not the wheel's. -/
def Two (w0 w : World) (K : Nat → Prop) (hb now added : Nat) (L : List Tm) (x y : Value) (M : List Tm) : Prop :=
  ∃ S : Nat → Prop, Wl w S hb now added L ∧ (∀ k, S k → w0.heap.size ≤ k) ∧ Only Nil w0 w ∧ Good now added L ∧ Rw w S x y M ∧ ∀ k, K k → k < w.heap.size ∧ ¬ S k
/-- The blocks of K, as they were. -/
def Same (K : Nat → Prop) (w w' : World) : Prop := ∀ k, K k → w'.heap[k]? = w.heap[k]?

section
variable {w0 w w' : World} {K K' : Nat → Prop} {hb now added : Nat} {L M : List Tm} {x y : Value}
theorem Two.nil (h : Two w0 w K hb now added L x y M) (o : Only Nil w w') : Two w0 w' K hb now added L x y M := by
  obtain ⟨S, h1, h2, h3, h4, h5, h6⟩ := h
  exact ⟨S, h1.nil o, h2, h3.trans o, h4, h5.nil o, fun k hk => ⟨Nat.lt_of_lt_of_le (h6 k hk).1 o.size, (h6 k hk).2⟩⟩
theorem Two.mono (h : Two w0 w K hb now added L x y M) (hK : ∀ k, K' k → K k) : Two w0 w K' hb now added L x y M := by
  obtain ⟨S, h1, h2, h3, h4, h5, h6⟩ := h
  exact ⟨S, h1, h2, h3, h4, h5, fun k hk => h6 k (hK k hk)⟩
/-- What is new is of no wheel. -/
theorem Two.more (h : Two w0 w K hb now added L x y M) (o : Only Nil w w') : Two w0 w' (fun k => K k ∨ (w.heap.size ≤ k ∧ k < w'.heap.size)) hb now added L x y M := by
  obtain ⟨S, h1, h2, h3, h4, h5, h6⟩ := h
  refine ⟨S, h1.nil o, h2, h3.trans o, h4, h5.nil o, fun k hk => ?_⟩
  rcases hk with hk | hk
  · exact ⟨Nat.lt_of_lt_of_le (h6 k hk).1 o.size, (h6 k hk).2⟩
  · exact ⟨hk.2, fun s => by have := h1.lt k s; omega⟩
theorem Two.good (h : Two w0 w K hb now added L x y M) : Good now added L := by obtain ⟨_, _, _, _, h, _⟩ := h; exact h
theorem Two.only (h : Two w0 w K hb now added L x y M) : Only Nil w0 w := by obtain ⟨_, _, _, h, _⟩ := h; exact h
theorem Two.forms (h : Two w0 w K hb now added L x y M) : (∃ a c, x = .slice a M.length c) ∧ ∃ a c, y = .slice a M.length c := by
  obtain ⟨S, _, _, _, _, h5, _⟩ := h
  exact ⟨own_slice_n h5.ri, own_slice_n h5.rd⟩
theorem same_nil (o : Only Nil w w') (hK : ∀ k, K k → k < w.heap.size) : Same K w w' := fun k hk => o.block k (hK k hk) (fun h => h)
/-- A step of the wheel alone. -/
theorem Two.wheel {S : Nat → Prop} {now' added' : Nat} {L' : List Tm} (h2 : ∀ k, S k → w0.heap.size ≤ k) (h3 : Only Nil w0 w) (h5 : Rw w S x y M) (h6 : ∀ k, K k → k < w.heap.size ∧ ¬ S k)
    (h : Wl w' (Plus S w w') hb now' added' L') (g : Good now' added' L') (o : Only S w w') : Two w0 w' K hb now' added' L' x y M ∧ Same K w w' := by
  refine ⟨⟨Plus S w w', h, ?_, h3.then o (fun k hk hlt => by have := h2 k hk; omega), g, h5.keep o, fun k hk => ⟨Nat.lt_of_lt_of_le (h6 k hk).1 o.size, fun s => ?_⟩⟩, fun k hk => o.block k (h6 k hk).1 (h6 k hk).2⟩
  · intro k hk
    rcases hk with hk | hk
    · exact h2 k hk
    · exact Nat.le_trans h3.size hk.1
  · rcases s with s | s
    · exact (h6 k hk).2 s
    · have := (h6 k hk).1; omega
/-- A step that leaves the wheel as it is. -/
theorem Two.rest (h : Two w0 w K hb now added L x y M) (o : Only Nil w w') : Two w0 w' K hb now added L x y M ∧ Same K w w' := by
  refine ⟨h.nil o, ?_⟩
  obtain ⟨S, _, _, _, _, _, h6⟩ := h
  exact same_nil o (fun k hk => (h6 k hk).1)
/-- The document's wheel: other rows. -/
theorem Two.rows {S : Nat → Prop} {x' y' : Value} {M' : List Tm} (h1 : Wl w S hb now added L) (h2 : ∀ k, S k → w0.heap.size ≤ k) (h3 : Only Nil w0 w) (h4 : Good now added L) (h6 : ∀ k, K k → k < w.heap.size ∧ ¬ S k) (r : Rw w' S x' y' M') (o : Only Nil w w') : Two w0 w' K hb now added L x' y' M' :=
  ⟨S, h1.nil o, h2, h3.trans o, h4, r, fun k hk => ⟨Nat.lt_of_lt_of_le (h6 k hk).1 o.size, (h6 k hk).2⟩⟩

/-- Add, by the document and by the wheel: one answer, one list. -/
theorem two_add (g : Good now added L) (id : Nat) (h64 : id < 18446744073709551616) (d : Int) (ha : added < 1000000000) :
    ∃ (code : Int) (added' : Nat) (L' : List Tm), added' ≤ added + 1 ∧
      (∀ w K x y, Two w0 w K hb now added L x y L → Calls Try.prog 11 #[.agg #[.int .i64 (now : Int), x, y], .int .u64 (id : Int), .int .i64 d] w fun e w' => ∃ x' y', e = .returned (.tuple #[.agg #[.int .i64 (now : Int), x', y'], .int .i64 code]) ∧ Two w0 w' K hb now added L x' y' L' ∧ Only Nil w w') ∧
      (∀ w K x y, Two w0 w K hb now added L x y L' → Calls Try.prog 12 #[.pointer (some ⟨hb, 0, none⟩), .int .u64 (id : Int), .int .i64 d] w fun e w' => e = .returned (.int .i64 code) ∧ Two w0 w' K hb now added' L' x y L' ∧ Same K w w') := by
  by_cases hd : d < 1 ∨ 4095 < d
  · refine ⟨1, added, L, by omega, fun w K x y h => ?_, fun w K x y h => ?_⟩
    · obtain ⟨⟨a, c, rfl⟩, ⟨b, e, rfl⟩⟩ := h.forms
      refine (radd_bad w now _ _ _ _ hd ⟨_, _, _, rfl⟩ ⟨_, _, _, rfl⟩).mono ?_
      rintro _ w' ⟨rfl, o⟩
      exact ⟨_, _, rfl, h.nil o, o⟩
    · refine (add_bad _ _ _ hd w).mono ?_
      rintro _ w' ⟨rfl, rfl⟩
      exact ⟨rfl, h.rest (Only.refl _ _)⟩
  · obtain ⟨D, rfl⟩ : ∃ D : Nat, d = (D : Int) := ⟨d.toNat, by omega⟩
    have d1 : 1 ≤ D := by omega
    have d2 : D ≤ 4095 := by omega
    by_cases hid : ∀ t ∈ L, t.id ≠ id
    · by_cases hl : L.length = 64
      · refine ⟨4, added, L, by omega, fun w K x y h => ?_, fun w K x y h => ?_⟩
        · have hh' := h
          obtain ⟨S, h1, h2, h3, h4, h5, h6⟩ := hh'
          refine (radd_full h5 hl now id hid _ (by omega) (by omega)).mono ?_
          rintro _ w' ⟨rfl, o⟩
          exact ⟨_, _, rfl, h.nil o, o⟩
        · have hh' := h
          obtain ⟨S, h1, h2, h3, h4, h5, h6⟩ := hh'
          refine (add_full h1 g id hid hl _ (by omega) (by omega)).mono ?_
          rintro _ w' ⟨rfl, o⟩
          exact ⟨rfl, h.rest o⟩
      · have hl' : L.length < 64 := by have := g.few; omega
        refine ⟨0, added + 1, L ++ [⟨id, now + D, added⟩], by omega, fun w K x y h => ?_, fun w K x y h => ?_⟩
        · obtain ⟨S, h1, h2, h3, h4, h5, h6⟩ := h
          refine (radd_ok h5 h1.lt hl' now id hid D d1 d2 g.now added).mono ?_
          rintro _ w' ⟨x', y', rfl, r, o⟩
          exact ⟨x', y', rfl, Two.rows h1 h2 h3 h4 h6 r o, o⟩
        · obtain ⟨S, h1, h2, h3, h4, h5, h6⟩ := h
          refine (add_ok h1 g id D hid hl' d1 d2 ha).mono ?_
          rintro _ w' ⟨rfl, hw, o⟩
          exact ⟨rfl, Two.wheel h2 h3 h5 h6 hw (g.add id D hid hl' d1 d2 h64) o⟩
    · obtain ⟨t, ht, rfl⟩ : ∃ t ∈ L, t.id = id := by
        apply Classical.byContradiction
        intro hn
        exact hid (fun t ht e => hn ⟨t, ht, e⟩)
      refine ⟨3, added, L, by omega, fun w K x y h => ?_, fun w K x y h => ?_⟩
      · have hh' := h
        obtain ⟨S, h1, h2, h3, h4, h5, h6⟩ := hh'
        refine (radd_there h5 g.few g.apart now t ht _ (by omega) (by omega)).mono ?_
        rintro _ w' ⟨rfl, o⟩
        exact ⟨_, _, rfl, h.nil o, o⟩
      · have hh' := h
        obtain ⟨S, h1, h2, h3, h4, h5, h6⟩ := hh'
        refine (add_there h1 g t ht _ (by omega) (by omega)).mono ?_
        rintro _ w' ⟨rfl, o⟩
        exact ⟨rfl, h.rest o⟩

theorem hit_all (L : List Tm) (q : Nat) : hit L q L.length = L.any fun t => t.id == q := by simp [hit]

/-- Cut, by both. -/
theorem two_cut (g : Good now added L) (id : Nat) :
    ∃ (b : Bool) (L' : List Tm),
      (∀ w K x y, Two w0 w K hb now added L x y L → Calls Try.prog 13 #[.agg #[.int .i64 (now : Int), x, y], .int .u64 (id : Int)] w fun e w' => ∃ x' y', e = .returned (.tuple #[.agg #[.int .i64 (now : Int), x', y'], .bool b]) ∧ Two w0 w' K hb now added L x' y' L' ∧ Only Nil w w') ∧
      (∀ w K x y, Two w0 w K hb now added L x y L' → Calls Try.prog 14 #[.pointer (some ⟨hb, 0, none⟩), .int .u64 (id : Int)] w fun e w' => e = .returned (.bool b) ∧ Two w0 w' K hb now added L' x y L' ∧ Same K w w') := by
  refine ⟨hit L id L.length, cut L id, fun w K x y h => ?_, ?_⟩
  · obtain ⟨S, h1, h2, h3, h4, h5, h6⟩ := h
    refine (rcut_any h5 h1.lt g.few now id).mono ?_
    rintro _ w' ⟨x', y', rfl, r, o⟩
    exact ⟨x', y', rfl, Two.rows h1 h2 h3 h4 h6 r o, o⟩
  · by_cases hid : ∀ t ∈ L, t.id ≠ id
    · intro w K x y h
      have hc := cut_none hid
      have hh : hit L id L.length = false := by rw [hit_all]; simpa using hid
      rw [hc] at h ⊢
      rw [hh]
      have hh' := h
      obtain ⟨S, h1, h2, h3, h4, h5, h6⟩ := hh'
      refine (cut_no h1 g id hid).mono ?_
      rintro _ w' ⟨rfl, o⟩
      exact ⟨rfl, h.rest o⟩
    · obtain ⟨t, ht, rfl⟩ : ∃ t ∈ L, t.id = id := by
        apply Classical.byContradiction
        intro hn
        exact hid (fun t ht e => hn ⟨t, ht, e⟩)
      intro w K x y h
      have hh : hit L t.id L.length = true := by rw [hit_all, List.any_eq_true]; exact ⟨t, ht, by simp⟩
      rw [hh]
      obtain ⟨S, h1, h2, h3, h4, h5, h6⟩ := h
      refine (cut_yes h1 g t ht).mono ?_
      rintro _ w' ⟨rfl, hw, o⟩
      exact ⟨rfl, Two.wheel h2 h3 h5 h6 hw (g.cut t.id) o⟩

/-- Tick, by the document. -/
theorem two_rtick (h : Two w0 w K hb now added L x y L) (hn : now + 1 < 1000000000) :
    Calls Try.prog 16 #[.agg #[.int .i64 (now : Int), x, y]] w fun e w' => ∃ x' y' v', e = .returned (.tuple #[.agg #[.int .i64 ((now + 1 : Nat) : Int), x', y'], v']) ∧ Two w0 w' (fun k => K k ∨ some k = v'.ownBlock) hb now added L x' y' (L.filter fun t => !(t.due == now + 1)) ∧
      w'.ownsRow 0 30 1 v' (L.filter fun t => t.due == now + 1).length (ids (L.filter fun t => t.due == now + 1)) ∧ Only Nil w w' := by
  obtain ⟨S, h1, h2, h3, h4, h5, h6⟩ := h
  refine (rtick_any h5 h1.lt h4.few now hn).mono ?_
  rintro _ w' ⟨x', y', v', rfl, r, ⟨ov, hv⟩, o⟩
  refine ⟨x', y', v', rfl, Two.rows (h1.nil o) h2 (h3.trans o) h4 (fun k hk => ?_) r (Only.refl _ _), ov, o⟩
  rcases hk with hk | hk
  · exact ⟨Nat.lt_of_lt_of_le (h6 k hk).1 o.size, (h6 k hk).2⟩
  · exact ⟨(ov.lt k hk.symm).2, fun s => by have := h1.lt k s; have := hv k hk.symm; omega⟩
/-- Tick, by the wheel. -/
theorem two_wtick (h : Two w0 w K hb now added L x y (L.filter fun t => !(t.due == now + 1))) (hn : now + 1 < 1000000000) :
    Calls Try.prog 18 #[.pointer (some ⟨hb, 0, none⟩)] w fun e w' => ∃ v, e = .returned v ∧ w'.ownsRow 0 30 1 v (L.filter fun t => t.due == now + 1).length (ids (L.filter fun t => t.due == now + 1)) ∧
      Two w0 w' K hb (now + 1) added (L.filter fun t => !(t.due == now + 1)) x y (L.filter fun t => !(t.due == now + 1)) ∧ Same K w w' := by
  obtain ⟨S, h1, h2, h3, h4, h5, h6⟩ := h
  refine (tick_any h1 h4 hn).mono ?_
  rintro _ w' ⟨v, rfl, ov, hw, o⟩
  exact ⟨v, rfl, own_le ov.out (Nat.zero_le _), Two.wheel h2 h3 h5 h6 hw (h4.tick hn) o⟩
theorem own_kept {base n s : Nat} {e : TypeId} {v : Value} {xs : List Value} (h : w.ownsRow base e s v n xs) (hk : ∀ k, some k = v.ownBlock → w'.heap[k]? = w.heap[k]?) : w'.ownsRow base e s v n xs := by
  refine ⟨h.1, h.2.imp (fun h => h) ?_⟩
  rintro ⟨g, c, cur, h1, h2, h3, h4⟩
  exact ⟨g, c, cur, h1, h2, (hk g (by rw [h1]; rfl)).trans h3, h4⟩
end

section
variable {w0 w w' : World} {K : Nat → Prop} {hb now added : Nat} {L : List Tm} {x y : Value}
theorem two_now (h : Two w0 w K hb now added L x y L) : Calls Try.prog 19 #[.pointer (some ⟨hb, 0, none⟩)] w fun e w' => e = .returned (.int .i64 (now : Int)) ∧ w = w' := by
  obtain ⟨S, ⟨V, h1⟩, _⟩ := h
  exact now_any h1
theorem two_len (h : Two w0 w K hb now added L x y L) : Calls Try.prog 20 #[.pointer (some ⟨hb, 0, none⟩)] w fun e w' => e = .returned (.int .i64 (L.length : Int)) ∧ Only Nil w w' := by
  obtain ⟨S, h1, _, _, h4, _⟩ := h
  exact wlen h1 h4
theorem two_told (h : Two w0 w K hb now added L x y L) (id : Nat) : Calls Try.prog 21 #[.pointer (some ⟨hb, 0, none⟩), .agg #[.int .i64 (now : Int), x, y], .int .u64 (id : Int)] w fun e w' => e = .returned (.bool true) ∧ Only Nil w w' := by
  obtain ⟨S, h1, _, _, h4, h5, _⟩ := h
  exact told_any h1 h4 h5 id
theorem two_ids (h : Two w0 w K hb now added L x y L) : Calls Try.prog 22 #[.pointer (some ⟨hb, 0, none⟩)] w fun e w' => ∃ v, e = .returned v ∧ w'.ownsRow 0 30 1 v L.length (ids L) ∧ Only Nil w w' := by
  obtain ⟨S, h1, _, _, h4, _⟩ := h
  refine (wids_any h1 h4).mono ?_
  rintro _ w' ⟨v, rfl, ov, o⟩
  exact ⟨v, rfl, own_le ov.out (Nat.zero_le _), o⟩
theorem two_row (h : Two w0 w K hb now added L x y L) : w.ownsRow 0 30 1 x L.length (ids L) := by
  obtain ⟨S, _, _, _, _, h5, _⟩ := h
  exact h5.ri
theorem two_new (o : Only Nil w0 w) : Calls Try.prog 10 #[] w fun e w' => e = .returned (.pointer (some ⟨w.heap.size, 0, none⟩)) ∧ Two w0 w' Nil w.heap.size 0 0 [] (.slice none 0 0) (.slice none 0 0) [] := by
  refine (mine_new w0 w o).mono ?_
  rintro _ w' ⟨rfl, S, h1, h2, h3, h4⟩
  exact ⟨rfl, S, h1, h2, h3, h4, Rw.zero _ _, fun k hk => hk.elim⟩
end
end Go.Proofs.Ytpmgmdlfnlmieaa.Wh
