/- stash: Unstash, Next, Front, Stashed, Clear. -/
import Derived.Test.YtdhfmocjhcgicaaStC
import Derived.StillTailTactics
import Derived.Laws.OwnMore
namespace Go.Proofs.Ytdhfmocjhcgicaa.St
open Go.RowKit Go.Proofs.Ytdhfmocjhcgicaa

/-- A row of the ids X in v, at or beyond base. -/
def RowB (base : Nat) (w : World) (v : Value) (X : List Int) : Prop := w.ownsRow base 30 1 v X.length (us X)
theorem RowB.row {base : Nat} {w : World} {v : Value} {X : List Int} (h : RowB base w v X) : Row w v X :=
  ⟨h.1, h.2.imp id (fun ⟨g, c, cur, h1, _, r⟩ => ⟨g, c, cur, h1, Nat.zero_le _, r⟩)⟩
theorem RowB.ge {base : Nat} {w : World} {v : Value} {X : List Int} (h : RowB base w v X) {g : Nat} (hg : some g = v.ownBlock) : base ≤ g := by
  rcases h.2 with ⟨rfl, _⟩ | ⟨g', c, cur, rfl, hb, _, _⟩
  · simp [Value.ownBlock] at hg
  · have : g = g' := by simpa [Value.ownBlock] using hg
    omega
theorem Row.base {base : Nat} {w : World} {v : Value} {X : List Int} (h : Row w v X) (hb : ∀ g, some g = v.ownBlock → base ≤ g) : RowB base w v X := by
  refine ⟨h.1, h.2.imp id ?_⟩
  rintro ⟨g, c, cur, rfl, _, r⟩
  exact ⟨g, c, cur, rfl, hb g rfl, r⟩
theorem RowB.keep {base : Nat} {S : Nat → Prop} {w w' : World} {v : Value} {X : List Int} (h : RowB base w v X) (o : Only S w w') (hS : ∀ g, some g = v.ownBlock → ¬ S g) : RowB base w' v X := own_keep h o hS
theorem RowB.nil {base : Nat} {w w' : World} {v : Value} {X : List Int} (h : RowB base w v X) (o : Only Nil w w') : RowB base w' v X := own_keep h o (fun _ _ h => h)
theorem RowB.slice {base : Nat} {w : World} {v : Value} {X : List Int} (h : RowB base w v X) : ∃ a c, v = .slice a X.length c := own_slice_n h

/-- The ids Y, to be read at y. -/
def Src (w : World) (y : Value) (Y : List Int) : Prop :=
  (y = .slice none 0 0 ∧ Y = []) ∨ ∃ ad c, y = .slice (some ad) Y.length c ∧ ∀ j u, (us Y)[j]? = some u → w.cell? (ad.add j) = some u
theorem Row.src {w : World} {y : Value} {Y : List Int} (h : Row w y Y) : Src w y Y := by
  rcases h.2 with ⟨rfl, h0⟩ | ⟨g, c, cur, rfl, _, _⟩
  · exact .inl ⟨rfl, List.eq_nil_of_length_eq_zero h0⟩
  · refine .inr ⟨_, _, rfl, fun j u hj => ?_⟩
    have hj' : j < Y.length := by have := (List.getElem?_eq_some_iff.1 hj).1; rw [us_length] at this; exact this
    rw [add_lit0, Nat.zero_add, h.cellAt j (by omega)]
    exact hj
theorem Src.nil {w w' : World} {y : Value} {Y : List Int} (h : Src w y Y) (o : Only Nil w w') : Src w' y Y := by
  refine h.imp id ?_
  rintro ⟨ad, c, rfl, hc⟩
  refine ⟨ad, c, rfl, fun j u hj => ?_⟩
  have h1 := hc j u hj
  have hb : (ad.add j).block < w.heap.size := by
    rcases Nat.lt_or_ge (ad.add j).block w.heap.size with h | h
    · exact h
    · simp [World.cell?, Array.getElem?_eq_none h] at h1
  exact (World.cell?_of_block (o.block _ hb (fun h => h))).trans h1
theorem Src.slice {w : World} {y : Value} {Y : List Int} (h : Src w y Y) : ∃ a c, y = .slice a Y.length c := by
  rcases h with ⟨rfl, rfl⟩ | ⟨ad, c, rfl, _⟩
  · exact ⟨_, _, rfl⟩
  · exact ⟨_, _, rfl⟩

/-- A row behind another one. -/
theorem rows {base : Nat} {w : World} {v y : Value} {X Y : List Int} (hx : RowB base w v X) (hy : Src w y Y) (few : X.length + Y.length ≤ 60000) (hb : base ≤ w.heap.size) :
    ∃ v' w', (Builtin.append_ #[26, 26] 26 #[v, y]).run Try.prog w = .ok v' w' ∧ RowB base w' v' (X ++ Y) ∧ w.grownBy w' v.ownBlock := by
  obtain ⟨i0, hi0, hz0, hz1, hz2⟩ := info_parts Try.infoU
  rcases hy with ⟨rfl, rfl⟩ | ⟨ad, c, rfl, hc⟩
  · refine ⟨v, w, run_append_owned_none (P := Try.prog) (w := w) base 26 26 30 i0 1 Try.underlying26 hi0 v X.length (us X) hx, by simpa using hx, ⟨rfl, rfl, rfl, Nat.le_refl _, fun _ _ _ => rfl⟩⟩
  · obtain ⟨v', w', hr, ho, hg, _⟩ := run_append_own (P := Try.prog) (w := w) base 26 26 30 i0 (.int .u64 0) 1 8 Try.underlying26 hi0 hz0 hz1 hz2 rfl (by decide) v X.length (us X) hx ad Y.length c (us Y) (by rw [us_length]; omega)
      hc (us_oneCell Y) (by unfold maxLen; omega) (by omega) hb
    refine ⟨v', w', hr, ?_, hg⟩
    unfold RowB
    rw [List.length_append, us_append]
    exact ho

theorem own_grown {base : Nat} {w0 w w' : World} {v : Value} {X : List Int} (hx : RowB base w v X) (o : Only Nil w0 w) (hb : w0.heap.size ≤ base) (hg : w.grownBy w' v.ownBlock) : Only Nil w0 w' :=
  o.then (Only.ofGrown hg) (fun q hq hlt => by have := hx.ge hq; omega)

/-- Front answers a row of its own. -/
theorem front_any {w : World} {S : Nat → Prop} {hb n : Nat} {A F : List Int} (h : At w S hb n A F) (few : F.length ≤ 50000) :
    Calls Try.prog 21 #[.pointer (some ⟨hb, 0, none⟩)] w fun e w' => ∃ v', e = .returned v' ∧ Hid (RowB w.heap.size w' v' F ∧ Only Nil w w') := by
  obtain ⟨va, vf, a, hl, h64⟩ := h
  obtain ⟨x, c, hv⟩ := a.rb.slice
  have c2 := a.c2
  have lt := a.lt_hb
  have hr := a.rb
  rw [hv] at hr
  have hc := appback_any (a := none) (c := 0) (X := []) (Row.none w) hr (fun g _ hro => by obtain ⟨y, hy, _⟩ := hro; cases hy) (by simp; omega)
  have hc' := Lib.hid (show Calls Try.prog 23 #[.slice none 0 0, .slice x F.reverse.length c] w fun e w' => ∃ v', e = .returned v' ∧ Hid (RowB w.heap.size w' v' F ∧ Only Nil w w') from hc.mono fun e w' => by
    rintro ⟨a', c', rfl, hk⟩
    obtain ⟨k1, k2, k3⟩ := hk.out
    refine ⟨_, rfl, Lib.hid ⟨?_, k2.mono (fun q hq => by obtain ⟨y, hy, _⟩ := hq; cases hy)⟩⟩
    rw [List.nil_append, List.reverse_reverse] at k1
    refine k1.base (fun g hg => ?_)
    cases a' with
    | none => simp [Value.ownBlock] at hg
    | some y =>
      have hg' : g = y.block := by simpa [Value.ownBlock] using hg
      rcases k3 y rfl with ⟨z, hz, _⟩ | e
      · cases hz
      · omega)
  subst hv
  generalize F.reverse.length = len at *
  clear a hl h64 hr hc
  go_enter Try.func21, Try.ntmps21
  go_wp2_with (go_at_call 23; (with_reducible refine hc'.out.mono ?_); rintro e w1 ⟨v', rfl, hk⟩)
  go_ret
  exact ⟨v', rfl, hk⟩

set_option maxHeartbeats 400000 in
/-- Unstash. -/
theorem unstash_any {w : World} {S : Nat → Prop} {hb n : Nat} {A F : List Int} (h : At w S hb n A F) (few : F.length ≤ 50000) :
    Calls Try.prog 13 #[.pointer (some ⟨hb, 0, none⟩)] w fun e w' => e = .returned (.int .i64 (A.length : Nat)) ∧ Hid (At w' (Plus S w w') hb n [] (A ++ F) ∧ Only S w w') := by
  obtain ⟨va, vf, a, hl, h64⟩ := h
  obtain ⟨x, c, hv⟩ := a.ra.slice
  obtain ⟨y, d, hf⟩ := a.rb.slice
  have c1 := a.c1
  have c2 := a.c2
  have lt := a.lt_hb
  have hap : ∀ g, some g = (Value.slice x A.length c).ownBlock → ¬ RowOf y g := by
    rintro g hg ⟨z, hz, rfl⟩
    refine a.apart _ (by rw [hv]; exact hg) ?_
    rw [hf, hz]; rfl
  have step := Lib.hid (show Calls Try.prog 23 #[.slice y F.reverse.length d, .slice x A.length c] w.drew fun e w' => ∃ v', e = .returned v' ∧
      (w'.cell? ⟨hb, 2, none⟩ = some vf ∧ w'.frozen? ⟨hb, 2, none⟩ = false ∧ hb < w'.heap.size) ∧ (∃ a' n' c', v' = .slice a' n' c') ∧
      Hid ((w'.setCell ⟨hb, 2, none⟩ v').cell? ⟨hb, 1, none⟩ = some va ∧ (w'.setCell ⟨hb, 2, none⟩ v').frozen? ⟨hb, 1, none⟩ = false ∧ hb < (w'.setCell ⟨hb, 2, none⟩ v').heap.size) ∧
      Hid (At ((w'.setCell ⟨hb, 2, none⟩ v').setCell ⟨hb, 1, none⟩ (.slice none 0 0)) (Plus S w ((w'.setCell ⟨hb, 2, none⟩ v').setCell ⟨hb, 1, none⟩ (.slice none 0 0))) hb n [] (A ++ F) ∧ Only S w ((w'.setCell ⟨hb, 2, none⟩ v').setCell ⟨hb, 1, none⟩ (.slice none 0 0))) from by
    have oD : Only Nil w w.drew := (Only.refl Nil w).drew
    have a1 := a.nil oD
    have h1 := a1.rb
    have h2 := a1.ra
    rw [hf] at h1
    rw [hv] at h2
    refine (appback_any h1 h2 hap (by rw [List.length_reverse]; omega)).mono ?_
    rintro e w' ⟨a', c', rfl, hk⟩
    obtain ⟨k1, k2, k3⟩ := hk.out
    obtain ⟨f1, f2, f3⟩ := a1.setF hf k1 k2 k3
    obtain ⟨g1, g2, g3⟩ := f2.setA (a' := none) (len' := 0) (c' := 0) (A' := []) hv (Row.none _) (Only.refl _ _) (fun x hx => by cases hx)
    refine ⟨_, rfl, f1, ⟨_, _, _, rfl⟩, Lib.hid g1, Lib.hid ⟨?_, ?_⟩⟩
    · refine At.wider (S := Plus (Plus S w.drew _) _ _) ⟨_, _, by rw [List.reverse_append]; exact g2, by simp, h64⟩ ?_ ?_
      · rintro q ((hq | hq) | hq)
        · exact .inl hq
        · exact .inr ⟨hq.1, Nat.lt_of_lt_of_le hq.2 g3.size⟩
        · exact .inr ⟨Nat.le_trans f3.size hq.1, hq.2⟩
      · rintro q (hq | hq)
        · exact Nat.lt_of_lt_of_le (a.lt q hq) (Nat.le_trans f3.size g3.size)
        · exact hq.2
    · exact (oD.nilTo S).trans (f3.then g3 (fun q hq hlt => by
        rcases hq with hq | hq
        · exact hq
        · exact absurd hq.1 (by omega))))
  subst hv hf
  generalize A.length = la at *
  generalize F.reverse.length = lf at *
  have la64 : (la : Int) ≤ 64 := by omega
  clear a hl h64 hap
  go_enter Try.func13, Try.ntmps13
  go_wp2_with fail
  go_region_with (go_at_call 23; (with_reducible refine step.out.mono ?_); rintro e w1 ⟨v', rfl, ⟨g1, g2, g3⟩, ⟨a', n', c', rfl⟩, hm, fin⟩; obtain ⟨m1, m2, m3⟩ := hm.out)
  all_goals (go_wp2; go_ret; exact ⟨rfl, fin⟩)

theorem next_none {w : World} {S : Nat → Prop} {hb n : Nat} {A : List Int} (h : At w S hb n A []) :
    Calls Try.prog 15 #[.pointer (some ⟨hb, 0, none⟩)] w fun e w' => e = .returned (.tuple #[.int .u64 0, .bool false]) ∧ w = w' := by
  obtain ⟨va, vf, a, hl, h64⟩ := h
  obtain ⟨y, d, hf⟩ := a.rb.slice
  have c2 := a.c2
  have lt := a.lt_hb
  rw [hf] at c2
  have c2' : w.cell? ⟨hb, 2, none⟩ = some (.slice y 0 d) := c2
  clear a hl h64 hf c2
  go_enter Try.func15, Try.ntmps15
  go_wp2
  go_ret2
  exact ⟨rfl, rfl⟩

/-- A row without its last id. -/
theorem Row.init {w : World} {a : Option Addr} {k c : Nat} {X : List Int} {x : Int} (h : Row w (.slice a (k + 1) c) (X ++ [x])) (hk : X.length = k) : Row w (.slice a k c) X := by
  subst hk
  unfold Row at h ⊢
  rw [List.length_append, List.length_singleton, us_append] at h
  rcases h.2 with ⟨_, h0⟩ | ⟨g, cap, cur, hv, hg0, hg, hnc, hcm, hcs, ht⟩
  · omega
  · simp only [Value.slice.injEq] at hv
    obtain ⟨rfl, _, rfl⟩ := hv
    refine ⟨by simp [us], .inr ⟨g, c, cur, rfl, hg0, hg, by omega, hcm, hcs, ?_⟩⟩
    have e : cur.toList.take (X.length * 1) = (cur.toList.take ((X.length + 1) * 1)).take X.length := by rw [List.take_take]; congr 1; omega
    rw [e, ht, List.take_append_of_le_length (by rw [us_length]; omega)]
    exact List.take_of_length_le (by rw [us_length]; omega)

theorem next_some {w : World} {S : Nat → Prop} {hb n : Nat} {A F : List Int} {x : Int} (h : At w S hb n A (x :: F)) (few : F.length ≤ 50000) :
    Calls Try.prog 15 #[.pointer (some ⟨hb, 0, none⟩)] w fun e w' => e = .returned (.tuple #[.int .u64 x, .bool true]) ∧ Hid (At w' (Plus S w w') hb n A F ∧ Only S w w') := by
  obtain ⟨va, vf, a, hl, h64⟩ := h
  rw [List.reverse_cons] at a
  obtain ⟨y, d, hf⟩ := a.rb.slice
  rw [List.length_append, List.length_singleton] at hf
  have c2 := a.c2
  have lt := a.lt_hb
  have hr := a.rb
  rw [hf] at hr
  obtain ⟨g, rfl, gl, cg⟩ := us_in (by have := hr; unfold Row at this; rw [List.length_append, List.length_singleton] at this; exact this) F.reverse.length (by omega)
  have ex : (F.reverse ++ [x]).getD F.reverse.length 0 = x := by simp [List.getD]
  rw [ex] at cg
  obtain ⟨⟨f0, f1, f1'⟩, f2, f3⟩ := a.setF (a' := some ⟨g, 0, none⟩) hf (hr.init rfl) (Only.refl _ w) (fun z hz => .inl ⟨z, hz, rfl⟩)
  have fin := Lib.hid (show At (w.setCell ⟨hb, 2, none⟩ (.slice (some ⟨g, 0, none⟩) F.reverse.length d)) (Plus S w (w.setCell ⟨hb, 2, none⟩ (.slice (some ⟨g, 0, none⟩) F.reverse.length d))) hb n A F ∧ Only S w (w.setCell ⟨hb, 2, none⟩ (.slice (some ⟨g, 0, none⟩) F.reverse.length d)) from
    ⟨⟨_, _, f2, hl, h64⟩, f3⟩)
  have lf : (F.reverse.length : Int) ≤ 50000 := by rw [List.length_reverse]; omega
  have hcap : F.reverse.length + 1 ≤ d := by
    rcases hr.2 with ⟨_, h0⟩ | ⟨g', cap, cur, hv, _, _, hnc, _⟩
    · simp at h0
    · simp only [Value.slice.injEq] at hv
      rw [List.length_append, List.length_singleton] at hnc
      omega
  subst hf
  generalize F.reverse.length = k at *
  have hw : IntKind.i64.wrap ((k : Int) + 1 - 1) = (k : Int) := by rw [IntKind.wrap_i64]; omega
  have hw2 : IntKind.i64.wrap (k : Int) = (k : Int) := by rw [IntKind.wrap_i64]; omega
  have hkc : (k : Int) ≤ (d : Int) := by omega
  have hkk : k < k + 1 := by omega
  clear a hl h64 hr f0 f2 f3 few
  go_enter Try.func15, Try.ntmps15
  go_wp2
  go_ret2
  exact ⟨rfl, fin⟩
end Go.Proofs.Ytdhfmocjhcgicaa.St
