/- tree, the document's: Add, Cut. -/
import Derived.Test.YtkeaenkkencmdaaTrN
import Derived.Laws.AppendOwnNone
set_option linter.unusedSimpArgs false
set_option linter.unusedVariables false
namespace Go.Proofs.Ytkeaenkkencmdaa.Tr
open Go.RowKit Go.Proofs.Ytkeaenkkencmdaa

/-- In world w' there is a row v' of the members T'; it is v's or a new one; nothing that there was in w has turned. -/
structure Rs (w w' : World) (v v' : Value) (T' : List Mb) : Prop where
  row : w'.ownsRow 0 38 2 v' T'.length (ms T')
  nil0 : T' = [] → v' = .slice none 0 0
  fr : ∀ g, some g = v'.ownBlock → some g = v.ownBlock ∨ w.heap.size ≤ g
  only : Only Nil w w'
/-- .. of what a function answered. -/
def Out (w w' : World) (v : Value) (e : Ending) (T' : List Mb) (r : Int) : Prop := ∃ (a : Option Addr) (n c : Nat), e = .returned (.tuple #[.slice a n c, .int .i64 r]) ∧ T'.length = n ∧ Hid (Rs w w' v (.slice a n c) T')

/-- One more at the end of a row that is new. -/
theorem Rs.push {w0 w : World} {a : Option Addr} {c n : Nat} {X : List Mb} (h : Rs w0 w (.slice none 0 0) (.slice a n c) X) (hn : X.length = n) (m : Mb) (few : n ≤ 65000) :
    ∃ a' c' w5, Hid ((Builtin.append_ #[26, 26] 26 #[.slice a n c, .slice (some ⟨w.heap.size, 0, none⟩) 1 1]).run Try.prog (w.alloc (.cells #[.int .i64 m.1, .int .i64 m.2] 38)) = .ok (.slice a' (n + 1) c') w5) ∧
      Hid (Rs w0 w5 (.slice none 0 0) (.slice a' (n + 1) c') (X ++ [m])) := by
  subst hn
  have oA : Only Nil w (w.alloc (.cells #[.int .i64 m.1, .int .i64 m.2] 38)) := (Only.refl Nil w).alloc _
  obtain ⟨a', c', w5, hr, ho, hon, hsn⟩ := run_append_end (P := Try.prog) (w := w.alloc (.cells #[.int .i64 m.1, .int .i64 m.2] 38)) (t := 26) (ty := 26) (e := 38) (size := 2) (bytes := 16) Try.underlying26 Try.infoM rfl (own_keep h.row oA (fun _ _ h => h)) ⟨w.heap.size, 0, none⟩ (mc m) rfl
    (by intro u hu; simp [mc] at hu; rcases hu with rfl | rfl <;> rfl)
    (fun j u hj => by
      rw [add_lit0, cell_of_row _ w.heap.size _ _ _ _ (heap_new w (.cells #[.int .i64 m.1, .int .i64 m.2] 38)), Nat.zero_add]
      simpa [mc] using hj) (by omega) (by decide)
  have hfr : ∀ g, some g = (Value.slice a X.length c).ownBlock → w0.heap.size ≤ g := fun g hg => (h.fr g hg).elim (fun e => by simp [Value.ownBlock] at e) id
  refine ⟨a', c', w5, Lib.hid hr, Lib.hid ⟨?_, fun e => by simp at e, fun g hg => ?_, ?_⟩⟩
  · rw [List.length_append, ms_append, ms_one]
    exact ho
  · refine .inr ?_
    cases a' with
    | none => simp [Value.ownBlock] at hg
    | some x =>
      have hg' : g = x.block := by simpa [Value.ownBlock] using hg
      rcases hsn x rfl with ⟨y, hy, e⟩ | e
      · have := hfr y.block (by rw [hy]; rfl)
        omega
      · have := h.only.size; have := oA.size; omega
  · refine (h.only.trans oA).then hon (fun q hq hlt => ?_)
    have := hfr q (row_own' hq)
    omega

/-- append of a whole row to nil: a new row, or nothing. -/
theorem copied {w : World} {v : Value} {T : List Mb} (h : w.ownsRow 0 38 2 v T.length (ms T)) (h0 : T = [] → v = .slice none 0 0) (few : T.length ≤ 65000) :
    ∃ a' c' w5, Hid ((Builtin.append_ #[26, 26] 26 #[.slice none 0 0, v]).run Try.prog w = .ok (.slice a' T.length c') w5) ∧ Hid (Rs w w5 (.slice none 0 0) (.slice a' T.length c') T) := by
  obtain ⟨i0, hi0, hz0, hz1, hz2⟩ := info_parts Try.infoM
  by_cases hT : T = []
  · have hv := h0 hT
    subst hT hv
    exact ⟨none, 0, w, Lib.hid (run_append_owned_none (P := Try.prog) (w := w) 0 26 26 38 i0 2 Try.underlying26 hi0 (.slice none 0 0) 0 [] (World.ownsRow_nil _ _ _ _)),
      Lib.hid ⟨World.ownsRow_nil _ _ _ _, fun _ => rfl, fun g hg => .inl hg, Only.refl _ _⟩⟩
  · rcases h.2 with ⟨_, hh⟩ | ⟨g, cap, cur, rfl, _, hg, hnc, _, hcs, htake⟩
    · exact absurd (List.eq_nil_of_length_eq_zero hh) hT
    · have hpos : 0 < T.length := List.length_pos_iff.2 hT
      obtain ⟨c', w', hr, ho, hon⟩ := run_append_new (P := Try.prog) w 26 26 _ i0 _ 2 16 Try.underlying26 hi0 hz0 hz1 hz2 rfl none 0 [] (World.ownsRow_nil _ _ _ _) ⟨g, 0, none⟩ T.length cap hpos (ms T) (ms_length T) (fun j u hj => by
        have hj' : j < T.length * 2 := by have := (List.getElem?_eq_some_iff.1 hj).1; rw [ms_length] at this; exact this
        rw [add_lit0, Nat.zero_add, h.cellAt j hj']; exact hj) (by unfold maxLen; omega) (by rw [Nat.zero_add]; omega)
      rw [Nat.zero_add] at hr ho
      exact ⟨_, _, w', Lib.hid hr, Lib.hid ⟨by simpa using ho, fun e => absurd e hT, fun q hq => .inr (by simp [Value.ownBlock] at hq; omega), hon⟩⟩

set_option maxRecDepth 100000 in
set_option maxHeartbeats 2000000 in
theorem radd_any {w : World} {a : Option Addr} {n c : Nat} {T : List Mb} (h : w.ownsRow 0 38 2 (.slice a n c) T.length (ms T)) (h0 : T = [] → Value.slice a n c = .slice none 0 0) (hn : T.length = n) (few : n ≤ 1000) (p x : Int) :
    Calls Try.prog 11 #[.slice a n c, .int .i64 p, .int .i64 x] w fun e w' => Out w w' (.slice a n c) e (addT T p x) (addE T p x) := by
  have hin := own_min h
  have HX := Lib.hid (rat_any (c := c) hin hn few x)
  have HP := Lib.hid (rat_any (c := c) hin hn few p)
  have no := Lib.hid (fun (he : addE T p x ≠ 0) => show Rs w w (.slice a n c) (.slice a n c) (addT T p x) ∧ (addT T p x).length = n from by
    unfold addT; rw [if_neg he]; exact ⟨⟨h, h0, fun g hg => .inl hg, Only.refl _ _⟩, hn⟩)
  have few' : (n : Int) ≤ 1000 := by omega
  have hpos := pos_le T x
  have hposp := pos_le T p
  by_cases h1 : x < 1
  · have hE : addE T p x = 1 := by unfold addE; rw [if_pos h1]
    have nn := Lib.hid (no.out (by rw [hE]; decide))
    rw [hE]
    clear h h0 hE no hin
    go_enter Try.func11, Try.ntmps11
    go_wp2_with (fail)
    go_ret2
    exact ⟨a, n, c, rfl, nn.out.2, Lib.hid nn.out.1⟩
  cases hx : has T x with
  | true =>
    have hE : addE T p x = 3 := by unfold addE; rw [if_neg h1, if_pos hx]
    have nn := Lib.hid (no.out (by rw [hE]; decide))
    rw [hE]
    rw [atI_ge hx] at HX
    clear h h0 hE no hin hx
    go_enter Try.func11, Try.ntmps11
    go_wp2_with (go_at_call 22; (with_reducible refine HX.out.mono ?_); rintro e w1 ⟨rfl, rfl⟩)
    go_ret2
    exact ⟨a, n, c, rfl, nn.out.2, Lib.hid nn.out.1⟩
  | false =>
    rw [atI_lt hx] at HX
    have HF := Lib.hid (fun (hE : addE T p x = 0) => show ∃ a1 c1 w1, Hid ((Builtin.append_ #[26, 26] 26 #[.slice none 0 0, .slice a n c]).run Try.prog w = .ok (.slice a1 n c1) w1) ∧
        ∃ a2 c2 w2, Hid ((Builtin.append_ #[26, 26] 26 #[.slice a1 n c1, .slice (some ⟨w1.heap.size, 0, none⟩) 1 1]).run Try.prog (w1.alloc (.cells #[.int .i64 x, .int .i64 p] 38)) = .ok (.slice a2 (n + 1) c2) w2) ∧
        Hid (Rs w w2 (.slice a n c) (.slice a2 (n + 1) c2) (addT T p x) ∧ (addT T p x).length = n + 1) from by
      obtain ⟨a1, c1, w1, hr1, hR1⟩ := copied h h0 (by omega)
      rw [hn] at hr1 hR1
      obtain ⟨a2, c2, w2, hr2, hR2⟩ := hR1.out.push hn (x, p) (by omega)
      refine ⟨a1, c1, w1, hr1, a2, c2, w2, hr2, Lib.hid ?_⟩
      unfold addT
      rw [if_pos hE]
      exact ⟨⟨hR2.out.row, hR2.out.nil0, fun g hg => (hR2.out.fr g hg).elim (fun e => by simp [Value.ownBlock] at e) .inr, hR2.out.only⟩, by simp [hn]⟩)
    have hTn : T = [] ↔ n = 0 := by rw [← hn]; exact List.length_eq_zero_iff.symm
    clear h h0 hin
    by_cases hp0 : p = 0
    · subst hp0
      by_cases hT : n = 0
      · have hE : addE T 0 x = 0 := by unfold addE; rw [if_neg h1, hx]; simp [hTn.2 hT]
        obtain ⟨a1, c1, w1, hr1, a2, c2, w2, hr2, hR⟩ := HF.out hE
        rw [hE]
        subst hT
        clear hE no HF hx hTn
        go_enter Try.func11, Try.ntmps11
        go_wp2_with (first
          | (go_at_call 22; (with_reducible refine HX.out.mono ?_); rintro e w' ⟨rfl, rfl⟩)
          | (at_builtin; refine Lib.wpList_append_run _ rfl (.tmp 34) (.tmp 35) 26 26 rfl _ _ rfl rfl _ _ hr1.out ?_)
          | (at_builtin; refine Lib.wpList_append_run _ rfl (.tmp 37) (.tmp 41) 26 26 rfl _ _ rfl rfl _ _ hr2.out ?_))
        go_ret2
        exact ⟨a2, _, c2, rfl, hR.out.2, Lib.hid hR.out.1⟩
      · have hE : addE T 0 x = 4 := by unfold addE; rw [if_neg h1, hx]; simp [show ¬ T = [] from fun e => hT (hTn.1 e)]
        have nn := Lib.hid (no.out (by rw [hE]; decide))
        rw [hE]
        have hT' : (0 : Int) < (n : Int) := by omega
        clear hE no HF hx hTn hT
        go_enter Try.func11, Try.ntmps11
        go_wp2_with (go_at_call 22; (with_reducible refine HX.out.mono ?_); rintro e w1 ⟨rfl, rfl⟩)
        go_ret2
        exact ⟨a, n, c, rfl, nn.out.2, Lib.hid nn.out.1⟩
    · cases hpT : has T p with
      | true =>
        have hE : addE T p x = 0 := by unfold addE; rw [if_neg h1, hx]; simp [hp0, hpT]
        obtain ⟨a1, c1, w1, hr1, a2, c2, w2, hr2, hR⟩ := HF.out hE
        rw [hE]
        rw [atI_ge hpT] at HP
        clear hE no HF hx hTn hpT
        go_enter Try.func11, Try.ntmps11
        go_wp2_with (first
          | (go_at_call 22; (with_reducible refine HX.out.mono ?_); rintro e w' ⟨rfl, rfl⟩; clear HX)
          | (go_at_call 22; (with_reducible refine HP.out.mono ?_); rintro e w' ⟨rfl, rfl⟩; clear HP)
          | (at_builtin; refine Lib.wpList_append_run _ rfl (.tmp 34) (.tmp 35) 26 26 rfl _ _ rfl rfl _ _ hr1.out ?_)
          | (at_builtin; refine Lib.wpList_append_run _ rfl (.tmp 37) (.tmp 41) 26 26 rfl _ _ rfl rfl _ _ hr2.out ?_))
        go_ret2
        exact ⟨a2, _, c2, rfl, hR.out.2, Lib.hid hR.out.1⟩
      | false =>
        have hE : addE T p x = 2 := by unfold addE; rw [if_neg h1, hx]; simp [hp0, hpT]
        have nn := Lib.hid (no.out (by rw [hE]; decide))
        rw [hE]
        rw [atI_lt hpT] at HP
        clear hE no HF hx hTn hpT
        go_enter Try.func11, Try.ntmps11
        go_wp2_with (first
          | (go_at_call 22; (with_reducible refine HX.out.mono ?_); rintro e w' ⟨rfl, rfl⟩; clear HX)
          | (go_at_call 22; (with_reducible refine HP.out.mono ?_); rintro e w' ⟨rfl, rfl⟩; clear HP))
        go_ret2
        exact ⟨a, n, c, rfl, nn.out.2, Lib.hid nn.out.1⟩
end Go.Proofs.Ytkeaenkkencmdaa.Tr
