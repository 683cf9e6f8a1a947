/- tree: a row turned round (slices.Reverse); Path. -/
import Derived.Test.YtkeaenkkencmdaaTrH
set_option linter.unusedSimpArgs false
set_option linter.unusedVariables false
namespace Go.Proofs.Ytkeaenkkencmdaa.Tr
open Go.RowKit Go.Proofs.Ytkeaenkkencmdaa Go.Maps

/-- A row's cells, i of them turned round from both ends. -/
def Rv (X : List Int) (n i : Nat) (f : Nat → Value) : Prop := ∀ k, k < n → f k = .int .i64 (if k < i ∨ n ≤ k + i then X.getD (n - 1 - k) 0 else X.getD k 0)
theorem Rv.step {X : List Int} {n i : Nat} {f : Nat → Value} (h : Rv X n i f) (hi : i + i + 1 < n) : Rv X n (i + 1) (upd (upd f i (.int .i64 (X.getD (n - 1 - i) 0))) (n - 1 - i) (.int .i64 (X.getD i 0))) := by
  intro k hk
  unfold upd
  by_cases e1 : k = n - 1 - i
  · rw [if_pos e1, if_pos (.inr (by omega)), e1]
    congr 2; omega
  · rw [if_neg e1]
    by_cases e2 : k = i
    · rw [if_pos e2, if_pos (.inl (by omega)), e2]
    · rw [if_neg e2, h k hk]
      by_cases e3 : k < i ∨ n ≤ k + i
      · rw [if_pos e3, if_pos (by omega)]
      · rw [if_neg e3, if_neg (by omega)]
theorem Rv.done {X : List Int} {n i : Nat} {f : Nat → Value} (hn : X.length = n) (h : Rv X n i f) (hi : n ≤ i + i + 1) : ∀ k, k < n → f k = .int .i64 (X.reverse.getD k 0) := by
  intro k hk
  rw [h k hk]
  have e : X.reverse.getD k 0 = X.getD (n - 1 - k) 0 := by
    have h1 : k < X.reverse.length := by simp; omega
    have h2 : n - 1 - k < X.length := by omega
    rw [List.getD_eq_getElem?_getD, List.getD_eq_getElem?_getD, List.getElem?_eq_getElem h1, List.getElem?_eq_getElem h2, List.getElem_reverse]
    simp only [Option.getD_some]
    congr 1; omega
  rw [e]
  by_cases e3 : k < i ∨ n ≤ k + i
  · rw [if_pos e3]
  · rw [if_neg e3]
    congr 2; omega
theorem rowC_of (cur : Array Value) : cur = rowC cur.size (fun i => cur.getD i undef) := by
  apply Array.ext
  · simp [rowC]
  · intro j h1 h2
    simp [rowC, h1]

set_option maxRecDepth 100000 in
set_option maxHeartbeats 2000000 in
theorem rev_any {w : World} {a : Option Addr} {n c : Nat} {X : List Int} (h : w.ownsRow 0 3 1 (.slice a n c) n (iv X)) (few : n ≤ 1000) :
    Calls Try.prog 29 #[.slice a n c] w fun e w' => e = .returned (.tuple #[]) ∧ Hid (w'.ownsRow 0 3 1 (.slice a n c) n (iv X.reverse) ∧ Only (fun q => some q = (Value.slice a n c).ownBlock) w w') := by
  have hX : X.length = n := by have := h.1; rw [iv_length] at this; omega
  by_cases h0 : n = 0
  · subst h0
    have hX0 : X = [] := List.eq_nil_of_length_eq_zero hX
    subst hX0
    have HH := Lib.hid h
    clear h
    go_enter Try.func29, Try.ntmps29
    go_wp2_with (fail)
    refine wp_loop_rounds 1 ?_
    rw [rounds_succ]
    go_wp2_with (fail)
    go_end0
    exact ⟨rfl, Lib.hid ⟨HH.out, Only.refl _ _⟩⟩
  · obtain ⟨g, cap, cur, e, hbg, hg, hnc, hcm, hcs, htake⟩ := h.2.resolve_left (by rintro ⟨e, e2⟩; omega)
    simp only [Value.slice.injEq] at e
    obtain ⟨rfl, _, rfl⟩ := e
    have hlen := h.1
    have hcur := rowC_of cur
    have hsz : cur.size = c := by omega
    rw [hsz] at hcur
    generalize (fun i => cur.getD i undef) = f0 at hcur
    rw [hcur] at hg
    have hf0 : Hid (Rv X n 0 f0) := Lib.hid (fun k hk => by
      have h1 := h.cellAt k (by omega)
      rw [row_cell hg k (by omega)] at h1
      have h2 : (iv X)[k]? = some (.int .i64 (X.getD k 0)) := by simp [iv, List.getD, show k < X.length by omega]
      rw [h2] at h1
      injection h1 with h1
      rw [h1, if_neg (by omega)])
    have fin := Lib.hid (fun (i : Nat) (f : Nat → Value) (w' : World) (hb : w'.heap[g]? = some (.cells (rowC c f) 3 (0, 0))) (hf : Rv X n i f) (hi : n ≤ i + i + 1) => show w'.ownsRow 0 3 1 (.slice (some ⟨g, 0, none⟩) n c) n (iv X.reverse) from by
      refine ⟨by simp [iv, hX], .inr ⟨g, c, _, rfl, Nat.zero_le _, hb, hnc, hcm, by simp [rowC_size], ?_⟩⟩
      have := hf.done hX hi
      apply List.ext_getElem?
      intro k
      by_cases hk : k < n
      · rw [List.getElem?_take, if_pos (by simpa [iv, hX] using hk)]
        simp [rowC, iv, hX, hk, show k < c by omega, this k hk, List.getD]
      · rw [List.getElem?_eq_none (by simp [iv, hX]; omega), List.getElem?_eq_none (by simp [iv, hX]; omega)])
    have hcn := Lib.hid hnc
    clear h htake hcs hlen hcur hcm hsz
    have n1 : (n : Int) ≤ 1000 := by omega
    have n0 : (1 : Int) ≤ (n : Int) := by omega
    go_enter Try.func29, Try.ntmps29
    go_wp2_with (fail)
    go_loopw [2, 3] (fun s2 s3 wr => ∃ (i : Nat) (f : Nat → Value), i ≤ n ∧ s2 = .int .i64 (i : Int) ∧ s3 = .int .i64 ((n : Int) - 1 - (i : Int)) ∧ Hid (Rv X n i f) ∧ wr.heap[g]? = some (.cells (rowC c f) 3 (0, 0)) ∧ Hid (Only (fun q => some q = (Value.slice (some ⟨g, 0, none⟩) n c).ownBlock) w wr))
      (fun s2 _ _ => n - (intOf s2).toNat)
    case atStart => exact ⟨0, f0, Nat.zero_le _, rfl, by simp, hf0, hg, Lib.hid (Only.refl _ _)⟩
    case round =>
      obtain ⟨i, f, hi, rfl, rfl, HF, hb, HO⟩ := hrel
      by_cases hlt : i + i + 1 < n
      · have hlt' : (i : Int) < (n : Int) - 1 - (i : Int) := by omega
        obtain ⟨j, hj⟩ : ∃ j, j = n - 1 - i := ⟨_, rfl⟩
        have hji : (n : Int) - 1 - (i : Int) = (j : Int) := by omega
        have x1 : wr.cell? ⟨g, i, none⟩ = some (.int .i64 (X.getD i 0)) := by
          rw [row_cell hb i (by have := hcn.out; omega), HF.out i (by omega), if_neg (by omega)]
        have x2 : wr.cell? ⟨g, j, none⟩ = some (.int .i64 (X.getD j 0)) := by
          rw [row_cell hb j (by have := hcn.out; omega), HF.out j (by omega), if_neg (by omega)]
        have z1 := row_frozen hb i
        have z2 := row_frozen hb j
        have HN := Lib.hid (show Rv X n (i + 1) (upd (upd f i (.int .i64 (X.getD j 0))) j (.int .i64 (X.getD i 0))) from by rw [hj]; exact HF.out.step hlt)
        have hb2 := row_set (row_set hb i (.int .i64 (X.getD j 0))) j (.int .i64 (X.getD i 0))
        have hjn : (j : Int) < (n : Int) := by omega
        have hin : (i : Int) < (n : Int) := by omega
        have hij : ¬ i = j := by omega
        have hb2' := Lib.hid hb2
        have HJ := Lib.hid hji
        have HO2 := Lib.hid (show Only (fun q => some q = (Value.slice (some ⟨g, 0, none⟩) n c).ownBlock) w ((wr.setCell ⟨g, i, none⟩ (.int .i64 (X.getD j 0))).setCell ⟨g, j, none⟩ (.int .i64 (X.getD i 0))) from (HO.out.setCell (p := ⟨g, i, none⟩) rfl _).setCell (p := ⟨g, j, none⟩) rfl _)
        rw [hji] at hlt' ⊢
        clear hb2 hb hj hji
        generalize X.getD i 0 = xi at *
        generalize X.getD j 0 = xj at *
        go_wp2_with (fail)
        go_region
        go_wp2_with (fail)
        go_roundw
        case rel => exact ⟨i + 1, _, by omega, by go_num, by have := HJ.out; simp; omega, HN, hb2'.out, Lib.hid HO2.out.drew⟩
        case measure => simp [intOf]; omega
      · have hlt' : ¬ (i : Int) < (n : Int) - 1 - (i : Int) := by omega
        have HE := Lib.hid (fin.out i f wr hb HF.out (by omega))
        clear hb
        go_wp2_with (fail)
        go_end0
        exact ⟨rfl, Lib.hid ⟨HE.out, HO.out⟩⟩

theorem up_zero {T : List Mb} (G : Good T) (m : Nat) : up m T 0 = [] := by
  cases m with
  | zero => rfl
  | succ m => rw [up, if_neg (by rw [G.zero]; decide)]
theorem up_len {T : List Mb} (n : Nat) (x : Int) : (up n T x).length ≤ n := by
  induction n generalizing x with
  | zero => simp [up]
  | succ n ih =>
    unfold up
    split
    · simp only [List.length_cons]; have := ih (par T x); omega
    · simp

set_option maxRecDepth 100000 in
set_option maxHeartbeats 2000000 in
theorem path_any {w : World} {S : Nat → Prop} {tb : Nat} {T : List Mb} (h : At w S tb T) (x : Int) (wx : (Lit.int .i64 x).wf = true) (few : T.length ≤ 1000) :
    Calls Try.prog 18 #[.pointer (some ⟨tb, 0, none⟩), .int .i64 x] w fun e w' => Hid (∃ v, e = .returned v ∧ Fr w w' v (path T x)) := by
  obtain ⟨mb, D, b, a⟩ := h
  have t0 := a.t0
  have t1 := a.t1
  have hl := a.look wx
  have hR := Lib.hid (fun (w' : World) (aa : Option Addr) (p c : Nat) (L : List Int) (F : Fr w w' (.slice aa p c) L) (hp : L.length = p) (hm : p ≤ 1000) => show Calls Try.prog 29 #[.slice aa p c] w' fun e w'' => e = .returned (.tuple #[]) ∧ Hid (Fr w w'' (.slice aa p c) L.reverse) from by
    have hr := F.row
    rw [hp] at hr
    refine (rev_any hr hm).mono fun e w'' h2 => ⟨h2.1, Lib.hid ?_⟩
    obtain ⟨r1, r2⟩ := h2.2.out
    exact ⟨by rw [List.length_reverse, hp]; exact r1, F.new, F.only.then r2 (fun i hi hlt => by have := F.new i hi; omega)⟩)
  cases hx : has T x with
  | false =>
    have hE : path T x = [] := path_none hx
    rw [hE]
    rw [hx] at hl
    simp only [Bool.false_eq_true, if_false] at hl
    have hr := Lib.hid (hR.out w none 0 0 [] (Fr.none (Only.refl _ _)) rfl (by decide))
    clear a hE hx hR
    go_enter Try.func18, Try.ntmps18
    go_wp2_with (fail)
    refine wp_loop_rounds 1 ?_
    rw [rounds_succ]
    go_wp2_with (go_at_call 29; (with_reducible refine hr.out.mono ?_); rintro e w1 ⟨rfl, hf⟩)
    go_ret
    exact Lib.hid ⟨_, rfl, hf.out⟩
  | true =>
    rw [hx] at hl
    simp only [if_true] at hl
    have G := a.good
    have hstep := Lib.hid (fun (y : Int) (m : Nat) (hy : has T y = true) (hm : pos T y < m) => show ∃ m', up m T y = y :: up m' T (par T y) ∧ In T (par T y) ∧ (has T (par T y) = true → pos T (par T y) < m') from by
      cases m with
      | zero => omega
      | succ m =>
        refine ⟨m, by rw [up, if_pos hy], par_in G y, fun h => ?_⟩
        rcases G.par hy with e | e
        · rw [e, G.zero] at h; simp at h
        · omega)
    have hcell := Lib.hid (fun (y : Int) (hy : has T y = true) (w' : World) (o : Only Nil w w') => show w'.cell? ⟨b y, 0, none⟩ = some (.int .i64 y) ∧ w'.cell? ⟨b y, 1, none⟩ = some (.pointer (some ⟨b (par T y), 0, none⟩)) from by
      have a' := a.nil o
      have c1 := a'.c1 (.inr hy)
      have : above T y = some (par T y) := by unfold above; rw [if_neg (by have := G.pos1 hy; omega)]
      rw [this] at c1
      exact ⟨a'.c0 (.inr hy), c1⟩)
    have htop := Lib.hid (fun (w' : World) (o : Only Nil w w') => (a.nil o).t1)
    have hne := Lib.hid (fun (y : Int) (hy : In T y) (w' : World) (o : Only Nil w w') => (a.nil o).neP hy (.inl rfl))
    have hz := Lib.hid (fun m => up_zero G m)
    have hpos := Lib.hid (pos_lt.1 hx)
    have hul := Lib.hid (Nat.le_trans (up_len (T := T) T.length x) few)
    have hG := Lib.hid G
    have hxx := Lib.hid hx
    clear a G few hx t1
    unfold path
    generalize hU : up T.length T x = U at *
    have hU' := Lib.hid hU
    clear hU
    go_enter Try.func18, Try.ntmps18
    go_wp2_with (fail)
    go_loopw [5, 6] (fun s5 s6 wr => ∃ (p c : Nat) (aa : Option Addr) (y : Int), p ≤ 1000 ∧ s5 = .slice aa p c ∧ s6 = .pointer (some ⟨b y, 0, none⟩) ∧ Hid (In T y) ∧ Hid (∃ done m, U = done ++ up m T y ∧ (has T y = true → pos T y < m) ∧ done.length = p ∧ Fr w wr (.slice aa p c) done))
      (fun s5 _ _ => 1000 - lenV s5)
    case atStart => exact ⟨0, 0, none, x, by omega, rfl, rfl, Lib.hid (.inr hxx.out), Lib.hid ⟨[], _, hU'.out.symm, fun _ => hpos.out, rfl, Fr.none (Only.refl _ _)⟩⟩
    case round =>
      obtain ⟨p, c, aa, y, hp, rfl, rfl, HI, H⟩ := hrel
      have hO := Lib.hid (show Only Nil w wr from by obtain ⟨_, _, _, _, _, F⟩ := H.out; exact F.only)
      have hq := hne.out y HI.out wr hO.out
      have q1 := htop.out wr hO.out
      by_cases hy0 : y = 0
      · have HF := Lib.hid (show ∃ done, U = done ∧ done.length = p ∧ Fr w wr (.slice aa p c) done from by
          obtain ⟨done, m, e, _, hd, F⟩ := H.out
          rw [hy0, hz.out, List.append_nil] at e
          exact ⟨done, e, hd, F⟩)
        have hr := Lib.hid (show Calls Try.prog 29 #[.slice aa p c] wr fun e w'' => e = .returned (.tuple #[]) ∧ Hid (Fr w w'' (.slice aa p c) U.reverse) from by
          obtain ⟨done, rfl, hd, F⟩ := HF.out
          exact hR.out wr aa p c U F hd hp)
        rw [decide_eq_true hy0] at hq
        subst hy0
        go_wp2_with (go_at_call 29; (with_reducible refine hr.out.mono ?_); rintro e w1 ⟨rfl, hf⟩)
        go_ret
        exact Lib.hid ⟨_, rfl, hf.out⟩
      · have hy : has T y = true := HI.out.resolve_left hy0
        obtain ⟨c0, c1⟩ := hcell.out y hy wr hO.out
        rw [decide_eq_false hy0] at hq
        have hp1 : p < 1000 := by
          obtain ⟨done, m, e, hm, hd, F⟩ := H.out
          obtain ⟨m', e2, _⟩ := hstep.out y m hy (hm hy)
          have := hul.out
          rw [e, e2] at this
          simp at this
          omega
        have HP : Hid (∃ a' c' w5, Hid ((Builtin.append_ #[40, 40] 40 #[.slice aa p c, .slice (some ⟨wr.heap.size, 0, none⟩) 1 1]).run Try.prog (wr.alloc (.cells #[.int .i64 y] 3)) = .ok (.slice a' (p + 1) c') w5) ∧
            Hid (In T (par T y)) ∧ Hid (∃ done m, U = done ++ up m T (par T y) ∧ (has T (par T y) = true → pos T (par T y) < m) ∧ done.length = p + 1 ∧ Fr w w5 (.slice a' (p + 1) c') done)) := by
          obtain ⟨done, m, e, hm, hd, F⟩ := H.out
          obtain ⟨m', e2, e3, e4⟩ := hstep.out y m hy (hm hy)
          obtain ⟨a', c', w5, hr, hg⟩ := push F.row hd y (by omega)
          exact Lib.hid ⟨a', c', w5, hr, Lib.hid e3, Lib.hid ⟨done ++ [y], m', by rw [e, e2]; simp, e4, by simp [hd], F.grown hg⟩⟩
        obtain ⟨a', c', w5, hr, HI5, HN⟩ := HP.out
        have hO5 := Lib.hid (show Only Nil w w5 from by obtain ⟨_, _, _, _, _, F⟩ := HN.out; exact F.only)
        have k1 := (hcell.out y hy w5 hO5.out).2
        clear HP
        go_wp2_with (at_builtin; refine Lib.wpList_append_run _ rfl (.tmp 27) (.tmp 32) 40 40 rfl _ _ rfl rfl _ _ hr.out ?_)
        go_roundw
        case rel => exact ⟨p + 1, c', a', par T y, by omega, rfl, rfl, HI5, HN⟩
        case measure => simp [lenV]; omega
end Go.Proofs.Ytkeaenkkencmdaa.Tr
