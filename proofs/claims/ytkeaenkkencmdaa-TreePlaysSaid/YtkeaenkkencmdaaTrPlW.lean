/- tree: TreePlays' walk. -/
import Derived.Test.YtkeaenkkencmdaaTrS
set_option linter.unusedSimpArgs false
set_option linter.unusedVariables false
namespace Go.Proofs.Ytkeaenkkencmdaa.Tr
open Go.RowKit Go.Proofs.Ytkeaenkkencmdaa

/-- What the law holds ahead of a round: the tree, and the document's list of the same members. -/
structure Pl (W w : World) (tb : Nat) (T : List Mb) (v : Value) : Prop where
  st : St W (OwnP v) w tb T
  row : w.ownsRow 0 38 2 v T.length (ms T)
  nil0 : T = [] → v = .slice none 0 0
  new : ∀ g, OwnP v g → W.heap.size ≤ g
def Kr (v : Value) (ob q : Nat) : Prop := OwnP v q ∨ q = ob
/-- .. within a round: the operation lies in a block of its own. -/
structure Pm (W w : World) (tb ob : Nat) (T : List Mb) (v : Value) (T' : List Mb) (o : Op) : Prop where
  st : St W (Kr v ob) w tb T
  row : w.ownsRow 0 38 2 v T'.length (ms T')
  nil0 : T' = [] → v = .slice none 0 0
  new : ∀ g, OwnP v g → W.heap.size ≤ g
  obn : W.heap.size ≤ ob
  op : w.heap[ob]? = some (.cells #[.bool o.k, .int .i64 o.p, .int .i64 o.id] 28 (0, 0))
section
variable {W w w' : World} {tb ob : Nat} {T T' : List Mb} {v v' : Value} {o : Op}
theorem Pl.box (h : Pl W w tb T v) (o : Op) : Pm W (w.alloc (.cells #[.bool o.k, .int .i64 o.p, .int .i64 o.id] 28)) tb w.heap.size T v T o := by
  have on : Only Nil w (w.alloc (.cells #[.bool o.k, .int .i64 o.p, .int .i64 o.id] 28)) := (Only.refl Nil w).alloc _
  refine ⟨h.st.re on (fun q h => h.elim) (fun q h => h.elim) (fun q hq => ?_), own_keep h.row on (fun _ _ h => h), h.nil0, h.new, h.st.only.size, heap_new w _⟩
  rcases hq with hq | hq
  · have := (h.row.lt q hq.symm).2
    exact ⟨.inl hq, by simp; omega⟩
  · subst hq; exact ⟨.inr (Nat.le_refl _), by simp⟩
theorem Pm.nil (h : Pm W w tb ob T v T' o) (on : Only Nil w w') : Pm W w' tb ob T v T' o :=
  ⟨h.st.nil on, own_keep h.row on (fun _ _ h => h), h.nil0, h.new, h.obn, (on.block _ (lt_of_block h.op) (fun h => h)).trans h.op⟩
theorem Pm.ref (h : Pm W w tb ob T v T o) (R : Rs w w' v v' T') : Pm W w' tb ob T v' T' o := by
  have hs := h.st.only.size
  refine ⟨h.st.re R.only (fun q h => h.elim) (fun q h => h.elim) (fun q hq => ?_), R.row, R.nil0, fun g hg => ?_, h.obn, (R.only.block _ (lt_of_block h.op) (fun h => h)).trans h.op⟩
  · rcases hq with hq | hq
    · exact ⟨(R.fr q hq).imp .inl id, (R.row.lt q hq.symm).2⟩
    · subst hq; exact ⟨.inl (.inr rfl), Nat.lt_of_lt_of_le (lt_of_block h.op) R.only.size⟩
  · rcases R.fr g hg with h1 | h1
    · exact h.new g h1
    · omega
theorem Pm.tree (h : Pm W w tb ob T v T' o) (st : St W (Kr v ob) w' tb T') (on : Only (Free W (Kr v ob)) w w') : Pm W w' tb ob T' v T' o :=
  ⟨st, own_keep h.row on (fun g hg hf => hf.2 (.inl hg)), h.nil0, h.new, h.obn, (on.block _ (lt_of_block h.op) (fun hf => hf.2 (.inr rfl))).trans h.op⟩
theorem Pm.over (h : Pm W w tb ob T v T o) : Pl W w tb T v :=
  ⟨h.st.re (Only.refl Nil w) (fun q h => h.elim) (fun q h => h.elim) (fun q hq => ⟨.inl (.inl hq), (h.row.lt q hq.symm).2⟩), h.row, h.nil0, h.new⟩
theorem Pm.c0 (h : Pm W w tb ob T v T' o) : w.cell? ⟨ob, 0, none⟩ = some (.bool o.k) := by simp [World.cell?, h.op]
theorem Pm.c1 (h : Pm W w tb ob T v T' o) : w.cell? ⟨ob, 1, none⟩ = some (.int .i64 o.p) := by simp [World.cell?, h.op]
theorem Pm.c2 (h : Pm W w tb ob T v T' o) : w.cell? ⟨ob, 2, none⟩ = some (.int .i64 o.id) := by simp [World.cell?, h.op]
end

set_option maxRecDepth 100000 in
set_option maxHeartbeats 20000000 in
theorem plays_all {W : World} {a : Option Addr} {cap : Nat} {S : List Op} (hS : OpsIn W a S) (hr : S.length * 24 ≤ 140737488351232) :
    Calls Try.prog 3 #[.slice a S.length cap] W fun e w' => e = .returned (.bool true) ∧ Below W.heap.size W w' := by
  have HA := Lib.hid (alive_any W)
  have HS := Lib.hid hS
  obtain ⟨l, hl⟩ : ∃ l, l = S.length := ⟨_, rfl⟩
  have l63 : (l : Int) ≤ 140737488351232 := by omega
  rw [← hl]
  have Hl := Lib.hid hl
  have HN := Lib.hid (fun (w1 : World) (o1 : Only Nil W w1) => st_new (K := OwnP (.slice none 0 0)) o1 (fun q hq => by simp [OwnP, Value.ownBlock] at hq))
  clear hS hr hl
  go_enter Try.func3, Try.ntmps3
  go_upto_region 4 with (first
    | (go_at_call 7; (with_reducible refine HA.out.mono ?_); rintro e w1 ⟨rfl, o1⟩; have O1 := Lib.hid o1; clear o1 HA)
    | (go_at_call 8; (with_reducible refine (HN.out _ O1.out).mono ?_); rintro e w2 ⟨rfl, h2, _⟩; have k2 := Lib.hid h2; clear h2 HN O1))
  generalize w1.heap.size + 2 = tb at *
  go_wp2_with (fail)
  go_loopw [4, 5] (fun s4 s5 wr => ∃ (i n c : Nat) (T : List Mb) (aa : Option Addr), i ≤ l ∧ i ≤ 100 ∧ n ≤ i ∧ s5 = .int .i64 (i : Int) ∧ s4 = .slice aa n c ∧ Hid (Pl W wr tb T (.slice aa n c) ∧ T.length = n))
    (fun _ s5 _ => l - (intOf s5).toNat)
  case atStart => exact ⟨0, 0, 0, [], none, Nat.zero_le _, by decide, Nat.le_refl _, rfl, rfl, Lib.hid ⟨⟨k2.out, World.ownsRow_nil _ _ _ _, fun _ => rfl, fun g hg => by simp [OwnP, Value.ownBlock] at hg⟩, rfl⟩⟩
  case round =>
    obtain ⟨i, n, c, T, aa, hil, hi, hni, rfl, rfl, H⟩ := hrel
    have hsm : (i : Int) ≤ 100 := by omega
    have nsm : (n : Int) ≤ 100 := by omega
    by_cases hin : i < l ∧ i < 100
    · have hin' : (i : Int) < (l : Int) := by omega
      have h100 : (i : Int) < 100 := by omega
      obtain ⟨b, off, rfl, hlt, hc⟩ := HS.out i (by rw [← Hl.out]; exact hin.1)
      obtain ⟨x0, x1, x2⟩ := hc i (by rw [← Hl.out]; exact hin.1)
      obtain ⟨o, ho⟩ : ∃ o, o = S.getD i default := ⟨_, rfl⟩
      rw [← ho] at x0 x1 x2
      have on := H.out.1.st.only
      have y0 := (World.cell?_of_block (a := ⟨b, off + i * 3, none⟩) (on.block b hlt (fun h => h))).trans x0
      have y1 := (World.cell?_of_block (a := ⟨b, off + i * 3 + 1, none⟩) (on.block b hlt (fun h => h))).trans x1
      have y2 := (World.cell?_of_block (a := ⟨b, off + i * 3 + 2, none⟩) (on.block b hlt (fun h => h))).trans x2
      have R := Lib.hid (H.out.1.box o)
      have HT := Lib.hid H.out.2
      have OK := Lib.hid (And.intro o.pok o.ok)
      clear hc ho x0 x1 x2 hlt on H
      go_upto_region 9 with (fail)
      have r0 := R.out.c0
      have r1 := R.out.c1
      have r2 := R.out.c2
      generalize hW2 : wr.alloc (.cells #[.bool o.k, .int .i64 o.p, .int .i64 o.id] 28) = W2 at *
      generalize wr.heap.size = ob at *
      clear hW2 y0 y1 y2
      have RC := Lib.hid (rcut_any R.out.row R.out.nil0 HT.out (by omega) o.id)
      have RA := Lib.hid (radd_any R.out.row R.out.nil0 HT.out (by omega) o.p o.id)
      have LE := Lib.hid (And.intro (cutT_le T o.id) (addT_le T o.p o.id))
      generalize hok : o.k = kk at *
      cases kk with
      | true =>
        go_upto_region 12 with (go_at_call 9; (with_reducible refine RC.out.mono ?_); rintro e w3 ⟨a3, n3, c3, rfl, hn3, R3⟩; have P3 := Lib.hid (R.out.ref R3.out); obtain z2 := P3.out.c2)
        have CT := Lib.hid ((st_cut P3.out.st o.id OK.out.2).mono (R' := fun e w' => e = .returned (.int .i64 (cutE T o.id)) ∧ Pm W w' tb ob (cutT T o.id) (.slice a3 n3 c3) (cutT T o.id) o) fun e w' ⟨he, hst, ho⟩ => ⟨he, P3.out.tree hst ho⟩)
        have L3 := Lib.hid hn3
        have n3le : n3 ≤ i + 1 := by have := LE.out.1; have := HT.out; omega
        clear RC RA R R3 r0 r1 r2 P3 hn3 LE
        generalize cutE T o.id = E at *
        generalize cutT T o.id = T' at *
        go_upto_region 18 with (go_at_call 10; (with_reducible refine CT.out.mono ?_); rintro e w4 ⟨rfl, h4⟩; have P4 := Lib.hid h4; clear h4 CT)
        have LN := Lib.hid (show Calls Try.prog 13 #[.pointer (some ⟨tb, 0, none⟩)] w4 fun e w' => e = .returned (.int .i64 (n3 : Nat)) ∧ w4 = w' from by have := st_len P4.out.st; rw [L3.out] at this; exact this)
        have SM := Lib.hid (fun (w' : World) (o' : Only Nil w4 w') (y : Int) (wy : (Lit.int .i64 y).wf = true) => same_any (c := c3) (P4.out.st.nil o') ((own_min P4.out.row).nil o') L3.out (by omega) y wy)
        have S1 := Lib.hid (SM.out w4 (Only.refl _ _) o.id OK.out.2)
        have u1 := P4.out.c1
        have u2 := P4.out.c2
        have hE : (E != E) = false := by simp
        go_wp2_with (first
          | (go_at_call 13; (with_reducible refine LN.out.mono ?_); rintro e w' ⟨rfl, rfl⟩)
          | (go_at_call 14; (with_reducible refine S1.out.mono ?_); rintro e w5 ⟨rfl, o5⟩; have O5 := Lib.hid o5; have S2 := Lib.hid (SM.out w5 o5 o.p OK.out.1); have v1 := (P4.out.nil o5).c1; clear o5 S1)
          | (go_at_call 14; (with_reducible refine S2.out.mono ?_); rintro e w6 ⟨rfl, o6⟩; have P6 := Lib.hid (P4.out.nil (O5.out.trans o6)); clear o6 S2))
        go_roundw
        case rel => exact ⟨i + 1, n3, c3, T', a3, by omega, by omega, by omega, by go_num, rfl, Lib.hid ⟨P6.out.over, L3.out⟩⟩
        case measure => simp [intOf]; omega
      | false =>
        go_upto_region 16 with (go_at_call 11; (with_reducible refine RA.out.mono ?_); rintro e w3 ⟨a3, n3, c3, rfl, hn3, R3⟩; have P3 := Lib.hid (R.out.ref R3.out); obtain z1 := P3.out.c1; obtain z2 := P3.out.c2)
        have CT := Lib.hid ((st_add P3.out.st o.p o.id OK.out.1 OK.out.2 (by have := HT.out; omega)).mono (R' := fun e w' => e = .returned (.int .i64 (addE T o.p o.id)) ∧ Pm W w' tb ob (addT T o.p o.id) (.slice a3 n3 c3) (addT T o.p o.id) o) fun e w' ⟨he, hst, ho⟩ => ⟨he, P3.out.tree hst ho⟩)
        have L3 := Lib.hid hn3
        have n3le : n3 ≤ i + 1 := by have := LE.out.2; have := HT.out; omega
        clear RC RA R R3 r0 r1 r2 P3 hn3 LE
        generalize addE T o.p o.id = E at *
        generalize addT T o.p o.id = T' at *
        go_upto_region 18 with (go_at_call 12; (with_reducible refine CT.out.mono ?_); rintro e w4 ⟨rfl, h4⟩; have P4 := Lib.hid h4; clear h4 CT)
        have LN := Lib.hid (show Calls Try.prog 13 #[.pointer (some ⟨tb, 0, none⟩)] w4 fun e w' => e = .returned (.int .i64 (n3 : Nat)) ∧ w4 = w' from by have := st_len P4.out.st; rw [L3.out] at this; exact this)
        have SM := Lib.hid (fun (w' : World) (o' : Only Nil w4 w') (y : Int) (wy : (Lit.int .i64 y).wf = true) => same_any (c := c3) (P4.out.st.nil o') ((own_min P4.out.row).nil o') L3.out (by omega) y wy)
        have S1 := Lib.hid (SM.out w4 (Only.refl _ _) o.id OK.out.2)
        have u1 := P4.out.c1
        have u2 := P4.out.c2
        have hE : (E != E) = false := by simp
        go_wp2_with (first
          | (go_at_call 13; (with_reducible refine LN.out.mono ?_); rintro e w' ⟨rfl, rfl⟩)
          | (go_at_call 14; (with_reducible refine S1.out.mono ?_); rintro e w5 ⟨rfl, o5⟩; have O5 := Lib.hid o5; have S2 := Lib.hid (SM.out w5 o5 o.p OK.out.1); have v1 := (P4.out.nil o5).c1; clear o5 S1)
          | (go_at_call 14; (with_reducible refine S2.out.mono ?_); rintro e w6 ⟨rfl, o6⟩; have P6 := Lib.hid (P4.out.nil (O5.out.trans o6)); clear o6 S2))
        go_roundw
        case rel => exact ⟨i + 1, n3, c3, T', a3, by omega, by omega, by omega, by go_num, rfl, Lib.hid ⟨P6.out.over, L3.out⟩⟩
        case measure => simp [intOf]; omega
    · have HP := Lib.hid H.out.1
      have HT := Lib.hid H.out.2
      have SM := Lib.hid (fun (w' : World) (o' : Only Nil wr w') (y : Int) (wy : (Lit.int .i64 y).wf = true) => same_any (c := c) (H.out.1.st.nil o') ((own_min H.out.1.row).nil o') H.out.2 (by omega) y wy)
      have hnot : ¬ ((i : Int) < (l : Int) ∧ (i : Int) < 100) := by omega
      have MN := Lib.hid (own_min H.out.1.row)
      have OW := Lib.hid H.out.1.st.only
      have WF := Lib.hid (fun (j : Nat) (hj : j < n) => show (Lit.int .i64 (T.getD j default).1).wf = true from by
        have h1 : j < T.length := by rw [H.out.2]; exact hj
        rw [show T.getD j default = T[j] from by simp [List.getD, h1]]
        exact (H.out.1.st.good.low _ (List.getElem_mem h1)).2)
      obtain ⟨V, hV⟩ : ∃ V, V = wr := ⟨_, rfl⟩
      subst hV
      clear H
      rcases (show i = l ∨ (i < l ∧ i = 100) by omega) with rfl | ⟨h1, rfl⟩
      case' inl =>
        have hk0 : ¬ (i : Int) < (i : Int) := by omega
        clear hnot
        go_wp2_with (fail)
      case' inr =>
        have hk0 : (100 : Int) < (l : Int) := by omega
        have hk1 : ¬ (100 : Int) < 100 := by omega
        clear hnot
        go_wp2_with (fail)
      all_goals (
        go_loopw [11] (fun s11 wr => ∃ (j : Nat), j ≤ n ∧ s11 = .int .i64 (j : Int) ∧ Hid (Only Nil V wr))
          (fun s11 _ => n - (intOf s11).toNat)
        case atStart => exact ⟨0, Nat.zero_le _, rfl, Lib.hid (Only.refl _ _)⟩
        case round =>
          obtain ⟨j, hj, rfl, HO⟩ := hrel
          by_cases hjn : j < n
          · have hjn' : (j : Int) < (n : Int) := by omega
            obtain ⟨g, rfl, _, hc⟩ := (MN.out.nil HO.out) j (by rw [HT.out]; exact hjn)
            have x0 := (hc j (by rw [HT.out]; exact hjn)).1
            have wz := Lib.hid (WF.out j hjn)
            obtain ⟨z, hz⟩ : ∃ z, z = (T.getD j default).1 := ⟨_, rfl⟩
            rw [← hz] at x0 wz
            have SZ := Lib.hid (SM.out _ HO.out z wz.out)
            clear hc hz
            go_wp2_with (go_at_call 14; (with_reducible refine SZ.out.mono ?_); rintro e w5 ⟨rfl, o5⟩; have O5 := Lib.hid (HO.out.trans o5); clear o5)
            go_roundw
            case rel => exact ⟨j + 1, by omega, by go_num, O5⟩
            case measure => simp [intOf]; omega
          · obtain rfl : j = n := by omega
            have hk2 : ¬ (j : Int) < (j : Int) := by omega
            clear hjn
            go_wp2_with (fail)
            go_ret
            exact ⟨rfl, (OW.out.trans HO.out).below (Nat.le_refl _) (fun _ h => h.elim)⟩)
end Go.Proofs.Ytkeaenkkencmdaa.Tr
