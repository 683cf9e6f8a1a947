/- lot: the document's Order. -/
import Derived.Test.YtokopocldicnmaaLtG
namespace Go.Proofs.Ytokopocldicnmaa.Lt
open Go.RowKit Go.Proofs.Ytokopocldicnmaa

theorem own_base {w : World} {b b' : Nat} {e : TypeId} {s : Nat} {v : Value} {n : Nat} {xs : List Value} (h : w.ownsRow b e s v n xs) (hb : b' ≤ b) : w.ownsRow b' e s v n xs := by
  refine ⟨h.1, h.2.imp id ?_⟩
  rintro ⟨g, c, cur, h1, h2, h3⟩
  exact ⟨g, c, cur, h1, Nat.le_trans hb h2, h3⟩

set_option maxRecDepth 100000 in
set_option maxHeartbeats 4000000 in
theorem rorder_yes (d n s : Nat) (hd : d < 18446744073709551616) (hn : 1 ≤ n) (hn8 : n ≤ 8) (hs : s < n) (w : World) : Calls Try.prog 42 #[.int .u64 (d : Int), .int .i64 (n : Int), .int .i64 (s : Int)] w fun e w' =>
    ∃ v, e = .returned v ∧ Hid (w'.ownsRow w.heap.size 3 1 v (n - 1) (nv (ord (n - 1) d (upTo n s)))) ∧ Only Nil w w' := by
  have e := there_any (n : Int) (s : Int)
  rw [show decide (There (n : Int) (s : Int)) = true from decide_eq_true ⟨by omega, by omega, by omega, by omega⟩] at e
  have e' := Lib.hid e
  have ul := upTo_length n s
  rw [if_pos hs] at ul
  obtain ⟨m, hm⟩ : ∃ m, m = n - 1 := ⟨_, rfl⟩
  have hnm : (n : Int) - 1 = (m : Int) := by omega
  have hm7 : (m : Int) ≤ 7 := by omega
  have hd' := Lib.hid hd
  have hmn := Lib.hid (show n = m + 1 by omega)
  have hs' : (s : Int) < (n : Int) := by omega
  have hn8i : (n : Int) ≤ 8 := by omega
  rw [← hm] at ul ⊢
  have ul' := Lib.hid ul
  obtain ⟨T, hT⟩ : ∃ T, T = ord m d (upTo n s) := ⟨_, rfl⟩
  rw [← hT]
  have hT' := Lib.hid hT
  obtain ⟨i0, hi0, hz0, hz1, hz2⟩ := info_parts Try.infoBool
  obtain ⟨j0, hj0, jz0, jz1, jz2⟩ := info_parts Try.infoInt
  have hu := Try.underlying77
  have hv := Try.underlying33
  have hsN := Lib.hid hs
  clear e hd hn hn8 hs hm ul hT
  go_enter Try.func42, Try.ntmps42
  go_wp2_with (first
    | (go_at_call 76; (with_reducible refine (e'.out _).mono ?_); rintro e w' ⟨rfl, rfl⟩)
    | (at_make; refine wpList_make_full _ rfl _ _ 77 rfl w.heap.size 4 i0 (.bool false) 1 hu hi0 hz0 hz1 .i64 .i64 _ _ n rfl rfl (by rfl) (by rfl) (by rw [hz2]; have := hmn.out; omega) (by unfold maxLen; have := hmn.out; omega) (Nat.le_refl _) ?_; intro w4 hown4 hg4; have q4 := Lib.hid ((Only.refl Nil w).then (Only.ofGrown hg4) (fun i hi hlt => by simp at hi))
       have hrow : w4.heap[w.heap.size]? = some (.cells (rowC n fun _ => .bool false) 4 (0, 0)) := (by
         refine full_row (base := w.heap.size) ?_
         rw [show (Value.bool false).cells = #[.bool false] from rfl, Nat.mul_one, made_row] at hown4
         exact hown4)
       have hrs := row_set hrow s (.bool true)
       have x4 := row_cell hrow s hsN.out
       have x5 := row_frozen hrow s
       have ho4 := Lib.hid ((q4.out.nilTo (fun k => k = w.heap.size)).setCell (p := ⟨w.heap.size, s, none⟩) rfl (.bool true))
       have hrs' := Lib.hid hrs
       clear hrow hrs hown4 hg4))
  generalize w4.setCell ⟨w.heap.size, s, none⟩ (.bool true) = w5 at hrs' ho4 ⊢
  have hst : Hid (w5.heap[w.heap.size]? = some (.cells (rowC n fun u => .bool (u == s)) 4 (0, 0))) := Lib.hid (by
    rw [hrs'.out]
    congr 2
    apply rowC_congr
    intro u _
    by_cases g : u = s
    · subst g; rw [upd_same]; simp
    · rw [upd_other _ _ _ _ g]
      have : (u == s) = false := by simpa using g
      rw [this])
  obtain ⟨gb, hgb⟩ : ∃ gb, gb = w.heap.size := ⟨_, rfl⟩
  have hgb' := Lib.hid hgb
  rw [← hgb] at hst ho4 ⊢
  clear hrs' q4 hgb x4 x5
  go_loopw [0, 7, 9] (fun s0 s7 s9 wr => ∃ (G : Nat → Bool) (O : List Nat) (k dd ol : Nat), s0 = .int .u64 (dd : Int) ∧ s9 = .int .i64 (k : Int) ∧ Hid (wr.heap[gb]? = some (.cells (rowC n fun u => .bool (G u)) 4 (0, 0))) ∧ Hid (wr.ownsRow (gb + 1) 3 1 s7 ol (nv O)) ∧
      Hid (ol + k = m ∧ O.length = ol ∧ (lf G n).length = k ∧ O ++ ord k dd (lf G n) = T ∧ dd < 18446744073709551616) ∧ Hid (Only (fun q => q = gb) w wr))
    (fun _ _ s9 _ => (intOf s9).toNat)
  case atStart => exact ⟨fun u => u == s, [], m, d, 0, rfl, rfl, hst, Lib.hid (World.ownsRow_nil _ _ _ _), Lib.hid ⟨by omega, rfl, ul'.out, hT'.out.symm, hd'.out⟩, ho4⟩
  case round =>
    obtain ⟨G, O, k, dd, ol, rfl, rfl, hG, hO, I, ho⟩ := hrel
    by_cases hk : 0 < k
    · obtain ⟨i1, i2, i3, i4, i5⟩ := I.out
      have hk7 : (k : Int) ≤ 7 := by omega
      have hp : dd % k < k := Nat.mod_lt _ hk
      obtain ⟨p, hp'⟩ : ∃ p, p = dd % k := ⟨_, rfl⟩
      obtain ⟨q, hq'⟩ : ∃ q, q = dd / k := ⟨_, rfl⟩
      rw [← hp'] at hp
      have hmod : (dd : Int) % (k : Int) = (p : Int) := by rw [hp']; simp
      have hdiv : (dd : Int) / (k : Int) = (q : Int) := by rw [hq']; simp
      have hq5 : q < 18446744073709551616 := by rw [hq']; exact Nat.lt_of_le_of_lt (Nat.div_le_self _ _) i5
      have hq6 : (q : Int) < 18446744073709551616 := by omega
      have hp7 : (p : Int) ≤ 7 := by omega
      have hk0 : ¬ ((k : Int) = 0) := by omega
      have nx := Lib.hid (show ∀ i, G i = false → i < n → (lf G i).length = p → (O ++ [i]) ++ ord (k - 1) q (lf (upd G i true) n) = T ∧ (lf (upd G i true) n).length = k - 1 from fun i h1 h2 h3 => by
        obtain ⟨j1, j2⟩ := lf_pick h1 h2
        rw [h3] at j1 j2
        refine ⟨?_, ?_⟩
        · rw [← i4, j2, List.append_assoc]
          congr 1
          rw [show k = (k - 1) + 1 by omega]
          simp only [ord, Nat.add_sub_cancel]
          rw [show k - 1 + 1 = k by omega, ← hp', j1, ← hq']
          rfl
        · rw [j2, List.length_eraseIdx, if_pos (by omega)]; omega)
      have hpk := Lib.hid hp
      have hkp := Lib.hid hk
      clear hp hp' hq' i2 i4 i5
      have I2 := Lib.hid (And.intro i1 (And.intro i3 hq5))
      clear i1 i3 hq5 I
      go_wp2
      generalize wr = wo at *
      have wob := Lib.hid (lt_of_block hG.out)
      go_loopw [7, 10, 11] (fun s7 s10 s11 wr => ∃ (i r : Nat), s7 = u7 ∧ s10 = .int .i64 (r : Int) ∧ s11 = .int .i64 (i : Int) ∧ Hid ((lf G i).length + r = p ∧ i ≤ n) ∧ wo = wr)
        (fun _ _ s11 _ => n - (intOf s11).toNat)
      case atStart => exact ⟨0, p, rfl, rfl, rfl, Lib.hid ⟨by simp [lf_zero], Nat.zero_le _⟩, rfl⟩
      case round =>
        obtain ⟨i, r, rfl, rfl, rfl, J, rfl⟩ := hrel
        obtain ⟨j1, j2⟩ := J.out
        have hin : i < n := by
          rcases Nat.lt_or_ge i n with h | h
          · exact h
          · have h1 : i = n := by omega
            have h2 := I2.out.2.1
            have h3 := hpk.out
            rw [h1] at j1
            omega
        have c0 := row_cell hG.out i hin
        have f0 := row_frozen hG.out i
        have hls := lf_succ G i
        have hr7 : (r : Int) ≤ 7 := by omega
        cases hGi : G i with
        | true =>
          rw [hGi] at c0
          rw [hGi, if_pos rfl] at hls
          have J2 := Lib.hid (show (lf G (i + 1)).length + r = p ∧ i + 1 ≤ n from ⟨by rw [hls]; exact j1, hin⟩)
          clear J j1 j2 hls hGi f0
          go_wp2
          go_roundw
          case rel => exact ⟨i + 1, r, rfl, rfl, by go_num, J2, trivial⟩
          case measure => simp [intOf]; omega
        | false =>
          rw [hGi] at c0
          rw [hGi] at hls
          simp only [Bool.false_eq_true, if_false] at hls
          by_cases hr0 : r = 0
          · subst hr0
            have N := Lib.hid (nx.out i hGi hin (by simpa using j1))
            have hG4 := Lib.hid (fun (w' : World) (o : w'.heap[gb]? = some (.cells (rowC n fun u => .bool (G u)) 4 (0, 0))) => show (w'.setCell ⟨gb, i, none⟩ (.bool true)).heap[gb]? = some (.cells (rowC n fun u => .bool (upd G i true u)) 4 (0, 0)) from by
              rw [row_set o]
              congr 2
              apply rowC_congr
              intro u _
              by_cases g : u = i
              · subst g; rw [upd_same, upd_same]
              · rw [upd_other _ _ _ _ g, upd_other _ _ _ _ g])
            have inx := Lib.hid hin
            have hbase : gb + 1 ≤ wo.heap.size := wob.out
            have hbase' := Lib.hid hbase
            have hol : ol ≤ 7 := by have := I2.out.1; omega
            have hol' := Lib.hid hol
            have hnb : ¬ (some gb = u7.ownBlock) := fun h => by have := (hO.out.lt gb h.symm).1; omega
            have hnb' := Lib.hid hnb
            clear hls hGi j1 j2 J f0 hbase hol hnb hr7
            go_wp2_with (first
             | (at_builtin; refine wpList_append_own _ rfl (.tmp 48) (.tmp 50) 33 rfl (gb + 1) 3 j0 (.int .i64 0) 1 8 hv hj0 jz0 jz1 jz2 rfl (by decide) u7 ol (nv O) rfl (hO.out.alloc _) ⟨wo.heap.size, 0, none⟩ 1 1 [.int .i64 (i : Int)] rfl rfl (src_one (heap_new wo (.cells #[.int .i64 (i : Int)] 3))) (one_one _) (by unfold maxLen; have := hol'.out; omega) (by have := hol'.out; omega) (Nat.le_trans hbase'.out (by simp)) ?_
                intro v6 w6 hv6 hg6 hn6
                clear hn6
                have O6 := Lib.hid ((ho.out.alloc (.cells #[.int .i64 (i : Int)] 3)).then (Only.ofGrown hg6) (fun k hk hl => by
                  have := (hO.out.lt k hk.symm).1
                  have := hgb'.out
                  omega))
                have G6 : w6.heap[gb]? = some (.cells (rowC n fun u => .bool (G u)) 4 (0, 0)) := ((Only.ofGrown hg6).block gb (by have := hbase'.out; simp; omega) hnb'.out).trans (((Only.refl Nil wo).alloc (.cells #[.int .i64 (i : Int)] 3)).block gb (by have := hbase'.out; omega) (fun h => h.elim) |>.trans hG.out)
                have c6 := row_cell G6 i inx.out
                have f6 := row_frozen G6 i
                have G7 := Lib.hid (hG4.out w6 G6)
                have v7 := Lib.hid hv6
                have hne6 : Hid (∀ k, some k = v6.ownBlock → ¬ k = gb) := Lib.hid (fun k hk => by have := (hv6.lt k hk.symm).1; omega)
                clear G6 hv6 hg6))
            have o7 := Lib.hid ((Only.refl (fun k => k = gb) w6).setCell (p := ⟨gb, i, none⟩) rfl (.bool true))
            have v8 := Lib.hid (own_keep v7.out o7.out (fun k hk hk2 => hne6.out k hk hk2))
            have o8 := Lib.hid (O6.out.trans o7.out)
            generalize w6.setCell ⟨gb, i, none⟩ (.bool true) = w8 at *
            have hk1 := Lib.hid (show (k : Int) - 1 = ((k - 1 : Nat) : Int) by have := hkp.out; omega)
            refine ⟨⟨upd G i true, O ++ [i], k - 1, q, ol + 1, rfl, by rw [hk1.out], G7, Lib.hid (by rw [nv_append]; exact v8.out), Lib.hid ?_, o8⟩, by have := hkp.out; simp only [intOf]; omega⟩
            obtain ⟨n1, n2⟩ := N.out
            obtain ⟨a1, a2, a3⟩ := I2.out
            have := hkp.out
            have hOl : O.length = ol := by have := hO.out.1; simpa [nv_length] using this
            exact ⟨by omega, by simp [hOl], n2, n1, a3⟩
          · obtain ⟨r', hr'⟩ : ∃ r', r = r' + 1 := ⟨r - 1, by omega⟩
            have J2 := Lib.hid (show (lf G (i + 1)).length + r' = p ∧ i + 1 ≤ n from ⟨by rw [hls, List.length_append]; simp; omega, hin⟩)
            have hr1 := Lib.hid (show (r : Int) - 1 = (r' : Int) by omega)
            have hr0' : ((r : Int) == 0) = false := by simp; omega
            clear J j1 j2 hls hGi f0 hr0 hr'
            go_wp2
            go_roundw
            case rel => exact ⟨i + 1, r', rfl, by rw [hr1.out], by go_num, J2, trivial⟩
            case measure => simp [intOf]; omega
    · obtain rfl : k = 0 := by omega
      obtain ⟨i1, i2, i3, i4, i5⟩ := I.out
      simp only [ord, List.append_nil] at i4
      obtain rfl : ol = m := by omega
      subst i4
      have hO2 := Lib.hid (own_base hO.out (by have := hgb'.out; omega : w.heap.size ≤ gb + 1))
      have fin := Lib.hid (ho.out.fresh (fun q hq => by have := hgb'.out; omega))
      clear I i1 i2 i3 i5 hO
      go_wp2
      go_ret
      exact ⟨_, rfl, hO2, fin.out⟩
end Go.Proofs.Ytokopocldicnmaa.Lt
