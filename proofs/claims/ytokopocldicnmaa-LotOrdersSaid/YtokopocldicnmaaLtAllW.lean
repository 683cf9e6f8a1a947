/- LotAll: the walk. -/
import Derived.Test.YtokopocldicnmaaLtFirstW
import Derived.Test.YtokopocldicnmaaRowBo
namespace Go.Proofs.Ytokopocldicnmaa.Lt
open Go.RowKit Go.Proofs.Ytokopocldicnmaa

theorem pair_ne {X : List Nat} (h : X.Nodup) {i j : Nat} (hi : i < X.length) (hj : j < X.length) (hne : i ≠ j) : X.getD i 0 ≠ X.getD j 0 := by
  intro e
  have : X[i] = X[j] := by simpa [List.getD_eq_getElem?_getD, List.getElem?_eq_getElem hi, List.getElem?_eq_getElem hj] using e
  exact hne ((List.getElem_inj h).1 this)

/-- Has v been met among the first k? -/
def met (O : List Nat) (k v : Nat) : Bool := (List.range k).any fun j => O.getD j 0 == v
theorem met_succ (O : List Nat) (k v : Nat) : met O (k + 1) v = (met O k v || (O.getD k 0 == v)) := by
  simp [met, List.range_succ]
theorem met_no {O : List Nat} {k v : Nat} (h : ∀ j, j < k → O.getD j 0 ≠ v) : met O k v = false := by
  simp only [met, List.any_eq_false, List.mem_range]
  intro j hj
  simpa using h j hj
theorem full_row {w : World} {base g n : Nat} {e : TypeId} {f : Nat → Value} (h : w.ownsRow base e 1 (.slice (some ⟨g, 0, none⟩) n n) n (rowC n f).toList) : w.heap[g]? = some (.cells (rowC n f) e (0, 0)) := by
  rcases h.2 with ⟨e1, _⟩ | ⟨g', c, cur, e1, _, hg, hc, _, hs, ht⟩
  · simp at e1
  · simp only [Value.slice.injEq, Option.some.injEq, Addr.mk.injEq, and_true, true_and] at e1
    obtain ⟨rfl, rfl⟩ := e1
    rw [hg]
    have : cur = rowC n f := by
      apply Array.ext'
      rw [← ht, List.take_of_length_le (by simp; omega)]
    rw [this]

set_option maxRecDepth 100000 in
set_option maxHeartbeats 2000000 in
theorem all_all (z x y : Int) (w : World) (hz : 0 ≤ z ∧ z < 18446744073709551616) (hx : 0 ≤ x ∧ x < 256) (hy : 0 ≤ y ∧ y < 256) :
    Calls Try.prog 11 #[.int .u64 z, .int .u8 x, .int .u8 y] w fun e w' => e = .returned (.bool true) ∧ Below w.heap.size w w' := by
  obtain ⟨X, Y, p, n, s, rfl, rfl, hX, hY, e1, hp, e2, hn, e3, hs⟩ := who hx hy
  obtain ⟨D, rfl⟩ : ∃ D : Nat, z = (D : Int) := ⟨z.toNat, by omega⟩
  have hD : D < 18446744073709551616 := by omega
  have hX' : (X : Int) < 256 := by omega
  have hY' : (Y : Int) < 256 := by omega
  have hp' : (p : Int) ≤ 7 := by omega
  have hn8 : (n : Int) ≤ 8 := by omega
  have hsn : (s : Int) < (n : Int) := by omega
  have hn0 : ¬ ((n : Int) = 0) := by omega
  obtain ⟨m, hm⟩ : ∃ m, m = n - 1 := ⟨_, rfl⟩
  have hnm : (n : Int) - 1 = (m : Int) := by omega
  have hm7 : (m : Int) ≤ 7 := by omega
  have ul := upTo_length n s
  rw [if_pos hs, ← hm] at ul
  have mem := Lib.hid (fun i (hi : i < m) => show (ord m D (upTo n s)).getD i 0 < n ∧ (ord m D (upTo n s)).getD i 0 ≠ s from (upTo_mem n s _).1 (ord_mem m D _ ul _ (by
    have hi2 : i < (ord m D (upTo n s)).length := by rw [ord_length]; exact hi
    simp [List.getD_eq_getElem?_getD, List.getElem?_eq_getElem hi2])))
  have dup := Lib.hid (fun i j (hi : i < m) (hj : j < m) (h : i ≠ j) => pair_ne (ord_nodup m D _ (upTo_nodup n s) ul) (by rw [ord_length]; exact hi) (by rw [ord_length]; exact hj) h)
  have oy := Lib.hid (order_yes D n s hD (by omega) (by omega) hs)
  rw [← hm] at oy
  have ol := Lib.hid (ord_length m D (upTo n s))
  generalize ord m D (upTo n s) = O at *
  have hn' := Lib.hid hn
  have hm' := Lib.hid hm
  have hD' : (D : Int) < 18446744073709551616 := by omega
  clear hX hY hp hs hx hy hn hm ul hD hz
  obtain ⟨i0, hi0, hz0, hz1, hz2⟩ := info_parts Try.infoBool
  have hu := Try.underlying77
  go_enter Try.func11, Try.ntmps11
  go_wp2_with (first
    | (go_at_call 39; (with_reducible refine (alive_any _).mono ?_); rintro e w1 ⟨rfl, k1⟩; have q1 := Lib.hid k1; clear k1)
    | (go_at_call 41; (with_reducible refine (oy.out _).mono ?_); rintro e w3 ⟨v3, rfl, h3, k3⟩; obtain ⟨a3, c3, rfl, i3, _⟩ := own_nin h3.out; have i3' := Lib.hid i3; have q3 := Lib.hid (q1.out.trans k3); clear i3 k3 h3)
    | (at_make; refine wpList_make_full _ rfl _ _ 77 rfl w.heap.size 4 i0 (.bool false) 1 hu hi0 hz0 hz1 .i64 .i64 _ _ n rfl rfl (by rfl) (by rfl) (by rw [hz2]; omega) (by unfold maxLen; omega) (by exact q3.out.size) ?_; intro w4 hown4 hg4; have q4 := Lib.hid (q3.out.then (Only.ofGrown hg4) (fun i hi hlt => by simp at hi)); have h4 := Lib.hid hown4; have q4b := Lib.hid (Only.ofGrown hg4); have i4 := Lib.hid (i3'.out.keep (Only.ofGrown hg4) (fun k b hk hk2 => by simp at hk2)); clear hown4 hg4))
  have hrow : w4.heap[w3.heap.size]? = some (.cells (rowC n fun v => .bool (met O 0 v)) 4 (0, 0)) := by
    refine full_row (base := w.heap.size) ?_
    have := h4.out
    rw [show (Value.bool false).cells = #[.bool false] from rfl, Nat.mul_one, made_row] at this
    exact this
  have hrow' := Lib.hid hrow
  have o4 := Lib.hid (q4b.out.mono (T := fun k => k = w3.heap.size) (fun k hk => by simp at hk))
  have hsz := Lib.hid (lt_of_block hrow)
  clear hrow h4 q4 q4b
  have q3s := Lib.hid q3.out.size
  (try simp only [e1, e3])
  clear e1 e2 e3
  generalize hgb : w3.heap.size = gb at *
  have hgb' := Lib.hid hgb
  clear hgb
  go_loopw [11] (fun s11 wr => ∃ (k : Nat), k ≤ m ∧ s11 = .int .i64 (k : Int) ∧ Hid (wr.heap[gb]? = some (.cells (rowC n fun v => .bool (met O k v)) 4 (0, 0))) ∧ Hid (Only (fun k => k = gb) w3 wr))
    (fun s11 _ => m - (intOf s11).toNat)
  case atStart => exact ⟨0, Nat.zero_le _, rfl, hrow', o4⟩
  case round =>
    obtain ⟨k, hk, rfl, hr, ho⟩ := hrel
    by_cases hkm : k < m
    · obtain ⟨g1, rfl, hg1, hc⟩ := i3'.out k (by rw [ol.out]; exact hkm)
      have c0 := hc k (by rw [ol.out]; exact hkm)
      have c1 : wr.cell? ⟨g1, k, none⟩ = some (.int .i64 (O.getD k 0 : Nat)) := (World.cell?_of_block (a := ⟨g1, k, none⟩) (ho.out.block g1 hg1 (by rw [← hgb'.out]; omega))).trans c0
      obtain ⟨x1, x2⟩ := mem.out k hkm
      have x3 : met O k (O.getD k 0) = false := met_no (fun j hj => dup.out j k (by omega) hkm (by omega))
      have x4 := row_cell hr.out _ x1
      have x5 := row_frozen hr.out (O.getD k 0)
      rw [x3] at x4
      have x6 := Lib.hid (fun v => met_succ O k v)
      clear c0 hc x3
      generalize hxx : O.getD k 0 = x at *
      clear hxx
      have x1' : decide (n ≤ x) = false := decide_eq_false (by omega)
      have x2' : ¬ (x = s) := x2
      have hgg : ¬ (g1 = gb) := by rw [← hgb'.out]; omega
      have x1h := Lib.hid x1
      have hk6 : (k : Int) ≤ 6 := by omega
      have hx0 : decide ((x : Int) < 0) = false := decide_eq_false (by omega)
      clear x2 x1 hk hg1 hsn hn8 hnm hn0 hm7 hD' hX' hY' hp'
      have hN : Hid (((wr.setCell ⟨gb, x, none⟩ (.bool true)).heap[gb]? = some (.cells (rowC n fun v => .bool (met O (k + 1) v)) 4 (0, 0)))) := Lib.hid (by
        rw [row_set hr.out]
        congr 2
        apply rowC_congr
        intro v _
        by_cases e : v = x
        · subst e; rw [upd_same, x6.out]; simp
        · rw [upd_other _ _ _ _ e, x6.out]
          have : (x == v) = false := by simp only [beq_eq_false_iff_ne, ne_eq]; exact fun h => e h.symm
          rw [this, Bool.or_false])
      have hP := Lib.hid (ho.out.setCell (p := ⟨gb, x, none⟩) rfl (.bool true))
      have hnx : Hid (¬ ((x : Int) < 0)) := Lib.hid (by omega)
      go_wp2
      all_goals first
        | (exfalso; omega)
        | (refine ⟨⟨k + 1, by omega, by go_num, hN, hP⟩, ?_⟩; simp [intOf]; omega)
    · obtain rfl : k = m := by omega
      have hk0 : ¬ (k : Int) < (k : Int) := by omega
      go_wp2
      go_ret
      exact ⟨rfl, (q3.out.then ho.out (fun j hj hl => by have := q3s.out; omega)).below (Nat.le_refl _) (fun _ h => h.elim)⟩
end Go.Proofs.Ytokopocldicnmaa.Lt
