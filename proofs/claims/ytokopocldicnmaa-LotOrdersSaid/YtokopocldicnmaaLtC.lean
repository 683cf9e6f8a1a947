/- lot: slices.Index at numbers; Order; Ways. -/
import Derived.Test.YtokopocldicnmaaLtB
namespace Go.Proofs.Ytokopocldicnmaa.Lt
open Go.RowKit Go.Proofs.Ytokopocldicnmaa

/-- The slice at a, of the numbers X. -/
def NIn (w : World) (a : Option Addr) (X : List Nat) : Prop :=
  ∀ i, i < X.length → ∃ g, a = some ⟨g, 0, none⟩ ∧ g < w.heap.size ∧ ∀ j, j < X.length → w.cell? ⟨g, j, none⟩ = some (.int .i64 (X.getD j 0 : Nat))
theorem own_nin {w : World} {base : Nat} {v : Value} {n : Nat} {X : List Nat} (h : w.ownsRow base 3 1 v n (nv X)) : ∃ a c, v = .slice a n c ∧ NIn w a X ∧ X.length = n := by
  have hl : X.length = n := by simpa [nv_length] using h.1
  obtain ⟨a, c, rfl⟩ := own_slice_n h
  refine ⟨a, c, rfl, fun i hi => ?_, hl⟩
  rcases h.2 with ⟨_, h0⟩ | ⟨g, c', cur, hv, _, hg, _⟩
  · omega
  · simp only [Value.slice.injEq] at hv
    obtain ⟨rfl, _, rfl⟩ := hv
    refine ⟨g, rfl, lt_of_block hg, fun j hj => ?_⟩
    rw [h.cellAt _ (by omega), nv_get X j hj]
theorem NIn.keep {S : Nat → Prop} {w w' : World} {a : Option Addr} {X : List Nat} (h : NIn w a X) (o : Only S w w') (hS : ∀ k b, a = some b → S k → k ≠ b.block) : NIn w' a X := by
  intro i hi
  obtain ⟨g, ha, hlt, hc⟩ := h i hi
  have e := o.block g hlt (fun s => hS g _ ha s rfl)
  exact ⟨g, ha, Nat.lt_of_lt_of_le hlt o.size, fun j hj => (World.cell?_of_block (a := ⟨g, j, none⟩) e).trans (hc j hj)⟩
theorem NIn.nil {w w' : World} {a : Option Addr} {X : List Nat} (h : NIn w a X) (o : Only Nil w w') : NIn w' a X := h.keep o (fun _ _ _ h => h.elim)

set_option maxHeartbeats 1000000 in
theorem index_yes {w : World} {a : Option Addr} {cap : Nat} {X : List Nat} (h : NIn w a X) (lle : X.length ≤ 65536) (x : Nat) (i : Nat) (hi : i < X.length) (hx : X.getD i 0 = x) (hf : ∀ j, j < i → X.getD j 0 ≠ x) :
    Calls Try.prog 78 #[.slice a X.length cap, .int .i64 (x : Int)] w fun e w' => e = .returned (.int .i64 (i : Int)) ∧ w = w' := by
  have h' := Lib.hid h
  have hf' := Lib.hid hf
  have hx' := Lib.hid hx
  clear h hf hx
  generalize hlen : X.length = len at *
  have hlen' := Lib.hid hlen
  clear hlen
  have lle' : (len : Int) ≤ 65536 := by omega
  have hi' := Lib.hid hi
  clear hi
  go_enter Try.func78, Try.ntmps78
  go_wp2
  go_loopw [8] (fun s8 wr => ∃ (k : Nat), k ≤ i ∧ s8 = .int .i64 (k : Int) ∧ wr = w)
    (fun s8 _ => i - (intOf s8).toNat)
  case atStart => exact ⟨0, Nat.zero_le _, rfl, rfl⟩
  case round =>
    obtain ⟨k, hk, rfl, rfl⟩ := hrel
    have hkl : k < len := by have := hi'.out; omega
    obtain ⟨g, rfl, _, hc⟩ := h'.out k (by rw [hlen'.out]; exact hkl)
    have c0 := hc k (by rw [hlen'.out]; exact hkl)
    clear hc
    by_cases e : k = i
    · subst e
      rw [hx'.out] at c0
      go_wp2
      go_ret
      exact ⟨rfl, rfl⟩
    · have hne := hf'.out k (by omega)
      generalize X.getD k 0 = y at *
      have hne' : ¬ ((x : Int) = (y : Int)) := by omega
      clear hne
      go_wp2
      go_roundw
      case rel => exact ⟨k + 1, by omega, by go_num, trivial⟩
      case measure => simp [intOf]; omega

set_option maxHeartbeats 1000000 in
theorem index_no {w : World} {a : Option Addr} {cap : Nat} {X : List Nat} (h : NIn w a X) (lle : X.length ≤ 65536) (x : Nat) (hf : ∀ j, j < X.length → X.getD j 0 ≠ x) :
    Calls Try.prog 78 #[.slice a X.length cap, .int .i64 (x : Int)] w fun e w' => e = .returned (.int .i64 (-1)) ∧ w = w' := by
  have h' := Lib.hid h
  have hf' := Lib.hid hf
  clear h hf
  generalize hlen : X.length = len at *
  have hlen' := Lib.hid hlen
  clear hlen
  have lle' : (len : Int) ≤ 65536 := by omega
  go_enter Try.func78, Try.ntmps78
  go_wp2
  go_loopw [8] (fun s8 wr => ∃ (k : Nat), k ≤ len ∧ s8 = .int .i64 (k : Int) ∧ wr = w)
    (fun s8 _ => len - (intOf s8).toNat)
  case atStart => exact ⟨0, Nat.zero_le _, rfl, rfl⟩
  case round =>
    obtain ⟨k, hk, rfl, rfl⟩ := hrel
    by_cases hkl : k < len
    · obtain ⟨g, rfl, _, hc⟩ := h'.out k (by rw [hlen'.out]; exact hkl)
      have c0 := hc k (by rw [hlen'.out]; exact hkl)
      clear hc
      have hne := hf'.out k hkl
      generalize X.getD k 0 = y at *
      have hne' : ¬ ((x : Int) = (y : Int)) := by omega
      clear hne
      go_wp2
      go_roundw
      case rel => exact ⟨k + 1, by omega, by go_num, trivial⟩
      case measure => simp [intOf]; omega
    · obtain rfl : k = len := by omega
      have hk0 : ¬ (k : Int) < (k : Int) := by omega
      go_wp2
      go_ret
      exact ⟨rfl, rfl⟩

/-- Order, of any draw. -/
def order (d : Nat) (n s : Int) : List Nat := if There n s then ord (n.toNat - 1) d (upTo n.toNat s.toNat) else []

theorem order_no (d n s : Int) (h : ¬ There n s) (w : World) : Calls Try.prog 41 #[.int .u64 d, .int .i64 n, .int .i64 s] w fun e w' =>
    ∃ v, e = .returned v ∧ Hid (w'.ownsRow w.heap.size 3 1 v 0 (nv [])) ∧ Only Nil w w' := by
  have e := Lib.hid (others_no n s h)
  clear h
  obtain ⟨i0, hi0, hz0, hz1, hz2⟩ := info_parts Try.infoInt
  have hu := Try.underlying33
  go_enter Try.func41, Try.ntmps41
  go_wp2_with (first
    | (go_at_call 74; (with_reducible refine (e.out _).mono ?_); rintro e1 w1 ⟨rfl, o1⟩)
    | (at_make; refine wpList_make_own _ rfl _ _ 33 rfl w.heap.size 3 i0 (.int .i64 0) 1 hu hi0 hz0 hz1 .i64 .i64 _ 0 rfl rfl (by first | rfl | (go_num; done) | omega) (by rw [hz2]; omega) (by unfold maxLen; omega) (o1.size) ?_; intro w2 hown2 hg2; have o2 := Lib.hid (o1.then (Only.ofGrown hg2) (fun i hi hlt => by simp at hi)); have hown2' := Lib.hid hown2; clear hown2 hg2))
  go_loopw [7, 9] (fun s7 s9 wr => s7 = .slice none 0 0 ∧ s9 = .slice (some ⟨w1.heap.size, 0, none⟩) 0 0 ∧ wr = w2)
    (fun s7 s9 _ => 0)
  case atStart => exact ⟨rfl, rfl, rfl⟩
  case round =>
    obtain ⟨rfl, rfl, rfl⟩ := hrel
    go_wp2
    go_ret
    exact ⟨.slice (some ⟨w1.heap.size, 0, none⟩) 0 0, by rfl, hown2', o2.out⟩

theorem ord_length : ∀ (k d : Nat) (L : List Nat), (ord k d L).length = k := by
  intro k
  induction k with
  | zero => intro d L; rfl
  | succ k ih => intro d L; simp [ord, ih]
theorem getD_lt {L : List Nat} {B : Nat} (h : ∀ x ∈ L, x < B) (hB : 0 < B) (i : Nat) : L.getD i 0 < B := by
  rcases Nat.lt_or_ge i L.length with hi | hi
  · have e : L.getD i 0 = L[i] := by simp [hi]
    rw [e]; exact h _ (List.getElem_mem hi)
  · have e : L.getD i 0 = 0 := by simp [List.getD_eq_getElem?_getD, List.getElem?_eq_none hi]
    rw [e]; exact hB
theorem getD_lt' {L : List Nat} {B : Nat} (h : ∀ x ∈ L, x < B) (hl : 0 < L.length) (i : Nat) : L.getD i 0 < B := by
  refine getD_lt h ?_ i
  have := h _ (List.getElem_mem hl)
  omega
theorem upTo_lt (n s : Nat) : ∀ x ∈ upTo n s, x < n := by
  intro x hx
  simp [upTo] at hx
  exact hx.1

set_option maxHeartbeats 2000000 in
set_option maxRecDepth 100000 in
theorem order_yes (d n s : Nat) (hd : d < 18446744073709551616) (hn : 1 ≤ n) (hn8 : n ≤ 8) (hs : s < n) (w : World) : Calls Try.prog 41 #[.int .u64 (d : Int), .int .i64 (n : Int), .int .i64 (s : Int)] w fun e w' =>
    ∃ v, e = .returned v ∧ Hid (w'.ownsRow w.heap.size 3 1 v (n - 1) (nv (ord (n - 1) d (upTo n s)))) ∧ Only Nil w w' := by
  have e := Lib.hid (others_yes n s hn hn8 hs)
  have hul := upTo_length n s
  rw [if_pos hs] at hul
  have hlt := Lib.hid (upTo_lt n s)
  obtain ⟨m, hm⟩ : ∃ m, m = n - 1 := ⟨_, rfl⟩
  have hm7 : m ≤ 7 := by omega
  have hm7i : (m : Int) ≤ 7 := by omega
  have hn8' := Lib.hid hn8
  have hd' := Lib.hid hd
  rw [← hm] at hul
  have hor := Lib.hid (ord_length m)
  rw [← hm] at e ⊢
  clear hn hs hn8 hd hm
  generalize upTo n s = U at *
  have hul' := Lib.hid hul
  clear hul
  obtain ⟨i0, hi0, hz0, hz1, hz2⟩ := info_parts Try.infoInt
  have hu := Try.underlying33
  go_enter Try.func41, Try.ntmps41
  go_wp2_with (first
    | (go_at_call 74; (with_reducible refine (e.out _).mono ?_); rintro e1 w1 ⟨v1, rfl, h1, o1⟩; obtain ⟨a1, c1, rfl, i1, _⟩ := own_nin h1.out; clear i1)
    | (at_make; refine wpList_make_own _ rfl _ _ 33 rfl w.heap.size 3 i0 (.int .i64 0) 1 hu hi0 hz0 hz1 .i64 .i64 _ m rfl rfl (by first | rfl | (go_num; done) | omega) (by rw [hz2]; omega) (by unfold maxLen; omega) (o1.size) ?_; intro w2 hown2 hg2; have o2 := Lib.hid (o1.then (Only.ofGrown hg2) (fun i hi hlt => by simp at hi)); have hown2' := Lib.hid hown2; have h2 := Lib.hid (own_keep h1.out (Only.ofGrown hg2) (fun k hk hk2 => by simp at hk2)); have l2 := Lib.hid (fun k hk => (h1.out.lt k hk).2); clear hown2 hg2))
  generalize w1.heap.size = gb at *
  go_loopw [0, 7, 9] (fun s0 s7 s9 wr => ∃ (L O : List Nat) (dd : Nat) (a : Option Addr) (c len ol : Nat), s0 = .int .u64 (dd : Int) ∧ s7 = .slice a len c ∧ s9 = .slice (some ⟨gb, 0, none⟩) ol m ∧ Hid (wr.ownsRow w.heap.size 3 1 (.slice a len c) len (nv L)) ∧ Hid (wr.ownsRow w.heap.size 3 1 (.slice (some ⟨gb, 0, none⟩) ol m) ol (nv O)) ∧
      Hid (L.length = len ∧ O.length = ol ∧ ol + len = m ∧ O ++ ord len dd L = ord m d U ∧ dd < 18446744073709551616 ∧ (∀ x ∈ L, x < n) ∧ ∀ k, (Value.slice a len c).ownBlock = some k → k < gb) ∧ Hid (Only Nil w wr))
    (fun _ s7 _ _ => match s7 with | .slice _ k _ => k | _ => 0)
  case atStart => exact ⟨U, [], d, a1, c1, m, 0, rfl, rfl, rfl, h2, hown2', Lib.hid ⟨hul'.out, rfl, by omega, rfl, hd'.out, hlt.out, l2.out⟩, o2⟩
  case round =>
    obtain ⟨L, O, dd, a, c, len, ol, rfl, rfl, rfl, hL, hO, I, ho⟩ := hrel
    by_cases h0 : len = 0
    · obtain ⟨i1, i2, i3, i4, _⟩ := I.out
      have e4 : O = ord m d U := by
        rw [← i4, h0]; simp [ord]
      have e5 : ol = m := by omega
      have hO' := hO.out
      rw [e5, e4] at hO'
      have hO2 := Lib.hid hO'
      clear hO hO' I i1 i2 i3 i4 e4
      subst h0 e5
      go_wp2
      go_ret
      exact ⟨.slice (some ⟨gb, 0, none⟩) ol ol, rfl, hO2, ho.out⟩
    · have hpos : 0 < len := by omega
      obtain ⟨i1, i2, i3, i4, i5, i6, i7⟩ := I.out
      have hl7 : (len : Int) ≤ 7 := by omega
      have hat : dd % len < len := Nat.mod_lt _ hpos
      obtain ⟨a', c', hv, hin, _⟩ := own_nin hL.out
      injection hv with ha hb hc
      subst ha hc
      obtain ⟨g, rfl, hg, hcell⟩ := hin (dd % len) (by omega)
      have c0 := hcell (dd % len) (by omega)
      obtain ⟨x, hx⟩ : ∃ x, x = L.getD (dd % len) 0 := ⟨_, rfl⟩
      rw [← hx] at c0
      obtain ⟨p, hp⟩ : ∃ p, p = dd % len := ⟨_, rfl⟩
      obtain ⟨q, hq⟩ : ∃ q, q = dd / len := ⟨_, rfl⟩
      have hmod : (dd : Int) % (len : Int) = (p : Int) := by rw [hp]; simp
      have hdiv : (dd : Int) / (len : Int) = (q : Int) := by rw [hq]; simp
      have hq5 : q < 18446744073709551616 := by rw [hq]; exact Nat.lt_of_le_of_lt (Nat.div_le_self _ _) i5
      have hord : O ++ [x] ++ ord (len - 1) q (L.eraseIdx p) = ord m d U := by
        rw [← i4, hx, hp, hq, show len = len - 1 + 1 by omega]
        simp [ord]
      have hxn : x < n := by rw [hx]; exact getD_lt' i6 (by omega) _
      have hel : (L.eraseIdx p).length = len - 1 := by rw [List.length_eraseIdx, if_pos (by omega)]; omega
      have hmem : ∀ y ∈ L.eraseIdx p, y < n := fun y hy => i6 y (List.mem_of_mem_eraseIdx hy)
      rw [← hp] at c0 hat
      have hb7 := i7
      have hq64 : (q : Int) < 18446744073709551616 := by omega
      have J := Lib.hid (And.intro hord (And.intro hq5 (And.intro hxn (And.intro hel (And.intro hmem (And.intro i1 (And.intro i2 (And.intro i3 hb7))))))))
      have del := Lib.hid (show ∀ w', w'.ownsRow w.heap.size 3 1 (.slice (some ⟨g, 0, none⟩) len c) len (nv L) → Calls Try.prog 75 #[.slice (some ⟨g, 0, none⟩) len c, .int .i64 (p : Int), .int .i64 ((p : Int) + 1)] w' fun e w'' =>
          ∃ u, e = .returned u ∧ Hid (w''.ownsRow w.heap.size 3 1 u (len - 1) (nv (L.eraseIdx p))) ∧ Only (fun q => some q = (Value.slice (some ⟨g, 0, none⟩) len c).ownBlock) w' w'' ∧ u.ownBlock = (Value.slice (some ⟨g, 0, none⟩) len c).ownBlock from fun w' h => by
        have := delete_any (L := L) (by rw [i1]; exact h) (by omega) p (by omega)
        rw [i1] at this; exact this)
      clear hord hq5 hxn hel hmem i1 i2 i3 i4 i5 i6 i7 hb7 hcell hin hx hp hq I
      go_wp2_with (first
        | (at_builtin; refine wpList_append_fits _ rfl (.tmp 31) (.tmp 36) 33 rfl w.heap.size 3 i0 1 hu hi0 hz1 gb ol m (nv O) rfl (hO.out.alloc _) ⟨wr.heap.size, 0, none⟩ 1 1 [.int .i64 (x : Int)] rfl rfl (src_one (heap_new wr (.cells #[.int .i64 (x : Int)] 3))) (one_one _) (by have := J.out.2.2.2.2.2.2.2.1; omega) ?_
           intro w4 hv4 hg4
           have o4 := Lib.hid (own_grow (v := .slice (some ⟨gb, 0, none⟩) ol m) (ho.out.alloc (.cells #[.int .i64 (x : Int)] 3)) hg4 (hO.out.alloc _) (Nat.le_refl _))
           have L4 := Lib.hid (own_keep (hL.out.alloc (.cells #[.int .i64 (x : Int)] 3)) (Only.ofGrown hg4) (fun k hk hk2 => by
             have := J.out.2.2.2.2.2.2.2.2 k hk.symm
             simp at hk2; omega))
           have hv4' := Lib.hid hv4
           clear hv4 hg4)
        | (go_at_call 75; (with_reducible refine (del.out _ L4.out).mono ?_); rintro e5 w5 ⟨u5, rfl, h5, o5, hb5⟩))
      obtain ⟨a5, c5, rfl⟩ := own_slice_n h5.out
      have O5 := Lib.hid (own_keep hv4'.out o5 (fun k hk hk2 => by
        have := J.out.2.2.2.2.2.2.2.2 k (by rw [← hk2])
        simp [Value.ownBlock] at hk; omega))
      have o6 := Lib.hid (o4.out.then o5 (fun k hk hl => by
        have := (hL.out.lt k (by rw [← hk])).1
        omega))
      have hb6 := Lib.hid hb5
      clear o5 hb5 hv4' L4 o4
      go_roundw
      case rel => exact ⟨L.eraseIdx p, O ++ [x], q, a5, c5, len - 1, ol + 1, by go_num, rfl, rfl, h5, Lib.hid (by rw [nv_append]; exact O5.out), Lib.hid (by
        obtain ⟨j1, j2, j3, j4, j5, j6, j7, j8, j9⟩ := J.out
        exact ⟨j4, by simp [j7], by omega, j1, j2, j5, fun k hk => j9 k (by rw [← hb6.out]; exact hk)⟩), o6⟩
      case measure => simp; omega
end Go.Proofs.Ytokopocldicnmaa.Lt
