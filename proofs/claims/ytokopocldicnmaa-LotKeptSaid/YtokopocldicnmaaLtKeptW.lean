/- LotKept: the walk. -/
import Derived.Test.YtokopocldicnmaaLtFirstW
import Derived.Laws.AppendOwnNone
namespace Go.Proofs.Ytokopocldicnmaa.Lt
open Go.RowKit Go.Proofs.Ytokopocldicnmaa

/-- Order, whatever is asked. -/
theorem order_any (d : Nat) (n s : Int) (hd : d < 18446744073709551616) : ∃ (k : Nat) (X : List Nat), k ≤ 7 ∧ X.length = k ∧ ∀ w, Calls Try.prog 41 #[.int .u64 (d : Int), .int .i64 n, .int .i64 s] w fun e w' =>
    ∃ v, e = .returned v ∧ Hid (w'.ownsRow w.heap.size 3 1 v k (nv X)) ∧ Only Nil w w' := by
  by_cases h : There n s
  · obtain ⟨h1, h2, h3, h4⟩ := h
    obtain ⟨n', rfl⟩ : ∃ n' : Nat, n = (n' : Int) := ⟨n.toNat, by omega⟩
    obtain ⟨s', rfl⟩ : ∃ s' : Nat, s = (s' : Int) := ⟨s.toNat, by omega⟩
    exact ⟨n' - 1, ord (n' - 1) d (upTo n' s'), by omega, ord_length _ _ _, fun w => order_yes d n' s' hd (by omega) (by omega) (by omega) w⟩
  · exact ⟨0, [], by omega, rfl, fun w => order_no d n s h w⟩

/-- Rank, of any list of numbers, whatever is asked. -/
theorem rank_any (n s : Int) (X : List Nat) : ∃ (r : Nat) (ok : Bool), ∀ a c w, NIn w a X → Calls Try.prog 45 #[.slice a X.length c, .int .i64 n, .int .i64 s] w fun e w' => e = .returned (.tuple #[.int .u64 (r : Int), .bool ok]) ∧ Only Nil w w' := by
  by_cases h : There n s
  · obtain ⟨h1, h2, h3, h4⟩ := h
    obtain ⟨n', rfl⟩ : ∃ n' : Nat, n = (n' : Int) := ⟨n.toNat, by omega⟩
    obtain ⟨s', rfl⟩ : ∃ s' : Nat, s = (s' : Int) := ⟨s.toNat, by omega⟩
    by_cases hl : X.length = n' - 1
    · exact ⟨(rk X (upTo n' s') 0 1).getD 0, (rk X (upTo n' s') 0 1).isSome, fun a c w h => by rw [hl]; exact rank_yes n' s' (by omega) (by omega) (by omega) a c X hl w h⟩
    · exact ⟨0, false, fun a c w _ => rank_len n' s' (by omega) (by omega) (by omega) a X.length c hl w⟩
  · exact ⟨0, false, fun a c w _ => rank_no n s h a X.length c w⟩

/-- append of a row to nothing. -/
theorem wp_app {P : Program} {w : World} {ops : Array Oper} {rest : List Oper} {o : Oper} {a : Act} {Q : Exit → Act → World → Prop} (hgd : o.guard = none) (s x : Operand) (t : TypeId)
    (ho : o.op = .call { callee := .builtin .append, args := #[s, x], argTypes := #[t, t] }) (e : TypeId) (i : TypeInfo) (z : Value) (ht : P.underlying t = some (.slice e)) (hi : P.info? e = some i) (hz : i.zero = some z)
    (hsize : i.size = 1) (hby : i.bytes = 8) (hzs : z.cells.size = 1) (hs : a.eval s = .slice none 0 0) (u : Value) (base n : Nat) (X : List Nat) (hx : a.eval x = u) (hu : w.ownsRow base e 1 u n (nv X)) (hn : n ≤ 7)
    (h : ∀ v' w', Hid (w'.ownsRow w.heap.size e 1 v' n (nv X)) → Hid (Only Nil w w') → wpList P ops Q rest (a.put o.dst v') w') : wpList P ops Q (o :: rest) a w := by
  have hl : (nv X).length = n := by have := hu.1; simpa using this
  rcases hu.2 with ⟨rfl, rfl⟩ | ⟨g, c, cur, rfl, _, hg, _⟩
  · have hX : nv X = [] := List.length_eq_zero_iff.1 hl
    exact wpList_append_own_none hgd s x t ho w.heap.size e i 1 ht hi _ 0 [] hs (World.ownsRow_nil _ _ _ _) hx (h _ _ (by rw [hX]; exact Lib.hid (World.ownsRow_nil _ _ _ _)) (Lib.hid (Only.refl _ _)))
  · refine wpList_append_own _ hgd s x t ho w.heap.size e i z 1 8 ht hi hz hsize hby hzs (by decide) (.slice none 0 0) 0 [] hs (World.ownsRow_nil _ _ _ _) ⟨g, 0, none⟩ n c (nv X) hx (by omega) (fun j v hj => ?_) (nv_one X) (by unfold maxLen; omega) (by omega) (Nat.le_refl _) (fun v' w' h1 h2 _ => ?_)
    · have hlt := (List.getElem?_eq_some_iff.1 hj).1
      rw [add_zero_block, hu.cellAt j (by omega)]; exact hj
    · refine h v' w' (Lib.hid (by simpa using h1)) (Lib.hid ((Only.refl Nil w).then (Only.ofGrown h2) (fun k hk hk2 => by simp [Value.ownBlock] at hk)))

/-- What is left to be written over. -/
def Rest (w : World) (a : Option Addr) (X : List Nat) (len k : Nat) : Prop :=
  ∀ j, k ≤ j → j < len → ∃ g, ∃ cur : Array Value, a = some ⟨g, 0, none⟩ ∧ w.heap[g]? = some (.cells cur 3 (0, 0)) ∧ cur[j]? = some (.int .i64 (X.getD j 0 : Nat))
theorem rest_start {w : World} {base len c : Nat} {a : Option Addr} {X : List Nat} (h : w.ownsRow base 3 1 (.slice a len c) len (nv X)) : Rest w a X len 0 := by
  intro j _ hj
  have hl : X.length = len := by have := h.1; simpa [nv_length] using this
  rcases h.2 with ⟨_, h0⟩ | ⟨g, c', cur, hv, _, hg, _, _, _, ht⟩
  · omega
  · simp only [Value.slice.injEq] at hv
    obtain ⟨rfl, _, rfl⟩ := hv
    refine ⟨g, cur, rfl, hg, ?_⟩
    have h1 := nv_get X j (by omega)
    rw [← ht, List.getElem?_take, if_pos (by omega)] at h1
    simpa using h1
theorem rest_next {w : World} {g len k : Nat} {cur : Array Value} {X : List Nat} (v : Value) (hg : w.heap[g]? = some (.cells cur 3 (0, 0))) (h : Rest w (some ⟨g, 0, none⟩) X len k) : Rest (w.setCell ⟨g, k, none⟩ v) (some ⟨g, 0, none⟩) X len (k + 1) := by
  intro j h1 h2
  obtain ⟨g', cur', e, hg', hc⟩ := h j (by omega) h2
  simp only [Option.some.injEq, Addr.mk.injEq, and_true] at e
  subst e
  rw [hg] at hg'
  simp only [Option.some.injEq, Obj.cells.injEq, and_true] at hg'
  subst hg'
  refine ⟨g, _, rfl, heap_setCell_self _ hg, ?_⟩
  rw [Array.getElem?_setIfInBounds_ne (by omega)]
  exact hc

set_option maxRecDepth 100000 in
set_option maxHeartbeats 4000000 in
theorem kept_all (z n s : Int) (w : World) (hz : 0 ≤ z ∧ z < 18446744073709551616) :
    Calls Try.prog 14 #[.int .u64 z, .int .i64 n, .int .i64 s] w fun e w' => e = .returned (.bool true) ∧ Below w.heap.size w w' := by
  obtain ⟨D, rfl⟩ : ∃ D : Nat, z = (D : Int) := ⟨z.toNat, by omega⟩
  obtain ⟨len, X, hlen, hX, oy⟩ := order_any D n s (by omega)
  obtain ⟨r, ok, ry⟩ := rank_any n s X
  rw [hX] at ry
  have oy' := Lib.hid oy
  have ry' := Lib.hid ry
  have hX' := Lib.hid hX
  have hlen7 : (len : Int) ≤ 7 := by omega
  have hlen' := Lib.hid hlen
  clear oy ry hX hlen hz
  obtain ⟨i0, hi0, hz0, hz1, hz2⟩ := info_parts Try.infoInt
  have hu := Try.underlying33
  go_enter Try.func14, Try.ntmps14
  go_wp2_with (first
    | (go_at_call 39; (with_reducible refine (alive_any _).mono ?_); rintro e w1 ⟨rfl, k1⟩; have q1 := Lib.hid k1; clear k1)
    | (go_at_call 41; (with_reducible refine (oy'.out _).mono ?_); rintro e w5 ⟨v5, rfl, h5, k5⟩; have q5 := Lib.hid (q3.out.trans k5); have h3' := Lib.hid (own_keep h3.out k5 (fun _ _ h => h.elim)); have s3 := Lib.hid (fun k hk => (h3.out.lt k hk).2); have h5' := Lib.hid h5.out; have s5 := Lib.hid k5.size; clear h5 k5)
    | (go_at_call 41; (with_reducible refine (oy'.out _).mono ?_); rintro e w3 ⟨v3, rfl, h3, k3⟩; have q3 := Lib.hid (q1.out.trans k3); clear k3)
    | (at_builtin; refine wp_app rfl (.tmp 25) (.tmp 26) 33 rfl 3 i0 (.int .i64 0) hu hi0 hz0 hz1 hz2 rfl rfl _ w1.heap.size len X rfl h3'.out hlen'.out ?_; intro v7 w7 h7 k7
       have h3a := Lib.hid (own_keep h3'.out k7.out (fun _ _ h => h.elim))
       have h5a := Lib.hid (own_keep h5'.out k7.out (fun _ _ h => h.elim))
       have q7 := Lib.hid (q5.out.trans k7.out)
       obtain ⟨a7, c7, rfl, i7, _⟩ := own_nin h7.out
       have i7' := Lib.hid i7
       clear i7 k7)
    | (go_at_call 45; (with_reducible refine (ry'.out _ _ _ i7'.out).mono ?_); rintro e w8 ⟨rfl, k8⟩; have q8 := Lib.hid (q7.out.trans k8)
       have h3b := Lib.hid (own_keep h3a.out k8 (fun _ _ h => h.elim))
       have h5b := Lib.hid (own_keep h5a.out k8 (fun _ _ h => h.elim))
       have h7b := Lib.hid (own_keep h7.out k8 (fun _ _ h => h.elim))
       clear k8))
  obtain ⟨a3, c3, rfl, _, _⟩ := own_nin h3b.out
  obtain ⟨a5, c5, rfl, i5, _⟩ := own_nin h5b.out
  obtain ⟨a7', c7', e7, i7b, _⟩ := own_nin h7b.out
  injection e7 with e7a e7b e7c
  subst e7a e7c
  have I5 := Lib.hid i5
  have I7 := Lib.hid i7b
  have R0 := Lib.hid (rest_start h3b.out)
  have L3 := Lib.hid (show ∀ g, a3 = some ⟨g, 0, none⟩ → g < w3.heap.size ∧ w1.heap.size ≤ g from fun g hg => ⟨s3.out g (by rw [hg]; rfl), (h3b.out.lt g (by rw [hg]; rfl)).1⟩)
  have L5 := Lib.hid (show ∀ b, a5 = some b → w3.heap.size ≤ b.block from fun b hb => (h5b.out.lt b.block (by rw [hb]; rfl)).1)
  have L7 := Lib.hid (show ∀ b, a7 = some b → w3.heap.size ≤ b.block from fun b hb => by
    have h1 := (h7b.out.lt b.block (by rw [hb]; rfl)).1
    have h2 := s5.out
    omega)
  have sz := Lib.hid q1.out.size
  clear i5 i7b h3 h3' h5' h3a h5a h7 i7' h3b h5b h7b s3 e7b q3 q5 q7
  go_loopw [12] (fun s12 wr => ∃ (k : Nat), k ≤ len ∧ s12 = .int .i64 (k : Int) ∧ Hid (Rest wr a3 X len k) ∧ Hid (Only (fun q => ∃ g, a3 = some ⟨g, 0, none⟩ ∧ q = g) w8 wr))
    (fun s12 _ => len - (intOf s12).toNat)
  case atStart => exact ⟨0, Nat.zero_le _, rfl, R0, Lib.hid (Only.refl _ _)⟩
  case round =>
    obtain ⟨k, hk, rfl, hR, ho⟩ := hrel
    have I7r := Lib.hid (I7.out.keep ho.out (fun q b hb hq => by
      obtain ⟨g, hg, rfl⟩ := hq
      have h1 := (L3.out q hg).1
      have h2 := L7.out b hb
      omega))
    by_cases hkl : k < len
    · obtain ⟨g, cur, rfl, hg, hc⟩ := hR.out k (Nat.le_refl _) hkl
      obtain ⟨g7, rfl, _, hc7⟩ := I7r.out k (by rw [hX'.out]; exact hkl)
      have y7 := hc7 k (by rw [hX'.out]; exact hkl)
      have y3 : wr.cell? ⟨g, k, none⟩ = some (.int .i64 (X.getD k 0 : Nat)) := by simp only [World.cell?, hg]; simpa using hc
      have f3 : wr.frozen? ⟨g, k, none⟩ = false := by simp only [World.frozen?, hg]; simp
      have N := Lib.hid (fun q => rest_next (w := wr.drewN q) (.int .i64 99) hg hR.out)
      have O := Lib.hid (fun q => (ho.out.drewN q).setCell (p := ⟨g, k, none⟩) ⟨g, rfl, rfl⟩ (.int .i64 99))
      clear hc7 hg hc hR
      generalize X.getD k 0 = x at y7 y3
      go_wp2
      go_quiet (fail)
      go_wp2
      go_roundw
      case rel => exact ⟨k + 1, by omega, by go_num, Lib.hid (N.out _), Lib.hid (O.out _)⟩
      case measure => simp [intOf]; omega
    · obtain rfl : k = len := by omega
      have hk0 : ¬ (k : Int) < (k : Int) := by omega
      have I5r := Lib.hid (I5.out.keep ho.out (fun q b hb hq => by
        obtain ⟨g, hg, rfl⟩ := hq
        have h1 := (L3.out q hg).1
        have h2 := L5.out b hb
        omega))
      have qr := Lib.hid (q8.out.then ho.out (fun q hq hl => by
        obtain ⟨g, hg, rfl⟩ := hq
        have := (L3.out q hg).2
        have := sz.out
        omega))
      have hk1 : k ≤ 1000000 := by have := hlen'.out; omega
      go_wp2_with (first
        | (go_at_call 45; (with_reducible refine (ry'.out _ _ _ I5r.out).mono ?_); rintro e w9 ⟨rfl, k9⟩; have q9 := Lib.hid (qr.out.trans k9); have I59 := Lib.hid (I5r.out.nil k9); have I79 := Lib.hid (I7r.out.nil k9); clear k9)
        | (go_at_call 40; (with_reducible refine (ints_yes _ _ _ k _ _ X hX'.out I79.out I59.out hk1).mono ?_); rintro e w10 ⟨rfl, k10⟩; have q10 := Lib.hid (q9.out.trans k10); clear k10))
      go_ret
      exact ⟨rfl, q10.out.below (Nat.le_refl _) (fun _ h => h.elim)⟩
end Go.Proofs.Ytokopocldicnmaa.Lt
