/- DequeStack answers true for every number, values and list of pops, and turns nothing that there was: the walk. -/
import Derived.Test.YthebfnmihjbajaaDqStackA
import Derived.Test.YthebfnmihjbajaaRowBo
import Derived.Test.YthebfnmihjbajaaRowC
import Derived.WalkSmall
namespace Go.Proofs.Ythebfnmihjbajaa.Dq
open Go.RowKit

/-- The law's own stack (it holds xs) beside the deque (it holds st). -/
def Sst (c k : Nat) (w1 w : World) (dq B nb : Nat) (v : Value) (st xs : List Int) (tm : Int) : Prop :=
  ∃ L T t, Lw w1 w dq (B + 1) B 0 c L t ∧ Stk c L st T (1 + k) ∧ w.ownsRow nb 37 1 v xs.length (uvz xs) ∧ t ≤ tm ∧ nb ≤ w.heap.size
/-- With an operation that is begun. -/
def Spo (c k : Nat) (w1 w : World) (dq B nb : Nat) (v : Value) (st xs : List Int) (tm : Int) (ob : Nat) (s : OS) : Prop :=
  ∃ L T t, Lw w1 w dq (B + 1) B 0 c L t ∧ Op1 w1 w ob dq (B + 1) B s ∧ Stk c L st T (1 + k) ∧ w.ownsRow nb 37 1 v xs.length (uvz xs) ∧ t ≤ tm ∧ (∀ q, some q = v.ownBlock → q ≠ ob) ∧ nb ≤ w.heap.size
section
variable {c k : Nat} {w1 w w' : World} {dq B nb ob n : Nat} {v : Value} {st xs : List Int} {tm x : Int} {s : OS}
theorem Sst.only (h : Sst c k w1 w dq B nb v st xs tm) : Only Nil w1 w := by
  obtain ⟨L, T, t, l, _⟩ := h
  exact l.only
theorem Sst.mono (h : Sst c k w1 w dq B nb v st xs tm) {tm' : Int} {k' : Nat} (h3 : tm ≤ tm') (h4 : k ≤ k') (h5 : 1 + k' < 1000000000) : Sst c k' w1 w dq B nb v st xs tm' := by
  obtain ⟨L, T, t, l, sk, ow, ht, hz⟩ := h
  exact ⟨L, T, t, l, { sk with lim := by have := sk.lim; omega, big := h5 }, ow, by omega, hz⟩
theorem Sst.push (h : Sst c k w1 w dq B nb v st xs tm) (x : Int) (hx : In64 x) :
    Calls Try.prog 26 #[.pointer (some ⟨dq, 0, none⟩), .int .u64 x] w fun e w' => ∃ ob, e = .returned (.pointer (some ⟨ob, 0, none⟩)) ∧ Spo c k w1 w' dq B nb v st xs tm ob (.push0 x) := by
  obtain ⟨L, T, t, l, sk, ow, ht, hz⟩ := h
  refine (l.push x hx).mono ?_
  rintro e w' ⟨rfl, l', q', o, z⟩
  exact ⟨_, rfl, L, T, t, l', q', sk, own_keep ow o (fun _ _ h => h), ht, fun q hq e => by have := (ow.lt q hq.symm).2; omega, Nat.le_trans hz o.size⟩
theorem Sst.pop (h : Sst c k w1 w dq B nb v st xs tm) :
    Calls Try.prog 27 #[.pointer (some ⟨dq, 0, none⟩)] w fun e w' => ∃ ob, e = .returned (.pointer (some ⟨ob, 0, none⟩)) ∧ Spo c k w1 w' dq B nb v st xs tm ob .pop0 := by
  obtain ⟨L, T, t, l, sk, ow, ht, hz⟩ := h
  refine (l.pop).mono ?_
  rintro e w' ⟨rfl, l', q', o, z⟩
  exact ⟨_, rfl, L, T, t, l', q', sk, own_keep ow o (fun _ _ h => h), ht, fun q hq e => by have := (ow.lt q hq.symm).2; omega, Nat.le_trans hz o.size⟩
theorem spo_own (ow : w.ownsRow nb 37 1 v xs.length (uvz xs)) (o : Only (OB (B + 1) B ob) w w') (hb : B + 1 < nb) (hq : ∀ q, some q = v.ownBlock → q ≠ ob) : w'.ownsRow nb 37 1 v xs.length (uvz xs) :=
  own_keep ow o (fun q e s => by
    have := (ow.lt q e.symm).1
    rcases s with (e | e) | e
    · omega
    · omega
    · exact hq q ‹_› e)
theorem Spo.pushed (h : Spo c k w1 w dq B nb v st xs tm ob (.push0 x)) (hb : B + 1 < nb) (hr : st.length < c) (hk : k < 1000) (ht : tm < 1000000000) :
    Calls Try.prog 25 #[.pointer (some ⟨ob, 0, none⟩)] w fun e w' => e = .returned (.tuple #[.int .i64 1, .int .u64 0, .int .i64 4]) ∧ Sst c (k + 1) w1 w' dq B nb v (st ++ [x]) xs (tm + 4) := by
  obtain ⟨L, T, t, l, q, sk, ow, ht2, hq, hz⟩ := h
  obtain ⟨L', hrun, sk'⟩ := sk.push x hr (by omega)
  refine (l.done q hrun (by decide) (by omega)).mono ?_
  rintro e w' ⟨rfl, l', q', o⟩
  exact ⟨rfl, L', T, _, l', (show 1 + (k + 1) = 1 + k + 1 by omega) ▸ sk', spo_own ow o hb hq, by omega, Nat.le_trans hz o.size⟩
theorem Spo.full (h : Spo c k w1 w dq B nb v st xs tm ob (.push0 x)) (hb : B + 1 < nb) (hr : st.length = c) (ht : tm < 1000000000) :
    Calls Try.prog 25 #[.pointer (some ⟨ob, 0, none⟩)] w fun e w' => e = .returned (.tuple #[.int .i64 2, .int .u64 0, .int .i64 2]) ∧ Sst c k w1 w' dq B nb v st xs (tm + 4) := by
  obtain ⟨L, T, t, l, q, sk, ow, ht2, hq, hz⟩ := h
  refine (l.done q (sk.full x hr) (by decide) (by omega)).mono ?_
  rintro e w' ⟨rfl, l', q', o⟩
  exact ⟨rfl, L, T, _, l', sk, spo_own ow o hb hq, by omega, Nat.le_trans hz o.size⟩
theorem Spo.empty (h : Spo c k w1 w dq B nb v [] xs tm ob .pop0) (hb : B + 1 < nb) (ht : tm < 1000000000) :
    Calls Try.prog 25 #[.pointer (some ⟨ob, 0, none⟩)] w fun e w' => e = .returned (.tuple #[.int .i64 4, .int .u64 0, .int .i64 4]) ∧ Sst c k w1 w' dq B nb v [] xs (tm + 4) := by
  obtain ⟨L, T, t, l, q, sk, ow, ht2, hq, hz⟩ := h
  obtain ⟨L', hrun, sk'⟩ := sk.none
  refine (l.done q hrun (by decide) (by omega)).mono ?_
  rintro e w' ⟨rfl, l', q', o⟩
  exact ⟨rfl, L', T, _, l', sk', spo_own ow o hb hq, by omega, Nat.le_trans hz o.size⟩
theorem Spo.popped (h : Spo c k w1 w dq B nb v (st ++ [x]) xs tm ob .pop0) (hb : B + 1 < nb) (ht : tm < 1000000000) :
    Calls Try.prog 25 #[.pointer (some ⟨ob, 0, none⟩)] w fun e w' => ∃ n : Nat, n < 100 ∧ e = .returned (.tuple #[.int .i64 1, .int .u64 x, .int .i64 (n : Int)]) ∧ Sst c k w1 w' dq B nb v st xs (tm + 100) := by
  obtain ⟨L, T, t, l, q, sk, ow, ht2, hq, hz⟩ := h
  obtain ⟨n, L', T', hn, hrun, sk'⟩ := sk.pop
  refine (l.done q hrun hn (by omega)).mono ?_
  rintro e w' ⟨rfl, l', q', o⟩
  exact ⟨n, hn, rfl, L', T', _, l', sk', spo_own ow o hb hq, by omega, Nat.le_trans hz o.size⟩
/-- The row grows. -/
theorem Sst.grown (h : Sst c k w1 w dq B nb v st xs tm) (hb : B + 1 < nb) (hd : dq < nb) (h1 : w1.heap.size ≤ nb) (o : Obj) {v' : Value} {ys : List Int} (ow : w'.ownsRow nb 37 1 v' ys.length (uvz ys)) (g : (w.alloc o).grownBy w' v.ownBlock) : Sst c k w1 w' dq B nb v' st ys tm := by
  obtain ⟨L, T, t, l, sk, ow0, ht, hz⟩ := h
  have l1 := l.nil ((Only.refl Nil w).alloc o)
  have lt : ∀ q, some q = v.ownBlock → nb ≤ q := fun q e => (ow0.lt q e.symm).1
  exact ⟨L, T, t, l1.keep (Only.ofGrown g) (fun e => by have := lt _ e; omega) (fun e => by have := lt _ e; omega) (fun e => by have := lt _ e; omega) (fun q e => by have := lt _ e; omega), sk, ow, ht, by have := (Only.ofGrown g).size; simp at this; omega⟩
/-- Where the row's last one lies, and the row without it. -/
theorem Sst.last {a : Option Addr} {cap : Nat} (h : Sst c k w1 w dq B nb (.slice a (xs.length + 1) cap) st (xs ++ [x]) tm) : ∃ g, a = some ⟨g, 0, none⟩ ∧ xs.length + 1 ≤ cap ∧ cap ≤ 9223372036854775807 ∧ w.cell? ⟨g, xs.length, none⟩ = some (.int .u64 x) ∧ Sst c k w1 w dq B nb (.slice (some ⟨g, 0, none⟩) xs.length cap) st xs tm := by
  obtain ⟨L, T, t, l, sk, ow, ht, hz⟩ := h
  have e1 : (xs ++ [x]).length = xs.length + 1 := by simp
  have e2 : uvz (xs ++ [x]) = uvz xs ++ [.int .u64 x] := by simp [uvz]
  rw [e1, e2] at ow
  rcases ow.2 with ⟨h0, _⟩ | ⟨g, cap', cur, hv, hg, hh, hn, hm, hs, htk⟩
  · cases h0
  · cases hv
    refine ⟨g, rfl, hn, by unfold maxLen at hm; omega, ?_, L, T, t, l, sk, ownsRow_pop (by simp [uvz]) ow, ht, hz⟩
    rw [ow.cellAt xs.length (by omega)]
    simp [uvz]
theorem Sst.form (h : Sst c k w1 w dq B nb v st xs tm) : ∃ a cap, v = .slice a xs.length cap := by
  obtain ⟨L, T, t, l, sk, ow, ht, hz⟩ := h
  exact own_slice_n ow
theorem Sst.room (h : Sst c k w1 w dq B nb v st xs tm) : st.length ≤ c := by
  obtain ⟨L, T, t, l, sk, ow, ht, hz⟩ := h
  exact sk.room
end

set_option maxRecDepth 100000 in
set_option maxHeartbeats 8000000 in
theorem stack_walk (k : Int) (a a2 : Option Addr) (cap cap2 : Nat) (V : List Int) (P : List Bool) (c : Nat) (w : World) (hc : 1 ≤ c ∧ c ≤ 8) (e1 : 1 + k % 8 = (c : Int)) (hk : 0 ≤ k ∧ k < 256) (hV : RowK .u64 w a V) (hu : ∀ j, 0 ≤ V.getD j 0 ∧ V.getD j 0 < 18446744073709551616) (hr : V.length * 8 ≤ 140737488351232) (hP : RowBo w a2 P) (hr2 : P.length * 1 ≤ 140737488351232) :
    Calls Try.prog 5 #[.int .u8 k, .slice a V.length cap, .slice a2 P.length cap2] w fun e w' => e = .returned (.bool true) ∧ Below w.heap.size w w' := by
  have md := Lib.hid (fun w => made_any c w (by omega) (by omega))
  obtain ⟨i0, hi0, hz0, hz1, hz2⟩ := info_parts Try.infoU64'
  have hu7 := Try.underlying42
  obtain ⟨x1, x2⟩ := hk
  have c8 := Lib.hid hc
  have hV' := Lib.hid hV
  have hP' := Lib.hid hP
  have hu' := Lib.hid hu
  clear hc hV hP hu
  generalize hlen : V.length = len at hr ⊢
  have hlen' := Lib.hid hlen
  clear hlen
  generalize hlen2 : P.length = ln at hr2 ⊢
  have hln' := Lib.hid hlen2
  clear hlen2
  have len8 : (len : Int) ≤ 140737488351232 := by omega
  have ln8 : (ln : Int) ≤ 140737488351232 := by omega
  rw [← e1] at md
  have e1' := Lib.hid e1
  clear e1
  go_enter Try.func5, Try.ntmps5
  go_wp2_with (first
    | (go_at_call 7; (with_reducible refine (alive_any _).mono ?_); rintro e w1 ⟨rfl, o1⟩)
    | (go_at_call 24; (with_reducible refine (md.out _).mono ?_); rintro e w2 ⟨dq, rfl, l2⟩; rw [e1'.out] at l2))
  have ow := Lib.hid o1
  have nbl := Lib.hid (Nat.le_refl w2.heap.size)
  have hdq := Lib.hid l2.rng.ring.lt
  have hnb : Hid (w1.heap.size + 1 < w2.heap.size) := Lib.hid l2.rng.mem.lt_hb
  have h12 := Lib.hid l2.only.size
  have F0 : Hid (Sst c 0 w1 w2 dq w1.heap.size w2.heap.size (.slice none 0 0) [] [] (10 + 200 * ((0 : Nat) : Int))) := Lib.hid ⟨_, _, _, l2, Stk.fresh c (by have := c8.out; omega), World.ownsRow_nil _ _ _ _, by have := c8.out; omega, Nat.le_refl _⟩
  clear o1 l2 md
  generalize w2.heap.size = nb at F0 hdq hnb h12 nbl
  generalize hB : w1.heap.size = B at F0 hnb
  have hB' := Lib.hid hB
  clear hB
  go_loopw [9, 10] (fun s9 s10 wr => ∃ i : Nat, i ≤ 300 ∧ i ≤ len ∧ s10 = .int .i64 (i : Int) ∧ Hid (∃ st, Sst c i w1 wr dq B nb s9 st st (10 + 200 * (i : Int))))
    (fun _ s10 _ => 300 - (intOf s10).toNat)
  case atStart => exact ⟨0, Nat.zero_le _, Nat.zero_le _, rfl, Lib.hid ⟨_, F0.out⟩⟩
  case round =>
    obtain ⟨i, hi, hil, rfl, hh⟩ := hrel
    obtain ⟨st, hs⟩ := hh.out
    obtain ⟨a9, c9, rfl⟩ := hs.form
    by_cases hin : i < len ∧ i < 300
    · have hli : (i : Int) < (len : Int) := by omega
      have hl3 : (i : Int) < 300 := by omega
      have hi2 := Lib.hid hin
      obtain ⟨b, off, rfl, hb1, hb2⟩ := hV'.out i (by rw [hlen'.out]; exact hin.1)
      have hx : wr.cell? ⟨b, off + i, none⟩ = some (.int .u64 (V.getD i 0)) := (World.cell?_of_block (a := ⟨b, off + i, none⟩) ((ow.out.trans hs.only).block b hb1 (fun h => h))).trans (hb2 i (by rw [hlen'.out]; exact hin.1))
      have hxo := Lib.hid (fun w' (o : Only Nil w w') => (World.cell?_of_block (a := ⟨b, off + i, none⟩) (o.block b hb1 (fun h => h))).trans (hb2 i (by rw [hlen'.out]; exact hin.1)))
      have hx64 := Lib.hid (hu'.out i)
      clear hb1 hb2 hin hi hil
      generalize V.getD i 0 = x at hx hxo hx64
      have hs' := Lib.hid hs
      have pu := Lib.hid (hs.push x hx64.out)
      have lS0 : (st.length : Int) ≤ 100 := by have := hs.room; have := c8.out; omega
      by_cases hr : st.length < c
      · have hri : (st.length : Int) < 1 + k % 8 := by have := e1'.out; omega
        have dn := Lib.hid (fun w' ob (h : Spo c i w1 w' dq B nb (.slice a9 st.length c9) st st (10 + 200 * (i : Int)) ob (.push0 x)) => h.pushed hnb.out hr (by have := hi2.out; omega) (by have := hi2.out; omega))
        have grw := Lib.hid (fun w' (h : Sst c (i + 1) w1 w' dq B nb (.slice a9 st.length c9) (st ++ [x]) st (10 + 200 * (i : Int) + 4)) => h)
        obtain ⟨n9, hn9⟩ : ∃ n, n = st.length := ⟨_, rfl⟩
        obtain ⟨xs9, hxs9⟩ : ∃ xs, xs = uvz st := ⟨_, rfl⟩
        have hn9' := Lib.hid hn9
        have hxs9' := Lib.hid hxs9
        rw [← hn9] at pu dn hri lS0 ⊢
        clear hs hh hr hn9 hxs9
        go_wp2_with (first
          | (go_at_call 26; (with_reducible refine (pu.out).mono ?_); rintro e w3 ⟨ob3, rfl, h3⟩)
          | (go_at_call 25; (with_reducible refine (dn.out _ _ h3).mono ?_); rintro e w4 ⟨rfl, h4⟩
             have hx4 := hxo.out w4 (ow.out.trans h4.only)
             have h4' := Lib.hid h4
             have own4 : Hid (w4.ownsRow nb 37 1 (.slice a9 n9 c9) n9 xs9) := Lib.hid (by obtain ⟨_, _, _, _, _, q, _, _⟩ := h4; rw [hn9'.out, hxs9'.out]; rwa [hn9'.out] at q)
             have own4lt : Hid (nb ≤ w4.heap.size) := Lib.hid (by obtain ⟨_, _, _, _, _, _, _, z⟩ := h4; exact z)
             clear h3 h4)
          | (at_builtin; refine wpList_append_own _ rfl (.tmp 63) (.tmp 68) 42 rfl nb 37 i0 (.int .u64 0) 1 8 hu7 hi0 hz0 hz1 hz2 rfl (by decide) (.slice a9 n9 c9) n9 xs9 rfl (own4.out.alloc _) ⟨w4.heap.size, 0, none⟩ 1 1 [.int .u64 x] rfl rfl (src_oneZ (heap_new w4 (.cells #[.int .u64 x] 37))) (by intro u hu; simp at hu; subst hu; rfl) (by unfold maxLen; have := c8.out; omega) (by have := c8.out; omega) (Nat.le_trans (own4lt.out) (by simp)) ?_))
        intro v5 w5 hv5 hg5 hn5
        have e5 : uvz (st ++ [x]) = xs9 ++ [.int .u64 x] := by rw [hxs9'.out]; simp [uvz]
        have e6 : (st ++ [x]).length = n9 + 1 := by rw [hn9'.out]; simp
        have hX0 : Hid (Sst c (i + 1) w1 w5 dq B nb v5 (st ++ [x]) (st ++ [x]) (10 + 200 * (i : Int) + 4)) := Lib.hid (by
          refine h4'.out.grown hnb.out (Nat.lt_of_lt_of_le hdq.out nbl.out) h12.out _ ?_ hg5
          rw [e5, e6]; exact hv5)
        clear e5 e6
        obtain ⟨aX, cX, rfl⟩ := hX0.out.form
        rw [show (st ++ [x]).length = st.length + 1 by simp] at hX0 ⊢
        clear hv5 hg5 hn5 h4' own4 own4lt hx hx4 hn9' hxs9' lS0 hri pu dn grw hs'
        generalize st = S0 at *
        generalize x = y at *
        have hX : Hid (Sst c (1 + i) w1 w5 dq B nb (.slice aX (S0.length + 1) cX) (S0 ++ [y]) (S0 ++ [y]) (10 + 200 * (i : Int) + 4)) := (Nat.add_comm i 1) ▸ hX0
        clear hX0
        generalize w5 = wX at *
        obtain ⟨gX, rfl, cap1, cap2_, hcell, hPop⟩ := hX.out.last
        have capA : ((S0.length + 1 : Nat) : Int) ≤ (cX : Int) := by omega
        have capB : (cX : Int) ≤ 9223372036854775807 := by omega
        have hPop' := Lib.hid hPop
        have lS : (S0.length : Int) ≤ 100 := by have := hX.out.room; have := c8.out; simp at *; omega
        have xonly := Lib.hid (ow.out.trans hX.out.only)
        clear cap1 cap2_ hPop
        by_cases hil : i < ln
        · have hl2 : (i : Int) < (ln : Int) := by omega
          obtain ⟨bp, offp, rfl, hb1, hb2⟩ := hP'.out i (by rw [hln'.out]; exact hil)
          have hxp : wX.cell? ⟨bp, offp + i, none⟩ = some (.bool (P.getD i false)) := (World.cell?_of_block (a := ⟨bp, offp + i, none⟩) (xonly.out.block bp hb1 (fun h => h))).trans (hb2 i (by rw [hln'.out]; exact hil))
          clear hb1 hb2 hil
          generalize P.getD i false = xp at hxp
          cases xp
          · go_wp2
            go_roundw
            case rel => exact ⟨i + 1, by have := hi2.out; omega, by have := hi2.out; omega, by go_num, Lib.hid ⟨_, hX.out.mono (by omega) (by omega) (by have := hi2.out; omega)⟩⟩
            case measure => have := hi2.out; simp [intOf]; omega
          · have po := Lib.hid (hX.out.pop)
            have dp := Lib.hid (fun w' ob (h : Spo c (1 + i) w1 w' dq B nb (.slice (some ⟨gX, 0, none⟩) (S0.length + 1) cX) (S0 ++ [y]) (S0 ++ [y]) (10 + 200 * (i : Int) + 4) ob .pop0) => h.popped hnb.out (by have := hi2.out; omega))
            go_wp2_with (first
              | (go_at_call 27; (with_reducible refine (po.out).mono ?_); rintro e w7 ⟨ob7, rfl, h7⟩)
              | (go_at_call 25; (with_reducible refine (dp.out _ _ h7).mono ?_); rintro e w8 ⟨n8, hn8, rfl, h8⟩; obtain ⟨g8, hg8, _, _, hc8, hf8⟩ := Sst.last h8; cases hg8; have hf8' := Lib.hid hf8; clear hf8 h7 hn8 h8))
            go_roundw
            case rel => exact ⟨i + 1, by have := hi2.out; omega, by have := hi2.out; omega, by go_num, Lib.hid ⟨_, hf8'.out.mono (by omega) (by omega) (by have := hi2.out; omega)⟩⟩
            case measure => have := hi2.out; simp [intOf]; omega
        · have hl2 : ¬ ((i : Int) < (ln : Int)) := by omega
          clear hil
          go_wp2
          go_roundw
          case rel => exact ⟨i + 1, by have := hi2.out; omega, by have := hi2.out; omega, by go_num, Lib.hid ⟨_, hX.out.mono (by omega) (by omega) (by have := hi2.out; omega)⟩⟩
          case measure => have := hi2.out; simp [intOf]; omega
      · have hr2 : st.length = c := by have := hs.room; omega
        have hri : ¬ ((st.length : Int) < 1 + k % 8) := by have := e1'.out; omega
        have dn := Lib.hid (fun w' ob (h : Spo c i w1 w' dq B nb (.slice a9 st.length c9) st st (10 + 200 * (i : Int)) ob (.push0 x)) => h.full hnb.out hr2 (by have := hi2.out; omega))
        obtain ⟨S0, y, hst⟩ : ∃ S0 y, st = S0 ++ [y] := ⟨st.dropLast, st.getLast (fun e => by rw [e] at hr2; simp at hr2; have := c8.out; omega), (List.dropLast_concat_getLast _).symm⟩
        have e9 := Lib.hid (show st.length = S0.length + 1 by rw [hst]; simp)
        generalize hn9 : st.length = n9 at pu dn hri lS0 e9 hs' ⊢
        clear hs hh hr hr2 hn9
        by_cases hil : i < ln
        · have hl2 : (i : Int) < (ln : Int) := by omega
          obtain ⟨bp, offp, rfl, hb1, hb2⟩ := hP'.out i (by rw [hln'.out]; exact hil)
          have hpo := Lib.hid (fun w' (o : Only Nil w w') => (World.cell?_of_block (a := ⟨bp, offp + i, none⟩) (o.block bp hb1 (fun h => h))).trans (hb2 i (by rw [hln'.out]; exact hil)))
          clear hb1 hb2 hil
          generalize P.getD i false = xp at hpo
          cases xp
          · go_wp2_with (first
              | (go_at_call 26; (with_reducible refine (pu.out).mono ?_); rintro e w3 ⟨ob3, rfl, h3⟩)
              | (go_at_call 25; (with_reducible refine (dn.out _ _ h3).mono ?_); rintro e w4 ⟨rfl, h4⟩; have h4' := Lib.hid h4; have hxp := hpo.out w4 (ow.out.trans h4.only); clear h3 h4))
            go_roundw
            case rel => exact ⟨i + 1, by have := hi2.out; omega, by have := hi2.out; omega, by go_num, Lib.hid ⟨_, (h4'.out).mono (by omega) (by omega) (by have := hi2.out; omega)⟩⟩
            case measure => have := hi2.out; simp [intOf]; omega
          · subst hst
            obtain rfl : n9 = S0.length + 1 := e9.out
            have dp := Lib.hid (fun w' ob (h : Spo c i w1 w' dq B nb (.slice a9 (S0.length + 1) c9) (S0 ++ [y]) (S0 ++ [y]) (10 + 200 * (i : Int) + 4) ob .pop0) => h.popped hnb.out (by have := hi2.out; omega))
            have lS : (S0.length : Int) ≤ 100 := by omega
            go_wp2_with (first
              | (go_at_call 26; (with_reducible refine (pu.out).mono ?_); rintro e w3 ⟨ob3, rfl, h3⟩)
              | (go_at_call 25; (with_reducible refine (dn.out _ _ h3).mono ?_); rintro e w4 ⟨rfl, h4⟩; have h4' := Lib.hid h4; have hxp := hpo.out w4 (ow.out.trans h4.only); have po := Lib.hid (h4.pop); obtain ⟨g4, rfl, k1, k2, _, _⟩ := Sst.last h4; have capA : ((S0.length + 1 : Nat) : Int) ≤ (c9 : Int) := (by omega); have capB : (c9 : Int) ≤ 9223372036854775807 := (by omega); clear k1 k2; clear h3 h4)
              | (go_at_call 27; (with_reducible refine (po.out).mono ?_); rintro e w7 ⟨ob7, rfl, h7⟩)
              | (go_at_call 25; (with_reducible refine (dp.out _ _ h7).mono ?_); rintro e w8 ⟨n8, hn8, rfl, h8⟩; obtain ⟨g8, hg8, _, _, hc8, hf8⟩ := Sst.last h8; cases hg8; have hf8' := Lib.hid hf8; clear hf8 h7 hn8 h8))
            go_roundw
            case rel => exact ⟨i + 1, by have := hi2.out; omega, by have := hi2.out; omega, by go_num, Lib.hid ⟨_, (hf8'.out).mono (by omega) (by omega) (by have := hi2.out; omega)⟩⟩
            case measure => have := hi2.out; simp [intOf]; omega
        · have hl2 : ¬ ((i : Int) < (ln : Int)) := by omega
          clear hil
          go_wp2_with (first
            | (go_at_call 26; (with_reducible refine (pu.out).mono ?_); rintro e w3 ⟨ob3, rfl, h3⟩)
            | (go_at_call 25; (with_reducible refine (dn.out _ _ h3).mono ?_); rintro e w4 ⟨rfl, h4⟩; have h4' := Lib.hid h4; clear h3 h4))
          go_roundw
          case rel => exact ⟨i + 1, by have := hi2.out; omega, by have := hi2.out; omega, by go_num, Lib.hid ⟨_, (h4'.out).mono (by omega) (by omega) (by have := hi2.out; omega)⟩⟩
          case measure => have := hi2.out; simp [intOf]; omega
    · have hin2 : ¬ ((i : Int) < (len : Int)) ∨ ((i : Int) < (len : Int) ∧ ¬ ((i : Int) < 300)) := by omega
      have hs' := Lib.hid (hs.mono (tm' := 70000 + 100 * (8 - (st.length : Int))) (k' := 300) (by have := hs.room; have := c8.out; omega) (by omega) (by omega))
      have hro := Lib.hid (show st.length ≤ 8 by have := hs.room; have := c8.out; omega)
      clear hs hh hin hi hil
      generalize hn9 : st.length = n9 at hro hs' ⊢
      have hs2 : Hid (∃ st, st.length = n9 ∧ Sst c 300 w1 wr dq B nb (.slice a9 n9 c9) st st (70000 + 100 * (8 - (n9 : Int)))) := Lib.hid ⟨st, hn9, hs'.out⟩
      clear hn9 hs'
      generalize wr = wy at hs2 ⊢
      rcases hin2 with hin3 | ⟨hin3, hin4⟩
      all_goals (
        go_wp2
        go_loopw [9] (fun s9 wr => ∃ (m : Nat) (a9 : Option Addr) (c9 : Nat), m ≤ 8 ∧ s9 = .slice a9 m c9 ∧ Hid (∃ st, st.length = m ∧ Sst c 300 w1 wr dq B nb (.slice a9 m c9) st st (70000 + 100 * (8 - (m : Int)))))
          (fun s9 _ => match s9 with | .slice _ n _ => n | _ => 0)
        case atStart => exact ⟨n9, a9, c9, hro.out, rfl, hs2⟩
        case round =>
          obtain ⟨m, a3, c3, hm, rfl, hh⟩ := hrel
          obtain ⟨st, hst, hs⟩ := hh.out
          cases m with
          | zero =>
            obtain rfl : st = [] := List.eq_nil_of_length_eq_zero hst
            have po := Lib.hid hs.pop
            have dp := Lib.hid (fun w' ob (h : Spo c 300 w1 w' dq B nb (.slice a3 0 c3) [] [] (70000 + 100 * (8 - ((0 : Nat) : Int))) ob .pop0) => h.empty hnb.out (by omega))
            clear hh hs hst
            go_wp2_with (first
              | (go_at_call 27; (with_reducible refine (po.out).mono ?_); rintro e w7 ⟨ob7, rfl, h7⟩)
              | (go_at_call 25; (with_reducible refine (dp.out _ _ h7).mono ?_); rintro e w8 ⟨rfl, h8⟩))
            go_ret
            exact ⟨rfl, (ow.out.trans h8.only).below (Nat.le_refl _) (fun _ h => h.elim)⟩
          | succ m =>
            obtain ⟨S0, y, rfl⟩ : ∃ S0 y, st = S0 ++ [y] := ⟨st.dropLast, st.getLast (fun e => by rw [e] at hst; simp at hst), (List.dropLast_concat_getLast _).symm⟩
            obtain rfl : m = S0.length := by simpa using hst.symm
            have po := Lib.hid hs.pop
            obtain ⟨g4, rfl, k1, k2, _, _⟩ := Sst.last hs
            have capA : ((S0.length + 1 : Nat) : Int) ≤ (c3 : Int) := by omega
            have capB : (c3 : Int) ≤ 9223372036854775807 := by omega
            have dp := Lib.hid (fun w' ob (h : Spo c 300 w1 w' dq B nb (.slice (some ⟨g4, 0, none⟩) (S0.length + 1) c3) (S0 ++ [y]) (S0 ++ [y]) (70000 + 100 * (8 - ((S0.length + 1 : Nat) : Int))) ob .pop0) => h.popped hnb.out (by omega))
            have lS : (S0.length : Int) ≤ 8 := by omega
            have lS2 := Lib.hid hm
            clear hh hs hst k1 k2 hm
            go_wp2_with (first
              | (go_at_call 27; (with_reducible refine (po.out).mono ?_); rintro e w7 ⟨ob7, rfl, h7⟩)
              | (go_at_call 25; (with_reducible refine (dp.out _ _ h7).mono ?_); rintro e w8 ⟨n8, hn8, rfl, h8⟩; obtain ⟨g8, hg8, _, _, hc8, hf8⟩ := Sst.last h8; cases hg8; have hf8' := Lib.hid hf8; clear hf8 h7 hn8 h8))
            go_roundw
            case rel => exact ⟨S0.length, _, c3, by have := lS2.out; omega, rfl, Lib.hid ⟨S0, rfl, hf8'.out.mono (by omega) (by omega) (by decide)⟩⟩
            case measure => simp)

theorem stack_all (k : Int) (a a2 : Option Addr) (cap cap2 : Nat) (V : List Int) (P : List Bool) (w : World) (hk : 0 ≤ k ∧ k < 256) (hV : RowK .u64 w a V) (hu : ∀ n ∈ V, (Lit.int .u64 n).wf = true) (hr : V.length * 8 ≤ 140737488351232) (hP : RowBo w a2 P) (hr2 : P.length * 1 ≤ 140737488351232) :
    Calls Try.prog 5 #[.int .u8 k, .slice a V.length cap, .slice a2 P.length cap2] w fun e w' => e = .returned (.bool true) ∧ Below w.heap.size w w' :=
  stack_walk k a a2 cap cap2 V P (1 + k % 8).toNat w (by omega) (by omega) hk hV (u64s_of_wf hu) hr hP hr2
end Go.Proofs.Ythebfnmihjbajaa.Dq
