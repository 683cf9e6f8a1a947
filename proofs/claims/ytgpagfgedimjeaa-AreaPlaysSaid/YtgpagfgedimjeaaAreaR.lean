/- The document's own area (package trouperef02): New, room. -/
import Derived.Test.YtgpagfgedimjeaaAreaQ
namespace Go.Proofs.Ytgpagfgedimjeaa
open Go.RowKit

/-- World w holds, at block qb, the document's area: its cells O at a, room for cap. -/
structure RefAt (w : World) (qb : Nat) (a : Option Addr) (cap : Nat) (O : List Int) : Prop where
  head : w.heap[qb]? = some (.cells #[.slice a O.length cap] 53 (0, 0))
  row : w.ownsRow 0 3 1 (.slice a O.length cap) O.length (O.map (Value.int .i64))
  ne : ∀ b, a = some b → b.block ≠ qb

section
variable {w w' : World} {qb : Nat} {a : Option Addr} {cap : Nat} {O : List Int}
theorem RefAt.lt_qb (h : RefAt w qb a cap O) : qb < w.heap.size := lt_of_block h.head
theorem RefAt.lt_a (h : RefAt w qb a cap O) (b : Addr) (e : a = some b) : b.block < w.heap.size := (h.row.lt b.block (by rw [e]; rfl)).2
theorem RefAt.own_lt (h : RefAt w qb a cap O) (k : Nat) (hk : Own qb a k) : k < w.heap.size := by
  rcases hk with rfl | ⟨b, e, rfl⟩
  · exact h.lt_qb
  · exact h.lt_a b e
theorem ints_keep {S : Nat → Prop} {v : Value} {n : Nat} {xs : List Value} (h : w.ownsRow 0 3 1 v n xs) (o : Only S w w') (hS : ∀ g, v.ownBlock = some g → ¬ S g) : w'.ownsRow 0 3 1 v n xs := by
  refine ⟨h.1, ?_⟩
  rcases h.2 with hn | ⟨g, c, cur, rfl, h0, hg, hr⟩
  · exact .inl hn
  · exact .inr ⟨g, c, cur, rfl, h0, (o.block g (lt_of_block hg) (hS g rfl)).trans hg, hr⟩
theorem own_block_of {a : Option Addr} {n cap g : Nat} (e : (Value.slice a n cap).ownBlock = some g) : ∃ b, a = some b ∧ g = b.block := by
  cases a with
  | none => simp [Value.ownBlock] at e
  | some b => simp [Value.ownBlock] at e; exact ⟨b, rfl, e.symm⟩
theorem RefAt.keep {S : Nat → Prop} (h : RefAt w qb a cap O) (o : Only S w w') (hS : ∀ k, S k → ¬ Own qb a k) : RefAt w' qb a cap O :=
  ⟨(o.block qb h.lt_qb (fun s => hS _ s (Own.l _ _))).trans h.head,
   ints_keep h.row o (fun g e s => hS g s (.inr (own_block_of e))), h.ne⟩
theorem RefAt.drewN (h : RefAt w qb a cap O) (q : Nat) : RefAt (w.drewN q) qb a cap O := ⟨h.head, h.row, h.ne⟩
theorem RefAt.alloc (h : RefAt w qb a cap O) (o : Obj) : RefAt (w.alloc o) qb a cap O := h.keep ((Only.refl Nil w).alloc o) (fun _ h => h.elim)
theorem RefAt.c0 (h : RefAt w qb a cap O) : w.cell? ⟨qb, 0, none⟩ = some (.slice a O.length cap) := by simp [World.cell?, h.head]
theorem RefAt.f0 (h : RefAt w qb a cap O) : w.frozen? ⟨qb, 0, none⟩ = false := by simp [World.frozen?, h.head]
theorem RefAt.ints (h : RefAt w qb a cap O) : IntsIn w a O := own_ints h.row
/-- One cell written over. -/
theorem RefAt.store {g : Nat} (h : RefAt w qb (some ⟨g, 0, none⟩) cap O) (j : Nat) (v : Int) :
    RefAt (w.setCell ⟨g, j, none⟩ (.int .i64 v)) qb (some ⟨g, 0, none⟩) cap (O.set j v) ∧ Only (Own qb (some ⟨g, 0, none⟩)) w (w.setCell ⟨g, j, none⟩ (.int .i64 v)) := by
  obtain ⟨r1, r2⟩ := h.row.stored j (.int .i64 v)
  refine ⟨⟨?_, ?_, h.ne⟩, (Only.refl _ w).setCell (p := ⟨g, j, none⟩) (Own.r qb g 0) _⟩
  · rw [List.length_set, Below.heap_setCell w ⟨g, j, none⟩ _ _ (fun e => h.ne ⟨g, 0, none⟩ rfl e.symm)]; exact h.head
  · rw [List.length_set, List.map_set]; exact r1
theorem RefAt.fro {g : Nat} (h : RefAt w qb (some ⟨g, 0, none⟩) cap O) (j : Nat) : w.frozen? ⟨g, j, none⟩ = false := h.row.frozenAt j
end

theorem zero_box (w : World) : Only Nil w (w.alloc (.cells #[.slice none 0 0] 53)) := (Only.refl _ _).alloc _

set_option maxHeartbeats 2000000 in
theorem rnew_any (n : Int) (hn : n ≤ 2000) (w : World) :
    Calls Try.prog 10 #[.int .i64 n] w fun e w' =>
      e = .returned (.pointer (some ⟨w.heap.size, 0, none⟩)) ∧ Hid (∃ a cap, RefAt w' w.heap.size a cap (List.replicate (count n) (-1)) ∧ ∀ x, a = some x → w.heap.size < x.block) ∧ Only Nil w w' := by
  have cn := Lib.hid (fun w => count_any n w)
  have cle : count n ≤ 2000 := by unfold count; omega
  generalize count n = N at cn cle ⊢
  have cle' : (N : Int) ≤ 2000 := by omega
  obtain ⟨i0, hi0, hz0, hz1, hz2⟩ := info_parts Try.infoInt
  have hu := Try.underlying39
  have hd0 := Lib.hid (heap_new w (.cells #[.slice none 0 0] 53))
  have ho0 := Lib.hid (zero_box w)
  clear hn
  go_enter Try.func10, Try.ntmps10
  go_wp2
  go_loopw [4] (fun s4 wr => ∃ (k : Nat) (a : Option Addr) (cap : Nat), k ≤ N ∧ s4 = .int .i64 (k : Int) ∧
      Hid (wr.heap[w.heap.size]? = some (.cells #[.slice a k cap] 53 (0, 0))) ∧ Hid (wr.ownsRow (w.heap.size + 1) 3 1 (.slice a k cap) k (List.replicate k (Value.int .i64 (-1)))) ∧ Hid (Only Nil w wr))
    (fun s4 _ => N - (intOf s4).toNat)
  case atStart => exact ⟨0, none, 0, Nat.zero_le _, rfl, hd0, Lib.hid (World.ownsRow_nil _ _ _ _), ho0⟩
  case round =>
    obtain ⟨k, a, cap, hk, rfl, hh, hown, ho⟩ := hrel
    have hlt0 := Lib.hid (lt_of_block hh.out)
    by_cases hlt : k < N
    · have c0 : wr.cell? ⟨w.heap.size, 0, none⟩ = some (.slice a k cap) := by simp [World.cell?, hh.out]
      go_wp2_with (first
        | (go_at_call 22; (with_reducible refine (cn.out _).mono ?_); rintro e w5 ⟨rfl, rfl⟩)
        | (at_builtin; refine wpList_append_own _ rfl (.tmp 17) (.tmp 18) 39 rfl (w.heap.size + 1) 3 i0 (.int .i64 0) 1 8 hu hi0 hz0 hz1 hz2 rfl (by decide) (.slice a k cap) k (List.replicate k (Value.int .i64 (-1))) rfl (hown.out.alloc _) ⟨wr.heap.size, 0, none⟩ 1 1 [.int .i64 (-1)] rfl rfl (src_one (heap_new wr (.cells #[.int .i64 (-1)] 3))) (one_one _) (by unfold maxLen; omega) (by omega) (by have := hlt0.out; simp; omega) ?_))
      intro v7 w7 hv7 hg7 hn7
      clear hn7
      obtain ⟨a7, c7, rfl⟩ := own_slice_n hv7
      have o7 := Lib.hid (hg7.block w.heap.size (by have := hlt0.out; simp; omega) (fun e => by
        have := (hown.out.alloc (.cells #[.int .i64 (-1)] 3)).lt w.heap.size e.symm
        omega))
      have hh7 := Lib.hid ((o7.out.trans (Below.heap_alloc wr (.cells #[.int .i64 (-1)] 3) _ hlt0.out)).trans hh.out)
      have on7 := Lib.hid ((ho.out.alloc (.cells #[.int .i64 (-1)] 3)).grow hg7 (hown.out.alloc (.cells #[.int .i64 (-1)] 3)) rfl (Nat.le_succ _))
      have hv7' := Lib.hid hv7
      have c7' : w7.cell? ⟨w.heap.size, 0, none⟩ = some (.slice a k cap) := by simp [World.cell?, hh7.out]
      have f7' : w7.frozen? ⟨w.heap.size, 0, none⟩ = false := by simp [World.frozen?, hh7.out]
      clear hv7 hg7 c0
      go_wp2
      go_roundw
      case rel => exact ⟨k + 1, a7, c7, by omega, by go_num, Lib.hid (by rw [heap_setCell_self (o := 0) _ hh7.out]; rfl), Lib.hid (by
          rw [List.replicate_succ']
          refine ⟨hv7'.out.1, hv7'.out.2.imp id ?_⟩
          rintro ⟨g, c, cur, h1, h2, h3, h4⟩
          exact ⟨g, c, cur, h1, h2, (Below.heap_setCell _ _ _ _ (by show g ≠ w.heap.size; omega)).trans h3, h4⟩), Lib.hid (on7.out.then ((Only.refl (fun q => q = w.heap.size) w7).setCell (p := ⟨w.heap.size, 0, none⟩) rfl _) (fun q hq hl => by omega))⟩
      case measure => simp [intOf]; omega
    · obtain rfl : k = N := by omega
      have hk0 : ¬ (k : Int) < (k : Int) := by omega
      go_wp2_with (go_at_call 22; (with_reducible refine (cn.out _).mono ?_); rintro e w5 ⟨rfl, rfl⟩)
      go_ret
      refine ⟨rfl, Lib.hid ⟨a, cap, ⟨by simpa using hh.out, by simpa using own_base hown.out (Nat.zero_le _), fun b e => ?_⟩, fun b e => ?_⟩, ho.out⟩
      · have := (hown.out.lt b.block (by rw [e]; rfl)).1; omega
      · have := (hown.out.lt b.block (by rw [e]; rfl)).1; omega

set_option maxHeartbeats 1000000 in
/-- room, of the document's cells. -/
theorem rroom_any {w : World} {qb : Nat} {a : Option Addr} {cap : Nat} {O : List Int} (h : RefAt w qb a cap O) (hO : O.length ≤ 65536) (b : Nat) (hb : b ≤ O.length) (k : Int) (hk : 1 ≤ k) (d : Bool) (hd : d = true ↔ Room O b k) :
    Calls Try.prog 30 #[.pointer (some ⟨qb, 0, none⟩), .int .i64 (b : Int), .int .i64 k] w fun e w' => e = .returned (.bool d) ∧ w = w' := by
  have c0 := h.c0
  have ii := Lib.hid h.ints
  have hd' := Lib.hid hd
  unfold Room at hd'
  clear h hd
  generalize hlen : O.length = len at *
  have hlen' := Lib.hid hlen
  clear hlen
  have l1 : (len : Int) ≤ 65536 := by omega
  have l2 : (b : Int) ≤ (len : Int) := by omega
  by_cases hs : k ≤ (len : Int) - (b : Int)
  · obtain ⟨q, rfl⟩ : ∃ q : Nat, k = (q : Int) := ⟨k.toNat, by omega⟩
    have hs' : ¬ (len : Int) - (b : Int) < (q : Int) := by omega
    go_enter Try.func30, Try.ntmps30
    go_wp2
    go_loopw [7] (fun s7 wr => ∃ (i : Nat), i ≤ q ∧ s7 = .int .i64 (i : Int) ∧ Hid (∀ t, t < i → O.getD (b + t) 0 < 0) ∧ wr = w)
      (fun s7 _ => q - (intOf s7).toNat)
    case atStart => exact ⟨0, Nat.zero_le _, rfl, Lib.hid (fun t ht => by omega), rfl⟩
    case round =>
      obtain ⟨i, hi, rfl, hneg, rfl⟩ := hrel
      by_cases hlt : i < q
      · obtain ⟨g, rfl, hg1, hg2⟩ := ii.out (b + i) (by rw [hlen'.out]; omega)
        have x0 := hg2 (b + i) (by rw [hlen'.out]; omega)
        clear hg2
        have hbi : (b : Int) + (i : Int) < (len : Int) := by omega
        have hbi' : b + i < len := by omega
        have htn : ((b : Int) + (i : Int)).toNat = b + i := by omega
        by_cases hx : 0 ≤ O.getD (b + i) 0
        · have hx' := Lib.hid hx
          obtain rfl : d = false := by
            cases d with
            | false => rfl
            | true =>
              have := (hd'.out.1 rfl).2 i (by omega)
              omega
          generalize O.getD (b + i) 0 = x at x0 hx
          go_wp2
          go_ret
          exact ⟨rfl, rfl⟩
        · have hx' := Lib.hid hx
          have hnx := Lib.hid (show ∀ t, t < i + 1 → O.getD (b + t) 0 < 0 from fun t ht => by
            by_cases e : t = i
            · rw [e]; omega
            · exact hneg.out t (by omega))
          generalize O.getD (b + i) 0 = x at x0 hx
          have hx2 : ¬ 0 ≤ x := hx
          go_wp2
          go_roundw
          case rel => exact ⟨i + 1, by omega, by go_num, hnx, by first | rfl | trivial⟩
          case measure => simp [intOf]; omega
      · obtain rfl : i = q := by omega
        obtain rfl : d = true := hd'.out.2 ⟨hs, fun t ht => hneg.out t (by omega)⟩
        have hk0 : ¬ (i : Int) < (i : Int) := by omega
        go_wp2
        go_ret
        exact ⟨rfl, rfl⟩
  · obtain rfl : d = false := by
      cases d with
      | false => rfl
      | true => exact absurd (hd'.out.1 rfl).1 hs
    have hs' : (len : Int) - (b : Int) < k := by omega
    go_enter Try.func30, Try.ntmps30
    go_wp2
    go_ret
    exact ⟨rfl, rfl⟩
end Go.Proofs.Ytgpagfgedimjeaa
