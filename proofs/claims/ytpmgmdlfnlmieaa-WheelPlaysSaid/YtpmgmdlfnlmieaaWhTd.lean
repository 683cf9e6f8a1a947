/- wheel, the document's: Add's other ways. -/
import Derived.Test.YtpmgmdlfnlmieaaWhTc
import Derived.Lib.AppendZerosOnto
namespace Go.Proofs.Ytpmgmdlfnlmieaa.Wh
open Go.RowKit Go.Proofs.Ytpmgmdlfnlmieaa

/-- The two blocks with which Add, Cut begin. -/
theorem two_blocks (w : World) (x y : Array Value) (t u : TypeId) : ((w.alloc (.cells x t)).alloc (.cells y u)).heap[w.heap.size]? = some (.cells x t (0, 0)) ∧ ((w.alloc (.cells x t)).alloc (.cells y u)).heap[w.heap.size + 1]? = some (.cells y u (0, 0)) ∧ Only Nil w ((w.alloc (.cells x t)).alloc (.cells y u)) := by
  refine ⟨(Below.heap_alloc _ _ _ (by simp)).trans (heap_new w _), ?_, ((Only.refl Nil w).alloc _).alloc _⟩
  have := heap_new (w.alloc (.cells x t)) (.cells y u)
  simpa using this

set_option maxRecDepth 100000 in
set_option maxHeartbeats 2000000 in
theorem radd_there {w : World} {S : Nat → Prop} {i d : Value} {L : List Tm} (h : Rw w S i d L) (few : L.length ≤ 64) (hn : (L.map (·.id)).Nodup) (n : Nat) (t : Tm) (ht : t ∈ L) (x : Int) (h1 : 1 ≤ x) (h2 : x ≤ 4095) :
    Calls Try.prog 11 #[.agg #[.int .i64 (n : Int), i, d], .int .u64 (t.id : Int), .int .i64 x] w fun e w' => e = .returned (.tuple #[.agg #[.int .i64 (n : Int), i, d], .int .i64 3]) ∧ Only Nil w w' := by
  obtain ⟨b1, b2, b3⟩ := two_blocks w #[.int .i64 (n : Int), i, d] #[.int .i64 0, .slice none 0 0, .slice none 0 0] 29 29
  obtain ⟨p, hp, _, hat⟩ := at_mem (h.nil b3) few hn n t ht
  have hat' := Lib.hid hat
  have ob := Lib.hid b3
  have b1' := Lib.hid b1
  have b2' := Lib.hid b2
  obtain ⟨a, ca, rfl⟩ := own_slice_n h.ri
  obtain ⟨b, cb, rfl⟩ := own_slice_n h.rd
  have hx3 : ¬ (x < 1) := by omega
  have hx4 : ¬ (4095 < x) := by omega
  have hp0 : decide ((0 : Int) ≤ (p : Int)) = true := decide_eq_true (by omega)
  clear h few hn ht h1 h2 hat b1 b2 b3 hp
  generalize L.length = len at *
  go_enter Try.func11, Try.ntmps11
  go_wp2_with (go_at_call 25; (with_reducible refine hat'.out.mono ?_); rintro e w1 ⟨rfl, o1⟩; have hB := (o1.block w.heap.size (lt_of_block b1'.out) (fun h => h.elim)).trans b1'.out; have hZ := (o1.block (w.heap.size + 1) (lt_of_block b2'.out) (fun h => h.elim)).trans b2'.out; obtain ⟨⟨x0, x1, x2, x3⟩, ⟨y0, y1, y2, y3, y4, y5, y6⟩⟩ := six_of hB hZ; have hZ' := Lib.hid hZ; have q1 := Lib.hid (ob.out.trans o1); clear hB hZ o1)
  refine bodyPost_ret (results_at rfl _ _ (w.heap.size + 1) [.int .i64 (n : Int), .slice a len ca, .slice b len cb] Try.isAgg29 Try.sizeOf29 rfl (set3_heap hZ'.out (.int .i64 (n : Int)) (.slice a len ca) (.slice b len cb))) rfl ?_
  refine ⟨rfl, ?_⟩
  have o2 : Only (fun k => k = w.heap.size + 1) w w1 := q1.out.nilTo _
  exact (((o2.setCell (p := ⟨w.heap.size + 1, 0, none⟩) rfl _).setCell (p := ⟨w.heap.size + 1, 1, none⟩) rfl _).setCell (p := ⟨w.heap.size + 1, 2, none⟩) rfl _).fresh (fun k hk => by omega)

set_option maxRecDepth 100000 in
set_option maxHeartbeats 2000000 in
theorem radd_full {w : World} {S : Nat → Prop} {i d : Value} {L : List Tm} (h : Rw w S i d L) (hl : L.length = 64) (n id : Nat) (hid : ∀ t ∈ L, t.id ≠ id) (x : Int) (h1 : 1 ≤ x) (h2 : x ≤ 4095) :
    Calls Try.prog 11 #[.agg #[.int .i64 (n : Int), i, d], .int .u64 (id : Int), .int .i64 x] w fun e w' => e = .returned (.tuple #[.agg #[.int .i64 (n : Int), i, d], .int .i64 4]) ∧ Only Nil w w' := by
  obtain ⟨b1, b2, b3⟩ := two_blocks w #[.int .i64 (n : Int), i, d] #[.int .i64 0, .slice none 0 0, .slice none 0 0] 29 29
  have hat := at_no (h.nil b3) (by omega) n id hid
  have hat' := Lib.hid hat
  have ob := Lib.hid b3
  have b1' := Lib.hid b1
  have b2' := Lib.hid b2
  obtain ⟨a, ca, rfl⟩ := own_slice_n h.ri
  obtain ⟨b, cb, rfl⟩ := own_slice_n h.rd
  have hx3 : ¬ (x < 1) := by omega
  have hx4 : ¬ (4095 < x) := by omega
  clear h hid h1 h2 hat b1 b2 b3
  rw [hl] at hat' b1' ob b2' ⊢
  clear hl
  go_enter Try.func11, Try.ntmps11
  go_wp2_with (go_at_call 25; (with_reducible refine hat'.out.mono ?_); rintro e w1 ⟨rfl, o1⟩; have hB := (o1.block w.heap.size (lt_of_block b1'.out) (fun h => h.elim)).trans b1'.out; have hZ := (o1.block (w.heap.size + 1) (lt_of_block b2'.out) (fun h => h.elim)).trans b2'.out; obtain ⟨⟨x0, x1, x2, x3⟩, ⟨y0, y1, y2, y3, y4, y5, y6⟩⟩ := six_of hB hZ; have hZ' := Lib.hid hZ; have q1 := Lib.hid (ob.out.trans o1); clear hB hZ o1)
  refine bodyPost_ret (results_at rfl _ _ (w.heap.size + 1) [.int .i64 (n : Int), .slice a 64 ca, .slice b 64 cb] Try.isAgg29 Try.sizeOf29 rfl (set3_heap hZ'.out (.int .i64 (n : Int)) (.slice a 64 ca) (.slice b 64 cb))) rfl ?_
  refine ⟨rfl, ?_⟩
  have o2 : Only (fun k => k = w.heap.size + 1) w w1 := q1.out.nilTo _
  exact (((o2.setCell (p := ⟨w.heap.size + 1, 0, none⟩) rfl _).setCell (p := ⟨w.heap.size + 1, 1, none⟩) rfl _).setCell (p := ⟨w.heap.size + 1, 2, none⟩) rfl _).fresh (fun k hk => by omega)

/-- A Wheel's three cells. -/
theorem tri_of {w : World} {O : Nat} {x0 x1 x2 : Value} {t : TypeId} (ho : w.heap[O]? = some (.cells #[x0, x1, x2] t (0, 0))) :
    w.cell? ⟨O, 0, none⟩ = some x0 ∧ w.cell? ⟨O, 1, none⟩ = some x1 ∧ w.cell? ⟨O, 2, none⟩ = some x2 ∧ w.frozen? ⟨O, 0, none⟩ = false ∧ w.frozen? ⟨O, 1, none⟩ = false ∧ w.frozen? ⟨O, 2, none⟩ = false ∧ O < w.heap.size :=
  ⟨by simp [World.cell?, ho], by simp [World.cell?, ho], by simp [World.cell?, ho], by simp [World.frozen?, ho], by simp [World.frozen?, ho], by simp [World.frozen?, ho], lt_of_block ho⟩
/-- The box, and the result's place. -/
def KK (B Z : Nat) (n : Int) (i d : Value) (q : Nat) (cs : Array Value) : Prop := (q = B ∧ cs = #[.int .i64 n, i, d]) ∨ (q = Z ∧ cs = #[.int .i64 0, .slice none 0 0, .slice none 0 0])

/-- A new Wheel, with now alone. -/
theorem mk_new {w0 w1 : World} {B Z : Nat} {n : Int} {i d : Value} {m : Int} (hB : w1.heap[B]? = some (.cells #[.int .i64 n, i, d] 29 (0, 0))) (hZ : w1.heap[Z]? = some (.cells #[.int .i64 0, .slice none 0 0, .slice none 0 0] 29 (0, 0))) (o : Only Nil w0 w1) :
    Mk w0 (w1.alloc (.cells #[.int .i64 m, .slice none 0 0, .slice none 0 0] 29)) (KK B Z n i d) w1.heap.size m (.slice none 0 0) (.slice none 0 0) [] [] := by
  refine ⟨⟨heap_new _ _, World.ownsRow_nil _ _ _ _, World.ownsRow_nil _ _ _ _, o.size, fun k hk => by simp [Value.ownBlock] at hk, fun k hk => by simp [Value.ownBlock] at hk, o.alloc _⟩, ?_, ?_⟩
  · rintro q cs (⟨rfl, rfl⟩ | ⟨rfl, rfl⟩)
    · rw [Below.heap_alloc _ _ _ (lt_of_block hB)]; exact hB
    · rw [Below.heap_alloc _ _ _ (lt_of_block hZ)]; exact hZ
  · rintro q cs (⟨rfl, rfl⟩ | ⟨rfl, rfl⟩)
    · have := lt_of_block hB; omega
    · have := lt_of_block hZ; omega

/-- All of Add's row: what its four appends come to. -/
theorem add_chain {w0 w1 : World} {S : Nat → Prop} {B Z : Nat} {n : Int} {i d : Value} {L : List Tm} (h : Rw w0 S i d L) (few : L.length ≤ 64) (hB : w1.heap[B]? = some (.cells #[.int .i64 n, i, d] 29 (0, 0))) (hZ : w1.heap[Z]? = some (.cells #[.int .i64 0, .slice none 0 0, .slice none 0 0] 29 (0, 0))) (o : Only Nil w0 w1) (t : Tm) :
    ∃ a1 c1 w3, Hid ((Builtin.append_ #[26, 26] 26 #[.slice none 0 0, i]).run Try.prog (w1.alloc (.cells #[.int .i64 n, .slice none 0 0, .slice none 0 0] 29)) = .ok (.slice a1 L.length c1) w3) ∧
      Hid (Kept w3 (KK B Z n i d) ∧ w3.heap[w1.heap.size]? = some (.cells #[.int .i64 n, .slice none 0 0, .slice none 0 0] 29 (0, 0))) ∧
    ∃ a2 c2 w6, Hid ((Builtin.append_ #[26, 26] 26 #[.slice a1 L.length c1, .slice (some ⟨w3.heap.size, 0, none⟩) 1 1]).run Try.prog ((w3.setCell ⟨w1.heap.size, 1, none⟩ (.slice a1 L.length c1)).alloc (.cells #[.int .u64 (t.id : Int)] 30)) = .ok (.slice a2 (L.length + 1) c2) w6) ∧
      Hid (Kept w6 (KK B Z n i d) ∧ w6.heap[w1.heap.size]? = some (.cells #[.int .i64 n, .slice a1 L.length c1, .slice none 0 0] 29 (0, 0))) ∧
    ∃ a3 c3 w8, Hid ((Builtin.append_ #[27, 27] 27 #[.slice none 0 0, d]).run Try.prog (w6.setCell ⟨w1.heap.size, 1, none⟩ (.slice a2 (L.length + 1) c2)) = .ok (.slice a3 L.length c3) w8) ∧
      Hid (Kept w8 (KK B Z n i d) ∧ w8.heap[w1.heap.size]? = some (.cells #[.int .i64 n, .slice a2 (L.length + 1) c2, .slice none 0 0] 29 (0, 0))) ∧
    ∃ a4 c4 w11, Hid ((Builtin.append_ #[27, 27] 27 #[.slice a3 L.length c3, .slice (some ⟨w8.heap.size, 0, none⟩) 1 1]).run Try.prog ((w8.setCell ⟨w1.heap.size, 2, none⟩ (.slice a3 L.length c3)).alloc (.cells #[.int .i64 (t.due : Int)] 3)) = .ok (.slice a4 (L.length + 1) c4) w11) ∧
      Hid (Kept w11 (KK B Z n i d) ∧ w11.heap[w1.heap.size]? = some (.cells #[.int .i64 n, .slice a2 (L.length + 1) c2, .slice a3 L.length c3] 29 (0, 0))) ∧
      Hid (Mk w0 (w11.setCell ⟨w1.heap.size, 2, none⟩ (.slice a4 (L.length + 1) c4)) (KK B Z n i d) w1.heap.size n (.slice a2 (L.length + 1) c2) (.slice a4 (L.length + 1) c4) (L ++ [t]) (L ++ [t])) := by
  have m0 := mk_new (m := n) hB hZ o
  obtain ⟨a1, c1, w3, r1, H1⟩ := m0.copyId (by omega) h.ri
  obtain ⟨k1, m1⟩ := H1.out
  have s1 : (w3.setCell ⟨w1.heap.size, 1, none⟩ (.slice a1 L.length c1)).heap.size = w3.heap.size := by simp [World.setCell]
  obtain ⟨a2, c2, w6, r2, H2⟩ := m1.pushId (by omega) ((Only.refl Nil _).alloc (.cells #[.int .u64 (t.id : Int)] 30)) w3.heap.size t (by rw [← s1]; exact heap_new _ _)
  obtain ⟨k2, m2⟩ := H2.out
  obtain ⟨a3, c3, w8, r3, H3⟩ := m2.copyDue (by omega) h.rd
  obtain ⟨k3, m3⟩ := H3.out
  have s3 : (w8.setCell ⟨w1.heap.size, 2, none⟩ (.slice a3 L.length c3)).heap.size = w8.heap.size := by simp [World.setCell]
  obtain ⟨a4, c4, w11, r4, H4⟩ := m3.pushDue (by omega) ((Only.refl Nil _).alloc (.cells #[.int .i64 (t.due : Int)] 3)) w8.heap.size t (by rw [← s3]; exact heap_new _ _)
  obtain ⟨k4, m4⟩ := H4.out
  exact ⟨a1, c1, w3, Lib.hid r1, Lib.hid k1, a2, c2, w6, Lib.hid r2, Lib.hid k2, a3, c3, w8, Lib.hid r3, Lib.hid k3, a4, c4, w11, Lib.hid r4, Lib.hid k4, Lib.hid m4⟩

theorem Rw.keepWheel {w w' : World} {S : Nat → Prop} {i d : Value} {L : List Tm} {Z : Nat} {cs : Array Value} (h : Rw w S i d L) (hz : w.heap[Z]? = some (.cells cs 29 (0, 0))) (o : Only (fun k => k = Z) w w') : Rw w' S i d L :=
  ⟨own_keep h.ri o (fun k hk e => own_ne h.ri hz (by decide) (by rw [← e]; exact hk)), own_keep h.rd o (fun k hk e => own_ne h.rd hz (by decide) (by rw [← e]; exact hk)), h.oi, h.od⟩
theorem set3_only {w0 w : World} {q : Nat} (h : Only (fun k => k = q) w0 w) (y0 y1 y2 : Value) : Only (fun k => k = q) w0 (((w.setCell ⟨q, 0, none⟩ y0).setCell ⟨q, 1, none⟩ y1).setCell ⟨q, 2, none⟩ y2) :=
  ((h.setCell (p := ⟨q, 0, none⟩) rfl _).setCell (p := ⟨q, 1, none⟩) rfl _).setCell (p := ⟨q, 2, none⟩) rfl _

set_option maxRecDepth 100000 in
set_option maxHeartbeats 8000000 in
theorem radd_ok {w : World} {S : Nat → Prop} {i d : Value} {L : List Tm} (h : Rw w S i d L) (hS : ∀ k, S k → k < w.heap.size) (hl : L.length < 64) (n id : Nat) (hid : ∀ t ∈ L, t.id ≠ id) (x : Nat) (h1 : 1 ≤ x) (h2 : x ≤ 4095) (hn : n < 1000000000) (m : Nat) :
    Calls Try.prog 11 #[.agg #[.int .i64 (n : Int), i, d], .int .u64 (id : Int), .int .i64 (x : Int)] w fun e w' => ∃ i' d', e = .returned (.tuple #[.agg #[.int .i64 (n : Int), i', d'], .int .i64 0]) ∧ Rw w' S i' d' (L ++ [⟨id, n + x, m⟩]) ∧ Only Nil w w' := by
  obtain ⟨b1, b2, b3⟩ := two_blocks w #[.int .i64 (n : Int), i, d] #[.int .i64 0, .slice none 0 0, .slice none 0 0] 29 29
  have hat := at_no (h.nil b3) (by omega) n id hid
  have hat' := Lib.hid hat
  have ob := Lib.hid b3
  have b1' := Lib.hid b1
  have b2' := Lib.hid b2
  obtain ⟨a, ca, hi⟩ := own_slice_n h.ri
  obtain ⟨b, cb, hd⟩ := own_slice_n h.rd
  have chain := Lib.hid (fun w1 hB hZ o => add_chain (w0 := w) (w1 := w1) (B := w.heap.size) (Z := w.heap.size + 1) (n := (n : Int)) h (by omega) hB hZ o ⟨id, n + x, m⟩)
  have hx3 : ¬ ((x : Int) < 1) := by omega
  have hx4 : ¬ (4095 < (x : Int)) := by omega
  have hl64 : decide (64 ≤ (L.length : Int)) = false := decide_eq_false (by omega)
  have eN : (n : Int) + (x : Int) = ((n + x : Nat) : Int) := by omega
  have hnx : ((n + x : Nat) : Int) < 1000004096 := by omega
  have hS' := Lib.hid hS
  rw [hi, hd] at chain hat' b1' b2' ob ⊢
  clear h hid h1 h2 hat b1 b2 b3 hl hn hS hi hd
  obtain ⟨due, hdue⟩ : ∃ due, due = n + x := ⟨_, rfl⟩
  rw [← hdue] at eN hnx chain ⊢
  clear hdue
  generalize hlen : L.length = len at *
  clear hlen
  go_enter Try.func11, Try.ntmps11
  go_wp2_with (first
    | (go_at_call 25; (with_reducible refine hat'.out.mono ?_); rintro e w1 ⟨rfl, o1⟩; have hB := (o1.block w.heap.size (lt_of_block b1'.out) (fun h => h.elim)).trans b1'.out; have hZ := (o1.block (w.heap.size + 1) (lt_of_block b2'.out) (fun h => h.elim)).trans b2'.out; obtain ⟨a1, c1, w3, r1, k1, a2, c2, w6, r2, k2, a3, c3, w8, r3, k3, a4, c4, w11, r4, k4, fin⟩ := chain.out w1 hB hZ (ob.out.trans o1); obtain ⟨⟨x0, x1, x2, x3⟩, ⟨y0, y1, y2, y3, y4, y5, y6⟩⟩ := six_of hB hZ; have hZ' := Lib.hid hZ; have hB' := Lib.hid hB; have q1 := Lib.hid (ob.out.trans o1); clear hB hZ o1)
    | (at_builtin; refine Lib.wpList_append_run _ rfl (.tmp 30) (.tmp 32) 26 26 rfl _ _ rfl rfl _ _ r1.out ?_; obtain ⟨u0, u1, u2, _, _, _, u3⟩ := tri_of (k1.out.1 _ _ (.inl ⟨rfl, rfl⟩)); obtain ⟨v0, v1, v2, v3, v4, v5, v6⟩ := tri_of k1.out.2)
    | (at_builtin; refine Lib.wpList_append_run _ rfl (.tmp 36) (.tmp 38) 26 26 rfl _ _ rfl rfl _ _ r2.out ?_; obtain ⟨s0, s1, s2, _, _, _, s3⟩ := tri_of (k2.out.1 _ _ (.inl ⟨rfl, rfl⟩)); obtain ⟨t0, t1, t2, t3, t4, t5, t6⟩ := tri_of k2.out.2)
    | (at_builtin; refine Lib.wpList_append_run _ rfl (.tmp 42) (.tmp 44) 27 27 rfl _ _ rfl rfl _ _ r3.out ?_; obtain ⟨m0, m1, m2, _, _, _, m3⟩ := tri_of (k3.out.1 _ _ (.inl ⟨rfl, rfl⟩)); obtain ⟨n0, n1, n2, n3, n4, n5, n6⟩ := tri_of k3.out.2)
    | (at_builtin; refine Lib.wpList_append_run _ rfl (.tmp 48) (.tmp 53) 27 27 rfl _ _ rfl rfl _ _ r4.out ?_; obtain ⟨p0, p1, p2, p3, p4, p5, p6⟩ := tri_of (k4.out.1 _ _ (.inr ⟨rfl, rfl⟩)); obtain ⟨q0, q1', q2, q3, q4, q5, q6⟩ := tri_of k4.out.2))
  have hz := fin.out.box _ _ (.inr ⟨rfl, rfl⟩)
  have o3 := set3_only (Only.refl (fun k => k = w.heap.size + 1) (w11.setCell ⟨w1.heap.size, 2, none⟩ (.slice a4 (len + 1) c4))) (.int .i64 (n : Int)) (.slice a2 (len + 1) c2) (.slice a4 (len + 1) c4)
  refine bodyPost_ret (results_at rfl _ _ (w.heap.size + 1) [.int .i64 (n : Int), .slice a2 (len + 1) c2, .slice a4 (len + 1) c4] Try.isAgg29 Try.sizeOf29 rfl (set3_heap hz (.int .i64 (n : Int)) (.slice a2 (len + 1) c2) (.slice a4 (len + 1) c4))) rfl ?_
  exact ⟨_, _, rfl, (fin.out.out.rw hS'.out).keepWheel hz o3, fin.out.out.only.then o3 (fun k hk hlt => by omega)⟩
end Go.Proofs.Ytpmgmdlfnlmieaa.Wh
