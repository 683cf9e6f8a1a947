/- WheelPlays: a round's states. -/
import Derived.Test.YtpmgmdlfnlmieaaWhTl
namespace Go.Proofs.Ytpmgmdlfnlmieaa.Wh
open Go.RowKit Go.Proofs.Ytpmgmdlfnlmieaa

structure Rd (w0 w : World) (br ob hb now added : Nat) (L : List Tm) (x y : Value) (M : List Tm) (r0 r1 r2 o0 o1 o2 : Value) : Prop where
  two : Two w0 w (fun k => k = br ∨ k = ob) hb now added L x y M
  rb : w.heap[br]? = some (.cells #[r0, r1, r2] 29 (0, 0))
  op : w.heap[ob]? = some (.cells #[o0, o1, o2] 32 (0, 0))
  low : w0.heap.size ≤ br
/-- .. and block nb, that holds what comes next. -/
structure Nx (w0 w : World) (br ob nb hb now added : Nat) (L : List Tm) (x y : Value) (M : List Tm) (n0 n1 n2 r0 r1 r2 o0 o1 o2 : Value) : Prop where
  two : Two w0 w (fun k => k = br ∨ k = ob ∨ k = nb) hb now added L x y M
  rb : w.heap[br]? = some (.cells #[r0, r1, r2] 29 (0, 0))
  op : w.heap[ob]? = some (.cells #[o0, o1, o2] 32 (0, 0))
  nx : w.heap[nb]? = some (.cells #[n0, n1, n2] 29 (0, 0))
  low : w0.heap.size ≤ br
section
variable {w0 w w' : World} {br ob nb hb now added now' added' : Nat} {L M L' M' : List Tm} {x y r0 r1 r2 o0 o1 o2 n0 n1 n2 : Value}
theorem Rd.nil (h : Rd w0 w br ob hb now added L x y M r0 r1 r2 o0 o1 o2) (o : Only Nil w w') : Rd w0 w' br ob hb now added L x y M r0 r1 r2 o0 o1 o2 :=
  ⟨h.two.nil o, (o.block _ (lt_of_block h.rb) (fun h => h)).trans h.rb, (o.block _ (lt_of_block h.op) (fun h => h)).trans h.op, h.low⟩
theorem Rd.box (h : Rd w0 w br ob hb now added L x y M r0 r1 r2 o0 o1 o2) (n0 n1 n2 : Value) :
    Nx w0 (w.alloc (.cells #[n0, n1, n2] 29)) br ob w.heap.size hb now added L x y M n0 n1 n2 r0 r1 r2 o0 o1 o2 := by
  have o : Only Nil w (w.alloc (.cells #[n0, n1, n2] 29)) := (Only.refl Nil w).alloc _
  have h' := h.nil o
  refine ⟨(h.two.more o).mono (fun k hk => ?_), h'.rb, h'.op, heap_new _ _, h.low⟩
  rcases hk with hk | hk | hk
  · exact .inl (.inl hk)
  · exact .inl (.inr hk)
  · exact .inr (by subst hk; simp)
theorem Nx.step (h : Nx w0 w br ob nb hb now added L x y M n0 n1 n2 r0 r1 r2 o0 o1 o2) (t : Two w0 w' (fun k => k = br ∨ k = ob ∨ k = nb) hb now' added' L' x y M') (s : Same (fun k => k = br ∨ k = ob ∨ k = nb) w w') :
    Nx w0 w' br ob nb hb now' added' L' x y M' n0 n1 n2 r0 r1 r2 o0 o1 o2 :=
  ⟨t, (s br (.inl rfl)).trans h.rb, (s ob (.inr (.inl rfl))).trans h.op, (s nb (.inr (.inr rfl))).trans h.nx, h.low⟩
theorem Two.set3 {K : Nat → Prop} (h : Two w0 w K hb now added L x y M) (hK : K br) (hl : w0.heap.size ≤ br) (hr : w.heap[br]? = some (.cells #[r0, r1, r2] 29 (0, 0))) (n0 n1 n2 : Value) :
    Two w0 (((w.setCell ⟨br, 0, none⟩ n0).setCell ⟨br, 1, none⟩ n1).setCell ⟨br, 2, none⟩ n2) K hb now added L x y M := by
  obtain ⟨S, ⟨V, h1⟩, h2, h3, h4, h5, h6⟩ := h
  have o := set3_only (Only.refl (fun k => k = br) w) n0 n1 n2
  exact ⟨S, ⟨V, h1.keep o (fun k hk e => by subst e; exact (h6 _ hK).2 hk)⟩, h2, h3.then o (fun k hk hlt => by omega), h4, h5.keepWheel hr o, fun k hk => ⟨Nat.lt_of_lt_of_le (h6 k hk).1 o.size, (h6 k hk).2⟩⟩
theorem Nx.put (h : Nx w0 w br ob nb hb now added L x y M n0 n1 n2 r0 r1 r2 o0 o1 o2) (m0 m1 m2 : Value) :
    Rd w0 (((w.setCell ⟨br, 0, none⟩ m0).setCell ⟨br, 1, none⟩ m1).setCell ⟨br, 2, none⟩ m2) br ob hb now added L x y M m0 m1 m2 o0 o1 o2 := by
  have o := set3_only (Only.refl (fun k => k = br) w) m0 m1 m2
  have ne : ob ≠ br := blk_ne h.op h.rb (by decide)
  exact ⟨(h.two.set3 (.inl rfl) h.low h.rb m0 m1 m2).mono (fun k hk => by rcases hk with hk | hk; exact .inl hk; exact .inr (.inl hk)), set3_heap h.rb m0 m1 m2, (o.block ob (lt_of_block h.op) ne).trans h.op, h.low⟩
end

section
variable {w0 w : World} {br ob hb now added : Nat} {L : List Tm} {x y r0 r1 r2 o0 o1 o2 : Value}
/-- Add, in a round. -/
theorem rd_add (h : Rd w0 w br ob hb now added L x y L r0 r1 r2 o0 o1 o2) (I : Nat) (h64 : I < 18446744073709551616) (d : Int) (ha : added < 1000000000) :
    ∃ (code : Int) (added' : Nat) (L' : List Tm), added' ≤ added + 1 ∧
      Calls Try.prog 11 #[.agg #[.int .i64 (now : Int), x, y], .int .u64 (I : Int), .int .i64 d] w fun e w1 => ∃ x' y', e = .returned (.tuple #[.agg #[.int .i64 (now : Int), x', y'], .int .i64 code]) ∧
        Nx w0 (w1.alloc (.cells #[.int .i64 (now : Int), x', y'] 29)) br ob w1.heap.size hb now added L x' y' L' (.int .i64 (now : Int)) x' y' r0 r1 r2 o0 o1 o2 ∧
        Calls Try.prog 12 #[.pointer (some ⟨hb, 0, none⟩), .int .u64 (I : Int), .int .i64 d] (w1.alloc (.cells #[.int .i64 (now : Int), x', y'] 29)) fun e w3 => e = .returned (.int .i64 code) ∧
          Nx w0 w3 br ob w1.heap.size hb now added' L' x' y' L' (.int .i64 (now : Int)) x' y' r0 r1 r2 o0 o1 o2 := by
  obtain ⟨code, added', L', hle, c1, c2⟩ := two_add (w0 := w0) (hb := hb) h.two.good I h64 d ha
  refine ⟨code, added', L', hle, (c1 _ _ _ _ h.two).mono ?_⟩
  rintro _ w1 ⟨x', y', rfl, t, o⟩
  have n := Rd.box (Rd.mk t (h.nil o).rb (h.nil o).op h.low) (.int .i64 (now : Int)) x' y'
  refine ⟨x', y', rfl, n, (c2 _ _ _ _ n.two).mono ?_⟩
  rintro _ w3 ⟨rfl, t3, s3⟩
  exact ⟨rfl, n.step t3 s3⟩
/-- Cut, in a round. -/
theorem rd_cut (h : Rd w0 w br ob hb now added L x y L r0 r1 r2 o0 o1 o2) (I : Nat) :
    ∃ (b : Bool) (L' : List Tm),
      Calls Try.prog 13 #[.agg #[.int .i64 (now : Int), x, y], .int .u64 (I : Int)] w fun e w1 => ∃ x' y', e = .returned (.tuple #[.agg #[.int .i64 (now : Int), x', y'], .bool b]) ∧
        Nx w0 (w1.alloc (.cells #[.int .i64 (now : Int), x', y'] 29)) br ob w1.heap.size hb now added L x' y' L' (.int .i64 (now : Int)) x' y' r0 r1 r2 o0 o1 o2 ∧
        Calls Try.prog 14 #[.pointer (some ⟨hb, 0, none⟩), .int .u64 (I : Int)] (w1.alloc (.cells #[.int .i64 (now : Int), x', y'] 29)) fun e w3 => e = .returned (.bool b) ∧
          Nx w0 w3 br ob w1.heap.size hb now added L' x' y' L' (.int .i64 (now : Int)) x' y' r0 r1 r2 o0 o1 o2 := by
  obtain ⟨b, L', c1, c2⟩ := two_cut (w0 := w0) (hb := hb) h.two.good I
  refine ⟨b, L', (c1 _ _ _ _ h.two).mono ?_⟩
  rintro _ w1 ⟨x', y', rfl, t, o⟩
  have n := Rd.box (Rd.mk t (h.nil o).rb (h.nil o).op h.low) (.int .i64 (now : Int)) x' y'
  refine ⟨x', y', rfl, n, (c2 _ _ _ _ n.two).mono ?_⟩
  rintro _ w3 ⟨rfl, t3, s3⟩
  exact ⟨rfl, n.step t3 s3⟩
/-- Tick, in a round. -/
theorem rd_tick (h : Rd w0 w br ob hb now added L x y L r0 r1 r2 o0 o1 o2) (N : Nat) (eN : N = now + 1) (hn : N < 1000000000) :
    ∃ L' T : List Tm, T.length ≤ 64 ∧ Calls Try.prog 16 #[.agg #[.int .i64 (now : Int), x, y]] w fun e w1 => ∃ x' y' v', e = .returned (.tuple #[.agg #[.int .i64 (N : Int), x', y'], v']) ∧
      Nx w0 (w1.alloc (.cells #[.int .i64 (N : Int), x', y'] 29)) br ob w1.heap.size hb now added L x' y' L' (.int .i64 (N : Int)) x' y' r0 r1 r2 o0 o1 o2 ∧
      Calls Try.prog 18 #[.pointer (some ⟨hb, 0, none⟩)] ((((w1.alloc (.cells #[.int .i64 (N : Int), x', y'] 29)).setCell ⟨br, 0, none⟩ (.int .i64 (N : Int))).setCell ⟨br, 1, none⟩ x').setCell ⟨br, 2, none⟩ y') fun e w3 => ∃ v, e = .returned v ∧
        (w3.ownsRow 0 30 1 v T.length (ids T) ∧ w3.ownsRow 0 30 1 v' T.length (ids T)) ∧
        Rd w0 w3 br ob hb N added L' x' y' L' (.int .i64 (N : Int)) x' y' o0 o1 o2 := by
  subst eN
  refine ⟨L.filter fun t => !(t.due == now + 1), L.filter fun t => t.due == now + 1, Nat.le_trans (List.length_filter_le _ _) h.two.good.few, (two_rtick h.two hn).mono ?_⟩
  rintro _ w1 ⟨x', y', v', rfl, t, ov, o⟩
  have ov' := fun k hk => own_ne ov (t := 29) (g := k) (y := #[r0, r1, r2]) (m := (0, 0)) hk (by decide)
  have n := Rd.box (Rd.mk (t.mono (fun k hk => .inl hk)) (h.nil o).rb (h.nil o).op h.low) (.int .i64 ((now + 1 : Nat) : Int)) x' y'
  have oA : Only Nil w1 (w1.alloc (.cells #[.int .i64 ((now + 1 : Nat) : Int), x', y'] 29)) := (Only.refl Nil w1).alloc _
  have t2 := (t.nil oA).set3 (.inl (.inl rfl)) h.low n.rb (.int .i64 ((now + 1 : Nat) : Int)) x' y'
  have p := n.put (.int .i64 ((now + 1 : Nat) : Int)) x' y'
  refine ⟨x', y', v', rfl, n, (two_wtick t2 hn).mono ?_⟩
  rintro _ w3 ⟨v, rfl, hv, t3, s3⟩
  refine ⟨v, rfl, ⟨hv, ?_⟩, ⟨t3.mono (fun k hk => .inl hk), (s3 br (.inl (.inl rfl))).trans p.rb, (s3 ob (.inl (.inr rfl))).trans p.op, h.low⟩⟩
  refine own_kept ?_ (fun k hk => s3 k (.inr hk))
  exact own_keep (own_keep ov oA (fun _ _ h => h)) (set3_only (Only.refl (fun k => k = br) _) _ _ _) (fun k hk e => by subst e; exact ov' _ (h.nil o).rb hk)
end

/-- Between two rounds. -/
structure Pd (w0 w : World) (br hb now added : Nat) (L : List Tm) (x y : Value) : Prop where
  two : Two w0 w (fun k => k = br) hb now added L x y L
  rb : w.heap[br]? = some (.cells #[.int .i64 (now : Int), x, y] 29 (0, 0))
  low : w0.heap.size ≤ br
section
variable {w0 w w' : World} {br ob hb now added : Nat} {L : List Tm} {x y o0 o1 o2 : Value}
theorem Pd.box (h : Pd w0 w br hb now added L x y) (o0 o1 o2 : Value) : Rd w0 (w.alloc (.cells #[o0, o1, o2] 32)) br w.heap.size hb now added L x y L (.int .i64 (now : Int)) x y o0 o1 o2 := by
  have o : Only Nil w (w.alloc (.cells #[o0, o1, o2] 32)) := (Only.refl Nil w).alloc _
  refine ⟨(h.two.more o).mono (fun k hk => ?_), (o.block _ (lt_of_block h.rb) (fun h => h)).trans h.rb, heap_new _ _, h.low⟩
  rcases hk with hk | hk
  · exact .inl hk
  · exact .inr (by subst hk; simp)
theorem Rd.pd (h : Rd w0 w br ob hb now added L x y L (.int .i64 (now : Int)) x y o0 o1 o2) (o : Only Nil w w') : Pd w0 w' br hb now added L x y :=
  ⟨(h.two.mono (fun _ hk => .inl hk)).nil o, (h.nil o).rb, h.low⟩
end
end Go.Proofs.Ytpmgmdlfnlmieaa.Wh
