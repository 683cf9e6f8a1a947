/- DeadPlays: a sink and the law's own row side by side. -/
import Derived.Test.YtpkphmemeapdfaaDdRf
namespace Go.Proofs.Ytpkphmemeapdfaa.Dd
open Go.RowKit Go.Proofs.Ytpkphmemeapdfaa

/-- World w holds a sink of L at hb, and v is a row of the letters N: both made behind w0; of neither are the blocks of K. -/
def Lw (w0 w : World) (hb k : Nat) (L : List Lr) (v : Value) (N : List Lr) (K : Nat → Prop) : Prop :=
  ∃ (S : Nat → Prop) (mb : Nat) (D : DataW Unit) (u : Value), At w S hb mb k D u L ∧ (∀ q, S q → w0.heap.size ≤ q) ∧ Only Nil w0 w ∧ w.ownsRow 0 29 3 v N.length (lrs N) ∧
    (∀ q, some q = v.ownBlock → ¬ S q ∧ w0.heap.size ≤ q) ∧ (∀ q, K q → ¬ S q ∧ some q ≠ v.ownBlock ∧ q < w.heap.size)

section
variable {w0 w w' : World} {hb k : Nat} {L N : List Lr} {v : Value} {K : Nat → Prop}
theorem Lw.nil (h : Lw w0 w hb k L v N K) (o : Only Nil w w') : Lw w0 w' hb k L v N K := by
  obtain ⟨S, mb, D, u, h1, h2, h3, h4, h5, h6⟩ := h
  exact ⟨S, mb, D, u, h1.nil o, h2, h3.trans o, own_keep h4 o (fun _ _ h => h), h5, fun q hq => ⟨(h6 q hq).1, (h6 q hq).2.1, Nat.lt_of_lt_of_le (h6 q hq).2.2 o.size⟩⟩
theorem Lw.mine (h : Lw w0 w hb k L v N K) : Mine w0 w hb k L := by
  obtain ⟨S, mb, D, u, h1, h2, h3, _⟩ := h
  exact ⟨S, mb, D, u, h1, h2, h3⟩
theorem Lw.only (h : Lw w0 w hb k L v N K) : Only Nil w0 w := h.mine.only
theorem Lw.row (h : Lw w0 w hb k L v N K) : w.ownsRow 0 29 3 v N.length (lrs N) := by
  obtain ⟨S, mb, D, u, _, _, _, h, _⟩ := h
  exact h
theorem Lw.free (h : Lw w0 w hb k L v N K) : Lw w0 w hb k L v N (fun _ => False) := by
  obtain ⟨S, mb, D, u, h1, h2, h3, h4, h5, h6⟩ := h
  exact ⟨S, mb, D, u, h1, h2, h3, h4, h5, fun q hq => hq.elim⟩
theorem Lw.start (h : Mine w0 w hb k L) : Lw w0 w hb k L (.slice none 0 0) [] (fun _ => False) := by
  obtain ⟨S, mb, D, u, h1, h2, h3⟩ := h
  exact ⟨S, mb, D, u, h1, h2, h3, World.ownsRow_nil _ _ _ _, fun q hq => by simp [Value.ownBlock] at hq, fun q hq => hq.elim⟩
theorem Lw.box (h : Lw w0 w hb k L v N K) (o : Obj) : Lw w0 (w.alloc o) hb k L v N (fun q => q = w.heap.size) := by
  obtain ⟨S, mb, D, u, h1, h2, h3, h4, h5, h6⟩ := h
  have ho := (Only.refl Nil w).alloc o
  refine ⟨S, mb, D, u, h1.nil ho, h2, h3.trans ho, own_keep h4 ho (fun _ _ h => h), h5, fun q hq => ?_⟩
  subst hq
  exact ⟨fun hs => by have := h1.lt _ hs; omega, fun hv => by have := (h4.lt _ hv.symm).2; omega, by simp⟩
theorem lw_put (h : Lw w0 w hb k L v N K) (t : Lr) (few : L.length ≤ 65000) :
    Calls Try.prog 9 #[.pointer (some ⟨hb, 0, none⟩), .int .u64 t.id, .int .i64 t.dst, .int .i64 t.why] w fun e w' => e = .returned (.int .i64 (er t)) ∧ Lw w0 w' hb k (nx L t) v N K ∧ (∀ q, K q → w'.heap[q]? = w.heap[q]?) := by
  unfold er nx
  cases hr : right t.why
  · refine (put_bad hb t.id t.dst t.why hr).mono ?_
    rintro e w' ⟨rfl, rfl⟩
    exact ⟨rfl, h, fun _ _ => rfl⟩
  · obtain ⟨S, mb, D, u, h1, h2, h3, h4, h5, h6⟩ := h
    refine (put_ok h1 t hr few).mono ?_
    rintro e w' ⟨rfl, D', u', h', o⟩
    refine ⟨rfl, ⟨Plus S w w', mb, D', u', h', fun q hq => ?_, h3.then o (fun q hq hlt => by have := h2 q hq; omega), own_keep h4 o (fun q hq => (h5 q hq).1), fun q hq => ⟨?_, (h5 q hq).2⟩, fun q hq => ⟨?_, (h6 q hq).2.1, Nat.lt_of_lt_of_le (h6 q hq).2.2 o.size⟩⟩, fun q hq => o.block q (h6 q hq).2.2 (h6 q hq).1⟩
    · rcases hq with hq | hq
      · exact h2 q hq
      · have := h3.size; omega
    · rintro (hs | hs)
      · exact (h5 q hq).1 hs
      · have := (h4.lt q hq.symm).2; omega
    · rintro (hs | hs)
      · exact (h6 q hq).1 hs
      · have := (h6 q hq).2.2; omega
theorem lw_push {a : Option Addr} {n c : Nat} (h : Lw w0 w hb k L (.slice a n c) N K) (hn : N.length = n) (few : n ≤ 65000) (t : Lr) (bx : Array Value) (hbx : bx = #[.int .u64 t.id, .int .i64 t.dst, .int .i64 t.why]) :
    ∃ a' c' w', Hid ((Builtin.append_ #[22, 22] 22 #[.slice a n c, .slice (some ⟨w.heap.size, 0, none⟩) 1 1]).run Try.prog (w.alloc (.cells bx 29)) = .ok (.slice a' (n + 1) c') w') ∧
      Hid (Lw w0 w' hb k L (.slice a' (n + 1) c') (N ++ [t]) (fun _ => False)) := by
  subst hbx
  have oX : Only Nil w (w.alloc (.cells #[.int .u64 t.id, .int .i64 t.dst, .int .i64 t.why] 29)) := (Only.refl Nil w).alloc _
  obtain ⟨S, mb, D, u, h1, h2, h3, h4, h5, h6⟩ := h
  have hrow := own_keep h4 oX (fun _ _ h => h)
  rw [hn] at hrow
  obtain ⟨a', c', w6, hr, ho, hon, hsn⟩ := run_append_end (P := Try.prog) (t := 22) (ty := 22) (e := 29) (size := 3) (bytes := 24) Try.underlying22 Try.infoLr rfl (a := a) (len := n) (cap := c) (xs := lrs N) hrow ⟨w.heap.size, 0, none⟩ (lr t) rfl (lr_oneCell t)
    (fun j u hj => by
        rw [add_lit0, cell_of_row _ w.heap.size _ _ _ _ (heap_new w _), Nat.zero_add]
        simp [lr] at hj ⊢; exact hj) (by omega) (by decide)
  have hva : ∀ q, RowOf a q → some q = (Value.slice a n c).ownBlock := by rintro q ⟨x, rfl, rfl⟩; rfl
  refine ⟨a', c', w6, Lib.hid hr, Lib.hid ⟨S, mb, D, u, (h1.nil oX).keep hon (fun q hq hr => (h5 q (hva q hr)).1 hq), h2, (h3.trans oX).then hon (fun q hq hlt => by have := (h5 q (hva q hq)).2; omega), ?_, fun q hq => ?_, fun q hq => hq.elim⟩⟩
  · rw [List.length_append, List.length_singleton, hn, lrs_append, lrs_one]; exact ho
  · cases a' with
    | none => simp [Value.ownBlock] at hq
    | some x =>
      have hq' : q = x.block := by simpa [Value.ownBlock] using hq
      rcases hsn x rfl with ⟨y, hy, e⟩ | e
      · exact h5 q (hva q ⟨y, hy, by omega⟩)
      · have h8 := oX.size
        have h9 := h3.size
        exact ⟨fun hs => by have := h1.lt q hs; omega, by omega⟩
theorem own_cap {a : Option Addr} {n c : Nat} {xs : List Value} (h : w.ownsRow 0 29 3 (.slice a n c) n xs) : n ≤ c ∧ c ≤ 9223372036854775807 := by
  rcases h.2 with ⟨e, h0⟩ | ⟨g, c', cur, hv, _, hg, h1, h2, _⟩
  · simp only [Value.slice.injEq] at e; omega
  · simp only [Value.slice.injEq] at hv
    unfold maxLen at h2
    omega
theorem lw_rcount {a : Option Addr} {n c : Nat} (h : Lw w0 w hb k L (.slice a n c) N K) (hn : N.length = n) (few : n ≤ 65000) (x : Int) :
    Calls Try.prog 12 #[.slice a n c, .int .i64 x] w fun e w' => e = .returned (.int .i64 (cnt N x : Nat)) ∧ w = w' := by
  subst hn
  exact rcount_any (own_lin h.row) c x few
theorem lw_rrecent {a : Option Addr} {n c : Nat} (h : Lw w0 w hb k L (.slice a n c) N K) (hn : N.length = n) (few : n ≤ 65000) (r : Int) (hk : k = kn r) :
    Calls Try.prog 15 #[.slice a n c, .int .i64 r] w fun e w' => ∃ a' c', e = .returned (.slice a' (kept k N).length c') ∧ LIn w a' (kept k N) ∧ w = w' := by
  subst hn hk
  have q := own_cap h.row
  exact rrecent_any (own_lin h.row) c r few q.1 q.2
theorem lw_recent (h : Lw w0 w hb k L v N K) : Calls Try.prog 14 #[.pointer (some ⟨hb, 0, none⟩)] w fun e w' =>
    e = .returned (.slice (some ⟨w.heap.size, 0, none⟩) (kept k L).length (kept k L).length) ∧ LIn w' (some ⟨w.heap.size, 0, none⟩) (kept k L) ∧ Lw w0 w' hb k L v N K :=
  (mine_recent h.mine).mono fun _ _ ⟨he, hr, _, o⟩ => ⟨he, row_lin hr, h.nil o⟩
theorem Lw.kept_few (h : Lw w0 w hb k L v N K) : (kept k L).length ≤ 65000 := by
  have := kept_le k L
  have := h.mine.few
  omega
end
end Go.Proofs.Ytpkphmemeapdfaa.Dd
