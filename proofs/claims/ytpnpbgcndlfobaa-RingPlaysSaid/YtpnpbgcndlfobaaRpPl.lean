/- RingPlays: what its walk carries along: the ring, the document's memory, the rows of operations of both. -/
import Derived.Test.YtpnpbgcndlfobaaRpLm
namespace Go.Proofs.Ytpnpbgcndlfobaa.Rp
open Go.RowKit

/-- A thread: its operation's block, where it stands; its kind, its v, what it was answered, where that lies. -/
structure Thr where
  ob : Nat
  s : OS
  kind : Nat
  v : Int
  log : List Int
  cap : Nat
  g : Option Nat
def Thr.a (h : Thr) : Option Addr := h.g.map fun g => ⟨g, 0, none⟩
def ptrOf : Option Thr → Value
  | some h => .pointer (some ⟨h.ob, 0, none⟩)
  | none => .pointer none
def refC : Option Thr → Nat → Value
  | some h, 0 => .int .i64 (h.kind : Int)
  | some h, 1 => .int .u64 h.v
  | some h, _ => .slice h.a h.log.length h.cap
  | none, 0 => .int .i64 0
  | none, 1 => .int .u64 0
  | none, _ => .slice none 0 0

structure ThOk (w : World) (rg N0 n c : Nat) (h : Thr) : Prop where
  op : OpIn w h.ob rg h.s
  ok : h.s.le n
  lg : LogIn w h.a h.log
  lz : h.log = [] → h.a = none ∧ h.cap = 0
  run : runL c (begin h.kind h.v) h.log = h.s
  fits : Fits c (begin h.kind h.v) h.log
  kd : 1 ≤ h.kind ∧ h.kind ≤ 5
  len : h.log.length ≤ n
  hob : N0 ≤ h.ob
  hg : ∀ q, h.g = some q → N0 ≤ q ∧ q < w.heap.size
/-- The threads. -/
structure Ts (w : World) (rg N0 n c : Nat) (th : Nat → Option Thr) : Prop where
  thr : ∀ p h, p < 6 → th p = some h → ThOk w rg N0 n c h
  dis : ∀ p q h h', p < 6 → q < 6 → th p = some h → th q = some h' → (p ≠ q → h.ob ≠ h'.ob) ∧ ∀ k, h.g = some k → k ≠ h'.ob

section
variable {w w' : World} {rg N0 n c : Nat} {h : Thr} {th : Nat → Option Thr}
theorem ThOk.keep {S : Nat → Prop} (k : ThOk w rg N0 n c h) (o : Only S w w') (h1 : ¬ S h.ob) (h2 : ∀ q, h.g = some q → ¬ S q) : ThOk w' rg N0 n c h :=
  { k with
    op := k.op.keep o h1
    lg := k.lg.keep o (fun q b e s => by
      unfold Thr.a at e
      cases hg : h.g with
      | none => rw [hg] at e; cases e
      | some g => rw [hg] at e; cases e; intro h; simp only at h; subst h; exact h2 _ hg s)
    hg := fun q e => ⟨(k.hg q e).1, Nat.lt_of_lt_of_le (k.hg q e).2 o.size⟩ }
theorem ThOk.mono (k : ThOk w rg N0 n c h) {m : Nat} (hm : n ≤ m) : ThOk w rg N0 m c h := { k with len := Nat.le_trans k.len hm, ok := k.ok.mono hm }
theorem Ts.low {S : Nat → Prop} (t : Ts w rg N0 n c th) (o : Only S w w') (hS : ∀ k, S k → k < N0) : Ts w' rg N0 n c th :=
  ⟨fun p h hp e => (t.thr p h hp e).keep o (fun z => by have := hS _ z; have := (t.thr p h hp e).hob; omega) (fun q hq z => by have := hS _ z; have := ((t.thr p h hp e).hg q hq).1; omega), t.dis⟩
theorem Ts.nil (t : Ts w rg N0 n c th) (o : Only Nil w w') : Ts w' rg N0 n c th := t.low o (fun _ z => z.elim)
theorem Ts.mono (t : Ts w rg N0 n c th) {m : Nat} (hm : n ≤ m) : Ts w rg N0 m c th := ⟨fun p h hp e => (t.thr p h hp e).mono hm, t.dis⟩
/-- A thread's operation is begun. -/
theorem Ts.start (t : Ts w rg N0 n c th) {p kind : Nat} {v : Int} (hk : 1 ≤ kind ∧ kind ≤ 5) (hv : In64 v) (q : OpIn w' w.heap.size rg (begin kind v)) (o : Only Nil w w') (hN : N0 ≤ w.heap.size) :
    Ts w' rg N0 n c (upd th p (some ⟨w.heap.size, begin kind v, kind, v, [], 0, none⟩)) := by
  have t' := t.nil o
  have hnew : ThOk w' rg N0 n c ⟨w.heap.size, begin kind v, kind, v, [], 0, none⟩ :=
    ⟨q, begin_le hk hv, fun i hi => by simp at hi, fun _ => ⟨rfl, rfl⟩, rfl, fits_nil _ _, hk, Nat.zero_le _, hN, fun q e => by cases e⟩
  refine ⟨fun r h hr e => ?_, fun r r' h h' hr hr' e e' => ?_⟩
  · by_cases g : r = p
    · subst g; rw [upd_same] at e; cases e; exact hnew
    · rw [upd_other _ _ _ _ g] at e; exact t'.thr r h hr e
  · by_cases g : r = p
    · subst g; rw [upd_same] at e; cases e
      by_cases g' : r' = r
      · exact ⟨fun z => absurd g'.symm z, fun k z => by cases z⟩
      · rw [upd_other _ _ _ _ g'] at e'
        exact ⟨fun _ z => by have := (t.thr r' h' hr' e').op.lt; simp only at z; omega, fun k z => by cases z⟩
    · rw [upd_other _ _ _ _ g] at e
      by_cases g' : r' = p
      · subst g'; rw [upd_same] at e'; cases e'
        exact ⟨fun _ z => by have := (t.thr r h hr e).op.lt; simp only at z; omega, fun k z y => by have := ((t.thr r h hr e).hg k z).2; simp only at y; omega⟩
      · rw [upd_other _ _ _ _ g'] at e'; exact t.dis r r' h h' hr hr' e e'
/-- A thread's operation has stepped, on both sides. -/
theorem Ts.step (t : Ts w rg N0 n c th) {w2 : World} {p hb rb hw rw cap : Nat} {s : OS} {log : List Int} {g : Option Nat} (hp : p < 6) (e : th p = some h) (q : OpIn w' h.ob rg s) (o : Only (OB hb rb h.ob) w w') (hlo : hb < N0 ∧ rb < N0 ∧ hw < N0 ∧ rw < N0)
    (hok : s.le (n + 1)) (o2 : Only (Blk hw rw) w' w2) (lg : LogIn w2 (g.map fun g => ⟨g, 0, none⟩) log) (lz : log = [] → g.map (fun g => (⟨g, 0, none⟩ : Addr)) = none ∧ cap = 0) (hgn : g = h.g ∨ ∃ q, g = some q ∧ w'.heap.size ≤ q) (hg2 : ∀ q, g = some q → q < w2.heap.size)
    (run : runL c (begin h.kind h.v) log = s) (fits : Fits c (begin h.kind h.v) log) (len : log.length ≤ n + 1) (hN : N0 ≤ w.heap.size) :
    Ts w2 rg N0 (n + 1) c (upd th p (some ⟨h.ob, s, h.kind, h.v, log, cap, g⟩)) := by
  have hh := t.thr p h hp e
  have hob := hh.hob
  have nS2 : ∀ k, N0 ≤ k → ¬ Blk hw rw k := fun k hk z => by rcases z with z | z <;> omega
  have hnew : ThOk w2 rg N0 (n + 1) c ⟨h.ob, s, h.kind, h.v, log, cap, g⟩ := by
    refine ⟨q.keep o2 (nS2 _ hob), hok, lg, lz, run, fits, hh.kd, len, hob, fun k z => ⟨?_, hg2 k z⟩⟩
    simp only at z
    rcases hgn with z2 | ⟨q', z2, z3⟩
    · exact (hh.hg k (z2 ▸ z)).1
    · rw [z2] at z; cases z; have := o.size; omega
  have other : ∀ r h', r < 6 → r ≠ p → th r = some h' → ThOk w2 rg N0 (n + 1) c h' := by
    intro r h' hr hne e'
    have k := t.thr r h' hr e'
    have k2 := k.keep o (fun z => by
      rcases z with (z | z) | z
      · have := k.hob; omega
      · have := k.hob; omega
      · exact (t.dis r p h' h hr hp e' e).1 hne z) (fun q' hq z => by
      rcases z with (z | z) | z
      · have := (k.hg q' hq).1; omega
      · have := (k.hg q' hq).1; omega
      · exact (t.dis r p h' h hr hp e' e).2 q' hq z)
    exact (k2.keep o2 (nS2 _ k.hob) (fun q' hq => nS2 _ (k.hg q' hq).1)).mono (by omega)
  refine ⟨fun r h' hr e' => ?_, fun r r' h1 h2 hr hr' e1 e2 => ?_⟩
  · by_cases z : r = p
    · subst z; rw [upd_same] at e'; cases e'; exact hnew
    · rw [upd_other _ _ _ _ z] at e'; exact other r h' hr z e'
  · by_cases z : r = p
    · subst z; rw [upd_same] at e1; cases e1
      have gg : ∀ k y, g = some k → y < w'.heap.size → (h.g = some k → k ≠ y) → k ≠ y := fun k y z1 z2 z3 => by
        rcases hgn with z4 | ⟨q', z4, z5⟩
        · exact z3 (z4 ▸ z1)
        · rw [z4] at z1; cases z1; omega
      by_cases z' : r' = r
      · subst z'; rw [upd_same] at e2; cases e2
        exact ⟨fun y => absurd rfl y, fun k y => gg k _ y (Nat.lt_of_lt_of_le hh.op.lt o.size) (fun y2 => (t.dis r' r' h h hr hr e e).2 k y2)⟩
      · rw [upd_other _ _ _ _ z'] at e2
        exact ⟨fun _ => (t.dis r r' h h2 hr hr' e e2).1 (fun y => z' y.symm), fun k y => gg k _ y (Nat.lt_of_lt_of_le (t.thr r' h2 hr' e2).op.lt o.size) (fun y2 => (t.dis r r' h h2 hr hr' e e2).2 k y2)⟩
    · rw [upd_other _ _ _ _ z] at e1
      by_cases z' : r' = p
      · subst z'; rw [upd_same] at e2; cases e2
        exact ⟨fun y => (t.dis r r' h1 h hr hr' e1 e).1 y, fun k y => (t.dis r r' h1 h hr hr' e1 e).2 k y⟩
      · rw [upd_other _ _ _ _ z'] at e2; exact t.dis r r' h1 h2 hr hr' e1 e2
end

/-- The cells of the row of the document's operations. -/
def refRow (rf : Nat → Nat → Value) (k : Nat) : Value := rf (k / 3) (k % 3)
/-- Both memories; the rows; where all lies. -/
structure Pb (w1 w : World) (rg hb rb hw rw pb fb ab N0 b c : Nat) (L L2 : List Int) (t t' : Int) (po : Nat → Value) (rf : Nat → Nat → Value) : Prop where
  rng : Rng w rg hb rb b c L t
  ref : RefAt w hw rw L2 t'
  ops : w.heap[pb]? = some (.cells (rowC 6 po) 40 (0, 0))
  refs : w.heap[fb]? = some (.cells (rowC (6 * 3) (refRow rf)) 44 (0, 0))
  at_ : w.heap[ab]? = some (.cells #[.int .i64 (b : Int), .int .i64 (c : Int)] 31 (0, 0))
  only : Only Nil w1 w
  n0 : N0 ≤ w.heap.size
  ord : w1.heap.size ≤ rb ∧ rb < hb ∧ hb < rg ∧ rg < ab ∧ ab < rw ∧ rw < hw ∧ hw < pb ∧ pb < fb ∧ fb < N0
section
variable {w1 w w' : World} {rg hb rb hw rw pb fb ab N0 b c : Nat} {L L2 : List Int} {t t' : Int} {po : Nat → Value} {rf : Nat → Nat → Value}
theorem Pb.nil (h : Pb w1 w rg hb rb hw rw pb fb ab N0 b c L L2 t t' po rf) (o : Only Nil w w') : Pb w1 w' rg hb rb hw rw pb fb ab N0 b c L L2 t t' po rf :=
  ⟨h.rng.nil o, h.ref.keep o (fun z => z) (fun z => z), (o.block pb (lt_of_block h.ops) (fun z => z)).trans h.ops, (o.block fb (lt_of_block h.refs) (fun z => z)).trans h.refs, (o.block ab (lt_of_block h.at_) (fun z => z)).trans h.at_, h.only.trans o, Nat.le_trans h.n0 o.size, h.ord⟩
/-- The developers' step. -/
theorem Pb.dev (h : Pb w1 w rg hb rb hw rw pb fb ab N0 b c L L2 t t' po rf) {ob : Nat} {L' : List Int} {u : Int} (hob : N0 ≤ ob) (R : Rng w' rg hb rb b c L' u) (o : Only (OB hb rb ob) w w') : Pb w1 w' rg hb rb hw rw pb fb ab N0 b c L' L2 u t' po rf := by
  obtain ⟨a0, a1, a2, a3, a4, a5, a6, a7, a8⟩ := h.ord
  have n : ∀ k, k < N0 → k ≠ hb → k ≠ rb → ¬ OB hb rb ob k := fun k h1 h2 h3 z => by rcases z with (z | z) | z <;> omega
  refine ⟨R, h.ref.keep o (n _ (by omega) (by omega) (by omega)) (n _ (by omega) (by omega) (by omega)), (o.block pb (lt_of_block h.ops) (n _ (by omega) (by omega) (by omega))).trans h.ops, (o.block fb (lt_of_block h.refs) (n _ (by omega) (by omega) (by omega))).trans h.refs, (o.block ab (lt_of_block h.at_) (n _ (by omega) (by omega) (by omega))).trans h.at_, h.only.then o (fun k z _ => ?_), Nat.le_trans h.n0 o.size, h.ord⟩
  have := h.only.size
  have := h.rng.ring.lt
  rcases z with (z | z) | z
  · omega
  · omega
  · omega
/-- The document's step. -/
theorem Pb.doc (h : Pb w1 w rg hb rb hw rw pb fb ab N0 b c L L2 t t' po rf) {L' : List Int} {u : Int} (R : RefAt w' hw rw L' u) (o : Only (Blk hw rw) w w') : Pb w1 w' rg hb rb hw rw pb fb ab N0 b c L L' t u po rf := by
  obtain ⟨a0, a1, a2, a3, a4, a5, a6, a7, a8⟩ := h.ord
  have n : ∀ k, k ≠ hw → k ≠ rw → ¬ Blk hw rw k := fun k h2 h3 z => by rcases z with z | z <;> omega
  refine ⟨h.rng.keep o (n _ (by omega) (by omega)) (n _ (by omega) (by omega)) (n _ (by omega) (by omega)), R, (o.block pb (lt_of_block h.ops) (n _ (by omega) (by omega))).trans h.ops, (o.block fb (lt_of_block h.refs) (n _ (by omega) (by omega))).trans h.refs, (o.block ab (lt_of_block h.at_) (n _ (by omega) (by omega))).trans h.at_, h.only.then o (fun k z _ => ?_), Nat.le_trans h.n0 o.size, h.ord⟩
  rcases z with z | z <;> omega
theorem Pb.row (h : Pb w1 w rg hb rb hw rw pb fb ab N0 b c L L2 t t' po rf) {q : Nat} (hq : q = pb ∨ q = fb) (o : Only (fun k => k = q) w w') : Rng w' rg hb rb b c L t ∧ RefAt w' hw rw L2 t' ∧ w'.heap[ab]? = some (.cells #[.int .i64 (b : Int), .int .i64 (c : Int)] 31 (0, 0)) ∧ Only Nil w1 w' ∧ N0 ≤ w'.heap.size := by
  obtain ⟨a0, a1, a2, a3, a4, a5, a6, a7, a8⟩ := h.ord
  refine ⟨h.rng.keep o (by omega) (by omega) (by omega), h.ref.keep o (by omega) (by omega), (o.block ab (lt_of_block h.at_) (by omega)).trans h.at_, h.only.then o (fun k z _ => by omega), Nat.le_trans h.n0 o.size⟩
theorem Pb.setOps (h : Pb w1 w rg hb rb hw rw pb fb ab N0 b c L L2 t t' po rf) (p : Nat) (x : Value) : Pb w1 (w.setCell ⟨pb, p, none⟩ x) rg hb rb hw rw pb fb ab N0 b c L L2 t t' (upd po p x) rf := by
  have o : Only (fun k => k = pb) w (w.setCell ⟨pb, p, none⟩ x) := (Only.refl (fun k => k = pb) w).setCell (p := ⟨pb, p, none⟩) rfl x
  obtain ⟨b1, b2, b3, b4, b5⟩ := h.row (.inl rfl) o
  have hne : fb ≠ pb := by have := h.ord; omega
  exact ⟨b1, b2, row_set h.ops p x, (o.block fb (lt_of_block h.refs) hne).trans h.refs, b3, b4, b5, h.ord⟩
theorem Pb.setRef (h : Pb w1 w rg hb rb hw rw pb fb ab N0 b c L L2 t t' po rf) (p : Nat) (x0 x1 x2 : Value) :
    Pb w1 (((w.setCell ⟨fb, p * 3, none⟩ x0).setCell ⟨fb, p * 3 + 1, none⟩ x1).setCell ⟨fb, p * 3 + 2, none⟩ x2) rg hb rb hw rw pb fb ab N0 b c L L2 t t' po (upd rf p (fun j => if j = 0 then x0 else if j = 1 then x1 else x2)) := by
  have o : Only (fun k => k = fb) w (((w.setCell ⟨fb, p * 3, none⟩ x0).setCell ⟨fb, p * 3 + 1, none⟩ x1).setCell ⟨fb, p * 3 + 2, none⟩ x2) := (((Only.refl (fun k => k = fb) w).setCell (p := ⟨fb, p * 3, none⟩) rfl x0).setCell (p := ⟨fb, p * 3 + 1, none⟩) rfl x1).setCell (p := ⟨fb, p * 3 + 2, none⟩) rfl x2
  obtain ⟨b1, b2, b3, b4, b5⟩ := h.row (.inr rfl) o
  have hne : pb ≠ fb := by have := h.ord; omega
  refine ⟨b1, b2, (o.block pb (lt_of_block h.ops) hne).trans h.ops, ?_, b3, b4, b5, h.ord⟩
  rw [row_set (row_set (row_set h.refs (p * 3) x0) (p * 3 + 1) x1) (p * 3 + 2) x2]
  congr 2
  apply rowC_congr
  intro k _
  unfold refRow
  by_cases e : k / 3 = p
  · subst e
    rw [upd_same]
    have hm := Nat.div_add_mod k 3
    have hl := Nat.mod_lt k (show 0 < 3 by decide)
    rcases (show k % 3 = 0 ∨ k % 3 = 1 ∨ k % 3 = 2 by omega) with e | e | e
    · rw [e, if_pos rfl, upd_other _ _ _ _ (by omega), upd_other _ _ _ _ (by omega)]
      conv => lhs; rw [show k = k / 3 * 3 by omega]
      rw [show k / 3 * 3 / 3 = k / 3 by omega, upd_same]
    · rw [e, if_neg (by decide), if_pos rfl, upd_other _ _ _ _ (by omega)]
      conv => lhs; rw [show k = k / 3 * 3 + 1 by omega]
      rw [show (k / 3 * 3 + 1) / 3 = k / 3 by omega, upd_same]
    · rw [e, if_neg (by decide), if_neg (by decide)]
      conv => lhs; rw [show k = k / 3 * 3 + 2 by omega]
      rw [show (k / 3 * 3 + 2) / 3 = k / 3 by omega, upd_same]
  · rw [upd_other _ _ _ _ e, upd_other _ _ _ _ (by omega), upd_other _ _ _ _ (by omega), upd_other _ _ _ _ (by omega)]
theorem Pb.opc (h : Pb w1 w rg hb rb hw rw pb fb ab N0 b c L L2 t t' po rf) (p : Nat) (hp : p < 6) : w.cell? ⟨pb, p, none⟩ = some (po p) ∧ w.frozen? ⟨pb, p, none⟩ = false := ⟨row_cell h.ops p hp, row_frozen h.ops p⟩
theorem Pb.rfc (h : Pb w1 w rg hb rb hw rw pb fb ab N0 b c L L2 t t' po rf) (p : Nat) (hp : p < 6) :
    (w.cell? ⟨fb, p * 3, none⟩ = some (rf p 0) ∧ w.cell? ⟨fb, p * 3 + 1, none⟩ = some (rf p 1) ∧ w.cell? ⟨fb, p * 3 + 2, none⟩ = some (rf p 2)) ∧ w.frozen? ⟨fb, p * 3, none⟩ = false ∧ w.frozen? ⟨fb, p * 3 + 1, none⟩ = false ∧ w.frozen? ⟨fb, p * 3 + 2, none⟩ = false := by
  have e0 := row_cell h.refs (p * 3) (by omega)
  have e1 := row_cell h.refs (p * 3 + 1) (by omega)
  have e2 := row_cell h.refs (p * 3 + 2) (by omega)
  unfold refRow at e0 e1 e2
  rw [show p * 3 / 3 = p by omega, show p * 3 % 3 = 0 by omega] at e0
  rw [show (p * 3 + 1) / 3 = p by omega, show (p * 3 + 1) % 3 = 1 by omega] at e1
  rw [show (p * 3 + 2) / 3 = p by omega, show (p * 3 + 2) % 3 = 2 by omega] at e2
  exact ⟨⟨e0, e1, e2⟩, row_frozen h.refs _, row_frozen h.refs _, row_frozen h.refs _⟩
theorem Pb.atc (h : Pb w1 w rg hb rb hw rw pb fb ab N0 b c L L2 t t' po rf) : w.cell? ⟨ab, 0, none⟩ = some (.int .i64 (b : Int)) ∧ w.cell? ⟨ab, 1, none⟩ = some (.int .i64 (c : Int)) := by simp [World.cell?, h.at_]
end
end Go.Proofs.Ytpnpbgcndlfobaa.Rp
