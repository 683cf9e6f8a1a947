/- A gang at a deque: what its walk carries along. -/
import Derived.Test.YtokopocldicnmaaDqG
import Derived.Test.YtokopocldicnmaaRowC
import Derived.Test.YtokopocldicnmaaRowBo
import Derived.Deep.AppendLies
namespace Go.Proofs.Ytokopocldicnmaa.Dq
open Go.RowKit

section
variable {w0 w w' : World} {ob rg hb rb b c n : Nat} {L L' : List Int} {t : Int} {s s' : OS}
theorem Lw.ne (h : Lw w0 w rg hb rb b c L t) {g : Nat} {y : Array Value} {u : TypeId} {m : Nat × Nat} (hg : w.heap[g]? = some (.cells y u m)) (h1 : 123 ≠ u) (h2 : 95 ≠ u) (h3 : 28 ≠ u) : rg ≠ g ∧ hb ≠ g ∧ rb ≠ g :=
  ⟨blk_ne h.rng.ring.head hg h1, blk_ne h.rng.mem.head hg h2, blk_ne h.rng.mem.row hg h3⟩
theorem Op1.ne (h : Op1 w0 w ob rg hb rb s) {g : Nat} {y : Array Value} {u : TypeId} {m : Nat × Nat} (hg : w.heap[g]? = some (.cells y u m)) (h1 : 93 ≠ u) : ob ≠ g := by
  obtain ⟨_, _, _, _, hc, _⟩ := h.op
  exact blk_ne hc.head hg h1
end

/-- Numbers of 64 bits, as values. -/
def uv (X : List Int) : List Value := X.map (Value.int .u64)
/-- The pointer to an operation that there is, or none. -/
def opv : Option (Nat × OS) → Value
  | some (ob, _) => .pointer (some ⟨ob, 0, none⟩)
  | none => .pointer none

/-- The gate, four who put and take, three rows: what is in, what each has taken. -/
structure Core (w1 w : World) (rg B base c : Nat) (L : List Int) (t : Int) (po : Nat → Option (Nat × OS)) (iv : Nat → Value) (ins : Nat → List Int) : Prop where
  lw : Lw w1 w rg (B + 1) B 0 c L t
  op : ∀ p ob s, p < 3 → po p = some (ob, s) → Op1 w1 w ob rg (B + 1) B s
  opd : ∀ p q ob ob' s s', p < 3 → q < 3 → p ≠ q → po p = some (ob, s) → po q = some (ob', s') → ob ≠ ob'
  own : ∀ p, p < 3 → w.ownsRow base 28 1 (iv p) (ins p).length (uv (ins p))
  dis : ∀ p q k, p < 3 → q < 3 → p ≠ q → (iv p).ownBlock = some k → (iv q).ownBlock ≠ some k
  hB : B < base
  hb : base ≤ w.heap.size
  h1 : w1.heap.size ≤ base

/-- A block that is none of all these. -/
def Apart (w1 : World) (rg B : Nat) (po : Nat → Option (Nat × OS)) (iv : Nat → Value) (k : Nat) : Prop :=
  w1.heap.size ≤ k ∧ k ≠ rg ∧ k ≠ B ∧ k ≠ B + 1 ∧ (∀ p ob s, p < 3 → po p = some (ob, s) → k ≠ ob) ∧ (∀ p, p < 3 → (iv p).ownBlock ≠ some k)

section
variable {w1 w w' : World} {rg B base c : Nat} {L L' : List Int} {t t' : Int} {po : Nat → Option (Nat × OS)} {iv : Nat → Value} {ins : Nat → List Int}

theorem Core.keep {S : Nat → Prop} (h : Core w1 w rg B base c L t po iv ins) (o : Only S w w') (hS : ∀ k, S k → Apart w1 rg B po iv k) : Core w1 w' rg B base c L t po iv ins where
  lw := h.lw.keep o (fun s => (hS _ s).2.1 rfl) (fun s => (hS _ s).2.2.2.1 rfl) (fun s => (hS _ s).2.2.1 rfl) (fun k s => (hS k s).1)
  op := fun p ob s hp e => (h.op p ob s hp e).keep o (fun z => (hS _ z).2.2.2.2.1 p ob s hp e rfl)
  opd := h.opd
  own := fun p hp => own_keep (h.own p hp) o (fun k e z => (hS k z).2.2.2.2.2 p hp e.symm)
  dis := h.dis
  hB := h.hB
  hb := Nat.le_trans h.hb o.size
  h1 := h.h1
theorem Core.nil (h : Core w1 w rg B base c L t po iv ins) (o : Only Nil w w') : Core w1 w' rg B base c L t po iv ins := h.keep o (fun _ z => z.elim)

/-- A block of another type is apart. -/
theorem Core.apart (h : Core w1 w rg B base c L t po iv ins) {g : Nat} {y : Array Value} {u : TypeId} {m : Nat × Nat} (hg : w.heap[g]? = some (.cells y u m)) (hw : w1.heap.size ≤ g)
    (h1 : 123 ≠ u) (h2 : 95 ≠ u) (h3 : 28 ≠ u) (h4 : 93 ≠ u) : Apart w1 rg B po iv g := by
  obtain ⟨a1, a2, a3⟩ := h.lw.ne hg h1 h2 h3
  exact ⟨hw, fun e => a1 e.symm, fun e => a3 e.symm, fun e => a2 e.symm, fun p ob s hp e hk => (h.op p ob s hp e).ne hg h4 hk.symm,
    fun p hp e => own_ne (h.own p hp) hg h3 e.symm⟩
/-- A step. -/
theorem Core.step (h : Core w1 w rg B base c L t po iv ins) {p ob : Nat} {s s' : OS} (hp : p < 3) (e : po p = some (ob, s))
    (l4 : Lw w1 w' rg (B + 1) B 0 c L' t') (q4 : Op1 w1 w' ob rg (B + 1) B s') (o4 : Only (OB (B + 1) B ob) w w') : Core w1 w' rg B base c L' t' (upd po p (some (ob, s'))) iv ins := by
  have hob := h.op p ob s hp e
  have nb : ∀ k, OB (B + 1) B ob k → (∀ q, q < 3 → (iv q).ownBlock ≠ some k) := by
    intro k hk
    have key : ∀ (v : Value) (n : Nat) (xs : List Value), w.ownsRow base 28 1 v n xs → v.ownBlock ≠ some k := by
      intro v n xs ho e9
      rcases hk with (hk | hk) | hk
      · subst hk; exact own_ne ho h.lw.rng.mem.head (by decide) e9.symm
      · subst hk; have := (ho.lt _ e9).1; have := h.hB; omega
      · subst hk
        obtain ⟨_, _, _, _, hc, _⟩ := hob.op
        exact own_ne ho hc.head (by decide) e9.symm
    exact fun q hq => key _ _ _ (h.own q hq)
  refine ⟨l4, ?_, ?_, fun q hq => own_keep (h.own q hq) o4 (fun k e z => (nb k z) q hq e.symm), h.dis, h.hB, Nat.le_trans h.hb o4.size, h.h1⟩
  · intro q ob2 s2 hq e2
    by_cases g : q = p
    · subst g; rw [upd_same] at e2; simp at e2; obtain ⟨rfl, rfl⟩ := e2; exact q4
    · rw [upd_other _ _ _ _ g] at e2
      exact (h.op q ob2 s2 hq e2).other o4 (h.opd q p ob2 ob s2 s hq hp g e2 e)
  · intro a b ob1 ob2 s1 s2 ha hb hne e1 e2
    by_cases ga : a = p
    · subst ga; rw [upd_same] at e1; simp at e1; rw [upd_other _ _ _ _ (fun z => hne z.symm)] at e2
      rw [← e1.1]; exact h.opd a b ob ob2 s s2 ha hb hne e e2
    · rw [upd_other _ _ _ _ ga] at e1
      by_cases gb : b = p
      · subst gb; rw [upd_same] at e2; simp at e2; rw [← e2.1]; exact h.opd a b ob1 ob s1 s ha hb hne e1 e
      · rw [upd_other _ _ _ _ gb] at e2; exact h.opd a b ob1 ob2 s1 s2 ha hb hne e1 e2
/-- One that is begun. -/
theorem Core.begin (h : Core w1 w rg B base c L t po iv ins) {p : Nat} {s : OS} (q3 : Op1 w1 w' w.heap.size rg (B + 1) B s) (o3 : Only Nil w w') : Core w1 w' rg B base c L t (upd po p (some (w.heap.size, s))) iv ins := by
  have k := h.nil o3
  refine ⟨k.lw, ?_, ?_, k.own, k.dis, k.hB, k.hb, k.h1⟩
  · intro q ob s2 hq e2
    by_cases g : q = p
    · subst g; rw [upd_same] at e2; simp at e2; obtain ⟨rfl, rfl⟩ := e2; exact q3
    · rw [upd_other _ _ _ _ g] at e2; exact k.op q ob s2 hq e2
  · intro a b ob1 ob2 s1 s2 ha hb hne e1 e2
    by_cases ga : a = p
    · subst ga; rw [upd_same] at e1; simp at e1; rw [upd_other _ _ _ _ (fun z => hne z.symm)] at e2
      have := (h.op b ob2 s2 hb e2).op.lt; omega
    · rw [upd_other _ _ _ _ ga] at e1
      by_cases gb : b = p
      · subst gb; rw [upd_same] at e2; simp at e2; have := (h.op a ob1 s1 ha e1).op.lt; omega
      · rw [upd_other _ _ _ _ gb] at e2; exact h.opd a b ob1 ob2 s1 s2 ha hb hne e1 e2
/-- One that is over is let go. -/
theorem Core.drop (h : Core w1 w rg B base c L t po iv ins) (p : Nat) : Core w1 w rg B base c L t (upd po p none) iv ins := by
  have sub : ∀ q ob s, upd po p none q = some (ob, s) → po q = some (ob, s) := fun q ob s e => by
    by_cases g : q = p
    · subst g; rw [upd_same] at e; simp at e
    · rwa [upd_other _ _ _ _ g] at e
  exact { h with op := fun q ob s hq e => h.op q ob s hq (sub q ob s e), opd := fun a b ob1 ob2 s1 s2 ha hb hne e1 e2 => h.opd a b ob1 ob2 s1 s2 ha hb hne (sub _ _ _ e1) (sub _ _ _ e2) }

/-- One more is in row p. -/
theorem Core.grow (h : Core w1 w rg B base c L t po iv ins) {p : Nat} (hp : p < 3) {g cap : Nat} {x : Int}
    (own : w'.ownsRow base 28 1 (.slice (some ⟨g, 0, none⟩) ((ins p).length + 1) cap) ((ins p).length + 1) (uv (ins p) ++ [.int .u64 x])) (gr : w.grownBy w' (iv p).ownBlock) (hat : (iv p).ownBlock = some g ∨ g = w.heap.size) :
    Core w1 w' rg B base c L t po (upd iv p (.slice (some ⟨g, 0, none⟩) ((ins p).length + 1) cap)) (upd ins p (ins p ++ [x])) := by
  have o := Only.ofGrown gr
  have ho := h.own p hp
  have lo : ∀ q k, q < 3 → (iv q).ownBlock = some k → base ≤ k ∧ k < w.heap.size := fun q k hq e => (h.own q hq).lt k e
  have nl : ∀ {u : TypeId} {k : Nat} {y : Array Value} {m : Nat × Nat}, w.heap[k]? = some (.cells y u m) → 28 ≠ u → ¬ some k = (iv p).ownBlock := fun hk hu => own_ne ho hk hu
  have opn : ∀ {ob : Nat} {s : OS}, Op1 w1 w ob rg (B + 1) B s → ¬ (some ob = (iv p).ownBlock) := fun {ob s} q => by
    obtain ⟨_, _, _, _, hc, _⟩ := q.op
    exact nl hc.head (by decide)
  refine ⟨h.lw.keep o (nl h.lw.rng.ring.head (by decide)) (nl h.lw.rng.mem.head (by decide)) (fun e => by have := (lo p _ hp e.symm).1; have := h.hB; omega) (fun k e => by have := (lo p k hp e.symm).1; have := h.h1; omega),
    fun q ob s hq e => (h.op q ob s hq e).keep o (opn (h.op q ob s hq e)), h.opd, ?_, ?_, h.hB, Nat.le_trans h.hb o.size, h.h1⟩
  · intro q hq
    by_cases e : q = p
    · subst e; rw [upd_same, upd_same]; simpa [uv] using own
    · rw [upd_other _ _ _ _ e, upd_other _ _ _ _ e]
      exact own_keep (h.own q hq) o (fun k e2 z => h.dis q p k hq hp e e2.symm z.symm)
  · intro a b k ha hb hne e1 e2
    by_cases ga : a = p
    · subst ga; rw [upd_same] at e1; rw [upd_other _ _ _ _ (fun z => hne z.symm)] at e2
      have eg : g = k := by simpa [Value.ownBlock] using e1
      rcases hat with z | z
      · exact h.dis a b k ha hb hne (by rw [z, eg]) e2
      · have := (lo b k hb e2).2; omega
    · rw [upd_other _ _ _ _ ga] at e1
      by_cases gb : b = p
      · subst gb; rw [upd_same] at e2
        have eg : g = k := by simpa [Value.ownBlock] using e2
        rcases hat with z | z
        · exact h.dis a b k ha hb hne e1 (by rw [z, eg])
        · have := (lo a k ha e1).2; omega
      · rw [upd_other _ _ _ _ gb] at e2; exact h.dis a b k ha hb hne e1 e2
end
end Go.Proofs.Ytokopocldicnmaa.Dq
