/- A crowd at a ring: what its walk carries along. -/
import Derived.Test.YtpnpbgcndlfobaaRowB
import Derived.Deep.AppendLies
namespace Go.Proofs.Ytpnpbgcndlfobaa
open Go.RowKit

/-- Numbers of 64 bits, as values. -/
def uv (X : List Int) : List Value := X.map (Value.int .u64)
/-- The pointer to an operation that there is, or none. -/
def opv : Option (Nat × OS) → Value
  | some (ob, _) => .pointer (some ⟨ob, 0, none⟩)
  | none => .pointer none

/-- The ring, three who put, one who takes, what is in and what was taken. -/
structure Core (w1 w : World) (rg B base c : Nat) (L : List Int) (t : Int) (po : Nat → Option (Nat × OS)) (tto : Option (Nat × OS)) (iv : Nat → Value) (ta : Value) (ins : Nat → List Int) (taken : List Int) : Prop where
  lw : Lw w1 w rg (B + 1) B 0 c L t
  op : ∀ p ob s, p < 3 → po p = some (ob, s) → Op1 w1 w ob rg (B + 1) B s
  opd : ∀ p q ob ob' s s', p < 3 → q < 3 → p ≠ q → po p = some (ob, s) → po q = some (ob', s') → ob ≠ ob'
  tk : ∀ ob s, tto = some (ob, s) → Op1 w1 w ob rg (B + 1) B s
  tkd : ∀ p ob ob' s s', p < 3 → po p = some (ob, s) → tto = some (ob', s') → ob ≠ ob'
  own : ∀ p, p < 3 → w.ownsRow base 37 1 (iv p) (ins p).length (uv (ins p))
  ownT : w.ownsRow base 37 1 ta taken.length (uv taken)
  dis : ∀ p q k, p < 3 → q < 3 → p ≠ q → (iv p).ownBlock = some k → (iv q).ownBlock ≠ some k
  disT : ∀ p k, p < 3 → (iv p).ownBlock = some k → ta.ownBlock ≠ some k
  hB : B < base
  hb : base ≤ w.heap.size
  h1 : w1.heap.size ≤ base

/-- A block that is none of all these. -/
def Apart (w1 : World) (rg B : Nat) (po : Nat → Option (Nat × OS)) (tto : Option (Nat × OS)) (iv : Nat → Value) (ta : Value) (k : Nat) : Prop :=
  w1.heap.size ≤ k ∧ k ≠ rg ∧ k ≠ B ∧ k ≠ B + 1 ∧ (∀ p ob s, p < 3 → po p = some (ob, s) → k ≠ ob) ∧ (∀ ob s, tto = some (ob, s) → k ≠ ob) ∧ (∀ p, p < 3 → (iv p).ownBlock ≠ some k) ∧ ta.ownBlock ≠ some k

section
variable {w1 w w' : World} {rg B base c : Nat} {L L' : List Int} {t t' : Int} {po : Nat → Option (Nat × OS)} {tto : Option (Nat × OS)} {iv : Nat → Value} {ta : Value} {ins : Nat → List Int} {taken : List Int}

theorem Core.keep {S : Nat → Prop} (h : Core w1 w rg B base c L t po tto iv ta ins taken) (o : Only S w w') (hS : ∀ k, S k → Apart w1 rg B po tto iv ta k) : Core w1 w' rg B base c L t po tto iv ta ins taken where
  lw := h.lw.keep o (fun s => (hS _ s).2.1 rfl) (fun s => (hS _ s).2.2.2.1 rfl) (fun s => (hS _ s).2.2.1 rfl) (fun k s => (hS k s).1)
  op := fun p ob s hp e => (h.op p ob s hp e).keep o (fun z => (hS _ z).2.2.2.2.1 p ob s hp e rfl)
  opd := h.opd
  tk := fun ob s e => (h.tk ob s e).keep o (fun z => (hS _ z).2.2.2.2.2.1 ob s e rfl)
  tkd := h.tkd
  own := fun p hp => own_keep (h.own p hp) o (fun k e z => (hS k z).2.2.2.2.2.2.1 p hp e.symm)
  ownT := own_keep h.ownT o (fun k e z => (hS k z).2.2.2.2.2.2.2 e.symm)
  dis := h.dis
  disT := h.disT
  hB := h.hB
  hb := Nat.le_trans h.hb o.size
  h1 := h.h1
theorem Core.nil (h : Core w1 w rg B base c L t po tto iv ta ins taken) (o : Only Nil w w') : Core w1 w' rg B base c L t po tto iv ta ins taken := h.keep o (fun _ z => z.elim)

/-- A block of another type is apart. -/
theorem Core.apart (h : Core w1 w rg B base c L t po tto iv ta ins taken) {g : Nat} {y : Array Value} {u : TypeId} {m : Nat × Nat} (hg : w.heap[g]? = some (.cells y u m)) (hw : w1.heap.size ≤ g)
    (h1 : 85 ≠ u) (h2 : 79 ≠ u) (h3 : 37 ≠ u) (h4 : 89 ≠ u) : Apart w1 rg B po tto iv ta g := by
  obtain ⟨a1, a2, a3⟩ := h.lw.ne hg h1 h2 h3
  exact ⟨hw, fun e => a1 e.symm, fun e => a3 e.symm, fun e => a2 e.symm, fun p ob s hp e hk => (h.op p ob s hp e).ne hg h4 hk.symm, fun ob s e hk => (h.tk ob s e).ne hg h4 hk.symm,
    fun p hp e => own_ne (h.own p hp) hg h3 e.symm, fun e => own_ne h.ownT hg h3 e.symm⟩
/-- The row of counters is apart. -/
theorem Core.apartN (h : Core w1 w rg B base c L t po tto iv ta ins taken) {g : Nat} {y : Array Value} {m : Nat × Nat} (hg : w.heap[g]? = some (.cells y 37 m)) (hw : w1.heap.size ≤ g) (hb : g < base) (hB : g ≠ B) : Apart w1 rg B po tto iv ta g := by
  refine ⟨hw, fun e => ?_, hB, fun e => ?_, fun p ob s hp e hk => (h.op p ob s hp e).ne hg (by decide) hk.symm, fun ob s e hk => (h.tk ob s e).ne hg (by decide) hk.symm, fun p hp e => ?_, fun e => ?_⟩
  · exact blk_ne h.lw.rng.ring.head hg (by decide) e.symm
  · exact blk_ne h.lw.rng.mem.head hg (by decide) e.symm
  · have := ((h.own p hp).lt g e).1; omega
  · have := (h.ownT.lt g e).1; omega

/-- A Put's step. -/
theorem Core.step (h : Core w1 w rg B base c L t po tto iv ta ins taken) {p ob : Nat} {s s' : OS} (hp : p < 3) (e : po p = some (ob, s))
    (l4 : Lw w1 w' rg (B + 1) B 0 c L' t') (q4 : Op1 w1 w' ob rg (B + 1) B s') (o4 : Only (OB (B + 1) B ob) w w') : Core w1 w' rg B base c L' t' (upd po p (some (ob, s'))) tto iv ta ins taken := by
  have hob := h.op p ob s hp e
  have nb : ∀ k, OB (B + 1) B ob k → (∀ q, q < 3 → (iv q).ownBlock ≠ some k) ∧ ta.ownBlock ≠ some k := by
    intro k hk
    have key : ∀ (v : Value) (n : Nat) (xs : List Value), w.ownsRow base 37 1 v n xs → v.ownBlock ≠ some k := by
      intro v n xs ho e9
      rcases hk with (hk | hk) | hk
      · subst hk; exact own_ne ho h.lw.rng.mem.head (by decide) e9.symm
      · subst hk; have := (ho.lt _ e9).1; have := h.hB; omega
      · subst hk
        obtain ⟨_, _, _, hc, _⟩ := hob.op
        exact own_ne ho hc.head (by decide) e9.symm
    exact ⟨fun q hq => key _ _ _ (h.own q hq), key _ _ _ h.ownT⟩
  refine ⟨l4, ?_, ?_, ?_, ?_, fun q hq => own_keep (h.own q hq) o4 (fun k e z => (nb k z).1 q hq e.symm), own_keep h.ownT o4 (fun k e z => (nb k z).2 e.symm), h.dis, h.disT, h.hB, Nat.le_trans h.hb o4.size, h.h1⟩
  · intro q ob2 s2 hq e2
    by_cases g : q = p
    · subst g; rw [upd_same] at e2; simp at e2; obtain ⟨rfl, rfl⟩ := e2; exact q4
    · rw [upd_other _ _ _ _ g] at e2
      exact (h.op q ob2 s2 hq e2).other o4 (h.opd q p ob2 ob s2 s hq hp g e2 e)
  · intro a b ob1 ob2 s1 s2 ha hb hne e1 e2
    by_cases ga : a = p
    · subst ga; rw [upd_same] at e1; simp at e1; rw [upd_other _ _ _ _ (fun z => hne z.symm)] at e2
      rw [← e1.1]; exact h.opd a b ob ob2 s s2 ha hb hne e e2
    · rw [upd_other _ _ _ _ ga] at e1
      by_cases gb : b = p
      · subst gb; rw [upd_same] at e2; simp at e2; rw [← e2.1]; exact h.opd a b ob1 ob s1 s ha hb hne e1 e
      · rw [upd_other _ _ _ _ gb] at e2; exact h.opd a b ob1 ob2 s1 s2 ha hb hne e1 e2
  · intro ob2 s2 e2
    exact (h.tk ob2 s2 e2).other o4 (fun z => h.tkd p ob ob2 s s2 hp e e2 z.symm)
  · intro q ob1 ob2 s1 s2 hq e1 e2
    by_cases g : q = p
    · subst g; rw [upd_same] at e1; simp at e1; rw [← e1.1]; exact h.tkd q ob ob2 s s2 hq e e2
    · rw [upd_other _ _ _ _ g] at e1; exact h.tkd q ob1 ob2 s1 s2 hq e1 e2
/-- A Take's step. -/
theorem Core.stepT (h : Core w1 w rg B base c L t po tto iv ta ins taken) {ob : Nat} {s s' : OS} (e : tto = some (ob, s))
    (l4 : Lw w1 w' rg (B + 1) B 0 c L' t') (q4 : Op1 w1 w' ob rg (B + 1) B s') (o4 : Only (OB (B + 1) B ob) w w') : Core w1 w' rg B base c L' t' po (some (ob, s')) iv ta ins taken := by
  have hob := h.tk ob s e
  have nb : ∀ k, OB (B + 1) B ob k → (∀ q, q < 3 → (iv q).ownBlock ≠ some k) ∧ ta.ownBlock ≠ some k := by
    intro k hk
    have key : ∀ (v : Value) (n : Nat) (xs : List Value), w.ownsRow base 37 1 v n xs → v.ownBlock ≠ some k := by
      intro v n xs ho e9
      rcases hk with (hk | hk) | hk
      · subst hk; exact own_ne ho h.lw.rng.mem.head (by decide) e9.symm
      · subst hk; have := (ho.lt _ e9).1; have := h.hB; omega
      · subst hk
        obtain ⟨_, _, _, hc, _⟩ := hob.op
        exact own_ne ho hc.head (by decide) e9.symm
    exact ⟨fun q hq => key _ _ _ (h.own q hq), key _ _ _ h.ownT⟩
  refine ⟨l4, ?_, h.opd, ?_, ?_, fun q hq => own_keep (h.own q hq) o4 (fun k e z => (nb k z).1 q hq e.symm), own_keep h.ownT o4 (fun k e z => (nb k z).2 e.symm), h.dis, h.disT, h.hB, Nat.le_trans h.hb o4.size, h.h1⟩
  · intro q ob2 s2 hq e2
    exact (h.op q ob2 s2 hq e2).other o4 (h.tkd q ob2 ob s2 s hq e2 e)
  · intro ob2 s2 e2
    simp at e2; obtain ⟨rfl, rfl⟩ := e2; exact q4
  · intro q ob1 ob2 s1 s2 hq e1 e2
    simp at e2; rw [← e2.1]; exact h.tkd q ob1 ob s1 s hq e1 e
/-- A Put, a Take that is begun. -/
theorem Core.begin (h : Core w1 w rg B base c L t po tto iv ta ins taken) {p : Nat} {s : OS} (q3 : Op1 w1 w' w.heap.size rg (B + 1) B s) (o3 : Only Nil w w') : Core w1 w' rg B base c L t (upd po p (some (w.heap.size, s))) tto iv ta ins taken := by
  have k := h.nil o3
  refine ⟨k.lw, ?_, ?_, k.tk, ?_, k.own, k.ownT, k.dis, k.disT, k.hB, k.hb, k.h1⟩
  · intro q ob s2 hq e2
    by_cases g : q = p
    · subst g; rw [upd_same] at e2; simp at e2; obtain ⟨rfl, rfl⟩ := e2; exact q3
    · rw [upd_other _ _ _ _ g] at e2; exact k.op q ob s2 hq e2
  · intro a b ob1 ob2 s1 s2 ha hb hne e1 e2
    by_cases ga : a = p
    · subst ga; rw [upd_same] at e1; simp at e1; rw [upd_other _ _ _ _ (fun z => hne z.symm)] at e2
      have := (h.op b ob2 s2 hb e2).op.lt; omega
    · rw [upd_other _ _ _ _ ga] at e1
      by_cases gb : b = p
      · subst gb; rw [upd_same] at e2; simp at e2; have := (h.op a ob1 s1 ha e1).op.lt; omega
      · rw [upd_other _ _ _ _ gb] at e2; exact h.opd a b ob1 ob2 s1 s2 ha hb hne e1 e2
  · intro q ob1 ob2 s1 s2 hq e1 e2
    by_cases g : q = p
    · subst g; rw [upd_same] at e1; simp at e1; have := (h.tk ob2 s2 e2).op.lt; omega
    · rw [upd_other _ _ _ _ g] at e1; exact h.tkd q ob1 ob2 s1 s2 hq e1 e2
theorem Core.beginT (h : Core w1 w rg B base c L t po tto iv ta ins taken) {s : OS} (q3 : Op1 w1 w' w.heap.size rg (B + 1) B s) (o3 : Only Nil w w') : Core w1 w' rg B base c L t po (some (w.heap.size, s)) iv ta ins taken := by
  have k := h.nil o3
  refine ⟨k.lw, k.op, k.opd, ?_, ?_, k.own, k.ownT, k.dis, k.disT, k.hB, k.hb, k.h1⟩
  · intro ob s2 e2
    simp at e2; obtain ⟨rfl, rfl⟩ := e2; exact q3
  · intro q ob1 ob2 s1 s2 hq e1 e2
    simp at e2; have := (h.op q ob1 s1 hq e1).op.lt; omega
/-- One that is over is let go. -/
theorem Core.drop (h : Core w1 w rg B base c L t po tto iv ta ins taken) (p : Nat) : Core w1 w rg B base c L t (upd po p none) tto iv ta ins taken := by
  have sub : ∀ q ob s, upd po p none q = some (ob, s) → po q = some (ob, s) := fun q ob s e => by
    by_cases g : q = p
    · subst g; rw [upd_same] at e; simp at e
    · rwa [upd_other _ _ _ _ g] at e
  exact { h with op := fun q ob s hq e => h.op q ob s hq (sub q ob s e), opd := fun a b ob1 ob2 s1 s2 ha hb hne e1 e2 => h.opd a b ob1 ob2 s1 s2 ha hb hne (sub _ _ _ e1) (sub _ _ _ e2), tkd := fun q ob1 ob2 s1 s2 hq e1 e2 => h.tkd q ob1 ob2 s1 s2 hq (sub _ _ _ e1) e2 }
theorem Core.dropT (h : Core w1 w rg B base c L t po tto iv ta ins taken) : Core w1 w rg B base c L t po none iv ta ins taken :=
  { h with tk := fun ob s e => by simp at e, tkd := fun q ob1 ob2 s1 s2 hq e1 e2 => by simp at e2 }

/-- One more is in, in the row of p. -/
theorem Core.grow (h : Core w1 w rg B base c L t po tto iv ta ins taken) {p : Nat} (hp : p < 3) {g cap : Nat} {x : Int}
    (own : w'.ownsRow base 37 1 (.slice (some ⟨g, 0, none⟩) ((ins p).length + 1) cap) ((ins p).length + 1) (uv (ins p) ++ [.int .u64 x])) (gr : w.grownBy w' (iv p).ownBlock) (hat : (iv p).ownBlock = some g ∨ g = w.heap.size) :
    Core w1 w' rg B base c L t po tto (upd iv p (.slice (some ⟨g, 0, none⟩) ((ins p).length + 1) cap)) ta (upd ins p (ins p ++ [x])) taken := by
  have o := Only.ofGrown gr
  have ho := h.own p hp
  have lo : ∀ q k, q < 3 → (iv q).ownBlock = some k → base ≤ k ∧ k < w.heap.size := fun q k hq e => (h.own q hq).lt k e
  have lt : ∀ k, ta.ownBlock = some k → base ≤ k ∧ k < w.heap.size := fun k e => h.ownT.lt k e
  have nl : ∀ {u : TypeId} {k : Nat} {y : Array Value} {m : Nat × Nat}, w.heap[k]? = some (.cells y u m) → 37 ≠ u → ¬ some k = (iv p).ownBlock := fun hk hu => own_ne ho hk hu
  have opn : ∀ {ob : Nat} {s : OS}, Op1 w1 w ob rg (B + 1) B s → ¬ (some ob = (iv p).ownBlock) := fun {ob s} q => by
    obtain ⟨_, _, _, hc, _⟩ := q.op
    exact nl hc.head (by decide)
  refine ⟨h.lw.keep o (nl h.lw.rng.ring.head (by decide)) (nl h.lw.rng.mem.head (by decide)) (fun e => by have := (lo p _ hp e.symm).1; have := h.hB; omega) (fun k e => by have := (lo p k hp e.symm).1; have := h.h1; omega),
    fun q ob s hq e => (h.op q ob s hq e).keep o (opn (h.op q ob s hq e)), h.opd, fun ob s e => (h.tk ob s e).keep o (opn (h.tk ob s e)), h.tkd, ?_, own_keep h.ownT o (fun k e z => h.disT p k hp z.symm e.symm), ?_, ?_, h.hB, Nat.le_trans h.hb o.size, h.h1⟩
  · intro q hq
    by_cases e : q = p
    · subst e; rw [upd_same, upd_same]; simpa [uv] using own
    · rw [upd_other _ _ _ _ e, upd_other _ _ _ _ e]
      exact own_keep (h.own q hq) o (fun k e2 z => h.dis q p k hq hp e e2.symm z.symm)
  · intro a b k ha hb hne e1 e2
    by_cases ga : a = p
    · subst ga; rw [upd_same] at e1; rw [upd_other _ _ _ _ (fun z => hne z.symm)] at e2
      have eg : g = k := by simpa [Value.ownBlock] using e1
      rcases hat with z | z
      · exact h.dis a b k ha hb hne (by rw [z, eg]) e2
      · have := (lo b k hb e2).2; omega
    · rw [upd_other _ _ _ _ ga] at e1
      by_cases gb : b = p
      · subst gb; rw [upd_same] at e2
        have eg : g = k := by simpa [Value.ownBlock] using e2
        rcases hat with z | z
        · exact h.dis a b k ha hb hne e1 (by rw [z, eg])
        · have := (lo a k ha e1).2; omega
      · rw [upd_other _ _ _ _ gb] at e2; exact h.dis a b k ha hb hne e1 e2
  · intro a k ha e1 e2
    by_cases ga : a = p
    · subst ga; rw [upd_same] at e1
      have eg : g = k := by simpa [Value.ownBlock] using e1
      rcases hat with z | z
      · exact h.disT a k ha (by rw [z, eg]) e2
      · have := (lt k e2).2; omega
    · rw [upd_other _ _ _ _ ga] at e1; exact h.disT a k ha e1 e2
/-- One more was taken. -/
theorem Core.growT (h : Core w1 w rg B base c L t po tto iv ta ins taken) {g cap : Nat} {x : Int}
    (own : w'.ownsRow base 37 1 (.slice (some ⟨g, 0, none⟩) (taken.length + 1) cap) (taken.length + 1) (uv taken ++ [.int .u64 x])) (gr : w.grownBy w' ta.ownBlock) (hat : ta.ownBlock = some g ∨ g = w.heap.size) :
    Core w1 w' rg B base c L t po tto iv (.slice (some ⟨g, 0, none⟩) (taken.length + 1) cap) ins (taken ++ [x]) := by
  have o := Only.ofGrown gr
  have ho := h.ownT
  have nl : ∀ {u : TypeId} {k : Nat} {y : Array Value} {m : Nat × Nat}, w.heap[k]? = some (.cells y u m) → 37 ≠ u → ¬ some k = ta.ownBlock := fun hk hu => own_ne ho hk hu
  have opn : ∀ {ob : Nat} {s : OS}, Op1 w1 w ob rg (B + 1) B s → ¬ (some ob = ta.ownBlock) := fun {ob s} q => by
    obtain ⟨_, _, _, hc, _⟩ := q.op
    exact nl hc.head (by decide)
  refine ⟨h.lw.keep o (nl h.lw.rng.ring.head (by decide)) (nl h.lw.rng.mem.head (by decide)) (fun e => by have := (ho.lt _ e.symm).1; have := h.hB; omega) (fun k e => by have := (ho.lt k e.symm).1; have := h.h1; omega),
    fun q ob s hq e => (h.op q ob s hq e).keep o (opn (h.op q ob s hq e)), h.opd, fun ob s e => (h.tk ob s e).keep o (opn (h.tk ob s e)), h.tkd, fun q hq => own_keep (h.own q hq) o (fun k e z => h.disT q k hq e.symm z.symm), ?_, h.dis, ?_, h.hB, Nat.le_trans h.hb o.size, h.h1⟩
  · simpa [uv] using own
  · intro a k ha e1 e2
    have eg : g = k := by simpa [Value.ownBlock] using e2
    rcases hat with z | z
    · exact h.disT a k ha e1 (by rw [z, eg])
    · have := ((h.own a ha).lt k e1).2; omega
end
end Go.Proofs.Ytpnpbgcndlfobaa
