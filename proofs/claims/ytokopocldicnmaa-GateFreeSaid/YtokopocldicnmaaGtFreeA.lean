/- GateFree: what the walk carries along of n operations that are under way. -/
import Derived.Test.YtokopocldicnmaaGtF
import Derived.Test.YtokopocldicnmaaGtBdA
import Derived.Test.YtokopocldicnmaaRowBo
namespace Go.Proofs.Ytokopocldicnmaa.Gt
open Go.RowKit

section
variable {w0 w w' : World} {ob rg hb rb b c n : Nat} {L L' : List Int} {t : Int} {s s' : OS}
/-- A block of a type of its own is none of the gate's and none of an operation's. -/
theorem Lw.ne (h : Lw w0 w rg hb rb b c L t) {g : Nat} {y : Array Value} {u : TypeId} {m : Nat × Nat} (hg : w.heap[g]? = some (.cells y u m)) (h1 : 104 ≠ u) (h2 : 95 ≠ u) (h3 : 28 ≠ u) : rg ≠ g ∧ hb ≠ g ∧ rb ≠ g :=
  ⟨blk_ne h.rng.ring.head hg h1, blk_ne h.rng.mem.head hg h2, blk_ne h.rng.mem.row hg h3⟩
theorem Op1.ne (h : Op1 w0 w ob rg hb rb s) {g : Nat} {y : Array Value} {u : TypeId} {m : Nat × Nat} (hg : w.heap[g]? = some (.cells y u m)) (h1 : 107 ≠ u) : ob ≠ g := by
  obtain ⟨_, _, _, _, _, _, _, hc, _⟩ := h.op
  exact blk_ne hc.head hg h1
end
theorem Try.infoOpG : (Try.prog.info? 55).map (fun i => (i.zero, i.size, i.bytes)) = some (some (.pointer none), 1, 8) := by kernel_rfl

/-- Where an operation stands, of those that aren't over P, of those that are what they came to. -/
def osO (P : Nat → Option (Dir × GS)) (od : Nat → OS) (p : Nat) : OS := match P p with
  | some (d, s) => os d s
  | none => od p
/-- n operations under way. -/
structure FrSt (w1 w : World) (rg B gb sb n len i T0 : Nat) (T : Int) (L : List Int) (t : Int) (R : Rg) (P : Nat → Option (Dir × GS)) (st : Nat → Nat) (od : Nat → OS) (ob : Nat → Nat) : Prop where
  tT : t ≤ T
  t8 : T0 ≤ 8
  lw : Lw w1 w rg (B + 1) B 0 8 L t
  rl : RgL 8 R L
  fi : ∃ dk dr vo, GF n T0 0 R P st dk dr vo
  op : ∀ p, p < n → Op1 w1 w (ob p) rg (B + 1) B (osO P od p)
  ov : ∀ p, p < n → P p = none → (od p).isO = true
  inj : ∀ p q, p < n → q < n → p ≠ q → ob p ≠ ob q
  gh : ∃ cur, w.heap[gb]? = some (.cells cur 55 (0, 0))
  gc : ∀ p, p < n → w.cell? ⟨gb, p, none⟩ = some (.pointer (some ⟨ob p, 0, none⟩))
  sh : w.heap[sb]? = some (.cells (rowC n fun p => .int .i64 (st p : Int)) 3 (0, 0))
  sg : w1.heap.size ≤ sb
  tu : Turns n len i P st

section
variable {w1 w w4 : World} {rg B gb sb n len i T0 : Nat} {T : Int} {L : List Int} {t : Int} {R : Rg} {P : Nat → Option (Dir × GS)} {st : Nat → Nat} {od : Nat → OS} {ob : Nat → Nat}
theorem FrSt.steps (h : FrSt w1 w rg B gb sb n len i T0 T L t R P st od ob) (p : Nat) (hp : p < n) : st p ≤ 3 * n + 2 := by
  obtain ⟨dk, dr, vo, F⟩ := h.fi
  exact F.steps hp
theorem FrSt.cell (h : FrSt w1 w rg B gb sb n len i T0 T L t R P st od ob) (p : Nat) (hp : p < n) : w.cell? ⟨sb, p, none⟩ = some (.int .i64 (st p : Int)) := row_cell h.sh p hp
theorem FrSt.osO_isO (h : FrSt w1 w rg B gb sb n len i T0 T L t R P st od ob) (p : Nat) (hp : p < n) : (osO P od p).isO = (P p).isNone := by
  unfold osO
  rcases e : P p with _ | ⟨d, s⟩
  · exact h.ov p hp e
  · exact os_isO d s
theorem FrSt.over (h : FrSt w1 w rg B gb sb n len i T0 T L t R P st od ob) (p : Nat) (hp : p < n) :
    Calls Try.prog 24 #[.pointer (some ⟨ob p, 0, none⟩)] w fun e w' => e = .returned (.bool (P p).isNone) ∧ w = w' := by
  have := overO (h.op p hp).op
  rwa [h.osO_isO p hp] at this
theorem FrSt.keepN (h : FrSt w1 w rg B gb sb n len i T0 T L t R P st od ob) {w' : World} (o : Only Nil w w') : FrSt w1 w' rg B gb sb n len i T0 T L t R P st od ob := by
  obtain ⟨cur, gh⟩ := h.gh
  have gh' := (o.block gb (lt_of_block gh) (fun z => z)).trans gh
  exact { h with
    lw := h.lw.nil o
    op := fun p hp => (h.op p hp).nil o
    gh := ⟨cur, gh'⟩
    gc := fun p hp => by rw [World.cell?_of_block (a := ⟨gb, p, none⟩) (gh'.trans gh.symm)]; exact h.gc p hp
    sh := (o.block sb (lt_of_block h.sh) (fun z => z)).trans h.sh }
/-- At a pick of one that is over nothing turns. -/
theorem FrSt.skip (h : FrSt w1 w rg B gb sb n len i T0 T L t R P st od ob) {p : Nat} (hp : p < n) (hpick : i < len ∨ p = i % n) (e : P p = none) : FrSt w1 w rg B gb sb n len (i + 1) T0 (T + 1) L t R P st od ob :=
  { h with tT := by have := h.tT; omega, tu := h.tu.next hp hpick (fun q _ => ⟨rfl, rfl⟩) (.inl e) }

/-- A step, and its count. -/
theorem FrSt.next (hn : n ≤ 8) (h : FrSt w1 w rg B gb sb n len i T0 T L t R P st od ob) {p : Nat} (hp : p < n) (hpick : i < len ∨ p = i % n) {d : Dir} {s : GS} (e : P p = some (d, s))
    (l4 : Lw w1 w4 rg (B + 1) B 0 8 (stepL 0 8 L (osO P od p)) (stepT (osO P od p) t)) (q4 : Op1 w1 w4 (ob p) rg (B + 1) B (stepS 0 8 L (osO P od p))) (o4 : Only (OB (B + 1) B (ob p)) w w4) :
    w4.cell? ⟨sb, p, none⟩ = some (.int .i64 (st p : Int)) ∧ w4.frozen? ⟨sb, p, none⟩ = false ∧
    Hid (∃ L' t' R' P' st' od', FrSt w1 (w4.setCell ⟨sb, p, none⟩ (.int .i64 ((st p : Int) + 1))) rg B gb sb n len (i + 1) T0 (T + 1) L' t' R' P' st' od' ob) := by
  have eo : osO P od p = os d s := by unfold osO; rw [e]
  rw [eo] at l4 q4
  have et : stepT (os d s) t = t + 1 := by unfold stepT; rw [os_isO]; rfl
  rw [et] at l4
  obtain ⟨dk, dr, vo, F⟩ := h.fi
  obtain ⟨dr', vo', F'⟩ := F.step hp e
  have hsm : s.tk 4611686018427387000 := by
    have hI := F.1.op p d s e
    have hc := F.cnt_le d
    have h8 := h.t8
    have hb : baseOf T0 0 d ≤ 8 := by cases d <;> simp [baseOf]; exact h8
    cases s with
    | q0 => trivial
    | q1 t => have : t ≤ cntOf R d := hI; show t ≤ _; omega
    | q2 t => have : t ≤ cntOf R d := hI.1; show t ≤ _; omega
    | q3 t => have : t < cntOf R d := hI.1; show t ≤ _; omega
    | q4 t x => have : t < cntOf R d := hI.1; show t ≤ _; omega
  obtain ⟨rl', es⟩ := link h.rl (by omega) d s hsm
  rw [es] at q4
  -- the blocks
  obtain ⟨sn1, sn2, sn3⟩ := h.lw.ne h.sh (by decide) (by decide) (by decide)
  obtain ⟨cur, gh⟩ := h.gh
  obtain ⟨gn1, gn2, gn3⟩ := h.lw.ne gh (by decide) (by decide) (by decide)
  have gs : gb ≠ sb := blk_ne gh h.sh (by decide)
  have so : ∀ q, q < n → ob q ≠ sb := fun q hq => (h.op q hq).ne h.sh (by decide)
  have go : ∀ q, q < n → ob q ≠ gb := fun q hq => (h.op q hq).ne gh (by decide)
  have nsOB : ¬ OB (B + 1) B (ob p) sb := fun hh => by
    rcases hh with (hh | hh) | hh
    · exact sn2 hh.symm
    · exact sn3 hh.symm
    · exact so p hp hh.symm
  have ngOB : ¬ OB (B + 1) B (ob p) gb := fun hh => by
    rcases hh with (hh | hh) | hh
    · exact gn2 hh.symm
    · exact gn3 hh.symm
    · exact go p hp hh.symm
  have sh4 := (o4.block sb (lt_of_block h.sh) nsOB).trans h.sh
  have gh4 := (o4.block gb (lt_of_block gh) ngOB).trans gh
  refine ⟨row_cell sh4 p hp, row_frozen sh4 p, Lib.hid ?_⟩
  have o5 : Only (fun k => k = sb) w4 (w4.setCell ⟨sb, p, none⟩ (.int .i64 ((st p : Int) + 1))) := (Only.refl (fun k => k = sb) w4).setCell (p := ⟨sb, p, none⟩) rfl _
  have l5 := l4.keep o5 sn1 sn2 sn3 (fun k hk => by have := h.sg; omega)
  have q5 := q4.keep o5 (so p hp)
  have sh5 := row_set sh4 p (.int .i64 ((st p : Int) + 1))
  have gh5 := (o5.block gb (lt_of_block gh4) gs).trans gh4
  have oth : ∀ q, q < n → q ≠ p → Op1 w1 (w4.setCell ⟨sb, p, none⟩ (.int .i64 ((st p : Int) + 1))) (ob q) rg (B + 1) B (osO P od q) := fun q hq hne =>
    ((h.op q hq).other o4 (h.inj q p hq hp hne)).keep o5 (so q hq)
  have gc5 : ∀ q, q < n → (w4.setCell ⟨sb, p, none⟩ (.int .i64 ((st p : Int) + 1))).cell? ⟨gb, q, none⟩ = some (.pointer (some ⟨ob q, 0, none⟩)) := fun q hq => by
    rw [World.cell?_of_block (a := ⟨gb, q, none⟩) (gh5.trans gh.symm)]; exact h.gc q hq
  have sh6 : (w4.setCell ⟨sb, p, none⟩ (.int .i64 ((st p : Int) + 1))).heap[sb]? = some (.cells (rowC n fun q => .int .i64 ((upd st p (st p + 1) q : Nat) : Int)) 3 (0, 0)) := by
    rw [sh5]
    congr 2
    apply rowC_congr
    intro q _
    by_cases hq : q = p
    · subst hq; simp [upd]
    · simp [upd, hq]
  have tt : t + 1 ≤ T + 1 := by have := h.tT; omega
  have eR : osO (upd P p (nxt d (gstep 8 R d s).2)) (upd od p (osR d (gstep 8 R d s).2)) p = osR d (gstep 8 R d s).2 := by
    unfold osO
    rw [upd_same]
    generalize (gstep 8 R d s).2 = r
    cases r <;> simp only [nxt, osR, upd_same]
  refine ⟨_, _, _, upd P p (nxt d (gstep 8 R d s).2), upd st p (st p + 1), upd od p (osR d (gstep 8 R d s).2), ⟨tt, h.t8, l5, rl', ⟨dk, dr', vo', F'⟩, ?_, ?_, h.inj, ⟨_, gh5⟩, gc5, sh6, h.sg, ?_⟩⟩
  · intro q hq
    by_cases hne : q = p
    · subst hne; rw [eR]; exact q5
    · have : osO (upd P p (nxt d (gstep 8 R d s).2)) (upd od p (osR d (gstep 8 R d s).2)) q = osO P od q := by unfold osO; rw [upd_other _ _ _ _ hne, upd_other _ _ _ _ hne]
      rw [this]; exact oth q hq hne
  · intro q hq hnone
    by_cases hne : q = p
    · subst hne
      rw [upd_same] at hnone ⊢
      generalize (gstep 8 R d s).2 = r at hnone
      cases r <;> first | rfl | cases hnone
    · rw [upd_other _ _ _ _ hne] at hnone ⊢; exact h.ov q hq hnone
  · refine h.tu.next hp hpick (fun q hq => ⟨upd_other _ _ _ _ hq, upd_other _ _ _ _ hq⟩) ?_
    exact .inr ⟨by rw [e]; simp, upd_same _ _ _⟩
end

/-- i operations are begun; q is in the gate. -/
structure Bg (w1 w : World) (rg B sb n i T0 : Nat) (v7 : Value) (L : List Int) (t : Int) (ob : Nat → Nat) (dd : Nat → Dir) : Prop where
  own : w.ownsRow w1.heap.size 55 1 v7 i ((List.range i).map fun j => .pointer (some ⟨ob j, 0, none⟩))
  lw : Lw w1 w rg (B + 1) B 0 8 L t
  op : ∀ p, p < i → Op1 w1 w (ob p) rg (B + 1) B (.s0 (dd p))
  inj : ∀ p q, p < i → q < i → p ≠ q → ob p ≠ ob q
  sh : w.heap[sb]? = some (.cells (rowC n fun _ => .int .i64 0) 3 (0, 0))
  sg : w1.heap.size ≤ sb
section
variable {w1 w w3 w4 : World} {rg B sb n i T0 : Nat} {v7 v4 : Value} {L : List Int} {t : Int} {ob : Nat → Nat} {dd : Nat → Dir} {d : Dir}
theorem Bg.next (h : Bg w1 w rg B sb n i T0 v7 L t ob dd) (l3 : Lw w1 w3 rg (B + 1) B 0 8 L t) (q3 : Op1 w1 w3 w.heap.size rg (B + 1) B (.s0 d)) (o3 : Only Nil w w3) (x : Obj)
    (own4 : w4.ownsRow w1.heap.size 55 1 v4 (i + 1) (((List.range i).map fun j => .pointer (some ⟨ob j, 0, none⟩)) ++ [.pointer (some ⟨w.heap.size, 0, none⟩)])) (g4 : (w3.alloc x).grownBy w4 v7.ownBlock) :
    Bg w1 w4 rg B sb n (i + 1) T0 v4 L t (upd ob i w.heap.size) (upd dd i d) := by
  have oa : Only Nil w3 (w3.alloc x) := (Only.refl Nil w3).alloc x
  have o4 := Only.ofGrown g4
  have ow := own_keep (own_keep h.own o3 (fun _ _ h => h)) oa (fun _ _ h => h)
  have la := l3.nil oa
  have qa := q3.nil oa
  have sha := (oa.block sb (by have := o3.size; have := lt_of_block h.sh; omega) (fun h => h)).trans ((o3.block sb (lt_of_block h.sh) (fun h => h)).trans h.sh)
  have hop : ∀ p, p < i → Op1 w1 (w3.alloc x) (ob p) rg (B + 1) B (.s0 (dd p)) := fun p hp => ((h.op p hp).nil o3).nil oa
  have opn : ∀ {ob : Nat} {s : OS}, Op1 w1 (w3.alloc x) ob rg (B + 1) B s → ¬ (some ob = v7.ownBlock) := fun {ob s} q => by
    obtain ⟨_, _, _, _, _, _, _, hc, _⟩ := q.op
    exact own_ne ow hc.head (by decide)
  refine ⟨?_, ?_, ?_, ?_, ?_, h.sg⟩
  · have e : ((List.range (i + 1)).map fun j => Value.pointer (some ⟨upd ob i w.heap.size j, 0, none⟩)) = ((List.range i).map fun j => Value.pointer (some ⟨ob j, 0, none⟩)) ++ [.pointer (some ⟨w.heap.size, 0, none⟩)] := by
      rw [List.range_succ, List.map_append]
      congr 1
      · apply List.map_congr_left
        intro j hj
        have : j < i := by simpa using hj
        rw [upd_other _ _ _ _ (by omega)]
      · simp [upd]
    rw [e]; exact own4
  · exact la.keep o4 (own_ne ow la.rng.ring.head (by decide)) (own_ne ow la.rng.mem.head (by decide)) (own_ne ow la.rng.mem.row (by decide)) (fun k hk => (ow.lt k hk.symm).1)
  · intro p hp
    by_cases e : p = i
    · subst e; rw [upd_same, upd_same]; exact qa.keep o4 (opn qa)
    · rw [upd_other _ _ _ _ e, upd_other _ _ _ _ e]; exact (hop p (by omega)).keep o4 (opn (hop p (by omega)))
  · intro p q hp hq hne
    by_cases e : p = i
    · subst e; rw [upd_same, upd_other _ _ _ _ (fun h => hne h.symm)]
      have := (h.op q (by omega)).op.lt; omega
    · by_cases e2 : q = i
      · subst e2; rw [upd_same, upd_other _ _ _ _ e]
        have := (h.op p (by omega)).op.lt; omega
      · rw [upd_other _ _ _ _ e, upd_other _ _ _ _ e2]; exact h.inj p q (by omega) (by omega) hne
  · exact (o4.block sb (lt_of_block sha) (own_ne ow sha (by decide))).trans sha
/-- The gate is filled, from its beginning. -/
def Fl (L : List Int) (T0 : Nat) : Prop := ∃ R q, RgL 8 R L ∧ Rest 8 R q ∧ R.head = 0 ∧ R.tail = T0 ∧ T0 ≤ 8
theorem Fl.put {L : List Int} {T0 : Nat} (h : Fl L T0) (hT : T0 < 8) (v : Int) : ∃ L', Runs 0 8 5 L (.s0 (.put v)) L' (.over 1 0) ∧ Fl L' (T0 + 1) := by
  obtain ⟨R, q, hL, hR, hh, ht, h8⟩ := h
  have hl := hR.tail
  obtain ⟨L', r, hL'⟩ := run_on hL (by omega) (.put v) (by show R.tail < _; omega) (hR.at_tail (by omega))
  exact ⟨L', r, _, _, hL', hR.put (by omega) v, hh, by show R.tail + 1 = _; omega, by omega⟩
/-- All are begun. -/
theorem Bg.all (h : Bg w1 w rg B sb n n T0 v7 L t ob dd) (hn : 0 < n) (len : Nat) (T : Int) (tT : t ≤ T) (hf : Fl L T0) :
    ∃ gb cap, v7 = .slice (some ⟨gb, 0, none⟩) n cap ∧ ∃ R P od, FrSt w1 w rg B gb sb n len 0 T0 T L t R P (fun _ => 0) od ob := by
  obtain ⟨gb, cap, cur, rfl, _, gh, gc⟩ := own_block h.own hn
  obtain ⟨R, q, hL, hR, hh, ht, h8⟩ := hf
  have hl := hR.tail
  have G := GI.start (R := R) (P := fun p => if p < n then some (dd p, GS.q0) else none) (q := q) (c := 8) (by omega) hh (by omega)
    (fun t h => by have := hR.full t (by omega); rw [hh] at this; simpa using this) (fun t h h2 => by have := hR.free t (by omega) h2; rw [hh] at this; simpa using this)
    (fun p d s h => by
      have h : (if p < n then some (dd p, GS.q0) else none) = some (d, s) := h
      by_cases g : p < n
      · rw [if_pos g] at h; cases h; rfl
      · rw [if_neg g] at h; cases h)
  obtain ⟨dk, F⟩ := GF.start (n := n) G (fun p hp => ⟨dd p, by simp [hp]⟩)
  rw [ht, hh] at F
  refine ⟨gb, cap, rfl, R, _, fun _ => .over 1 0, ⟨tT, h8, h.lw, hL, ⟨dk, _, _, F⟩, ?_, fun _ _ _ => rfl, h.inj, ⟨cur, gh⟩, gc, h.sh, h.sg, Turns.start _ _ _ _⟩⟩
  intro p hp
  have : osO (fun p => if p < n then some (dd p, GS.q0) else none) (fun _ => .over 1 0) p = .s0 (dd p) := by unfold osO; simp [hp, os]
  rw [this]; exact h.op p hp
end
end Go.Proofs.Ytokopocldicnmaa.Gt
