/- RingFree: what the walk carries along of n Puts that are under way. -/
import Derived.Test.YtpnpbgcndlfobaaRowB
namespace Go.Proofs.Ytpnpbgcndlfobaa
open Go.RowKit

theorem mod_next {n : Nat} (hn : 0 < n) (i : Nat) : (i + 1) % n = if i % n + 1 = n then 0 else i % n + 1 := by
  have h := Nat.div_add_mod i n
  have hr := Nat.mod_lt i hn
  by_cases e : i % n + 1 = n
  · rw [if_pos e]
    have : i + 1 = n * (i / n + 1) := by rw [Nat.mul_add]; omega
    rw [this, Nat.mul_mod_right]
  · rw [if_neg e]
    have : i + 1 = n * (i / n) + (i % n + 1) := by omega
    rw [this, Nat.mul_add_mod, Nat.mod_eq_of_lt (by omega)]
/-- How far it is to p's next turn. -/
def dist (n i p : Nat) : Nat := if i % n ≤ p then p - i % n else p + n - i % n
theorem dist_lt {n i p : Nat} (hp : p < n) : dist n i p < n := by
  have := Nat.mod_lt i (show 0 < n by omega)
  unfold dist; split <;> omega
theorem dist_own {n i : Nat} : dist n i (i % n) = 0 := by unfold dist; rw [if_pos (Nat.le_refl _)]; omega
theorem dist_next {n i p : Nat} (hp : p < n) (h : p ≠ i % n) : dist n (i + 1) p + 1 = dist n i p := by
  have hr := Nat.mod_lt i (show 0 < n by omega)
  unfold dist
  rw [mod_next (by omega)]
  generalize i % n = r at *
  by_cases e : r + 1 = n
  · rw [if_pos e, if_pos (by omega), if_neg (by omega)]; omega
  · rw [if_neg e]
    by_cases g : r ≤ p
    · rw [if_pos g, if_pos (by omega)]; omega
    · rw [if_neg g, if_neg (by omega)]; omega

/-- Whoever isn't over has made a step at each of its turns behind the picks. -/
def Turns (n len i : Nat) (P : Nat → Option (PS × Int)) (st : Nat → Nat) : Prop := ∀ p, p < n → P p ≠ none → i - len + dist n i p ≤ n * st p + (n - 1)
theorem Turns.start (n len : Nat) (P : Nat → Option (PS × Int)) (st : Nat → Nat) : Turns n len 0 P st := fun p hp _ => by
  have := dist_lt (i := 0) hp
  omega
theorem Turns.next {n len i p : Nat} {P P' : Nat → Option (PS × Int)} {st st' : Nat → Nat} (h : Turns n len i P st) (hp : p < n) (hpick : i < len ∨ p = i % n)
    (ho : ∀ q, q ≠ p → P' q = P q ∧ st' q = st q) (hs : P' p = none ∨ (P p ≠ none ∧ st' p = st p + 1)) : Turns n len (i + 1) P' st' := by
  intro q hq hn
  have d1 := dist_lt (i := i) hq
  have d2 := dist_lt (i := i + 1) hq
  by_cases e : q = p
  · subst e
    rcases hs with hs | ⟨h1, h2⟩
    · exact absurd hs hn
    · have := h q hq h1
      rw [h2, Nat.mul_succ]
      rcases hpick with g | g
      · omega
      · have : dist n i q = 0 := by rw [g]; exact dist_own
        omega
  · obtain ⟨h1, h2⟩ := ho q e
    rw [h1] at hn
    have := h q hq hn
    rw [h2]
    rcases hpick with g | g
    · omega
    · have := dist_next (n := n) (i := i) hq (fun hh => e (hh.trans g.symm))
      omega
theorem Turns.over {n len : Nat} {R : Rg} {P : Nat → Option (PS × Int)} {D st : Nat → Nat} (h : Turns n len (len + 40 * n) P st) (hn : n ≤ 8) (F : FInv n R P D st) (p : Nat) (hp : p < n) : P p = none := by
  rcases hP : P p with _ | x
  · rfl
  · have := h p hp (by rw [hP]; simp)
    have h2 := F.steps p hp
    have h3 : n * st p ≤ n * 26 := Nat.mul_le_mul_left n (by omega)
    omega

/-- Where an operation stands, of those that aren't over P, of those that are their tickets D. -/
def osO (P : Nat → Option (PS × Int)) (D : Nat → Nat) (p : Nat) : OS := match P p with
  | some (s, v) => osP v s
  | none => .over 1 0 (D p)

/-- n Puts under way. -/
structure FrSt (w1 w : World) (rg B gb sb n len i : Nat) (T : Int) (L : List Int) (t : Int) (R : Rg) (P : Nat → Option (PS × Int)) (D st ob : Nat → Nat) : Prop where
  tT : t ≤ T
  lw : Lw w1 w rg (B + 1) B 0 8 L t
  rl : RgL 8 0 R L
  fi : FInv n R P D st
  op : ∀ p, p < n → Op1 w1 w (ob p) rg (B + 1) B (osO P D p)
  inj : ∀ p q, p < n → q < n → p ≠ q → ob p ≠ ob q
  gh : ∃ cur, w.heap[gb]? = some (.cells cur 40 (0, 0))
  gc : ∀ p, p < n → w.cell? ⟨gb, p, none⟩ = some (.pointer (some ⟨ob p, 0, none⟩))
  sh : w.heap[sb]? = some (.cells (rowC n fun p => .int .i64 (st p : Int)) 3 (0, 0))
  sg : w1.heap.size ≤ sb
  tu : Turns n len i P st

theorem FInv.tail_le {n : Nat} {R : Rg} {P : Nat → Option (PS × Int)} {D st : Nat → Nat} (F : FInv n R P D st) : R.tail ≤ n := by
  obtain ⟨wr, vo, S, _, _, _, hcnt⟩ := F
  rw [← hcnt]; exact drawnN_le n P
theorem FInv.head {n : Nat} {R : Rg} {P : Nat → Option (PS × Int)} {D st : Nat → Nat} (F : FInv n R P D st) : R.head = 0 := by
  obtain ⟨wr, vo, S, _⟩ := F
  exact S.take.symm

section
variable {w1 w w4 : World} {rg B gb sb n len i : Nat} {T : Int} {L : List Int} {t : Int} {R : Rg} {P : Nat → Option (PS × Int)} {D st ob : Nat → Nat}
theorem FrSt.nums (h : FrSt w1 w rg B gb sb n len i T L t R P D st ob) (hn : n ≤ 8) : Nums 0 L := h.rl.nums (.inl rfl) (by have := h.fi.tail_le; omega) (by rw [h.fi.head]; omega)
theorem FrSt.cell (h : FrSt w1 w rg B gb sb n len i T L t R P D st ob) (p : Nat) (hp : p < n) : w.cell? ⟨sb, p, none⟩ = some (.int .i64 (st p : Int)) := row_cell h.sh p hp
theorem FrSt.over (h : FrSt w1 w rg B gb sb n len i T L t R P D st ob) (p : Nat) (hp : p < n) :
    Calls Try.prog 15 #[.pointer (some ⟨ob p, 0, none⟩)] w fun e w' => e = .returned (.bool (P p).isNone) ∧ w = w' := by
  have := overO (h.op p hp).op (h.op p hp).tk
  have e : (osO P D p).isO = (P p).isNone := by
    unfold osO
    rcases P p with _ | ⟨s, v⟩
    · rfl
    · exact osP_isO v s
  rwa [e] at this
/-- At a pick of one that is over nothing turns. -/
theorem FrSt.skip (h : FrSt w1 w rg B gb sb n len i T L t R P D st ob) {p : Nat} (hp : p < n) (hpick : i < len ∨ p = i % n) (e : P p = none) : FrSt w1 w rg B gb sb n len (i + 1) (T + 1) L t R P D st ob :=
  { h with tT := by have := h.tT; omega, tu := h.tu.next hp hpick (fun q _ => ⟨rfl, rfl⟩) (.inl e) }

/-- A step, and its count. -/
theorem FrSt.next (hn : n ≤ 8) (h : FrSt w1 w rg B gb sb n len i T L t R P D st ob) {p : Nat} (hp : p < n) (hpick : i < len ∨ p = i % n) {s : PS} {v : Int} (e : P p = some (s, v))
    (l4 : Lw w1 w4 rg (B + 1) B 0 8 (stepL 0 8 L (osO P D p)) (stepT (osO P D p) t)) (q4 : Op1 w1 w4 (ob p) rg (B + 1) B (stepS 0 8 L (osO P D p))) (o4 : Only (OB (B + 1) B (ob p)) w w4) :
    w4.cell? ⟨sb, p, none⟩ = some (.int .i64 (st p : Int)) ∧ w4.frozen? ⟨sb, p, none⟩ = false ∧
    Hid (∃ L' t' R' P' D' st', FrSt w1 (w4.setCell ⟨sb, p, none⟩ (.int .i64 ((st p : Int) + 1))) rg B gb sb n len (i + 1) (T + 1) L' t' R' P' D' st' ob) := by
  have eo : osO P D p = osP v s := by unfold osO; rw [e]
  rw [eo] at l4 q4
  have et : stepT (osP v s) t = t + 1 := by unfold stepT; rw [osP_isO]; rfl
  rw [et] at l4
  have F' := h.fi.step hn hp e
  obtain ⟨rl', es⟩ := link_put h.rl (by omega) (by have := h.fi.tail_le; omega) v s
  rw [es] at q4
  -- the blocks
  obtain ⟨sn1, sn2, sn3⟩ := h.lw.ne h.sh (by decide) (by decide) (by decide)
  obtain ⟨cur, gh⟩ := h.gh
  obtain ⟨gn1, gn2, gn3⟩ := h.lw.ne gh (by decide) (by decide) (by decide)
  have gs : gb ≠ sb := blk_ne gh h.sh (by decide)
  have so : ∀ q, q < n → ob q ≠ sb := fun q hq => (h.op q hq).ne h.sh (by decide)
  have go : ∀ q, q < n → ob q ≠ gb := fun q hq => (h.op q hq).ne gh (by decide)
  have nsOB : ¬ OB (B + 1) B (ob p) sb := fun hh => by
    rcases hh with (hh | hh) | hh
    · exact sn2 hh.symm
    · exact sn3 hh.symm
    · exact so p hp hh.symm
  have ngOB : ¬ OB (B + 1) B (ob p) gb := fun hh => by
    rcases hh with (hh | hh) | hh
    · exact gn2 hh.symm
    · exact gn3 hh.symm
    · exact go p hp hh.symm
  have sh4 := (o4.block sb (lt_of_block h.sh) nsOB).trans h.sh
  have gh4 := (o4.block gb (lt_of_block gh) ngOB).trans gh
  refine ⟨row_cell sh4 p hp, row_frozen sh4 p, Lib.hid ?_⟩
  have o5 : Only (fun k => k = sb) w4 (w4.setCell ⟨sb, p, none⟩ (.int .i64 ((st p : Int) + 1))) := (Only.refl (fun k => k = sb) w4).setCell (p := ⟨sb, p, none⟩) rfl _
  have l5 := l4.keep o5 sn1 sn2 sn3 (fun k hk => by have := h.sg; omega)
  have q5 := q4.keep o5 (so p hp)
  have sh5 := row_set sh4 p (.int .i64 ((st p : Int) + 1))
  have gh5 := (o5.block gb (lt_of_block gh4) gs).trans gh4
  have oth : ∀ q, q < n → q ≠ p → Op1 w1 (w4.setCell ⟨sb, p, none⟩ (.int .i64 ((st p : Int) + 1))) (ob q) rg (B + 1) B (osO P D q) := fun q hq hne =>
    ((h.op q hq).other o4 (h.inj q p hq hp hne)).keep o5 (so q hq)
  have gc5 : ∀ q, q < n → (w4.setCell ⟨sb, p, none⟩ (.int .i64 ((st p : Int) + 1))).cell? ⟨gb, q, none⟩ = some (.pointer (some ⟨ob q, 0, none⟩)) := fun q hq => by
    rw [World.cell?_of_block (a := ⟨gb, q, none⟩) (gh5.trans gh.symm)]; exact h.gc q hq
  have sh6 : (w4.setCell ⟨sb, p, none⟩ (.int .i64 ((st p : Int) + 1))).heap[sb]? = some (.cells (rowC n fun q => .int .i64 ((upd st p (st p + 1) q : Nat) : Int)) 3 (0, 0)) := by
    rw [sh5]
    congr 2
    apply rowC_congr
    intro q _
    by_cases hq : q = p
    · subst hq; simp [upd]
    · simp [upd, hq]
  have tt : t + 1 ≤ T + 1 := by have := h.tT; omega
  generalize putStep 8 R v s = pr at F' rl' q5
  obtain ⟨R', x⟩ := pr
  cases x with
  | on s' =>
    refine ⟨_, _, R', upd P p (some (s', v)), D, upd st p (st p + 1), ⟨tt, l5, rl', F', ?_, h.inj, ⟨_, gh5⟩, gc5, sh6, h.sg, ?_⟩⟩
    · intro q hq
      by_cases hne : q = p
      · subst hne
        have : osO (upd P q (some (s', v))) D q = osP v s' := by unfold osO; rw [upd_same]
        rw [this]; exact q5
      · have : osO (upd P p (some (s', v))) D q = osO P D q := by unfold osO; rw [upd_other _ _ _ _ hne]
        rw [this]; exact oth q hq hne
    · exact h.tu.next hp hpick (fun q hq => ⟨upd_other _ _ _ _ hq, upd_other _ _ _ _ hq⟩) (.inr ⟨by rw [e]; simp, upd_same _ _ _⟩)
  | full => exact F'.elim
  | done k =>
    refine ⟨_, _, R', upd P p none, upd D p k, upd st p (st p + 1), ⟨tt, l5, rl', F', ?_, h.inj, ⟨_, gh5⟩, gc5, sh6, h.sg, ?_⟩⟩
    · intro q hq
      by_cases hne : q = p
      · subst hne
        have : osO (upd P q none) (upd D q k) q = .over 1 0 k := by unfold osO; rw [upd_same, upd_same]
        rw [this]; exact q5
      · have : osO (upd P p none) (upd D p k) q = osO P D q := by unfold osO; rw [upd_other _ _ _ _ hne, upd_other _ _ _ _ hne]
        rw [this]; exact oth q hq hne
    · exact h.tu.next hp hpick (fun q hq => ⟨upd_other _ _ _ _ hq, upd_other _ _ _ _ hq⟩) (.inl (upd_same _ _ _))
end
end Go.Proofs.Ytpnpbgcndlfobaa
