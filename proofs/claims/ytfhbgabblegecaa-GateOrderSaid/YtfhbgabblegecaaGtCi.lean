/- A crowd at a gate: one step, whoever makes it; the tales of the three loops. -/
import Derived.Test.YtfhbgabblegecaaGtCe
import Derived.Test.YtfhbgabblegecaaGtCf
import Derived.Test.YtfhbgabblegecaaGtCh
namespace Go.Proofs.Ytfhbgabblegecaa.Gt
open Go.RowKit

def CgE (w1 w : World) (rg B base c cb pb nb ib K : Nat) (R : Rg) (P : Nat → Option (Dir × GS)) (ins : Nat → List Int) : Prop :=
  ∃ L t vo ob nx it tk iv, Cg w1 w rg B base c cb pb nb ib K L t R P vo ob nx it tk iv ins
section
variable {w1 w w4 : World} {rg B base c cb pb nb ib K : Nat} {R : Rg} {P : Nat → Option (Dir × GS)} {ins : Nat → List Int}
theorem CgE.more (h : CgE w1 w rg B base c cb pb nb ib K R P ins) {K' : Nat} (h1 : K ≤ K') (h2 : K' ≤ 100000) : CgE w1 w rg B base c cb pb nb ib K' R P ins := by
  obtain ⟨L, t, vo, ob, nx, it, tk, iv, h⟩ := h
  exact ⟨L, t, vo, ob, nx, it, tk, iv, { h with tl := Nat.le_trans h.tl h1, tm := by have := h.tm; omega, nxb := fun p => Nat.le_trans (h.nxb p) h1, inb := fun p => Nat.le_trans (h.inb p) h1, kb := h2 }⟩
theorem cstep_some (h : CgE w1 w rg B base c cb pb nb ib K R P ins) {p : Nat} (hp : p < 4) {d : Dir} {s : GS} (e : P p = some (d, s)) (hK : K + 1 ≤ 100000) (more : Bool) :
    Calls Try.prog 62 #[.pointer (some ⟨cb, 0, none⟩), .int .i64 (p : Int), .bool more] w fun e w' => e = .returned (.tuple #[]) ∧ Hid (∃ ins', CgE w1 w' rg B base c cb pb nb ib (K + 1) (gstep c R d s).1 (upd P p (nxt d (gstep c R d s).2)) ins') := by
  obtain ⟨L, t, vo, ob, nx, it, tk, iv, h⟩ := h
  rcases er : gstep c R d s with ⟨R', r⟩
  cases r with
  | on s' =>
    refine (cstep_on h hp e er hK more).mono ?_
    rintro e w' ⟨rfl, k⟩
    obtain ⟨L', vo', it', tk', k⟩ := k.out
    exact ⟨rfl, Lib.hid ⟨_, _, _, _, _, _, _, _, _, k⟩⟩
  | early =>
    refine (cstep_early h hp e er hK more).mono ?_
    rintro e w' ⟨rfl, k⟩
    obtain ⟨L', vo', it', tk', k⟩ := k.out
    exact ⟨rfl, Lib.hid ⟨_, _, _, _, _, _, _, _, _, k⟩⟩
  | done x =>
    by_cases h2 : p < 2
    · refine (cstep_putdone h h2 e er hK more).mono ?_
      rintro e w' ⟨rfl, k⟩
      obtain ⟨L', vo', it', tk', iv', k⟩ := k.out
      exact ⟨rfl, Lib.hid ⟨_, _, _, _, _, _, _, _, _, k⟩⟩
    · refine (cstep_takedone h (p := p) (q := p - 2) (by omega) (by omega) e er hK more).mono ?_
      rintro e w' ⟨rfl, k⟩
      obtain ⟨L', vo', it', tk', iv', k⟩ := k.out
      exact ⟨rfl, Lib.hid ⟨_, _, _, _, _, _, _, _, _, k⟩⟩
theorem cstep_none (h : CgE w1 w rg B base c cb pb nb ib K R P ins) {p : Nat} (hp : p < 4) (e : P p = none) (hK : K + 2 ≤ 100000) :
    Calls Try.prog 62 #[.pointer (some ⟨cb, 0, none⟩), .int .i64 (p : Int), .bool true] w fun e w' => e = .returned (.tuple #[]) ∧ Hid (∃ d, (2 ≤ p → d = .take) ∧ CgE w1 w' rg B base c cb pb nb ib (K + 2) R (upd P p (some (d, .q1 (cntOf R d)))) ins) := by
  obtain ⟨L, t, vo, ob, nx, it, tk, iv, h⟩ := h
  by_cases h2 : p < 2
  · refine (cstep_put h h2 e hK).mono ?_
    rintro e w' ⟨rfl, k⟩
    obtain ⟨L', vo', ob', it', tk', k⟩ := k.out
    exact ⟨rfl, Lib.hid ⟨_, fun z => by omega, _, _, _, _, _, _, _, _, k⟩⟩
  · refine (cstep_take h hp (by omega) e hK).mono ?_
    rintro e w' ⟨rfl, k⟩
    obtain ⟨L', vo', ob', it', tk', k⟩ := k.out
    exact ⟨rfl, Lib.hid ⟨_, fun _ => rfl, _, _, _, _, _, _, _, _, k⟩⟩

/-- The first loop. -/
def L1 (w1 w : World) (rg B base c cb pb nb ib K : Nat) : Prop := ∃ R P ins, CgE w1 w rg B base c cb pb nb ib K R P ins
theorem L1.step (h : L1 w1 w rg B base c cb pb nb ib K) {p : Nat} (hp : p < 4) (hK : K + 2 ≤ 100000) :
    Calls Try.prog 62 #[.pointer (some ⟨cb, 0, none⟩), .int .i64 (p : Int), .bool true] w fun e w' => e = .returned (.tuple #[]) ∧ L1 w1 w' rg B base c cb pb nb ib (K + 2) := by
  obtain ⟨R, P, ins, h⟩ := h
  rcases e : P p with _ | ⟨d, s⟩
  · refine (cstep_none h hp e hK).mono ?_
    rintro e w' ⟨rfl, k⟩
    obtain ⟨d, _, k⟩ := k.out
    exact ⟨rfl, _, _, _, k⟩
  · refine (cstep_some h hp e (by omega) true).mono ?_
    rintro e w' ⟨rfl, k⟩
    obtain ⟨ins', k⟩ := k.out
    exact ⟨rfl, _, _, _, k.more (by omega) hK⟩
/-- The second loop: all that is begun comes to its end. -/
def L2 (w1 w : World) (rg B base c cb pb nb ib i : Nat) : Prop := ∃ R P ins, CgE w1 w rg B base c cb pb nb ib (1200 + i) R P ins ∧ ∀ p, p < 4 → rk R (U4 P) (P p) ≤ 16 - (i + 3 - p) / 4
theorem L2.start (h : L1 w1 w rg B base c cb pb nb ib K) (hK : K ≤ 1200) : L2 w1 w rg B base c cb pb nb ib 0 := by
  obtain ⟨R, P, ins, h⟩ := h
  refine ⟨R, P, ins, h.more (by omega) (by omega), fun p hp => ?_⟩
  have := rk_le R P (P p)
  omega
theorem L2.step {i : Nat} (h : L2 w1 w rg B base c cb pb nb ib i) (hi : i < 200) :
    Calls Try.prog 62 #[.pointer (some ⟨cb, 0, none⟩), .int .i64 ((i % 4 : Nat) : Int), .bool false] w fun e w' => e = .returned (.tuple #[]) ∧ L2 w1 w' rg B base c cb pb nb ib (i + 1) := by
  obtain ⟨R, P, ins, h, hr⟩ := h
  have hp : i % 4 < 4 := Nat.mod_lt _ (by omega)
  have oth : ∀ q, q < 4 → q ≠ i % 4 → 16 - (i + 3 - q) / 4 ≤ 16 - (i + 1 + 3 - q) / 4 := fun q hq hne => by omega
  rcases e : P (i % 4) with _ | ⟨d, s⟩
  · obtain ⟨L, t, vo, ob, nx, it, tk, iv, hh⟩ := h
    refine (cstep_idle hh hp e).mono ?_
    rintro e5 w' ⟨rfl, k⟩
    refine ⟨rfl, R, P, ins, CgE.more ⟨_, _, _, _, _, _, _, _, k.out⟩ (by omega) (by omega), fun q hq => ?_⟩
    by_cases g : q = i % 4
    · rw [g, e]; simp [rk]
    · exact Nat.le_trans (hr q hq) (oth q hq g)
  · have hcs : ∃ vo nx it tk, CS c R P vo nx it tk ins := by obtain ⟨L, t, vo, ob, nx, it, tk, iv, hh⟩ := h; exact ⟨_, _, _, _, hh.cs⟩
    obtain ⟨vo, nx, it, tk, hcs⟩ := hcs
    obtain ⟨r1, r2⟩ := hcs.rank e hp
    refine (cstep_some h hp e (by omega) false).mono ?_
    rintro e5 w' ⟨rfl, k⟩
    obtain ⟨ins', k⟩ := k.out
    refine ⟨rfl, _, _, ins', k, fun q hq => ?_⟩
    by_cases g : q = i % 4
    · have h0 := hr q hq
      rw [g] at h0 ⊢
      rw [upd_same]
      omega
    · exact Nat.le_trans (r2 q g) (Nat.le_trans (hr q hq) (oth q hq g))
theorem rk_zero {p : Nat} (hp : p < 4) (h : rk R (U4 P) (P p) = 0) : P p = none := by
  have hu : und (P p) = true → 0 < U4 P := fun z => by
    have := U4_less (P := P) (o := none) hp rfl z
    omega
  rcases e : P p with _ | ⟨d, s⟩
  · rfl
  · rw [e] at h hu
    cases s with
    | q0 => simp [rk] at h
    | q1 t => simp only [rk] at h; split at h <;> omega
    | q2 t => have := hu rfl; simp only [rk] at h; split at h <;> omega
    | q3 t => simp [rk] at h
    | q4 t x => simp [rk] at h
/-- The third loop: one alone takes what is left. -/
def L3 (w1 w : World) (rg B base c cb pb nb ib j : Nat) : Prop := ∃ R P ins, CgE w1 w rg B base c cb pb nb ib (1400 + 2 * j) R P ins ∧ Alone R P ∧ left2 R (P 2) ≤ 5 * c - j
theorem L3.start (h : L2 w1 w rg B base c cb pb nb ib 200) : L3 w1 w rg B base c cb pb nb ib 0 := by
  obtain ⟨R, P, ins, h, hr⟩ := h
  have hcs : ∃ vo nx it tk, CS c R P vo nx it tk ins := by obtain ⟨L, t, vo, ob, nx, it, tk, iv, hh⟩ := h; exact ⟨_, _, _, _, hh.cs⟩
  obtain ⟨vo, nx, it, tk, hcs⟩ := hcs
  have hn : ∀ q, P q = none := fun q => by
    rcases Nat.lt_or_ge q 4 with g | g
    · exact rk_zero (R := R) g (by have := hr q g; omega)
    · exact hcs.gl.dom q g
  refine ⟨R, P, ins, h.more (by omega) (by omega), ⟨fun q _ => hn q, fun d t z => by rw [hn 2] at z; rcases z with z | z <;> cases z⟩, ?_⟩
  rw [hn 2]
  have := hcs.span (fun q _ => hn q)
  show 5 * (R.tail - R.head) ≤ _
  omega
theorem L3.step {j : Nat} (h : L3 w1 w rg B base c cb pb nb ib j) (hj : j < 100) :
    Calls Try.prog 62 #[.pointer (some ⟨cb, 0, none⟩), .int .i64 2, .bool true] w fun e w' => e = .returned (.tuple #[]) ∧ L3 w1 w' rg B base c cb pb nb ib (j + 1) := by
  obtain ⟨R, P, ins, h, ha, hl⟩ := h
  rcases e : P 2 with _ | ⟨d, s⟩
  · refine (cstep_none h (p := 2) (by omega) e (by omega)).mono ?_
    rintro e5 w' ⟨rfl, k⟩
    obtain ⟨d, hd, k⟩ := k.out
    have := hd (Nat.le_refl _)
    subst this
    refine ⟨rfl, _, _, _, k.more (by omega) (by omega), ⟨fun q g => by rw [upd_other _ _ _ _ g]; exact ha.1 q g, fun d t z => ?_⟩, ?_⟩
    · rw [upd_same] at z; rcases z with z | z <;> cases z; rfl
    · rw [upd_same]
      rw [e] at hl
      have hl' : 5 * (R.tail - R.head) ≤ 5 * c - j := hl
      show 5 * (R.tail - R.head) - 1 ≤ _
      omega
  · have hcs : ∃ vo nx it tk, CS c R P vo nx it tk ins := by obtain ⟨L, t, vo, ob, nx, it, tk, iv, hh⟩ := h; exact ⟨_, _, _, _, hh.cs⟩
    obtain ⟨vo, nx, it, tk, hcs⟩ := hcs
    obtain ⟨a1, a2⟩ := hcs.alone ha e
    refine (cstep_some h (p := 2) (by omega) e (by omega) true).mono ?_
    rintro e5 w' ⟨rfl, k⟩
    obtain ⟨ins', k⟩ := k.out
    refine ⟨rfl, _, _, ins', k.more (by omega) (by omega), a1, ?_⟩
    rw [upd_same]
    rw [e] at hl
    omega

/-- The end: all tickets drawn were handed on. -/
structure Fin (ins : Nat → List Int) (T : Nat) (vo : Nat → Int) (it : List Nat) (tk : Nat → List Nat) : Prop where
  in_ : ins 0 = it.map vo
  itN : it.Nodup
  itM : ∀ t, t ∈ it ↔ t < T
  tv : ∀ q, q < 2 → ins (q + 1) = (tk q).map vo
  tI : ∀ q, q < 2 → (tk q).Pairwise (· < ·)
  tM : ∀ t, t < T ↔ ∃ q, q < 2 ∧ t ∈ tk q
  tD : ∀ t, t ∈ tk 0 → t ∈ tk 1 → False
  vn : ∀ t, t < T → ∃ p k, p < 2 ∧ 1 ≤ k ∧ k < 4294967296 ∧ vo t = num p k
  vi : ∀ t u p k l, t < u → u < T → p < 2 → k < 4294967296 → l < 4294967296 → vo t = num p k → vo u = num p l → k < l
theorem L3.fin {j : Nat} (h : L3 w1 w rg B base c cb pb nb ib j) (hj : 5 * c ≤ j) : ∃ R P ins K, CgE w1 w rg B base c cb pb nb ib K R P ins ∧ ∃ T vo it tk, Fin ins T vo it tk := by
  obtain ⟨R, P, ins, h, ha, hl⟩ := h
  have hcs : ∃ vo nx it tk, CS c R P vo nx it tk ins := by obtain ⟨L, t, vo, ob, nx, it, tk, iv, hh⟩ := h; exact ⟨_, _, _, _, hh.cs⟩
  obtain ⟨vo, nx, it, tk, hcs⟩ := hcs
  refine ⟨R, P, ins, _, h, R.tail, vo, it, tk, ?_⟩
  have hl0 : left2 R (P 2) = 0 := by omega
  have hht := hcs.gi.ht
  have hno : ∀ d s t, P 2 = some (d, s) → ¬ holds s t := fun d s t e a => by
    rw [e] at hl0
    cases s with
    | q3 u => simp [left2] at hl0
    | q4 u x => simp [left2] at hl0
    | _ => exact a
  have hT : R.head = R.tail := by
    rcases e : P 2 with _ | ⟨d, s⟩
    · rw [e] at hl0; simp only [left2] at hl0; omega
    · rw [e] at hl0; cases s <;> simp only [left2] at hl0 <;> omega
  have nP : ∀ t, ¬ heldP P t := fun t ⟨q, v, s, e, a⟩ => by
    by_cases g : q = 2
    · subst g; exact hno _ _ _ e a
    · rw [ha.1 q g] at e; cases e
  have nT : ∀ t, ¬ heldT P t := fun t ⟨q, s, e, a⟩ => by
    by_cases g : q = 2
    · subst g; exact hno _ _ _ e a
    · rw [ha.1 q g] at e; cases e
  have G := hcs.gl
  have bnd : ∀ t p k, t < R.tail → p < 2 → k < 4294967296 → vo t = num p k → k ≤ nx p := fun t p k ht hp hk e => by
    obtain ⟨p', k', h1, _, h3, e'⟩ := G.vn t ht
    have := num_inj hk (by have := G.nb p'; omega) (e.symm.trans e')
    obtain ⟨rfl, rfl⟩ := this
    exact h3
  refine ⟨G.in_, G.itN, fun t => (G.itM t).trans ⟨fun z => z.1, fun z => ⟨z, nP t⟩⟩, G.tv, G.tI, fun t => ?_, G.tD, fun t ht => ?_, fun t u p k l h1 h2 hp hk hl e1 e2 => ?_⟩
  · rw [← G.tM t, hT]; exact ⟨fun z => ⟨z, nT t⟩, fun z => z.1⟩
  · obtain ⟨p, k, h1, h2, h3, h4⟩ := G.vn t ht
    exact ⟨p, k, h1, h2, by have := G.nb p; omega, h4⟩
  · exact G.vi t u p k l h1 h2 hp (bnd t p k (by omega) hp hk e1) (bnd u p l h2 hp hl e2) e1 e2
end
end Go.Proofs.Ytfhbgabblegecaa.Gt
