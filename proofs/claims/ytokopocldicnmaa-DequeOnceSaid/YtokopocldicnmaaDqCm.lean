/- A gang at a deque: the tales of run's loops. -/
import Derived.Test.YtokopocldicnmaaDqCi
namespace Go.Proofs.Ytokopocldicnmaa.Dq
open Go.RowKit
section
variable {w1 w w4 : World} {rg B base c gb tb K T X : Nat} {ow : Option OS} {th : Nat → Option OS}

theorem rk_le (s : OS) : rk s ≤ 6 := by cases s <;> simp [rk]
theorem GgE.on0 (h : GgE w1 w rg B base c gb tb K T X ow th) : ∀ s, ow = some s → s.isO = false := fun s e => by
  obtain ⟨L, t, f, ob, psh, nx, iv, ins, lost, most, h⟩ := h
  exact own_on (e ▸ h.di.own)
theorem GgE.onT (h : GgE w1 w rg B base c gb tb K T X ow th) {i : Nat} (hi : i < 2) : ∀ s, th i = some s → s.isO = false := fun s e => by
  obtain ⟨L, t, f, ob, psh, nx, iv, ins, lost, most, h⟩ := h
  exact th_on (h.di.th i s hi e)
theorem GgE.cap (h : GgE w1 w rg B base c gb tb K T X ow th) : X - T ≤ c := by
  obtain ⟨L, t, f, ob, psh, nx, iv, ins, lost, most, h⟩ := h
  have := h.di.cap; omega
theorem GgE.only (h : GgE w1 w rg B base c gb tb K T X ow th) : Only Nil w1 w := by
  obtain ⟨L, t, f, ob, psh, nx, iv, ins, lost, most, h⟩ := h
  exact h.gw.core.lw.only
theorem GgE.c0 (h : GgE w1 w rg B base c gb tb K T X ow th) : w.cell? ⟨gb, 0, none⟩ = some (.pointer (some ⟨rg, 0, none⟩)) := by
  obtain ⟨L, t, f, ob, psh, nx, iv, ins, lost, most, h⟩ := h
  exact (h.gw.cell 0 (by decide)).1
theorem GgE.c1n (h : GgE w1 w rg B base c gb tb K T X ow th) (e : ow = none) : w.cell? ⟨gb, 1, none⟩ = some (.pointer none) := by
  obtain ⟨L, t, f, ob, psh, nx, iv, ins, lost, most, h⟩ := h
  exact h.c1n e
theorem GgE.c1 (h : GgE w1 w rg B base c gb tb K T X ow th) {s : OS} (e : ow = some s) : ∃ b, w.cell? ⟨gb, 1, none⟩ = some (.pointer (some ⟨b, 0, none⟩)) := by
  obtain ⟨L, t, f, ob, psh, nx, iv, ins, lost, most, h⟩ := h
  exact ⟨_, h.c1 e⟩
theorem GgE.c6 (h : GgE w1 w rg B base c gb tb K T X ow th) : w.cell? ⟨gb, 6, none⟩ = some (.slice (some ⟨tb, 0, none⟩) 2 2) := by
  obtain ⟨L, t, f, ob, psh, nx, iv, ins, lost, most, h⟩ := h
  exact (h.gw.cell 6 (by decide)).1
theorem GgE.tcn (h : GgE w1 w rg B base c gb tb K T X ow th) {i : Nat} (hi : i < 2) (e : th i = none) : w.cell? ⟨tb, i, none⟩ = some (.pointer none) := by
  obtain ⟨L, t, f, ob, psh, nx, iv, ins, lost, most, h⟩ := h
  exact h.tcn hi e
theorem GgE.tcs (h : GgE w1 w rg B base c gb tb K T X ow th) {i : Nat} (hi : i < 2) {s : OS} (e : th i = some s) : ∃ b, w.cell? ⟨tb, i, none⟩ = some (.pointer (some ⟨b, 0, none⟩)) := by
  obtain ⟨L, t, f, ob, psh, nx, iv, ins, lost, most, h⟩ := h
  exact ⟨_, h.tcs hi e⟩

/-- step, of a thief. -/
theorem cown_steal {Q : World → Prop} {i : Nat} (hi : i < 2) (k : Calls Try.prog 51 #[.pointer (some ⟨gb, 0, none⟩), .int .i64 (i : Int)] w fun e w' => e = .returned (.tuple #[]) ∧ Hid (Q w')) :
    Calls Try.prog 50 #[.pointer (some ⟨gb, 0, none⟩), .int .i64 ((i : Int) + 2)] w fun e w' => e = .returned (.tuple #[]) ∧ Hid (Q w') := by
  have k' := Lib.hid k
  have i2 : (i : Int) < 2 := by omega
  have hs : IntKind.i64.wrap ((i : Int) + 2 - 2) = (i : Int) := by rw [IntKind.wrap_i64]; omega
  have hg : decide (1 < (i : Int) + 2) = true := by simp; omega
  clear k hi
  go_enter Try.func50, Try.ntmps50
  go_wp2_with (go_at_call 51; (with_reducible refine (k'.out).mono ?_); rintro e w4 ⟨rfl, k4⟩)
  (try simp only [Exit.inBlock, Exit.then])
  refine bodyPost_ret (results_none rfl _ _ _) rfl ?_
  exact ⟨rfl, k4⟩

/-- The first loop. -/
def M1 (w1 w : World) (rg B base c gb tb K : Nat) : Prop := ∃ T X ow th, GgE w1 w rg B base c gb tb K T X ow th
theorem M1.step (h : M1 w1 w rg B base c gb tb K) {p : Nat} (hp : p < 4) (hK : K + 2 ≤ 100000) :
    Calls Try.prog 50 #[.pointer (some ⟨gb, 0, none⟩), .int .i64 (p : Int)] w fun e w' => e = .returned (.tuple #[]) ∧ Hid (M1 w1 w' rg B base c gb tb (K + 2)) := by
  obtain ⟨T, X, ow, th, h⟩ := h
  by_cases g : p ≤ 1
  · refine (own_any h g hK).mono ?_
    rintro e w' ⟨rfl, k⟩
    obtain ⟨T', X', x, k, _⟩ := k.out
    exact ⟨rfl, Lib.hid ⟨_, _, _, _, k⟩⟩
  · obtain ⟨i, rfl⟩ : ∃ i, p = i + 2 := ⟨p - 2, by omega⟩
    have hi : i < 2 := by omega
    have := cown_steal (gb := gb) (Q := fun w' => M1 w1 w' rg B base c gb tb (K + 2)) hi ((steal_any h hi (by omega)).mono (by
      rintro e w' ⟨rfl, k⟩
      obtain ⟨T', x, k, _⟩ := k.out
      exact ⟨rfl, Lib.hid ⟨_, _, _, _, k.more (by omega) hK⟩⟩))
    rw [show (((i + 2 : Nat)) : Int) = (i : Int) + 2 by omega]
    exact this

/-- The second loop: how far each has come. -/
def M2 (w1 w : World) (rg B base c gb tb K : Nat) (ow : Option OS) (th : Nat → Option OS) (a b0 b1 : Nat) : Prop :=
  ∃ T X, GgE w1 w rg B base c gb tb K T X ow th ∧ (∀ s, ow = some s → rk s + a ≤ 6) ∧ (∀ s, th 0 = some s → rk s + b0 ≤ 6) ∧ (∀ s, th 1 = some s → rk s + b1 ≤ 6)
def M2E (w1 w : World) (rg B base c gb tb K a b0 b1 : Nat) : Prop := ∃ ow th, M2 w1 w rg B base c gb tb K ow th a b0 b1
theorem M1.start (h : M1 w1 w rg B base c gb tb K) : M2E w1 w rg B base c gb tb K 0 0 0 := by
  obtain ⟨T, X, ow, th, h⟩ := h
  exact ⟨_, _, _, _, h, fun s _ => rk_le s, fun s _ => rk_le s, fun s _ => rk_le s⟩
theorem M2.own {a b0 b1 : Nat} (h : M2 w1 w rg B base c gb tb K ow th a b0 b1) {s : OS} (e : ow = some s) (hK : K + 2 ≤ 100000) :
    Calls Try.prog 50 #[.pointer (some ⟨gb, 0, none⟩), .int .i64 1] w fun e w' => e = .returned (.tuple #[]) ∧ Hid (M2E w1 w' rg B base c gb tb (K + 2) (a + 1) b0 b1) := by
  obtain ⟨T, X, h, h1, h2, h3⟩ := h
  refine (own_any h (what := 1) (Nat.le_refl _) hK).mono ?_
  rintro e1 w' ⟨rfl, k⟩
  obtain ⟨T', X', x, k, o⟩ := k.out
  exact ⟨rfl, Lib.hid ⟨_, _, _, _, k, fun s' e' => by have := ((o.1 s e).1 s' e').1; have := h1 s e; omega, h2, h3⟩⟩
theorem M2.idle {a b0 b1 : Nat} (h : M2 w1 w rg B base c gb tb K ow th a b0 b1) (e : ow = none) (hK : K + 2 ≤ 100000) : M2E w1 w rg B base c gb tb (K + 2) (a + 1) b0 b1 := by
  obtain ⟨T, X, h, h1, h2, h3⟩ := h
  exact ⟨_, _, _, _, h.more (by omega) hK, fun s e' => by rw [e] at e'; simp at e', h2, h3⟩
theorem M2.steal {a b0 b1 i : Nat} (h : M2 w1 w rg B base c gb tb K ow th a b0 b1) (hi : i < 2) {s : OS} (e : th i = some s) (hK : K + 1 ≤ 100000) :
    Calls Try.prog 51 #[.pointer (some ⟨gb, 0, none⟩), .int .i64 (i : Int)] w fun e w' => e = .returned (.tuple #[]) ∧ Hid (M2E w1 w' rg B base c gb tb (K + 1) a (if i = 0 then b0 + 1 else b0) (if i = 1 then b1 + 1 else b1)) := by
  obtain ⟨T, X, h, h1, h2, h3⟩ := h
  refine (steal_any h hi hK).mono ?_
  rintro e1 w' ⟨rfl, k⟩
  obtain ⟨T', x, k, o⟩ := k.out
  refine ⟨rfl, Lib.hid ⟨_, _, _, _, k, h1, fun s' e' => ?_, fun s' e' => ?_⟩⟩
  · by_cases g : i = 0
    · subst g; rw [upd_same] at e'; have := o s s' e e'; have := h2 s e; rw [if_pos rfl]; omega
    · rw [upd_other _ _ _ _ (fun z => g z.symm)] at e'; rw [if_neg g]; exact h2 s' e'
  · by_cases g : i = 1
    · subst g; rw [upd_same] at e'; have := o s s' e e'; have := h3 s e; rw [if_pos rfl]; omega
    · rw [upd_other _ _ _ _ (fun z => g z.symm)] at e'; rw [if_neg g]; exact h3 s' e'
theorem M2.rest {a b0 b1 i : Nat} (h : M2 w1 w rg B base c gb tb K ow th a b0 b1) (hi : i < 2) (e : th i = none) (hK : K + 1 ≤ 100000) : M2E w1 w rg B base c gb tb (K + 1) a (if i = 0 then b0 + 1 else b0) (if i = 1 then b1 + 1 else b1) := by
  obtain ⟨T, X, h, h1, h2, h3⟩ := h
  refine ⟨_, _, _, _, h.more (by omega) hK, h1, fun s e' => ?_, fun s e' => ?_⟩
  · by_cases g : i = 0
    · subst g; rw [e] at e'; simp at e'
    · rw [if_neg g]; exact h2 s e'
  · by_cases g : i = 1
    · subst g; rw [e] at e'; simp at e'
    · rw [if_neg g]; exact h3 s e'

/-- The third and the fourth loop: the owner alone pops. -/
def M3 (w1 w : World) (rg B base c gb tb K : Nat) (ow : Option OS) (a b : Nat) : Prop :=
  ∃ T X th, GgE w1 w rg B base c gb tb K T X ow th ∧ (∀ i, i < 2 → th i = none) ∧ pushing ow = false ∧ mu T X ow ≤ 6 * c - a ∧ ∀ s, ow = some s → rk s + b ≤ 6
def M3E (w1 w : World) (rg B base c gb tb K a b : Nat) : Prop := ∃ ow, M3 w1 w rg B base c gb tb K ow a b
theorem M2E.start {a b0 b1 : Nat} (h : M2E w1 w rg B base c gb tb K a b0 b1) (ha : 6 ≤ a) (h0 : 6 ≤ b0) (h1 : 6 ≤ b1) : M3E w1 w rg B base c gb tb K 0 0 := by
  obtain ⟨ow, th, T, X, h, k1, k2, k3⟩ := h
  have e0 : ow = none := by
    rcases e : ow with _ | s
    · rfl
    · have := k1 s e; have := rk_pos (h.on0 s e); omega
  have e1 : th 0 = none := by
    rcases e : th 0 with _ | s
    · rfl
    · have := k2 s e; have := rk_pos (h.onT (by decide) s e); omega
  have e2 : th 1 = none := by
    rcases e : th 1 with _ | s
    · rfl
    · have := k3 s e; have := rk_pos (h.onT (by decide) s e); omega
  have hc := h.cap
  subst e0
  refine ⟨none, T, X, th, h, fun i hi => ?_, rfl, by simp only [mu]; omega, fun s e => by simp at e⟩
  match i, hi with
  | 0, _ => exact e1
  | 1, _ => exact e2
theorem M3.step {a b : Nat} (h : M3 w1 w rg B base c gb tb K ow a b) (hK : K + 2 ≤ 100000) :
    Calls Try.prog 50 #[.pointer (some ⟨gb, 0, none⟩), .int .i64 1] w fun e w' => e = .returned (.tuple #[]) ∧ Hid (∃ ow', M3 w1 w' rg B base c gb tb (K + 2) ow' (a + 1) 0 ∧ (∀ s, ow = some s → M3 w1 w' rg B base c gb tb (K + 2) ow' (a + 1) (b + 1))) := by
  obtain ⟨T, X, th, h, h1, h2, h3, h4⟩ := h
  refine (own_any h (what := 1) (Nat.le_refl _) hK).mono ?_
  rintro e1 w' ⟨rfl, k⟩
  obtain ⟨T', X', x, k, o⟩ := k.out
  have hpx : pushing x = false := by
    rcases e : ow with _ | s
    · rw [(o.2 e rfl).1]; rfl
    · rcases ex : x with _ | s'
      · rfl
      · rw [← ex, ((o.1 s e).1 s' ex).2, h2]
  have hmu : mu T' X' x ≤ 6 * c - (a + 1) := by
    rcases e : ow with _ | s
    · obtain ⟨ex, e2, e3⟩ := o.2 e rfl
      subst ex e2 e3
      rw [e] at h3
      simp only [mu] at h3 ⊢
      omega
    · have := (o.1 s e).2 h2; omega
  refine ⟨rfl, Lib.hid ⟨x, ⟨_, _, _, k, h1, hpx, hmu, fun s _ => rk_le s⟩, fun s e => ⟨_, _, _, k, h1, hpx, hmu, fun s' e' => ?_⟩⟩⟩
  have := ((o.1 s e).1 s' e').1
  have := h4 s e
  omega
/-- The end: nothing is under way, and nothing is in. -/
def Mend (w1 w : World) (rg B base c gb tb K : Nat) : Prop := ∃ T th, GgE w1 w rg B base c gb tb K T T none th ∧ (∀ i, i < 2 → th i = none)
theorem M3.fin {a b : Nat} (h : M3 w1 w rg B base c gb tb K none a b) (ha : 6 * c ≤ a) : Mend w1 w rg B base c gb tb K := by
  obtain ⟨T, X, th, h, h1, h2, h3, h4⟩ := h
  simp only [mu] at h3
  have hTX : T ≤ X := by obtain ⟨L, t, f, ob, psh, nx, iv, ins, lost, most, h⟩ := h; exact h.di.TX
  have : X = T := by omega
  subst this
  exact ⟨_, _, h, h1⟩
end

/-- A gang that is there, and has done nothing. -/
theorem fresh_top (c k : Nat) : (layL (zeros (2 + c)) 0 k).getD 0 0 = 1 ∧ (layL (zeros (2 + c)) 0 k).getD 1 0 = 1 := by
  induction k with
  | zero =>
    constructor
    · show (((zeros (2 + c)).set 0 1).set 1 1).getD 0 0 = 1
      rw [getD_set_ne _ _ (by omega), getD_set_eq _ _ (by rw [length_zeros]; omega)]
    · show (((zeros (2 + c)).set 0 1).set 1 1).getD 1 0 = 1
      rw [getD_set_eq _ _ (by rw [List.length_set, length_zeros]; omega)]
  | succ k ih =>
    constructor
    · show ((layL (zeros (2 + c)) 0 k).set _ _).getD 0 0 = 1
      rw [getD_set_ne _ _ (by omega)]; exact ih.1
    · show ((layL (zeros (2 + c)) 0 k).set _ _).getD 1 0 = 1
      rw [getD_set_ne _ _ (by omega)]; exact ih.2
theorem fresh_di (c : Nat) (hc : 0 < c) : DI c (fresh c) 1 1 (fun _ => 0) ((0 : Nat) : Int) none (fun _ => none) [] [] [] where
  pos := hc
  len := length_fresh c
  top := (fresh_top c c).1
  T1 := Nat.le_refl _
  TX := Nat.le_refl _
  cap := by omega
  slot := fun i h1 h2 => by omega
  asc := fun i j h1 h2 h3 => by omega
  own := (fresh_top c c).2
  perm := by simp [held, live]
  inr := fun v hv => by simp at hv
  inc := List.Pairwise.nil
  stl := List.Pairwise.nil
  sf := fun s hs => by simp at hs
  th := fun k s _ e => by simp at e
  hx := by omega
  n1 := ⟨by omega, fun q => by simp [pushing] at q⟩
theorem fresh_gang {w1 w : World} {rg B c gb tb : Nat} (hc : 0 < c) (hc2 : c ≤ 8)
    (gbh : w.heap[gb]? = some (.cells #[.pointer (some ⟨rg, 0, none⟩), .pointer none, .bool false, .int .u64 0, .slice none 0 0, .slice none 0 0, .slice (some ⟨tb, 0, none⟩) 2 2, .slice none 0 0, .int .i64 0, .int .i64 0] 32 (0, 0)))
    (l : Lw w1 w rg (B + 1) B 0 c (fresh c) (2 + (c : Int)))
    (tbh : w.heap[tb]? = some (.cells (rowC 2 fun _ => .pointer none) 27 (0, 0))) (g1 : w1.heap.size ≤ gb) (g2 : w1.heap.size ≤ tb) : ∃ base, M1 w1 w rg B base c gb tb 0 := by
  refine ⟨w.heap.size, 1, 1, none, fun _ => none, fresh c, 2 + (c : Int), fun _ => 0, fun _ => 0, false, 0, fun _ => .slice none 0 0, fun _ => [], 0, 0, ?_⟩
  have hp : ∀ p, poG none (fun _ => none) (fun _ => 0) p = none := fun p => by cases p <;> rfl
  exact ⟨⟨⟨l, fun p ob s _ e => by rw [hp] at e; simp at e, fun p q ob ob' s s' _ _ _ e => by rw [hp] at e; simp at e, fun p _ => World.ownsRow_nil _ _ _ _, fun p q k _ _ _ e => by simp [Value.ownBlock] at e, l.rng.mem.lt_rb, Nat.le_refl _, l.only.size⟩,
    gbh, tbh, g1, g2⟩, fresh_di c hc, fun s e => by simp at e, ⟨by omega, by omega⟩, ⟨by omega, by omega⟩, by omega, Nat.le_refl _, fun q => Nat.le_refl _, by omega, hc2, by omega⟩
end Go.Proofs.Ytokopocldicnmaa.Dq
