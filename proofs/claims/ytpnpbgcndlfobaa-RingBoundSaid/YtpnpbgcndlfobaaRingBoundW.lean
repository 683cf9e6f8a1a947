/- RingBound answers true for all numbers and every list of picks, and turns nothing that there was: the walk. -/
import Derived.Test.YtpnpbgcndlfobaaCrowdI
namespace Go.Proofs.Ytpnpbgcndlfobaa
open Go.RowKit

/-- A Put that is alone, in plain words. -/
theorem SysO.alone {c : Nat} {R : Rg} {ins : Nat → List Int} {taken : List Int} {cnt : Nat} (h : SysO c R (fun _ => none) none ins taken cnt pidc Qc) (hc : cnt < c) (v : Int) (hv : 0 ≤ v ∧ v < 4294967296) :
    R.turn (R.tail % c) = 2 * (R.tail / c) ∧ ∃ ins', SysO c ⟨R.tail + 1, R.head, upd R.turn (R.tail % c) (2 * (R.tail / c) + 1), upd R.val (R.tail % c) v⟩ (fun _ => none) none ins' taken (cnt + 1) pidc Qc := by
  have hs := (h.slot (fun q s v e => by simp at e)).2.2 hc
  refine ⟨hs, ?_⟩
  have hp : pidc v = 0 := by unfold pidc; omega
  have hq : Qc v := by unfold Qc; omega
  have u2 : ∀ (x y : Option (PS × Int)), upd (upd (fun _ => (none : Option (PS × Int))) 0 x) 0 y = upd (fun _ => none) 0 y := fun x y => by
    funext q; by_cases g : q = 0
    · subst g; rw [upd_same, upd_same]
    · rw [upd_other _ _ _ _ g, upd_other _ _ _ _ g, upd_other _ _ _ _ g]
  have b0 := h.begin (p := 0) rfl hp hq
  have b1 := b0.put (p := 0) (upd_same _ _ _)
  simp only [putStep, u2] at b1
  have b2 := b1.put (p := 0) (upd_same _ _ _)
  simp only [putStep, hs, Nat.lt_irrefl, if_false, u2] at b2
  have b3 := b2.put (p := 0) (upd_same _ _ _)
  simp only [putStep, if_true, u2] at b3
  have b4 := b3.put (p := 0) (upd_same _ _ _)
  simp only [putStep, u2] at b4
  have b5 := b4.put (p := 0) (upd_same _ _ _)
  simp only [putStep, u2] at b5
  have e : upd (fun _ => (none : Option (PS × Int))) 0 none = fun _ => none := by
    funext q; by_cases g : q = 0
    · subst g; rw [upd_same]
    · rw [upd_other _ _ _ _ g]
  rw [e] at b5
  exact ⟨_, b5⟩

/-- A ring behind a crowd, into which i more were put. -/
structure Bd (w1 w : World) (rg B c cb i : Nat) (L : List Int) (t : Int) (R : Rg) (ins : Nat → List Int) (taken : List Int) : Prop where
  lw : Lw w1 w rg (B + 1) B 0 c L t
  rl : RgL c 0 R L
  sys : SysO c R (fun _ => none) none ins taken (min i c) pidc Qc
  tl : R.tail ≤ 3000 + i
  tm : t ≤ 10000 + 5 * (i : Int)
  cc : w.cell? ⟨cb, 0, none⟩ = some (.pointer (some ⟨rg, 0, none⟩))
  lc : cb < w.heap.size
  n1 : cb ≠ B
  n2 : cb ≠ B + 1
theorem CrE.bd {w1 w : World} {rg B base c cb pb nb ib : Nat} {R : Rg} {P : Nat → Option (PS × Int)} {mo : Int} {ins : Nat → List Int} {taken : List Int} (h : CrE w1 w rg B base c cb pb nb ib 3000 R P none mo 0 ins taken) (hP : ∀ q, P q = none) :
    (∃ L t, Bd w1 w rg B c cb 0 L t R ins taken) ∧ w.cell? ⟨cb, 7, none⟩ = some (.int .i64 mo) ∧ w.cell? ⟨cb, 8, none⟩ = some (.int .i64 0) ∧ mo ≤ (c : Int) := by
  obtain ⟨L, t, ob, tb, nx, iv, st, ta, h⟩ := h
  have e : P = fun _ => none := funext hP
  subst e
  exact ⟨⟨L, t, h.cw.core.lw, h.rl, by rw [Nat.zero_min]; exact h.sys, by have := h.tl; omega, by have := h.tm; omega, h.cw.cells.1, lt_of_block h.cw.cbh, h.cw.apc.2.2.1, h.cw.apc.2.2.2.1⟩, h.cw.cells.2.2.2.2.2.2.2.1, h.cw.cells.2.2.2.2.2.2.2.2, h.mo2⟩
section
variable {w1 w w3 w4 : World} {rg B c cb i : Nat} {L L' : List Int} {t : Int} {R : Rg} {ins : Nat → List Int} {taken : List Int}
theorem Bd.keep (h : Bd w1 w rg B c cb i L t R ins taken) (o3 : Only Nil w w3) (o4 : Only (OB (B + 1) B w.heap.size) w3 w4) : w4.cell? ⟨cb, 0, none⟩ = some (.pointer (some ⟨rg, 0, none⟩)) ∧ cb < w4.heap.size := by
  have h3 : cb < w3.heap.size := Nat.lt_of_lt_of_le h.lc o3.size
  refine ⟨?_, Nat.lt_of_lt_of_le h3 o4.size⟩
  rw [World.cell?_of_block (a := ⟨cb, 0, none⟩) (o4.block cb h3 (fun z => ?_)), World.cell?_of_block (a := ⟨cb, 0, none⟩) (o3.block cb h.lc (fun z => z))]
  · exact h.cc
  · rcases z with (z | z) | z
    · exact h.n2 z
    · exact h.n1 z
    · have := h.lc; omega
theorem Bd.head (h : Bd w1 w rg B c cb i L t R ins taken) : R.head ≤ R.tail := h.sys.head_le.1
/-- One more goes in. -/
theorem Bd.goes (h : Bd w1 w rg B c cb i L t R ins taken) (hi : i < c) (hi2 : i ≤ 20) : ∃ L', Runs 0 c 5 L (.put0 (i : Int)) L' (.over 1 0 R.tail) ∧
    ∀ w3 w4, Lw w1 w4 rg (B + 1) B 0 c L' (t + 5) → Only Nil w w3 → Only (OB (B + 1) B w.heap.size) w3 w4 → ∃ R' ins', Bd w1 w4 rg B c cb (i + 1) L' (t + 5) R' ins' taken := by
  have hm : min i c = i := by omega
  have hs := h.sys
  rw [hm] at hs
  have htl := h.tl
  have hhd := h.head
  obtain ⟨e, ins', s'⟩ := hs.alone hi (i : Int) (by omega)
  obtain ⟨L', r, rl⟩ := run_put h.rl h.lw.rng.pc (by omega) (by omega) (i : Int) e
  refine ⟨L', r, fun w3 w4 l o3 o4 => ⟨_, ins', ⟨l, rl, by rw [show min (i + 1) c = i + 1 by omega]; exact s', by simp only; omega, by have := h.tm; omega, (h.keep o3 o4).1, (h.keep o3 o4).2, h.n1, h.n2⟩⟩⟩
/-- No more goes in. -/
theorem Bd.stays (h : Bd w1 w rg B c cb i L t R ins taken) (hi : ¬ i < c) (hi2 : i ≤ 20) : Runs 0 c 2 L (.put0 (i : Int)) L (.over 2 0 0) ∧
    ∀ w3 w4, Lw w1 w4 rg (B + 1) B 0 c L (t + 2) → Only Nil w w3 → Only (OB (B + 1) B w.heap.size) w3 w4 → ∃ R' ins', Bd w1 w4 rg B c cb (i + 1) L (t + 2) R' ins' taken := by
  have hm : min i c = c := by omega
  have hs := h.sys
  rw [hm] at hs
  have htl := h.tl
  have hhd := h.head
  obtain ⟨e1, e2⟩ := hs.slot (fun q s v e => by simp at e)
  have e : R.turn (R.tail % c) < 2 * (R.tail / c) := by
    rcases Nat.lt_or_ge (R.turn (R.tail % c)) (2 * (R.tail / c)) with g | g
    · exact g
    · have := e2.1 (by omega); omega
  exact ⟨run_full h.rl h.lw.rng.pc (by omega) (by omega) (i : Int) e, fun w3 w4 l o3 o4 => ⟨R, ins, ⟨l, h.rl, by rw [show min (i + 1) c = c by omega]; exact hs, by omega, by have := h.tm; omega, (h.keep o3 o4).1, (h.keep o3 o4).2, h.n1, h.n2⟩⟩⟩
end

set_option maxRecDepth 100000 in
set_option maxHeartbeats 16000000 in
theorem bound_walk (k fl : Int) (a : Option Addr) (cap : Nat) (V : List Int) (c m : Nat) (w : World) (hc : 1 ≤ c ∧ c ≤ 8) (e1 : 1 + k % 8 = (c : Int)) (hk : 0 ≤ k ∧ k < 256) (hf : 0 ≤ fl ∧ fl < 256) (em : fl % 12 = (m : Int)) (hV : RowK .u8 w a V) (hu : ∀ j, 0 ≤ V.getD j 0 ∧ V.getD j 0 < 256) (hr : V.length * 1 ≤ 140737488351232) :
    Calls Try.prog 6 #[.int .u8 k, .slice a V.length cap, .int .u8 fl] w fun e w' => e = .returned (.bool true) ∧ Below w.heap.size w w' := by
  have rn := Lib.hid (fun w1 (o : Only Nil w w1) => run_walk c (by omega) hc.2 a cap V w1 (hV.keep o) hu hr)
  rw [← e1] at rn
  obtain ⟨x1, x2⟩ := hk
  obtain ⟨y1, y2⟩ := hf
  have e1' := Lib.hid e1
  have hc' := Lib.hid hc
  have em' := Lib.hid em
  have c8 : (c : Int) ≤ 8 := by omega
  have hm := Lib.hid (show m < 12 by omega)
  have wf : IntKind.i64.wrap fl = fl := IntWalk.i64_in _ (by omega)
  clear hc e1 hV hu em
  generalize V.length = len at hr rn ⊢
  go_enter Try.func6, Try.ntmps6
  go_wp2_with (first
    | (go_at_call 10; (with_reducible refine (alive_any _).mono ?_); rintro e w1 ⟨rfl, o1⟩)
    | (go_at_call 27; (with_reducible refine (rn.out _ o1).mono ?_); rintro e w2 ⟨cb, rfl, k2⟩; obtain ⟨rg, B, base, pb, nb, ib, R, P, mo, ins, taken, C2, hP, hins⟩ := k2.out; obtain ⟨⟨L0, t0, D0⟩, z7, z8, hmo⟩ := C2.bd hP; have g1 : decide (1 + k % 8 < mo) = false := by have := e1'.out; simp; omega))
  have ow := Lib.hid o1
  have D0' := Lib.hid D0
  rw [e1'.out]
  clear k2 C2 hP hins D0 o1 rn z7 z8 g1
  generalize w2 = W2 at D0' ⊢
  go_loopw [9] (fun s9 wr => ∃ i : Nat, i ≤ m ∧ s9 = .int .i64 (i : Int) ∧ Hid (∃ L t R ins, Bd w1 wr rg B c cb i L t R ins taken))
    (fun s9 _ => m - (intOf s9).toNat)
  case atStart => exact ⟨0, Nat.zero_le _, rfl, Lib.hid ⟨_, _, _, _, D0'.out⟩⟩
  case round =>
    obtain ⟨i, hi, rfl, hh⟩ := hrel
    obtain ⟨L, t, R2, ins2, D⟩ := hh.out
    have cc := D.cc
    by_cases him : i < m
    · have g0 : (i : Int) < fl % 12 := by have := em'.out; omega
      have ek : IntKind.u64.wrap (i : Int) = (i : Int) := by rw [IntKind.wrap_u64]; omega
      have pp := Lib.hid (D.lw.put (i : Int))
      have hi2 := Lib.hid him
      by_cases hic : i < c
      · have g2 : decide ((i : Int) < (c : Int)) = true := by simp; omega
        have g3 : decide ((c : Int) ≤ (i : Int)) = false := by simp; omega
        have g2' : decide (i < c) = true := by simp; omega
        have g3' : decide (c ≤ i) = false := by simp; omega
        obtain ⟨L', r, nxt⟩ := D.goes hic (by have := hm.out; omega)
        have nxt' := Lib.hid nxt
        have dd := Lib.hid (fun (w9 : World) (ob : Nat) (l : Lw w1 w9 rg (B + 1) B 0 c L t) (q : Op1 w1 w9 ob rg (B + 1) B (.put0 (i : Int))) => (l.done q r (by decide) (by have := D.tm; have := hm.out; omega)).mono (R' := fun e w' => e = .returned (.tuple #[.int .i64 1, .int .u64 0, .int .i64 5]) ∧ Lw w1 w' rg (B + 1) B 0 c L' (t + 5) ∧ Only (OB (B + 1) B ob) w9 w') (fun e w' hh => ⟨hh.1, hh.2.1, hh.2.2.2⟩))
        clear D hh hi him hic r nxt
        go_wp2_with (first
          | (go_at_call 29; (with_reducible refine (pp.out).mono ?_); rintro e w3 ⟨rfl, l3, q3, o3, z3⟩)
          | (go_at_call 28; (with_reducible refine (dd.out _ _ l3 q3).mono ?_); rintro e w4 ⟨rfl, l4, o4⟩))
        have nx := Lib.hid (nxt'.out _ _ l4 o3 o4)
        go_roundw
        case rel => exact ⟨i + 1, by have := hi2.out; omega, by go_num, Lib.hid (by obtain ⟨R', ins', d⟩ := nx.out; exact ⟨_, _, R', ins', d⟩)⟩
        case measure => have := hi2.out; simp [intOf]; omega
      · have g2 : decide ((i : Int) < (c : Int)) = false := by simp; omega
        have g3 : decide ((c : Int) ≤ (i : Int)) = true := by simp; omega
        have g2' : decide (i < c) = false := by simp; omega
        have g3' : decide (c ≤ i) = true := by simp; omega
        obtain ⟨r, nxt⟩ := D.stays hic (by have := hm.out; omega)
        have nxt' := Lib.hid nxt
        have dd := Lib.hid (fun (w9 : World) (ob : Nat) (l : Lw w1 w9 rg (B + 1) B 0 c L t) (q : Op1 w1 w9 ob rg (B + 1) B (.put0 (i : Int))) => (l.done q r (by decide) (by have := D.tm; have := hm.out; omega)).mono (R' := fun e w' => e = .returned (.tuple #[.int .i64 2, .int .u64 0, .int .i64 2]) ∧ Lw w1 w' rg (B + 1) B 0 c L (t + 2) ∧ Only (OB (B + 1) B ob) w9 w') (fun e w' hh => ⟨hh.1, hh.2.1, hh.2.2.2⟩))
        clear D hh hi him hic r nxt
        go_wp2_with (first
          | (go_at_call 29; (with_reducible refine (pp.out).mono ?_); rintro e w3 ⟨rfl, l3, q3, o3, z3⟩)
          | (go_at_call 28; (with_reducible refine (dd.out _ _ l3 q3).mono ?_); rintro e w4 ⟨rfl, l4, o4⟩))
        have nx := Lib.hid (nxt'.out _ _ l4 o3 o4)
        go_roundw
        case rel => exact ⟨i + 1, by have := hi2.out; omega, by go_num, Lib.hid (by obtain ⟨R', ins', d⟩ := nx.out; exact ⟨_, _, R', ins', d⟩)⟩
        case measure => have := hi2.out; simp [intOf]; omega
    · have g0 : ¬ ((i : Int) < fl % 12) := by have := em'.out; omega
      have D' := Lib.hid D
      clear D hh hi him cc
      go_wp2
      go_ret
      exact ⟨rfl, (ow.out.trans D'.out.lw.only).below (Nat.le_refl _) (fun _ h => h.elim)⟩

theorem bound_all (k fl : Int) (a : Option Addr) (cap : Nat) (V : List Int) (w : World) (hk : 0 ≤ k ∧ k < 256) (hf : 0 ≤ fl ∧ fl < 256) (hV : RowK .u8 w a V) (hu : ∀ n ∈ V, (Lit.int .u8 n).wf = true) (hr : V.length * 1 ≤ 140737488351232) :
    Calls Try.prog 6 #[.int .u8 k, .slice a V.length cap, .int .u8 fl] w fun e w' => e = .returned (.bool true) ∧ Below w.heap.size w w' :=
  bound_walk k fl a cap V (1 + k % 8).toNat (fl % 12).toNat w (by omega) (by omega) hk hf (by omega) hV (u8s_of_wf hu) hr
end Go.Proofs.Ytpnpbgcndlfobaa
