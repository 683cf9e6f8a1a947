/- A crowd: what a step of who takes does. -/
import Derived.Test.YtpnpbgcndlfobaaCrowdC
namespace Go.Proofs.Ytpnpbgcndlfobaa
open Go.RowKit
/-- How many are in behind a step of the Take. -/
def cntT (s : TS) (cnt : Nat) : Nat := match s with
  | .t3 _ _ => cnt - 1
  | _ => cnt
theorem takeStep_tail (c : Nat) (R : Rg) (s : TS) : (takeStep c R s).1.tail = R.tail := by
  cases s <;> simp only [takeStep] <;> (try split) <;> rfl
theorem takeStep_idx {c : Nat} {R R' : Rg} {s s' : TS} (e : takeStep c R s = (R', .on s')) : idx s' = idx s + 1 := by
  cases s <;> simp only [takeStep] at e
  case t0 => simp only [Prod.mk.injEq, TR.on.injEq] at e; rw [← e.2]; rfl
  case t1 h =>
    split at e
    · simp only [Prod.mk.injEq, TR.on.injEq] at e; rw [← e.2]; rfl
    · simp at e
  case t2 h => simp only [Prod.mk.injEq, TR.on.injEq] at e; rw [← e.2]; rfl
  case t3 h x => simp only [Prod.mk.injEq, TR.on.injEq] at e; rw [← e.2]; rfl
  case t4 h x => simp at e
theorem takeStep_none {c : Nat} {R R' : Rg} {s : TS} (e : takeStep c R s = (R', .none)) : R' = R := by
  cases s <;> simp only [takeStep] at e
  case t1 h =>
    split at e
    · simp at e
    · simp only [Prod.mk.injEq] at e; exact e.1.symm
  all_goals simp at e
theorem idx_bound (s : TS) : 0 ≤ idx s ∧ idx s ≤ 4 := by cases s <;> simp [idx]
section
variable {w1 w w4 : World} {rg B base c cb pb nb ib K : Nat} {L : List Int} {t : Int} {R : Rg} {P : Nat → Option (PS × Int)} {T : Option TS} {ob : Nat → Nat} {tb : Nat} {nx : Nat → Int} {iv : Nat → Value} {st : Int} {ta : Value} {mo : Int} {cnt : Nat} {ins : Nat → List Int} {taken : List Int}

theorem toOf_some (s : TS) (tb : Nat) : toOf (some s) tb = some (tb, osT s) := rfl
/-- The step of who takes. -/
theorem Cr.stepK {s : TS} (h : Cr w1 w rg B base c cb pb nb ib K L t R P (some s) ob tb nx iv st ta mo cnt ins taken) (y : Int) (w2 : World) (hw2 : Cw w1 w2 rg B base c cb pb nb ib L t (poOf P ob) (toOf (some s) tb) nx iv y ta mo (cnt : Int) ins taken) {R' : Rg} {r : TR} (er : takeStep c R s = (R', r)) :
    Calls Try.prog 18 #[.pointer (some ⟨tb, 0, none⟩)] w2 fun e w' =>
      e = .returned (.bool (osTR r).isO) ∧ Hid (∃ L' , RgL c 0 R' L' ∧ Op1 w1 w' tb rg (B + 1) B (osTR r) ∧ Cw w1 w' rg B base c cb pb nb ib L' (t + 1) (poOf P ob) (some (tb, osTR r)) nx iv y ta mo (cnt : Int) ins taken) := by
  have hop := hw2.core.tk tb (osT s) rfl
  obtain ⟨rl', es⟩ := link_take h.rl h.hc s
  rw [er] at rl' es
  refine (hw2.core.lw.step hop h.nums (by have := h.tm; have := h.kb; omega)).mono ?_
  rintro e5 w5 ⟨rfl, l5, q5, o5⟩
  have et : stepT (osT s) t = t + 1 := by unfold stepT; rw [osT_isO]; rfl
  rw [et] at l5
  rw [es] at q5 ⊢
  exact ⟨rfl, Lib.hid ⟨_, rl', q5, hw2.stepT rfl l5 q5 o5⟩⟩
theorem Cr.onT {s s' : TS} (h : Cr w1 w rg B base c cb pb nb ib K L t R P (some s) ob tb nx iv st ta mo cnt ins taken) {R' : Rg} (er : takeStep c R s = (R', .on s')) (hK : K + 1 ≤ 100000) {L' : List Int} (rl : RgL c 0 R' L')
    (k : Cw w1 w4 rg B base c cb pb nb ib L' (t + 1) (poOf P ob) (some (tb, osT s')) nx iv (st + 1) ta mo (cntT s cnt : Int) ins taken) :
    Cr w1 w4 rg B base c cb pb nb ib (K + 1) L' (t + 1) R' P (some s') ob tb nx iv (st + 1) ta mo (cntT s cnt) ins taken := by
  have hs := h.sys.takeS
  rw [er] at hs
  have hs1 : SysO c R' P (some s') ins taken (cntT s cnt) pidc Qc := by
    have := hs.1
    unfold cntT
    cases s <;> exact this
  have htl := takeStep_tail c R s
  rw [er] at htl
  have hi := takeStep_idx er
  have h3 := h.ti s rfl
  have hb := idx_bound s'
  have hle : cntT s cnt ≤ cnt := by unfold cntT; cases s <;> simp
  refine ⟨k, rl, hs1, by have := h.tl; simp only at htl; omega, by have := h.tm; omega, fun q hq => ⟨(h.nxb q hq).1, by have := (h.nxb q hq).2; omega⟩, h.pv, ?_, by have := h.mo1; omega, h.mo2, h.hc, h.hc2, hK, by omega, by omega⟩
  intro s2 e2
  simp at e2; rw [← e2]; omega
theorem Cr.noneT {s : TS} (h : Cr w1 w rg B base c cb pb nb ib K L t R P (some s) ob tb nx iv st ta mo cnt ins taken) {R' : Rg} (er : takeStep c R s = (R', .none)) (hK : K + 1 ≤ 100000) {L' : List Int} (rl : RgL c 0 R' L')
    (k : Cw w1 w4 rg B base c cb pb nb ib L' (t + 1) (poOf P ob) none nx iv (st + 1) ta mo (cnt : Int) ins taken) :
    Cr w1 w4 rg B base c cb pb nb ib (K + 1) L' (t + 1) R P none ob tb nx iv (st + 1) ta mo cnt ins taken ∧ ((∀ q, P q = none) → cnt = 0 ∧ R.tail = R.head ∧ ∀ q, ins q = taken.filter fun x => decide (pidc x = q)) := by
  have hs := h.sys.takeS
  rw [er] at hs
  have hR := takeStep_none er
  subst hR
  have h3 := h.ti s rfl
  have hb := idx_bound s
  exact ⟨⟨k, rl, hs.1, by have := h.tl; omega, by have := h.tm; omega, fun q hq => ⟨(h.nxb q hq).1, by have := (h.nxb q hq).2; omega⟩, h.pv, fun s2 e2 => by simp at e2, h.mo1, h.mo2, h.hc, h.hc2, hK, by omega, by omega⟩, hs.2⟩
theorem Cr.doneT {s : TS} (h : Cr w1 w rg B base c cb pb nb ib K L t R P (some s) ob tb nx iv st ta mo cnt ins taken) {R' : Rg} {x : Int} (er : takeStep c R s = (R', .done x)) (hK : K + 1 ≤ 100000) {L' : List Int} (rl : RgL c 0 R' L') {ta' : Value}
    (k : Cw w1 w4 rg B base c cb pb nb ib L' (t + 1) (poOf P ob) none nx iv (st + 1) ta' mo (cnt : Int) ins (taken ++ [x])) :
    Cr w1 w4 rg B base c cb pb nb ib (K + 1) L' (t + 1) R' P none ob tb nx iv (st + 1) ta' mo cnt ins (taken ++ [x]) := by
  have hs := h.sys.takeS
  rw [er] at hs
  have htl := takeStep_tail c R s
  rw [er] at htl
  have h3 := h.ti s rfl
  have hb := idx_bound s
  exact ⟨k, rl, hs, by have := h.tl; simp only at htl; omega, by have := h.tm; omega, fun q hq => ⟨(h.nxb q hq).1, by have := (h.nxb q hq).2; omega⟩, h.pv, fun s2 e2 => by simp at e2, h.mo1, h.mo2, h.hc, h.hc2, hK, by omega, by omega⟩
theorem Cr.beginT (h : Cr w1 w rg B base c cb pb nb ib K L t R P none ob tb nx iv st ta mo cnt ins taken) {n : Nat}
    (k : Cw w1 w4 rg B base c cb pb nb ib L t (poOf P ob) (some (n, .take0)) nx iv 0 ta mo (cnt : Int) ins taken) :
    Cr w1 w4 rg B base c cb pb nb ib K L t R P (some .t0) ob n nx iv 0 ta mo cnt ins taken :=
  ⟨k, h.rl, h.sys.beginT, h.tl, h.tm, h.nxb, h.pv, fun s2 e2 => by simp at e2; rw [← e2]; rfl, h.mo1, h.mo2, h.hc, h.hc2, h.kb, by omega, by omega⟩

set_option maxHeartbeats 4000000 in
theorem out_on {s s' : TS} (h : Cr w1 w rg B base c cb pb nb ib K L t R P (some s) ob tb nx iv st ta mo cnt ins taken) {R' : Rg} (er : takeStep c R s = (R', .on s')) (hK : K + 1 ≤ 100000) (h3 : idx s ≠ 3) :
    Calls Try.prog 50 #[.pointer (some ⟨cb, 0, none⟩)] w fun e w' => e = .returned (.bool false) ∧ Hid (∃ L' : List Int, Cr w1 w' rg B base c cb pb nb ib (K + 1) L' (t + 1) R' P (some s') ob tb nx iv (st + 1) ta mo (cntT s cnt) ins taken) := by
  have h' := Lib.hid h
  have er' := Lib.hid er
  have s0 := h.st0
  have s1 := h.st1
  have sp := Lib.hid (fun w2 (k : Cw w1 w2 rg B base c cb pb nb ib L t (poOf P ob) (toOf (some s) tb) nx iv (st + 1) ta mo (cnt : Int) ins taken) => h.stepK (st + 1) w2 k er)
  rw [show (osTR (TR.on s')).isO = false from osT_isO s'] at sp
  have m1 := Lib.hid (h.cw.setSt (st + 1))
  obtain ⟨c0, c1, c2, c3, c4, c5, c6, c7, c8⟩ := h.cw.cells
  obtain ⟨f4, f5, f6, f7, f8⟩ := h.cw.frees
  simp only [toOf, opv] at c4
  have g4 := m1.out.cells.2.2.2.2.1
  have g5 := m1.out.cells.2.2.2.2.2.1
  simp only [toOf, opv] at g4
  have hc3 : cntT s cnt = cnt := by unfold cntT; cases s <;> first | rfl | exact absurd rfl h3
  have h4 : ((st + 1) == 4) = false := by have := h.ti s rfl; simp; omega
  clear h er
  go_enter Try.func50, Try.ntmps50
  go_wp2_with (go_at_call 18; (with_reducible refine (sp.out _ m1.out).mono ?_); rintro e w4 ⟨rfl, k4⟩; obtain ⟨L4, rl4, q4, m4⟩ := k4.out; clear c0 c1 c2 c3 c4 c5 c6 c7 c8 f4 f5 f6 f7 f8 g4 g5; obtain ⟨c0, c1, c2, c3, c4, c5, c6, c7, c8⟩ := m4.cells; obtain ⟨f4, f5, f6, f7, f8⟩ := m4.frees; simp only [opv] at c4)
  go_ret
  exact ⟨rfl, Lib.hid ⟨L4, h'.out.onT er'.out hK rl4 (by rw [hc3]; exact m4)⟩⟩

set_option maxHeartbeats 4000000 in
theorem out_free {s s' : TS} (h : Cr w1 w rg B base c cb pb nb ib K L t R P (some s) ob tb nx iv st ta mo cnt ins taken) {R' : Rg} (er : takeStep c R s = (R', .on s')) (hK : K + 1 ≤ 100000) (h3 : idx s = 3) :
    Calls Try.prog 50 #[.pointer (some ⟨cb, 0, none⟩)] w fun e w' => e = .returned (.bool false) ∧ Hid (∃ L' : List Int, Cr w1 w' rg B base c cb pb nb ib (K + 1) L' (t + 1) R' P (some s') ob tb nx iv (st + 1) ta mo (cntT s cnt) ins taken) := by
  have hc1 : 1 ≤ cnt ∧ cntT s cnt = cnt - 1 := by
    have hs := h.sys.takeS
    rw [er] at hs
    have := hs.2
    cases s <;> simp only [idx] at h3
    all_goals first | omega | exact ⟨this, rfl⟩
  have hc4 : ((cntT s cnt : Nat) : Int) = (cnt : Int) - 1 := by omega
  have hc2 : (cnt : Int) ≤ 8 := by have := h.mo1; have := h.mo2; have := h.hc2; omega
  have hc0 : (1 : Int) ≤ (cnt : Int) := by omega
  have h' := Lib.hid h
  have er' := Lib.hid er
  have s0 := h.st0
  have s1 := h.st1
  have sp := Lib.hid (fun w2 (k : Cw w1 w2 rg B base c cb pb nb ib L t (poOf P ob) (toOf (some s) tb) nx iv (st + 1) ta mo (cnt : Int) ins taken) => h.stepK (st + 1) w2 k er)
  rw [show (osTR (TR.on s')).isO = false from osT_isO s'] at sp
  have m1 := Lib.hid (h.cw.setSt (st + 1))
  obtain ⟨c0, c1, c2, c3, c4, c5, c6, c7, c8⟩ := h.cw.cells
  obtain ⟨f4, f5, f6, f7, f8⟩ := h.cw.frees
  simp only [toOf, opv] at c4
  have g4 := m1.out.cells.2.2.2.2.1
  have g5 := m1.out.cells.2.2.2.2.2.1
  simp only [toOf, opv] at g4
  have h4 : ((st + 1) == 4) = true := by have := h.ti s rfl; simp; omega
  clear h er hc1
  go_enter Try.func50, Try.ntmps50
  go_wp2_with (go_at_call 18; (with_reducible refine (sp.out _ m1.out).mono ?_); rintro e w4 ⟨rfl, k4⟩; obtain ⟨L4, rl4, q4, m4⟩ := k4.out; clear c0 c1 c2 c3 c4 c5 c6 c7 c8 f4 f5 f6 f7 f8 g4 g5; obtain ⟨c0, c1, c2, c3, c4, c5, c6, c7, c8⟩ := m4.cells; obtain ⟨f4, f5, f6, f7, f8⟩ := m4.frees; simp only [opv] at c4)
  go_ret
  have m5 := m4.setCt ((cnt : Int) - 1)
  exact ⟨rfl, Lib.hid ⟨L4, h'.out.onT er'.out hK rl4 (by rw [hc4]; exact m5)⟩⟩

set_option maxHeartbeats 4000000 in
theorem out_none {s : TS} (h : Cr w1 w rg B base c cb pb nb ib K L t R P (some s) ob tb nx iv st ta mo cnt ins taken) {R' : Rg} (er : takeStep c R s = (R', .none)) (hK : K + 1 ≤ 100000) :
    Calls Try.prog 50 #[.pointer (some ⟨cb, 0, none⟩)] w fun e w' => e = .returned (.bool true) ∧ Hid (∃ L' : List Int, Cr w1 w' rg B base c cb pb nb ib (K + 1) L' (t + 1) R P none ob tb nx iv (st + 1) ta mo cnt ins taken ∧ ((∀ q, P q = none) → cnt = 0 ∧ R.tail = R.head ∧ ∀ q, ins q = taken.filter fun x => decide (pidc x = q))) := by
  have h' := Lib.hid h
  have er' := Lib.hid er
  have s0 := h.st0
  have s1 := h.st1
  have sp := Lib.hid (fun w2 (k : Cw w1 w2 rg B base c cb pb nb ib L t (poOf P ob) (toOf (some s) tb) nx iv (st + 1) ta mo (cnt : Int) ins taken) => h.stepK (st + 1) w2 k er)
  rw [show (osTR TR.none).isO = true from rfl] at sp
  have m1 := Lib.hid (h.cw.setSt (st + 1))
  obtain ⟨c0, c1, c2, c3, c4, c5, c6, c7, c8⟩ := h.cw.cells
  obtain ⟨f4, f5, f6, f7, f8⟩ := h.cw.frees
  simp only [toOf, opv] at c4
  have g4 := m1.out.cells.2.2.2.2.1
  have g5 := m1.out.cells.2.2.2.2.2.1
  simp only [toOf, opv] at g4
  clear h er
  go_enter Try.func50, Try.ntmps50
  go_wp2_with (first
    | (go_at_call 18; (with_reducible refine (sp.out _ m1.out).mono ?_); rintro e w4 ⟨rfl, k4⟩; obtain ⟨L4, rl4, q4, m4⟩ := k4.out; clear c0 c1 c2 c3 c4 c5 c6 c7 c8 f4 f5 f6 f7 f8 g4 g5; obtain ⟨c0, c1, c2, c3, c4, c5, c6, c7, c8⟩ := m4.cells; obtain ⟨f4, f5, f6, f7, f8⟩ := m4.frees; simp only [opv] at c4; have oc := Lib.hid (show Calls Try.prog 35 #[.pointer (some ⟨tb, 0, none⟩)] w4 (fun e w' => e = .returned (.int .i64 4) ∧ w4 = w') from outcomeO q4.op))
    | (go_at_call 35; (with_reducible refine (oc.out).mono ?_); rintro e w5 ⟨rfl, rfl⟩))
  go_ret
  have m5 := m4.dropT
  exact ⟨rfl, Lib.hid ⟨L4, h'.out.noneT er'.out hK rl4 m5⟩⟩

set_option maxHeartbeats 4000000 in
theorem out_new (h : Cr w1 w rg B base c cb pb nb ib K L t R P none ob tb nx iv st ta mo cnt ins taken) (hK : K + 1 ≤ 100000) :
    Calls Try.prog 50 #[.pointer (some ⟨cb, 0, none⟩)] w fun e w' => e = .returned (.bool false) ∧ Hid (∃ (L' : List Int) (tb' : Nat), Cr w1 w' rg B base c cb pb nb ib (K + 1) L' (t + 1) R P (some (.t1 R.head)) ob tb' nx iv 1 ta mo cnt ins taken) := by
  have h' := Lib.hid h
  have pp := Lib.hid h.cw.core.lw.take
  obtain ⟨c0, c1, c2, c3, c4, c5, c6, c7, c8⟩ := h.cw.cells
  obtain ⟨f4, f5, f6, f7, f8⟩ := h.cw.frees
  simp only [toOf, opv] at c4
  clear h
  go_enter Try.func50, Try.ntmps50
  go_wp2_with (first
    | (go_at_call 33; (with_reducible refine (pp.out).mono ?_); rintro e w3 ⟨rfl, l3, q3, o3, z3⟩; have m3 := h'.out.cw.nil o3; clear c0 c1 c2 c3 c4 c5 c6 c7 c8 f4 f5 f6 f7 f8; obtain ⟨c0, c1, c2, c3, c4, c5, c6, c7, c8⟩ := m3.cells; obtain ⟨f4, f5, f6, f7, f8⟩ := m3.frees; simp only [toOf, opv] at c4)
    | (go_at_call 18; have r4 := h'.out.beginT ((h'.out.cw.beginT q3 o3).setSt 0); refine (r4.stepK 1 _ (r4.cw.setSt 1) (R' := R) (r := .on (.t1 R.head)) rfl).mono ?_; rintro e w6 ⟨rfl, k6⟩; obtain ⟨L6, rl6, q6, m6⟩ := k6.out; clear c0 c1 c2 c3 c4 c5 c6 c7 c8 f4 f5 f6 f7 f8; obtain ⟨c0, c1, c2, c3, c4, c5, c6, c7, c8⟩ := m6.cells; obtain ⟨f4, f5, f6, f7, f8⟩ := m6.frees; have hb : (osTR (.on (.t1 R.head))).isO = false := rfl))
  go_ret
  exact ⟨rfl, Lib.hid ⟨L6, _, r4.onT (R' := R) (s' := .t1 R.head) rfl hK rl6 m6⟩⟩
end
end Go.Proofs.Ytpnpbgcndlfobaa
