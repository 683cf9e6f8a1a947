/- One step of an operation of the ring, wherever it stands: one contract. -/
import Derived.Test.YtmkcmncbiancgaaRingS
namespace Go.Proofs.Ytmkcmncbiancgaa
open Go.RowKit

/-- What the operation tells: its outcome, value, ticket. -/
def OS.o : OS → Int
  | .over o _ _ => (o : Int)
  | _ => 0
def OS.x : OS → Int
  | .over _ x _ => x
  | _ => 0
def OS.k : OS → Int
  | .over _ _ t => (t : Int)
  | _ => 0

/-- What its cells hold, where it stands so. -/
def Stands (ob : Nat) : OS → Value → Int → Int → Prop
  | .put0 v, nx, _, y => nx = mv 78 ob ∧ y = v
  | .put1 v t, nx, a, y => nx = mv 92 ob ∧ a = (t : Int) ∧ y = v
  | .put2 v t, nx, a, y => nx = mv 99 ob ∧ a = (t : Int) ∧ y = v
  | .put3 v t, nx, a, y => nx = mv 102 ob ∧ a = (t : Int) ∧ y = v
  | .put4 v t, nx, a, y => nx = mv 104 ob ∧ a = (t : Int) ∧ y = v
  | .take0, nx, _, _ => nx = mv 82 ob
  | .look0, nx, _, _ => nx = mv 87 ob
  | .drain0, nx, _, _ => nx = mv 86 ob
  | .drain1 t, nx, _, y => nx = mv 95 ob ∧ y = (t : Int)
  | .turn false h, nx, a, _ => nx = mv 93 ob ∧ a = (h : Int)
  | .turn true h, nx, a, _ => nx = mv 96 ob ∧ a = (h : Int)
  | .val h, nx, a, _ => nx = mv 101 ob ∧ a = (h : Int)
  | .out h x, nx, a, y => nx = mv 103 ob ∧ a = (h : Int) ∧ y = x
  | .hd h x, nx, a, y => nx = mv 105 ob ∧ a = (h : Int) ∧ y = x
  | .close0, nx, _, _ => nx = mv 85 ob
  | .close1 t, nx, a, _ => nx = mv 94 ob ∧ a = (t : Int)
  | .over _ _ _, _, _, _ => True

/-- The numbers that it keeps are no greater than tickets can be. -/
def OS.tk : OS → Prop
  | .put1 _ t => t < 4611686018427387904
  | .put2 _ t => t < 4611686018427387904
  | .put3 _ t => t < 4611686018427387904
  | .put4 _ t => t < 4611686018427387904
  | .turn _ t => t < 4611686018427387904
  | .val t => t < 4611686018427387904
  | .out t _ => t < 4611686018427387904
  | .hd t _ => t < 4611686018427387904
  | .close1 t => t < 4611686018427387904
  | .over o _ _ => 1 ≤ o
  | _ => True
/-- The tail and the head. -/
def Nums (b : Nat) (L : List Int) : Prop := 0 ≤ L.getD b 0 ∧ (L.getD b 0 < 4611686018427387904 ∨ (9223372036854775808 : Int) ≤ L.getD b 0) ∧ 0 ≤ L.getD (b + 1) 0 ∧ L.getD (b + 1) 0 < 4611686018427387904

def OS.isO : OS → Bool
  | .over _ _ _ => true
  | _ => false
/-- One step: where the operation stands then; what the cells hold; how many accesses there were. -/
def stepS (b c : Nat) (L : List Int) (s : OS) : OS := res c (doAcc L (acc b c s)).2 s
def stepL (b c : Nat) (L : List Int) (s : OS) : List Int := (doAcc L (acc b c s)).1
def stepT (s : OS) (t : Int) : Int := if s.isO then t else t + 1
theorem stepL_length (b c : Nat) (L : List Int) (s : OS) : (stepL b c L s).length = L.length := doAcc_length _ _

/-- What an access may answer it. -/
def OS.ans : OS → Int → Prop
  | .put0 _, a => a < 4611686018427387904 ∨ (9223372036854775808 : Int) ≤ a
  | .close0, a => a < 4611686018427387904 ∨ (9223372036854775808 : Int) ≤ a
  | .take0, a => a < 4611686018427387904
  | .look0, a => a < 4611686018427387904
  | .drain1 _, a => a < 4611686018427387904
  | _, _ => True
theorem res_tk (c : Nat) (a : Int) (s : OS) (h : s.tk) (ha : s.ans a) : (res c a s).tk := by
  cases s <;> simp only [res] <;> simp only [OS.ans] at ha
  case put0 v =>
    split
    · simp [OS.tk]
    · simp only [OS.tk]; omega
  case put1 v t =>
    split
    · simp [OS.tk]
    · split
      · trivial
      · exact h
  case put2 v t =>
    split
    · trivial
    · exact h
  case put3 v t => exact h
  case put4 v t => simp [OS.tk]
  case take0 => simp only [OS.tk]; omega
  case look0 => simp only [OS.tk]; omega
  case drain0 => trivial
  case drain1 t =>
    split
    · simp [OS.tk]
    · simp only [OS.tk]; omega
  case turn l t =>
    split
    · simp [OS.tk]
    · split
      · simp [OS.tk]
      · exact h
  case val t => exact h
  case out t x => exact h
  case hd t x => simp [OS.tk]
  case close0 =>
    split
    · simp [OS.tk]
    · simp only [OS.tk]; omega
  case close1 t =>
    split
    · trivial
    · simp [OS.tk]
  case over o x t => exact h
theorem ans_of (b c : Nat) (L : List Int) (s : OS) (hn : Nums b L) : s.ans (doAcc L (acc b c s)).2 := by
  obtain ⟨a1, a2, a3, a4⟩ := hn
  cases s <;> first | exact a2 | exact a4 | trivial
theorem stepS_tk (b c : Nat) (L : List Int) (s : OS) (h : s.tk) (hn : Nums b L) : (stepS b c L s).tk := res_tk c _ s h (ans_of b c L s hn)

/-- An operation of the ring at rg stands, at block ob, at s. -/
def OpIn (w : World) (ob rg : Nat) (s : OS) : Prop := ∃ nx a y, OpC w ob rg nx s.o a y s.x s.k ∧ Stands ob s nx a y
theorem OpIn.lt {w : World} {ob rg : Nat} {s : OS} (h : OpIn w ob rg s) : ob < w.heap.size := by obtain ⟨_, _, _, h, _⟩ := h; exact h.lt
theorem OpIn.keep {S : Nat → Prop} {w w' : World} {ob rg : Nat} {s : OS} (h : OpIn w ob rg s) (o : Only S w w') (h1 : ¬ S ob) : OpIn w' ob rg s := by
  obtain ⟨nx, a, y, h, hs⟩ := h
  exact ⟨nx, a, y, h.keep o h1, hs⟩
theorem OpIn.drewN {w : World} {ob rg : Nat} {s : OS} (h : OpIn w ob rg s) (n : Nat) : OpIn (w.drewN n) ob rg s := by
  obtain ⟨nx, a, y, h, hs⟩ := h
  exact ⟨nx, a, y, h.drewN n, hs⟩

/-- A ring, and its memory. -/
structure Rng (w : World) (rg hb rb b c : Nat) (L : List Int) (t : Int) : Prop where
  ring : RgAt w rg hb b c
  mem : MemAt w hb rb L t
  ne : ¬ Blk hb rb rg
  pc : 0 < c
  uc : c ≤ 64
  ub : b ≤ 1000
  len : b + 2 + 2 * c ≤ L.length
  t0 : 0 ≤ t
theorem Rng.keep {S : Nat → Prop} {w w' : World} {rg hb rb b c : Nat} {L : List Int} {t : Int} (h : Rng w rg hb rb b c L t) (o : Only S w w') (h1 : ¬ S rg) (h2 : ¬ S hb) (h3 : ¬ S rb) : Rng w' rg hb rb b c L t :=
  { h with ring := h.ring.keep o h1, mem := h.mem.keep o h2 h3 }
theorem Rng.nil {w w' : World} {rg hb rb b c : Nat} {L : List Int} {t : Int} (h : Rng w rg hb rb b c L t) (o : Only Nil w w') : Rng w' rg hb rb b c L t := h.keep o (fun h => h) (fun h => h) (fun h => h)
theorem Rng.drewN {w : World} {rg hb rb b c : Nat} {L : List Int} {t : Int} (h : Rng w rg hb rb b c L t) (n : Nat) : Rng (w.drewN n) rg hb rb b c L t :=
  { h with ring := h.ring.drewN n, mem := h.mem.drewN n }

theorem step_fin {w w' : World} {ob rg hb rb b c : Nat} {nx : Value} {out a y val tk : Int} {L : List Int} {t : Int} (s : OS)
    (h : St w w' ob rg hb rb b c nx out a y val tk L t) (ho : out = s.o) (hx : val = s.x) (hk : tk = s.k) (hs : Stands ob s nx a y) :
    OpIn w' ob rg s ∧ Rng w' rg hb rb b c L t ∧ Only (OB hb rb ob) w w' := by
  subst ho hx hk
  exact ⟨⟨nx, a, y, h.op, hs⟩, ⟨h.ring, h.mem, fun hh => h.n2 (.inl hh), h.pc, h.uc, h.ub, h.len, h.t0⟩, h.only⟩

theorem isO_ne (s : OS) (h : s.tk) : (s.o != 0) = s.isO := by
  cases s <;> simp only [OS.o, OS.isO] <;> try rfl
  simp only [OS.tk] at h
  simp; omega

set_option maxHeartbeats 4000000 in
/-- ONE STEP, WHEREVER THE OPERATION STANDS. -/
theorem dstep_any {w : World} {ob rg hb rb b c : Nat} {L : List Int} {t : Int} (s : OS) (hR : Rng w rg hb rb b c L t) (hO : OpIn w ob rg s) (n1 : ¬ Blk hb rb ob) (n2 : ob ≠ rg) (htk : s.tk) (hn : Nums b L) (t1 : t < 4611686018427386000) :
    Calls Try.prog 127 #[.pointer (some ⟨ob, 0, none⟩)] w fun e w' =>
      e = .returned (.bool (stepS b c L s).isO) ∧ OpIn w' ob rg (stepS b c L s) ∧ Rng w' rg hb rb b c (stepL b c L s) (stepT s t) ∧ Only (OB hb rb ob) w w' := by
  have htk' := stepS_tk b c L s htk hn
  obtain ⟨nx, a, y, hC, hs⟩ := hO
  obtain ⟨a1, a2, a3, a4⟩ := hn
  have t2 : t + 1 < 4611686018427387000 := by omega
  have hS : St w w ob rg hb rb b c nx s.o a y s.x s.k L t :=
    ⟨hC, hR.ring, hR.mem, Only.refl _ w, n1, fun hh => hh.elim (fun h => hR.ne h) (fun h => n2 h.symm), hR.pc, hR.uc, hR.ub, hR.len, hR.t0, by omega⟩
  rw [← isO_ne _ htk']
  cases s <;> simp only [OS.o, OS.x, OS.k] at hC hS
  case put0 v =>
    obtain ⟨rfl, rfl⟩ := hs
    by_cases hx : (9223372036854775808 : Int) ≤ L.getD b 0
    · skip
      have he : stepS b c L (.put0 y) = (.over 3 0 0) := if_pos hx
      rw [he] at htk' ⊢
      have hl : stepL b c L (.put0 y) = L := rfl
      rw [hl]
      refine (dstep_via 78 (enters_of Try.func78 (by kernel_rfl) rfl) hC (putTail_closed hS t2 hx)).mono ?_
      rintro e w' ⟨rfl, hh⟩
      exact ⟨rfl, step_fin (.over 3 0 0) hh rfl rfl rfl trivial⟩
    · skip
      have he : stepS b c L (.put0 y) = (.put1 y (L.getD b 0).toNat) := if_neg hx
      rw [he] at htk' ⊢
      have hl : stepL b c L (.put0 y) = L := rfl
      rw [hl]
      refine (dstep_via 78 (enters_of Try.func78 (by kernel_rfl) rfl) hC (putTail_on hS t2 hx)).mono ?_
      rintro e w' ⟨rfl, hh⟩
      exact ⟨rfl, step_fin (.put1 y (L.getD b 0).toNat) hh rfl rfl rfl ⟨rfl, by omega, rfl⟩⟩
  case put1 v t =>
    obtain ⟨rfl, rfl, rfl⟩ := hs
    by_cases hx : L.getD (turnAt b c t) 0 < (waitAt c t : Int)
    · skip
      have he : stepS b c L (.put1 y t) = (.over 2 0 0) := if_pos hx
      rw [he] at htk' ⊢
      have hl : stepL b c L (.put1 y t) = L := rfl
      rw [hl]
      refine (dstep_via 92 (enters_of Try.func92 (by kernel_rfl) rfl) hC (putTurn_full t hS htk t2 hx)).mono ?_
      rintro e w' ⟨rfl, hh⟩
      exact ⟨rfl, step_fin (.over 2 0 0) hh rfl rfl rfl trivial⟩
    · skip
      by_cases hx2 : (waitAt c t : Int) < L.getD (turnAt b c t) 0
      · skip
        have he : stepS b c L (.put1 y t) = (.put0 y) := (if_neg hx).trans (if_pos hx2)
        rw [he] at htk' ⊢
        have hl : stepL b c L (.put1 y t) = L := rfl
        rw [hl]
        refine (dstep_via 92 (enters_of Try.func92 (by kernel_rfl) rfl) hC (putTurn_back t hS htk t2 hx2)).mono ?_
        rintro e w' ⟨rfl, hh⟩
        exact ⟨rfl, step_fin (.put0 y) hh rfl rfl rfl ⟨rfl, rfl⟩⟩
      · skip
        have he : stepS b c L (.put1 y t) = (.put2 y t) := (if_neg hx).trans (if_neg hx2)
        rw [he] at htk' ⊢
        have hl : stepL b c L (.put1 y t) = L := rfl
        rw [hl]
        refine (dstep_via 92 (enters_of Try.func92 (by kernel_rfl) rfl) hC (putTurn_on t hS htk t2 (by omega))).mono ?_
        rintro e w' ⟨rfl, hh⟩
        exact ⟨rfl, step_fin (.put2 y t) hh rfl rfl rfl ⟨rfl, rfl, rfl⟩⟩
  case put2 v t =>
    obtain ⟨rfl, rfl, rfl⟩ := hs
    by_cases hx : L.getD b 0 = (t : Int)
    · skip
      have he : stepS b c L (.put2 y t) = (.put3 y t) := if_neg (fun hz => absurd ((congrArg Prod.snd (if_pos hx)).symm.trans hz) (by decide : ¬ (1 : Int) = 0))
      rw [he] at htk' ⊢
      have hl : stepL b c L (.put2 y t) = (doAcc L (.swap b (t : Int) ((t : Int) + 1))).1 := rfl
      rw [hl]
      refine (dstep_via 99 (enters_of Try.func99 (by kernel_rfl) rfl) hC (putDraw_yes t hS htk t2 hx)).mono ?_
      rintro e w' ⟨rfl, hh⟩
      exact ⟨rfl, step_fin (.put3 y t) hh rfl rfl rfl ⟨rfl, rfl, rfl⟩⟩
    · skip
      have he : stepS b c L (.put2 y t) = (.put0 y) := if_pos (congrArg Prod.snd (if_neg hx))
      rw [he] at htk' ⊢
      have hl : stepL b c L (.put2 y t) = (doAcc L (.swap b (t : Int) ((t : Int) + 1))).1 := rfl
      rw [hl]
      refine (dstep_via 99 (enters_of Try.func99 (by kernel_rfl) rfl) hC (putDraw_no t hS htk t2 hx)).mono ?_
      rintro e w' ⟨rfl, hh⟩
      exact ⟨rfl, step_fin (.put0 y) hh rfl rfl rfl ⟨rfl, rfl⟩⟩
  case put3 v t =>
    obtain ⟨rfl, rfl, rfl⟩ := hs
    have he : stepS b c L (.put3 y t) = (.put4 y t) := rfl
    rw [he] at htk' ⊢
    have hl : stepL b c L (.put3 y t) = (L.set (turnAt b c t + 1) y) := rfl
    rw [hl]
    refine (dstep_via 102 (enters_of Try.func102 (by kernel_rfl) rfl) hC (putValue_any t hS t2)).mono ?_
    rintro e w' ⟨rfl, hh⟩
    exact ⟨rfl, step_fin (.put4 y t) hh rfl rfl rfl ⟨rfl, rfl, rfl⟩⟩
  case put4 v t =>
    obtain ⟨rfl, rfl, rfl⟩ := hs
    have he : stepS b c L (.put4 y t) = (.over 1 0 t) := rfl
    rw [he] at htk' ⊢
    have hl : stepL b c L (.put4 y t) = (L.set (turnAt b c t) ((waitAt c t : Int) + 1)) := rfl
    rw [hl]
    refine (dstep_via 104 (enters_of Try.func104 (by kernel_rfl) rfl) hC (putHas_any t hS htk t2)).mono ?_
    rintro e w' ⟨rfl, hh⟩
    exact ⟨rfl, step_fin (.over 1 0 t) hh rfl rfl rfl trivial⟩
  case take0 =>
    subst hs
    have he : stepS b c L .take0 = (.turn false (L.getD (b + 1) 0).toNat) := rfl
    rw [he] at htk' ⊢
    have hl : stepL b c L .take0 = L := rfl
    rw [hl]
    refine (dstep_via 82 (enters_of Try.func82 (by kernel_rfl) rfl) hC (takeHead_any hS t2)).mono ?_
    rintro e w' ⟨rfl, hh⟩
    exact ⟨rfl, step_fin (.turn false (L.getD (b + 1) 0).toNat) hh rfl rfl rfl ⟨rfl, by omega⟩⟩
  case look0 =>
    subst hs
    have he : stepS b c L .look0 = (.turn true (L.getD (b + 1) 0).toNat) := rfl
    rw [he] at htk' ⊢
    have hl : stepL b c L .look0 = L := rfl
    rw [hl]
    refine (dstep_via 87 (enters_of Try.func87 (by kernel_rfl) rfl) hC (lookHead_any hS t2)).mono ?_
    rintro e w' ⟨rfl, hh⟩
    exact ⟨rfl, step_fin (.turn true (L.getD (b + 1) 0).toNat) hh rfl rfl rfl ⟨rfl, by omega⟩⟩
  case drain0 =>
    subst hs
    have he : stepS b c L .drain0 = (.drain1 (L.getD b 0).toNat) := rfl
    rw [he] at htk' ⊢
    have hl : stepL b c L .drain0 = L := rfl
    rw [hl]
    refine (dstep_via 86 (enters_of Try.func86 (by kernel_rfl) rfl) hC (drainTail_any hS t2)).mono ?_
    rintro e w' ⟨rfl, hh⟩
    exact ⟨rfl, step_fin (.drain1 (L.getD b 0).toNat) hh rfl rfl rfl ⟨rfl, by omega⟩⟩
  case drain1 t =>
    obtain ⟨rfl, rfl⟩ := hs
    by_cases hx : (t : Int) = L.getD (b + 1) 0 + 9223372036854775808
    · skip
      have he : stepS b c L (.drain1 t) = (.over 5 0 0) := if_pos hx
      rw [he] at htk' ⊢
      have hl : stepL b c L (.drain1 t) = L := rfl
      rw [hl]
      refine (dstep_via 95 (enters_of Try.func95 (by kernel_rfl) rfl) hC (drainHead_end hS a3 a4 t2 (by simpa using hx))).mono ?_
      rintro e w' ⟨rfl, hh⟩
      exact ⟨rfl, step_fin (.over 5 0 0) hh rfl rfl rfl trivial⟩
    · skip
      have he : stepS b c L (.drain1 t) = (.turn false (L.getD (b + 1) 0).toNat) := if_neg hx
      rw [he] at htk' ⊢
      have hl : stepL b c L (.drain1 t) = L := rfl
      rw [hl]
      refine (dstep_via 95 (enters_of Try.func95 (by kernel_rfl) rfl) hC (drainHead_on hS a3 a4 t2 (by simpa using hx))).mono ?_
      rintro e w' ⟨rfl, hh⟩
      exact ⟨rfl, step_fin (.turn false (L.getD (b + 1) 0).toNat) hh rfl rfl rfl ⟨rfl, by omega⟩⟩
  case turn l h =>
    cases l
    · obtain ⟨rfl, rfl⟩ := hs
      by_cases hx : L.getD (turnAt b c h) 0 = (waitAt c h : Int) + 1
      · skip
        have he : stepS b c L (.turn false h) = (.val h) := if_neg (fun hn => hn hx)
        rw [he] at htk' ⊢
        have hl : stepL b c L (.turn false h) = L := rfl
        rw [hl]
        refine (dstep_via 93 (enters_of Try.func93 (by kernel_rfl) rfl) hC (takeTurn_on h hS htk t2 (by simpa using hx))).mono ?_
        rintro e w' ⟨rfl, hh⟩
        exact ⟨rfl, step_fin (.val h) hh rfl rfl rfl ⟨rfl, rfl⟩⟩
      · skip
        have he : stepS b c L (.turn false h) = (.over 4 0 0) := if_pos hx
        rw [he] at htk' ⊢
        have hl : stepL b c L (.turn false h) = L := rfl
        rw [hl]
        refine (dstep_via 93 (enters_of Try.func93 (by kernel_rfl) rfl) hC (takeTurn_none h hS htk t2 (by simpa using hx))).mono ?_
        rintro e w' ⟨rfl, hh⟩
        exact ⟨rfl, step_fin (.over 4 0 0) hh rfl rfl rfl trivial⟩
    · obtain ⟨rfl, rfl⟩ := hs
      by_cases hx : L.getD (turnAt b c h) 0 = (waitAt c h : Int) + 1
      · skip
        have he : stepS b c L (.turn true h) = (.over 1 0 0) := if_neg (fun hn => hn hx)
        rw [he] at htk' ⊢
        have hl : stepL b c L (.turn true h) = L := rfl
        rw [hl]
        refine (dstep_via 96 (enters_of Try.func96 (by kernel_rfl) rfl) hC (lookTurn_yes h hS htk t2 (by simpa using hx))).mono ?_
        rintro e w' ⟨rfl, hh⟩
        exact ⟨rfl, step_fin (.over 1 0 0) hh rfl rfl rfl trivial⟩
      · skip
        have he : stepS b c L (.turn true h) = (.over 4 0 0) := if_pos hx
        rw [he] at htk' ⊢
        have hl : stepL b c L (.turn true h) = L := rfl
        rw [hl]
        refine (dstep_via 96 (enters_of Try.func96 (by kernel_rfl) rfl) hC (lookTurn_no h hS htk t2 (by simpa using hx))).mono ?_
        rintro e w' ⟨rfl, hh⟩
        exact ⟨rfl, step_fin (.over 4 0 0) hh rfl rfl rfl trivial⟩
  case val h =>
    obtain ⟨rfl, rfl⟩ := hs
    have he : stepS b c L (.val h) = (.out h (L.getD (turnAt b c h + 1) 0)) := rfl
    rw [he] at htk' ⊢
    have hl : stepL b c L (.val h) = L := rfl
    rw [hl]
    refine (dstep_via 101 (enters_of Try.func101 (by kernel_rfl) rfl) hC (takeValue_any h hS t2)).mono ?_
    rintro e w' ⟨rfl, hh⟩
    exact ⟨rfl, step_fin (.out h (L.getD (turnAt b c h + 1) 0)) hh rfl rfl rfl ⟨rfl, rfl, rfl⟩⟩
  case out h x =>
    obtain ⟨rfl, rfl, rfl⟩ := hs
    have he : stepS b c L (.out h y) = (.hd h y) := rfl
    rw [he] at htk' ⊢
    have hl : stepL b c L (.out h y) = (L.set (turnAt b c h) ((waitAt c h : Int) + 2)) := rfl
    rw [hl]
    refine (dstep_via 103 (enters_of Try.func103 (by kernel_rfl) rfl) hC (takeFree_any h hS htk t2)).mono ?_
    rintro e w' ⟨rfl, hh⟩
    exact ⟨rfl, step_fin (.hd h y) hh rfl rfl rfl ⟨rfl, rfl, rfl⟩⟩
  case hd h x =>
    obtain ⟨rfl, rfl, rfl⟩ := hs
    have he : stepS b c L (.hd h y) = (.over 1 y 0) := rfl
    rw [he] at htk' ⊢
    have hl : stepL b c L (.hd h y) = (L.set (b + 1) ((h : Int) + 1)) := rfl
    rw [hl]
    refine (dstep_via 105 (enters_of Try.func105 (by kernel_rfl) rfl) hC (takeOn_any h hS htk t2)).mono ?_
    rintro e w' ⟨rfl, hh⟩
    exact ⟨rfl, step_fin (.over 1 y 0) hh rfl rfl rfl trivial⟩
  case close0 =>
    subst hs
    by_cases hx : (9223372036854775808 : Int) ≤ L.getD b 0
    · skip
      have he : stepS b c L .close0 = (.over 1 0 0) := if_pos hx
      rw [he] at htk' ⊢
      have hl : stepL b c L .close0 = L := rfl
      rw [hl]
      refine (dstep_via 85 (enters_of Try.func85 (by kernel_rfl) rfl) hC (closeTail_done hS t2 hx)).mono ?_
      rintro e w' ⟨rfl, hh⟩
      exact ⟨rfl, step_fin (.over 1 0 0) hh rfl rfl rfl trivial⟩
    · skip
      have he : stepS b c L .close0 = (.close1 (L.getD b 0).toNat) := if_neg hx
      rw [he] at htk' ⊢
      have hl : stepL b c L .close0 = L := rfl
      rw [hl]
      refine (dstep_via 85 (enters_of Try.func85 (by kernel_rfl) rfl) hC (closeTail_on hS t2 hx)).mono ?_
      rintro e w' ⟨rfl, hh⟩
      exact ⟨rfl, step_fin (.close1 (L.getD b 0).toNat) hh rfl rfl rfl ⟨rfl, by omega⟩⟩
  case close1 t =>
    obtain ⟨rfl, rfl⟩ := hs
    by_cases hx : L.getD b 0 = (t : Int)
    · skip
      have he : stepS b c L (.close1 t) = (.over 1 0 0) := if_neg (fun hz => absurd ((congrArg Prod.snd (if_pos hx)).symm.trans hz) (by decide : ¬ (1 : Int) = 0))
      rw [he] at htk' ⊢
      have hl : stepL b c L (.close1 t) = (doAcc L (.swap b (t : Int) ((t : Int) + 9223372036854775808))).1 := rfl
      rw [hl]
      refine (dstep_via 94 (enters_of Try.func94 (by kernel_rfl) rfl) hC (closeSwap_yes t hS htk t2 hx)).mono ?_
      rintro e w' ⟨rfl, hh⟩
      exact ⟨rfl, step_fin (.over 1 0 0) hh rfl rfl rfl trivial⟩
    · skip
      have he : stepS b c L (.close1 t) = .close0 := if_pos (congrArg Prod.snd (if_neg hx))
      rw [he] at htk' ⊢
      have hl : stepL b c L (.close1 t) = (doAcc L (.swap b (t : Int) ((t : Int) + 9223372036854775808))).1 := rfl
      rw [hl]
      refine (dstep_via 94 (enters_of Try.func94 (by kernel_rfl) rfl) hC (closeSwap_no t hS htk t2 hx)).mono ?_
      rintro e w' ⟨rfl, hh⟩
      exact ⟨rfl, step_fin .close0 hh rfl rfl rfl rfl⟩
  case over o x t =>
    refine (dstep_over hC (by simp only [OS.tk] at htk; omega)).mono ?_
    rintro e w' ⟨rfl, rfl⟩
    exact ⟨by rw [isO_ne _ htk']; rfl, step_fin (.over o x t) hS rfl rfl rfl trivial⟩
end Go.Proofs.Ytmkcmncbiancgaa
