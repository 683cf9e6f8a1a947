/- A crowd: put and out, each by one contract. -/
import Derived.Test.YtpnpbgcndlfobaaCrowdD
import Derived.Test.YtpnpbgcndlfobaaCrowdE
import Derived.Test.YtpnpbgcndlfobaaCrowdG
namespace Go.Proofs.Ytpnpbgcndlfobaa
open Go.RowKit

/-- A crowd, as a law's walk sees it. -/
def CrE (w1 w : World) (rg B base c cb pb nb ib K : Nat) (R : Rg) (P : Nat → Option (PS × Int)) (T : Option TS) (mo : Int) (cnt : Nat) (ins : Nat → List Int) (taken : List Int) : Prop :=
  ∃ L t ob tb nx iv st ta, Cr w1 w rg B base c cb pb nb ib K L t R P T ob tb nx iv st ta mo cnt ins taken
section
variable {w1 w : World} {rg B base c cb pb nb ib K : Nat} {R : Rg} {P : Nat → Option (PS × Int)} {T : Option TS} {mo : Int} {cnt : Nat} {ins : Nat → List Int} {taken : List Int}
theorem CrE.more (h : CrE w1 w rg B base c cb pb nb ib K R P T mo cnt ins taken) {K' : Nat} (hK : K ≤ K') (hK' : K' ≤ 100000) : CrE w1 w rg B base c cb pb nb ib K' R P T mo cnt ins taken := by
  obtain ⟨L, t, ob, tb, nx, iv, st, ta, h⟩ := h
  exact ⟨L, t, ob, tb, nx, iv, st, ta, { h with tl := by have := h.tl; omega, tm := by have := h.tm; omega, nxb := fun p hp => by have := h.nxb p hp; omega, kb := hK' }⟩
theorem CrE.P3 (h : CrE w1 w rg B base c cb pb nb ib K R P T mo cnt ins taken) (p : Nat) (hp : 3 ≤ p) : P p = none := by
  obtain ⟨L, t, ob, tb, nx, iv, st, ta, h⟩ := h
  rcases e : P p with _ | ⟨s, v⟩
  · rfl
  · have := (h.pv p s v e).1; omega

theorem put_any (h : CrE w1 w rg B base c cb pb nb ib K R P T mo cnt ins taken) (p : Nat) (hp : p < 3) (more : Bool) (hm : P p ≠ none ∨ more = true) (hK : K + 2 ≤ 100000) :
    Calls Try.prog 49 #[.pointer (some ⟨cb, 0, none⟩), .int .i64 (p : Int), .bool more] w fun e w' => e = .returned (.tuple #[]) ∧
      Hid (∃ R' P' mo' cnt' ins', CrE w1 w' rg B base c cb pb nb ib (K + 2) R' P' T mo' cnt' ins' taken ∧ (∀ q, q ≠ p → P' q = P q) ∧ (∀ s v, P p = some (s, v) → ∀ s' v', P' p = some (s', v') → rankP R' s' < rankP R s)) := by
  obtain ⟨L, t, ob, tb, nx, iv, st, ta, h⟩ := h
  have oth : ∀ x q, q ≠ p → upd P p x q = P q := fun x q hq => upd_other _ _ _ _ hq
  rcases e : P p with _ | ⟨s, v⟩
  · have hm' : more = true := by
      rcases hm with g | g
      · exact absurd e g
      · exact g
    subst hm'
    refine (put_new h hp e hK).mono ?_
    rintro e2 w2 ⟨rfl, k⟩
    obtain ⟨L', ob', v, k⟩ := k.out
    exact ⟨rfl, Lib.hid ⟨R, _, mo, cnt, ins, ⟨_, _, _, _, _, _, _, _, k⟩, oth _, fun s v e3 => by simp at e3⟩⟩
  · rcases er : putStep c R v s with ⟨R', r⟩
    cases r with
    | on s' =>
      refine (put_on h hp e er (by omega) more).mono ?_
      rintro e2 w2 ⟨rfl, k⟩
      obtain ⟨L', k⟩ := k.out
      refine ⟨rfl, Lib.hid ⟨R', _, mo, cnt, ins, CrE.more ⟨_, _, _, _, _, _, _, _, k⟩ (by omega) hK, oth _, ?_⟩⟩
      intro s2 v2 e3 s3 v3 e4
      rw [upd_same] at e4
      simp at e3 e4
      rw [← e3.1, ← e4.1]
      exact h.sys.rank e er
    | full =>
      refine (put_full h hp e er (by omega) more).mono ?_
      rintro e2 w2 ⟨rfl, k⟩
      obtain ⟨L', k⟩ := k.out
      refine ⟨rfl, Lib.hid ⟨R', _, mo, cnt, ins, CrE.more ⟨_, _, _, _, _, _, _, _, k⟩ (by omega) hK, oth _, ?_⟩⟩
      intro s2 v2 e3 s3 v3 e4
      rw [upd_same] at e4; simp at e4
    | done m =>
      refine (put_done h hp e er (by omega) more).mono ?_
      rintro e2 w2 ⟨rfl, k⟩
      obtain ⟨L', iv', mo', k⟩ := k.out
      refine ⟨rfl, Lib.hid ⟨R', _, mo', cnt + 1, _, CrE.more ⟨_, _, _, _, _, _, _, _, k⟩ (by omega) hK, oth _, ?_⟩⟩
      intro s2 v2 e3 s3 v3 e4
      rw [upd_same] at e4; simp at e4

theorem out_any (h : CrE w1 w rg B base c cb pb nb ib K R P T mo cnt ins taken) (hK : K + 1 ≤ 100000) :
    Calls Try.prog 50 #[.pointer (some ⟨cb, 0, none⟩)] w fun e w' => ∃ b : Bool, e = .returned (.bool b) ∧
      Hid (∃ R' T' cnt' taken', CrE w1 w' rg B base c cb pb nb ib (K + 1) R' P T' mo cnt' ins taken' ∧ (b = true → T' = none ∧ ((∀ q, P q = none) → cnt' = 0 ∧ ∀ q, ins q = taken'.filter fun x => decide (pidc x = q))) ∧ (b = false → rankT R' T' < rankT R T)) := by
  obtain ⟨L, t, ob, tb, nx, iv, st, ta, h⟩ := h
  cases T with
  | none =>
    refine (out_new h hK).mono ?_
    rintro e2 w2 ⟨rfl, k⟩
    obtain ⟨L', tb', k⟩ := k.out
    exact ⟨false, rfl, Lib.hid ⟨R, _, cnt, taken, ⟨_, _, _, _, _, _, _, _, k⟩, fun z => by simp at z, fun _ => by simp only [rankT]; omega⟩⟩
  | some s =>
    rcases er : takeStep c R s with ⟨R', r⟩
    cases r with
    | on s' =>
      have key : ∀ {e2 : Ending} {w2 : World}, (e2 = .returned (.bool false) ∧ Hid (∃ L' : List Int, Cr w1 w2 rg B base c cb pb nb ib (K + 1) L' (t + 1) R' P (some s') ob tb nx iv (st + 1) ta mo (cntT s cnt) ins taken)) → ∃ b : Bool, e2 = .returned (.bool b) ∧
          Hid (∃ R' T' cnt' taken', CrE w1 w2 rg B base c cb pb nb ib (K + 1) R' P T' mo cnt' ins taken' ∧ (b = true → T' = none ∧ ((∀ q, P q = none) → cnt' = 0 ∧ ∀ q, ins q = taken'.filter fun x => decide (pidc x = q))) ∧ (b = false → rankT R' T' < rankT R (some s))) := by
        rintro e2 w2 ⟨rfl, k⟩
        obtain ⟨L', k⟩ := k.out
        exact ⟨false, rfl, Lib.hid ⟨R', _, _, taken, ⟨_, _, _, _, _, _, _, _, k⟩, fun z => by simp at z, fun _ => h.sys.rankT_lt er⟩⟩
      by_cases h3 : idx s = 3
      · exact (out_free h er hK h3).mono fun _ _ z => key z
      · exact (out_on h er hK h3).mono fun _ _ z => key z
    | none =>
      refine (out_none h er hK).mono ?_
      rintro e2 w2 ⟨rfl, k⟩
      obtain ⟨L', k, f⟩ := k.out
      exact ⟨true, rfl, Lib.hid ⟨R, _, cnt, taken, ⟨_, _, _, _, _, _, _, _, k⟩, fun _ => ⟨rfl, fun hq => ⟨(f hq).1, (f hq).2.2⟩⟩, fun z => by simp at z⟩⟩
    | done x =>
      refine (out_done h er hK).mono ?_
      rintro e2 w2 ⟨rfl, k⟩
      obtain ⟨L', ta', k⟩ := k.out
      exact ⟨false, rfl, Lib.hid ⟨R', _, cnt, _, ⟨_, _, _, _, _, _, _, _, k⟩, fun z => by simp at z, fun _ => h.sys.rankT_done er⟩⟩
end
end Go.Proofs.Ytpnpbgcndlfobaa
