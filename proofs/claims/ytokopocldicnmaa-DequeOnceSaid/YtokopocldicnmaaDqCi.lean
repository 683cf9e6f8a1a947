/- A gang at a deque: one step, whoever makes it; the tales of the loops. -/
import Derived.Test.YtokopocldicnmaaDqCf
import Derived.Test.YtokopocldicnmaaDqCg
import Derived.Test.YtokopocldicnmaaDqCh
import Derived.Test.YtokopocldicnmaaDqCk
import Derived.Test.YtokopocldicnmaaDqCl
namespace Go.Proofs.Ytokopocldicnmaa.Dq
open Go.RowKit

def GgE (w1 w : World) (rg B base c gb tb K T X : Nat) (ow : Option OS) (th : Nat → Option OS) : Prop :=
  ∃ L t f ob psh nx iv ins lost most, Gg w1 w rg B base c gb tb K L t T X f ow th ob psh nx iv ins lost most
section
variable {w1 w w4 : World} {rg B base c gb tb K T X : Nat} {ow : Option OS} {th : Nat → Option OS}
theorem GgE.more (h : GgE w1 w rg B base c gb tb K T X ow th) {K' : Nat} (h1 : K ≤ K') (h2 : K' ≤ 100000) : GgE w1 w rg B base c gb tb K' T X ow th := by
  obtain ⟨L, t, f, ob, psh, nx, iv, ins, lost, most, h⟩ := h
  exact ⟨L, t, f, ob, psh, nx, iv, ins, lost, most, { h with lo := ⟨h.lo.1, by have := h.lo.2; omega⟩, tm := by have := h.tm; omega, nxb := Nat.le_trans h.nxb h1, inb := fun p => Nat.le_trans (h.inb p) h1, xb := by have := h.xb; omega, kb := h2 }⟩
theorem len_upd {ins : Nat → List Int} {K : Nat} (h : ∀ q, (ins q).length ≤ K) (r : Nat) (x : Int) : ∀ q, (upd ins r (ins r ++ [x]) q).length ≤ K + 1 := fun q => by
  have := h q
  by_cases g : q = r
  · subst g; rw [upd_same, List.length_append]; simp; omega
  · rw [upd_other _ _ _ _ g]; omega

/-- A thief's step. -/
theorem steal_any (h : GgE w1 w rg B base c gb tb K T X ow th) {i : Nat} (hi : i < 2) (hK : K + 1 ≤ 100000) :
    Calls Try.prog 51 #[.pointer (some ⟨gb, 0, none⟩), .int .i64 (i : Int)] w fun e w' => e = .returned (.tuple #[]) ∧ Hid (∃ T' x, GgE w1 w' rg B base c gb tb (K + 1) T' X ow (upd th i x) ∧ ∀ s s', th i = some s → x = some s' → rk s' < rk s) := by
  obtain ⟨L, t, f, ob, psh, nx, iv, ins, lost, most, h⟩ := h
  have lo := h.lo
  have inb : ∀ q, (ins q).length ≤ K + 1 := fun q => Nat.le_succ_of_le (h.inb q)
  rcases e : th i with _ | s
  · refine (csteal_begin h hi e).mono ?_
    rintro e1 w' ⟨rfl, k⟩
    obtain ⟨ob', k⟩ := k.out
    have d : DI c L T X f (nx : Int) ow (upd th i (some (.st1 T))) (ins 0) (ins 1) (ins 2) := { h.di with th := h.di.thO (fun s e => by injection e with e; subst e; exact ⟨T, rfl, Nat.le_refl _⟩) }
    exact ⟨rfl, Lib.hid ⟨T, _, ⟨_, _, _, _, _, _, _, _, _, _, ⟨k, d, h.ps, h.ms, ⟨lo.1, by omega⟩, by have := h.tm; omega, by have := h.nxb; omega, inb, by have := h.xb; omega, h.hc, hK⟩⟩, fun s s' e => by simp at e⟩⟩
  · have hr := rk_step c L s (th_on (h.di.th i s hi e))
    have hrk : ∀ s1 s', some s = some s1 → some (stepS 0 c L s) = some s' → rk s' < rk s1 := fun s1 s' e1 e2 => by injection e1 with e1; injection e2 with e2; subst e1 e2; exact hr
    have hrn : ∀ s1 s', some s = some s1 → (none : Option OS) = some s' → rk s' < rk s1 := fun s1 s' _ e2 => by simp at e2
    obtain ⟨T', ⟨g1, d⟩ | ⟨g1, g2, d⟩ | ⟨g1, g2, d⟩⟩ := h.di.thief hi e
    · refine (csteal_on h hi e g1).mono ?_
      rintro e1 w' ⟨rfl, k⟩
      exact ⟨rfl, Lib.hid ⟨T', _, ⟨_, _, _, _, _, _, _, _, _, _, h.afterT hK k.out d ⟨lo.1, by omega⟩ inb⟩, hrk⟩⟩
    · refine (csteal_done h hi e g1 g2 rfl).mono ?_
      rintro e1 w' ⟨rfl, k⟩
      obtain ⟨iv', k⟩ := k.out
      refine ⟨rfl, Lib.hid ⟨T', _, ⟨_, _, _, _, _, _, _, _, _, _, h.afterT hK k ?_ ⟨lo.1, by omega⟩ (len_upd h.inb _ _)⟩, hrn⟩⟩
      rw [upd_other _ _ _ _ (by decide), upd_other _ _ _ _ (by decide), upd_same]
      exact d
    · rcases g2 with g2 | g2
      · refine (csteal_no h hi e g1 g2).mono ?_
        rintro e1 w' ⟨rfl, k⟩
        exact ⟨rfl, Lib.hid ⟨T', _, ⟨_, _, _, _, _, _, _, _, _, _, h.afterT hK k.out d ⟨lo.1, by omega⟩ inb⟩, hrn⟩⟩
      · refine (csteal_lost h hi e g1 g2).mono ?_
        rintro e1 w' ⟨rfl, k⟩
        exact ⟨rfl, Lib.hid ⟨T', _, ⟨_, _, _, _, _, _, _, _, _, _, h.afterT hK k.out d ⟨by omega, by omega⟩ inb⟩, hrn⟩⟩

theorem max_ok {c : Nat} {L : List Int} {T X : Nat} {f : Nat → Int} {nx : Int} {th : Nat → Option OS} {ins : Nat → List Int} {most : Int} (d : DI c L T X f nx none th (ins 0) (ins 1) (ins 2)) (h : 0 ≤ most ∧ most ≤ c) : 0 ≤ max most (cnt ins) ∧ max most (cnt ins) ≤ c := by
  have := d.count
  unfold cnt
  omega
theorem DI.toPop1 {c : Nat} {L : List Int} {T X : Nat} {f : Nat → Int} {nx : Int} {th : Nat → Option OS} {I P S : List Int} (h : DI c L T X f nx none th I P S) : DI c L T X f nx (some (.pop1 X)) th I P S :=
  { h with own := ⟨h.own, rfl⟩, inr := h.inr, n1 := ⟨h.n1.1, fun q => by simp [pushing] at q⟩ }
theorem DI.toPush1 {c : Nat} {L : List Int} {T X : Nat} {f : Nat → Int} {nx : Nat} {th : Nat → Option OS} {I P S : List Int} (h : DI c L T X f (nx : Int) none th I P S) : DI c L T X f ((nx + 1 : Nat) : Int) (some (.push1 ((nx + 1 : Nat) : Int) X)) th I P S := by
  refine { h with own := ⟨h.own, rfl, rfl⟩, inr := fun v hv => ⟨(h.inr v hv).1, ?_⟩, n1 := ⟨by omega, fun _ => by omega⟩ }
  have h2 := (h.inr v hv).2
  have e1 : lim (nx : Int) none = nx := rfl
  have e2 : lim ((nx + 1 : Nat) : Int) (some (.push1 ((nx + 1 : Nat) : Int) X)) = ((nx + 1 : Nat) : Int) - 1 := rfl
  rw [e1] at h2
  rw [e2]
  omega

/-- What an owner's step makes of its operation. -/
def OwnTo (what T X T' X' : Nat) (ow x : Option OS) : Prop :=
  (∀ s, ow = some s → (∀ s', x = some s' → rk s' < rk s ∧ pushing x = pushing ow) ∧ (pushing ow = false → mu T' X' x ≤ mu T X ow - 1)) ∧
  (ow = none → what = 1 → x = some (.pop1 X) ∧ X' = X ∧ T' = T)
/-- The owner's step. -/
theorem own_any (h : GgE w1 w rg B base c gb tb K T X ow th) {what : Nat} (hw : what ≤ 1) (hK : K + 2 ≤ 100000) :
    Calls Try.prog 50 #[.pointer (some ⟨gb, 0, none⟩), .int .i64 (what : Int)] w fun e w' => e = .returned (.tuple #[]) ∧ Hid (∃ T' X' x, GgE w1 w' rg B base c gb tb (K + 2) T' X' x th ∧ OwnTo what T X T' X' ow x) := by
  obtain ⟨L, t, f, ob, psh, nx, iv, ins, lost, most, h⟩ := h
  have lo := h.lo
  have inb : ∀ q, (ins q).length ≤ K + 2 := fun q => by have := h.inb q; omega
  have tm := h.tm
  have nb := h.nxb
  have xb := h.xb
  rcases e : ow with _ | s
  · subst e
    rcases Nat.eq_zero_or_pos what with g | g
    · subst g
      refine (cown_beginQ h (by omega) rfl).mono ?_
      rintro e1 w' ⟨rfl, k⟩
      obtain ⟨ob', k⟩ := k.out
      exact ⟨rfl, Lib.hid ⟨T, X, _, ⟨_, _, _, _, _, _, _, _, _, _, ⟨k, h.di.toPush1, fun _ _ => rfl, h.ms, ⟨lo.1, by omega⟩, by omega, by omega, inb, by omega, h.hc, hK⟩⟩, ⟨fun s e => by simp at e, fun _ e => by omega⟩⟩⟩
    · have g1 : what = 1 := by omega
      subst g1
      refine (cown_beginP h rfl).mono ?_
      rintro e1 w' ⟨rfl, k⟩
      obtain ⟨ob', k⟩ := k.out
      exact ⟨rfl, Lib.hid ⟨T, X, _, ⟨_, _, _, _, _, _, _, _, _, _, ⟨k, h.di.toPop1, fun _ _ => rfl, h.ms, ⟨lo.1, by omega⟩, by omega, by omega, inb, by omega, h.hc, hK⟩⟩, ⟨fun s e => by simp at e, fun _ _ => ⟨rfl, rfl, rfl⟩⟩⟩⟩
  · have hr := rk_step c L s (own_on (e ▸ h.di.own))
    have hps := h.ps s e
    rw [e] at hps
    obtain ⟨T', X', f', ⟨g1, g2, d, g3⟩ | ⟨g1, d, g3⟩, hX'⟩ := h.di.owner e (by have := h.kb; omega) (by have := h.kb; omega)
    · refine (cown_on h what hw e g1).mono ?_
      rintro e1 w' ⟨rfl, k⟩
      exact ⟨rfl, Lib.hid ⟨T', X', _, ⟨_, _, _, _, _, _, _, _, _, _, ⟨k.out, d, fun _ _ => by rw [g2, hps], h.ms, ⟨lo.1, by omega⟩, by omega, by omega, inb, by omega, h.hc, hK⟩⟩,
        ⟨fun s1 e1 => ⟨fun s' e2 => by injection e1 with e1; injection e2 with e2; subst e1 e2; exact ⟨hr, g2⟩, fun q => g3 q⟩, fun e1 => by simp at e1⟩⟩⟩
    · have hto : OwnTo what T X T' X' (some s) none := ⟨fun s1 e1 => ⟨fun s' e2 => by simp at e2, fun q => g3 q⟩, fun e1 => by simp at e1⟩
      by_cases g4 : (stepS 0 c L s).o = 1
      · cases g5 : pushing (some s) with
        | true =>
          have eI : endI (ins 0) (nx : Int) s (stepS 0 c L s) = ins 0 ++ [(nx : Int)] := if_pos ⟨g5, g4⟩
          have eP : endP (ins 1) s (stepS 0 c L s) = ins 1 := if_neg (by rw [g5]; simp)
          rw [eI, eP] at d
          have d' : DI c (stepL 0 c L s) T' X' f' (nx : Int) none th (upd ins 0 (ins 0 ++ [(nx : Int)]) 0) (upd ins 0 (ins 0 ++ [(nx : Int)]) 1) (upd ins 0 (ins 0 ++ [(nx : Int)]) 2) := by
            rw [upd_same, upd_other _ _ _ _ (by decide), upd_other _ _ _ _ (by decide)]; exact d
          refine (cown_push h what hw e g1 g4 (by rw [hps, g5]) rfl rfl).mono ?_
          rintro e1 w' ⟨rfl, k⟩
          obtain ⟨iv', k⟩ := k.out
          exact ⟨rfl, Lib.hid ⟨T', X', _, ⟨_, _, _, _, _, _, _, _, _, _, ⟨k, d', fun _ e => by simp at e, max_ok d' h.ms, ⟨lo.1, by omega⟩, by omega, by omega, fun q => Nat.le_succ_of_le (len_upd h.inb _ _ q), by omega, h.hc, hK⟩⟩, hto⟩⟩
        | false =>
          have eI : endI (ins 0) (nx : Int) s (stepS 0 c L s) = ins 0 := if_neg (by rw [g5]; simp)
          have eP : endP (ins 1) s (stepS 0 c L s) = ins 1 ++ [(stepS 0 c L s).x] := if_pos ⟨g5, g4⟩
          rw [eI, eP] at d
          have d' : DI c (stepL 0 c L s) T' X' f' (nx : Int) none th (upd ins 1 (ins 1 ++ [(stepS 0 c L s).x]) 0) (upd ins 1 (ins 1 ++ [(stepS 0 c L s).x]) 1) (upd ins 1 (ins 1 ++ [(stepS 0 c L s).x]) 2) := by
            rw [upd_same, upd_other _ _ _ _ (by decide), upd_other _ _ _ _ (by decide)]; exact d
          refine (cown_pop h what hw e g1 g4 rfl (by rw [hps, g5]) rfl rfl).mono ?_
          rintro e1 w' ⟨rfl, k⟩
          obtain ⟨iv', k⟩ := k.out
          exact ⟨rfl, Lib.hid ⟨T', X', _, ⟨_, _, _, _, _, _, _, _, _, _, ⟨k, d', fun _ e => by simp at e, max_ok d' h.ms, ⟨lo.1, by omega⟩, by omega, by omega, fun q => Nat.le_succ_of_le (len_upd h.inb _ _ q), by omega, h.hc, hK⟩⟩, hto⟩⟩
      · have eI : endI (ins 0) (nx : Int) s (stepS 0 c L s) = ins 0 := if_neg (fun q => g4 q.2)
        have eP : endP (ins 1) s (stepS 0 c L s) = ins 1 := if_neg (fun q => g4 q.2)
        rw [eI, eP] at d
        refine (cown_no h what hw e g1 g4 rfl).mono ?_
        rintro e1 w' ⟨rfl, k⟩
        exact ⟨rfl, Lib.hid ⟨T', X', _, ⟨_, _, _, _, _, _, _, _, _, _, ⟨k.out, d, fun _ e => by simp at e, max_ok d h.ms, ⟨lo.1, by omega⟩, by omega, by omega, inb, by omega, h.hc, hK⟩⟩, hto⟩⟩
end
end Go.Proofs.Ytokopocldicnmaa.Dq
