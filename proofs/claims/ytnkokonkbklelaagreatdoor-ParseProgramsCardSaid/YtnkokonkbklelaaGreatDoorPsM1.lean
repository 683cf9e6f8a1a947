/- parse in plain words: programs, tokens, and how a program is read from tokens. -/
import Derived.Test.YtnkokonkbklelaaGreatDoorLxP
set_option linter.unusedVariables false
namespace Go.Proofs.YtnkokonkbklelaaGreatDoor.Ps
open Go.RowKit Go.Proofs.YtnkokonkbklelaaGreatDoor Lx

abbrev Wd := List UInt8
structure Eff where
  act : Int
  ref : Wd
  slot : Wd
  name : Wd
  val : Int
  n : Int
  delay : Int
deriving Inhabited, DecidableEq
structure Rw where
  tag : Wd
  only : Bool
  n : Int
  effs : List Eff
deriving Inhabited, DecidableEq
structure Sta where
  name : Wd
  rows : List Rw
deriving Inhabited, DecidableEq
structure Cs where
  reason : Wd
  act : Int
deriving Inhabited, DecidableEq
structure Kd where
  name : Wd
  limit : Int
  within : Int
  cases : List Cs
  states : List Sta
deriving Inhabited, DecidableEq

/-! ### The words of the form -/
def w_kind : Wd := [107, 105, 110, 100]
def w_open : Wd := [123]
def w_close : Wd := [125]
def w_semi : Wd := [59]
def w_limit : Wd := [108, 105, 109, 105, 116]
def w_in : Wd := [105, 110]
def w_case : Wd := [99, 97, 115, 101]
def w_else : Wd := [101, 108, 115, 101]
def w_state : Wd := [115, 116, 97, 116, 101]
def w_on : Wd := [111, 110]
def w_any : Wd := [97, 110, 121]
def w_resume : Wd := [114, 101, 115, 117, 109, 101]
def w_restart : Wd := [114, 101, 115, 116, 97, 114, 116]
def w_stop : Wd := [115, 116, 111, 112]
def w_escalate : Wd := [101, 115, 99, 97, 108, 97, 116, 101]
def w_send : Wd := [115, 101, 110, 100]
def w_spawn : Wd := [115, 112, 97, 119, 110]
def w_become : Wd := [98, 101, 99, 111, 109, 101]
def w_stash : Wd := [115, 116, 97, 115, 104]
def w_unstash : Wd := [117, 110, 115, 116, 97, 115, 104]
def w_watch : Wd := [119, 97, 116, 99, 104]
def w_unwatch : Wd := [117, 110, 119, 97, 116, 99, 104]
def w_timer : Wd := [116, 105, 109, 101, 114]
def w_cancel : Wd := [99, 97, 110, 99, 101, 108]
def w_hold : Wd := [104, 111, 108, 100]
def w_fail : Wd := [102, 97, 105, 108]
def w_keep : Wd := [107, 101, 101, 112]
def w_less : Wd := [108, 101, 115, 115]
def dirs : List Wd := [w_resume, w_restart, w_stop, w_escalate]
def effw : List Wd := [w_send, w_spawn, w_become, w_stash, w_unstash, w_watch, w_unwatch, w_timer, w_cancel, w_hold, w_stop, w_fail]
def vals : List Wd := [w_keep, w_less]
/-- What stands behind an effect's word: r, s, n, d, v. -/
def parts (z : Int) : List UInt8 :=
  if z = 1 then [114, 110, 118] else if z = 2 then [115, 110] else if z = 3 then [110] else if z = 9 then [110] else if z = 12 then [110] else if z = 6 then [114] else if z = 7 then [114]
  else if z = 8 then [100, 110, 118] else if z = 10 then [115] else []

/-! ### Reading -/
abbrev Tks := List (Tok × Nat)
/-- What a reader comes to: what it read, and what is left; or what stands where it can't. -/
inductive PR (α : Type) where
  | ok (a : α) (r : Tks)
  | bad (r : Tks)
def PR.bind {α β : Type} (p : PR α) (f : α → Tks → PR β) : PR β := match p with | .ok a r => f a r | .bad r => .bad r
@[simp] theorem PR.bind_ok {α β : Type} (a : α) (r : Tks) (f : α → Tks → PR β) : (PR.ok a r).bind f = f a r := rfl
@[simp] theorem PR.bind_bad {α β : Type} (r : Tks) (f : α → Tks → PR β) : (PR.bad r : PR α).bind f = .bad r := rfl
def PR.rest {α : Type} : PR α → Tks | .ok _ r => r | .bad r => r
def PR.app {α : Type} (U : Tks) : PR α → PR α | .ok a r => .ok a (r ++ U) | .bad r => .bad (r ++ U)

/-- The word and the kind that come next. -/
def hw : Tks → Wd | [] => [] | x :: _ => x.1.w
def hk : Tks → Nat | [] => 0 | x :: _ => x.1.k
def tk (k : Nat) : Tks → PR Tok | [] => .bad [] | x :: r => if x.1.k = k then .ok x.1 r else .bad (x :: r)
def ch (ws : List Wd) (T : Tks) : PR Nat := if hw T ∈ ws then .ok (ws.idxOf (hw T)) T.tail else .bad T
def pass (s : Wd) (T : Tks) : PR Unit := if hw T = s then .ok () T.tail else .bad T
def many {α : Type} (p : Tks → PR α) (stop : Tks → Bool) : Nat → Tks → PR (List α)
  | 0, T => .bad T
  | n + 1, T => if stop T then .ok [] T else (p T).bind fun a r => (many p stop n r).bind fun l r' => .ok (a :: l) r'
def Many {α : Type} (p : Tks → PR α) (stop : Tks → Bool) (T : Tks) : PR (List α) := many p stop (T.length + 1) T
def isW (s : Wd) (T : Tks) : Bool := hw T == s
def block {α : Type} (p : Tks → PR α) (T : Tks) : PR (List α) :=
  (pass w_open T).bind fun _ r => (Many p (isW w_close) r).bind fun l r' => (pass w_close r').bind fun _ r'' => .ok l r''
def pVal (T : Tks) : PR (Int × Int) := if hk T = 2 then (tk 2 T).bind fun t r => .ok (2, (t.n : Int)) r else (ch vals T).bind fun i r => .ok ((i : Int), 0) r
def pPart (c : UInt8) (e : Eff) (T : Tks) : PR Eff :=
  if c = 114 then (tk 1 T).bind fun t r => .ok { e with ref := t.w } r
  else if c = 115 then (tk 1 T).bind fun t r => .ok { e with slot := t.w } r
  else if c = 110 then (tk 1 T).bind fun t r => .ok { e with name := t.w } r
  else if c = 100 then (tk 2 T).bind fun t r => .ok { e with delay := (t.n : Int) } r
  else (pVal T).bind fun v r => .ok { e with val := v.1, n := v.2 } r
def pParts : List UInt8 → Eff → Tks → PR Eff
  | [], e, T => .ok e T
  | c :: cs, e, T => (pPart c e T).bind fun e' r => pParts cs e' r
def eff0 (z : Int) : Eff := ⟨z, [], [], [], 0, 0, 0⟩
def pEff (T : Tks) : PR Eff := (ch effw T).bind fun i r => (pParts (parts ((i : Int) + 1)) (eff0 ((i : Int) + 1)) r).bind fun e r' => (pass w_semi r').bind fun _ r'' => .ok e r''
def pRow (T : Tks) : PR Rw := (ch [w_on, w_any] T).bind fun i r =>
  if i = 0 then (tk 1 r).bind fun t r1 =>
    if hk r1 = 2 then (tk 2 r1).bind fun u r2 => (block pEff r2).bind fun E r3 => .ok ⟨t.w, true, (u.n : Int), E⟩ r3
    else (block pEff r1).bind fun E r3 => .ok ⟨t.w, false, 0, E⟩ r3
  else (block pEff r).bind fun E r3 => .ok ⟨[], false, 0, E⟩ r3
def pState (T : Tks) : PR Sta := (pass w_state T).bind fun _ r => (tk 1 r).bind fun t r1 => (block pRow r1).bind fun R r2 => .ok ⟨t.w, R⟩ r2
def pCase (T : Tks) : PR Cs := (ch [w_case, w_else] T).bind fun i r =>
  if i = 0 then (tk 1 r).bind fun t r1 => (ch dirs r1).bind fun d r2 => (pass w_semi r2).bind fun _ r3 => .ok ⟨t.w, (d : Int) + 1⟩ r3
  else (ch dirs r).bind fun d r2 => (pass w_semi r2).bind fun _ r3 => .ok ⟨[], (d : Int) + 1⟩ r3
def pLimit (T : Tks) : PR (Int × Int) :=
  if hw T = w_limit then (pass w_limit T).bind fun _ r => (tk 2 r).bind fun a r1 => (pass w_in r1).bind fun _ r2 => (tk 2 r2).bind fun b r3 => (pass w_semi r3).bind fun _ r4 => .ok ((a.n : Int), (b.n : Int)) r4
  else .ok (0, 1) T
def noCase (T : Tks) : Bool := !(hw T == w_case || hw T == w_else)
def pKind (T : Tks) : PR Kd := (pass w_kind T).bind fun _ r => (tk 1 r).bind fun t r1 => (pass w_open r1).bind fun _ r2 => (pLimit r2).bind fun lw r3 =>
  (Many pCase noCase r3).bind fun C r4 => (Many pState (isW w_close) r4).bind fun S r5 => (pass w_close r5).bind fun _ r6 => .ok ⟨t.w, lw.1, lw.2, C, S⟩ r6
def pProg (T : Tks) : PR (List Kd) := Many pKind (fun T => T.isEmpty) T
/-- The fault of what can't stand there, in a text of N bytes. -/
def flt (N : Nat) : Tks → Nat × Nat | [] => (31, N) | x :: _ => (30, x.2)

/-! ### What is left is an end of what there was -/
def Suf {α : Type} (p : Tks → PR α) : Prop := ∀ T, (p T).rest <:+ T
/-- What is read is some tokens. -/
def Eats {α : Type} (p : Tks → PR α) : Prop := ∀ T a r, p T = .ok a r → r.length < T.length
theorem Suf.bind {α β : Type} {p : Tks → PR α} {f : α → Tks → PR β} (h : Suf p) (k : ∀ a, Suf (f a)) : Suf fun T => (p T).bind f := by
  intro T
  have := h T
  show ((p T).bind f).rest <:+ T
  cases hp : p T with
  | ok a r => rw [hp] at this; exact (k a r).trans this
  | bad r => rw [hp] at this; exact this
theorem Suf.ret {α : Type} (a : α) : Suf (fun T => PR.ok a T) := fun T => List.suffix_refl _
theorem Suf.map {α β : Type} {p : Tks → PR α} (h : Suf p) (g : α → β) : Suf fun T => (p T).bind fun a r => .ok (g a) r := h.bind fun a => Suf.ret (g a)
theorem Suf.ite {α : Type} {c : Tks → Prop} [∀ T, Decidable (c T)] {p q : Tks → PR α} (h : Suf p) (k : Suf q) : Suf fun T => if c T then p T else q T := by
  intro T
  show (if c T then p T else q T).rest <:+ T
  split
  · exact h T
  · exact k T
theorem tk_c (k : Nat) (x : Tok × Nat) (r : Tks) : tk k (x :: r) = if x.1.k = k then .ok x.1 r else .bad (x :: r) := rfl
theorem tk_suf (k : Nat) : Suf (tk k) := by
  intro T
  cases T with
  | nil => exact List.suffix_refl _
  | cons x r =>
    rw [tk_c]; split
    · exact List.suffix_cons _ _
    · exact List.suffix_refl _
theorem tk_eats (k : Nat) : Eats (tk k) := by
  intro T a r h
  cases T with
  | nil => cases h
  | cons x r' =>
    rw [tk_c] at h
    split at h
    · cases h; simp
    · cases h
theorem ch_suf (ws : List Wd) : Suf (ch ws) := by
  intro T; unfold ch; split
  · exact List.tail_suffix T
  · exact List.suffix_refl _
theorem pass_suf (s : Wd) : Suf (pass s) := by
  intro T; unfold pass; split
  · exact List.tail_suffix T
  · exact List.suffix_refl _
theorem ch_eats {ws : List Wd} (h : [] ∉ ws) : Eats (ch ws) := by
  intro T a r hp
  unfold ch at hp
  split at hp
  · rename_i hm
    cases T with
    | nil => exact absurd hm h
    | cons x T => cases hp; simp
  · cases hp
theorem pass_eats {s : Wd} (h : s ≠ []) : Eats (pass s) := by
  intro T a r hp
  unfold pass at hp
  split at hp
  · rename_i hm
    cases T with
    | nil => exact absurd hm.symm h
    | cons x T => cases hp; simp
  · cases hp
theorem Suf.le {α : Type} {p : Tks → PR α} (h : Suf p) {T r : Tks} {a : α} (hp : p T = .ok a r) : r.length ≤ T.length := by
  have := (h T).length_le; rw [hp] at this; exact this
theorem Eats.bind {α β : Type} {p : Tks → PR α} {f : α → Tks → PR β} (h : Eats p) (k : ∀ a, Suf (f a)) : Eats fun T => (p T).bind f := by
  intro T b r hb
  have hb' : (p T).bind f = .ok b r := hb
  cases hp : p T with
  | ok a r1 =>
    rw [hp] at hb'
    exact Nat.lt_of_le_of_lt ((k a).le hb') (h T a r1 hp)
  | bad r1 => rw [hp] at hb'; cases hb'
theorem many_suf {α : Type} {p : Tks → PR α} (h : Suf p) (stop : Tks → Bool) (n : Nat) : Suf (many p stop n) := by
  induction n with
  | zero => exact fun T => List.suffix_refl _
  | succ n ih =>
    intro T
    unfold many
    split
    · exact List.suffix_refl _
    · exact (h.bind fun a => (ih.map fun l => a :: l)) T
theorem Many_suf {α : Type} {p : Tks → PR α} (h : Suf p) (stop : Tks → Bool) : Suf (Many p stop) := fun T => many_suf h stop _ T
theorem many_fuel {α : Type} {p : Tks → PR α} (hE : Eats p) (stop : Tks → Bool) (n m : Nat) (T : Tks) (hn : T.length < n) (hm : T.length < m) : many p stop n T = many p stop m T := by
  induction n generalizing m T with
  | zero => omega
  | succ n ih =>
    cases m with
    | zero => omega
    | succ m =>
      unfold many
      split
      · rfl
      · cases hp : p T with
        | bad r => rfl
        | ok a r =>
          have := hE T a r hp
          simp only [PR.bind_ok]
          rw [ih m r (by omega) (by omega)]
/-- A loop's next round. -/
theorem Many_eq {α : Type} {p : Tks → PR α} (hE : Eats p) (stop : Tks → Bool) (T : Tks) :
    Many p stop T = if stop T then .ok [] T else (p T).bind fun a r => (Many p stop r).bind fun l r' => .ok (a :: l) r' := by
  conv => lhs; unfold Many many
  split
  · rfl
  · cases hp : p T with
    | bad r => rfl
    | ok a r =>
      have := hE T a r hp
      simp only [PR.bind_ok]
      rw [many_fuel hE stop T.length (r.length + 1) r (by omega) (by omega)]
      rfl
theorem block_suf {α : Type} {p : Tks → PR α} (h : Suf p) : Suf (block p) :=
  (pass_suf _).bind fun _ => (Many_suf h _).bind fun l => (pass_suf _).map fun _ => l
theorem block_eats {α : Type} {p : Tks → PR α} (h : Suf p) : Eats (block p) :=
  (pass_eats (by decide)).bind fun _ => (Many_suf h _).bind fun l => (pass_suf _).map fun _ => l
theorem pVal_suf : Suf pVal := ((tk_suf 2).map _).ite ((ch_suf _).map _)
theorem pPart_suf (c : UInt8) (e : Eff) : Suf (pPart c e) := by
  intro T; unfold pPart; (repeat' split)
  · exact ((tk_suf 1).map _) T
  · exact ((tk_suf 1).map _) T
  · exact ((tk_suf 1).map _) T
  · exact ((tk_suf 2).map _) T
  · exact (pVal_suf.map _) T
theorem pParts_suf (l : List UInt8) (e : Eff) : Suf (pParts l e) := by
  induction l generalizing e with
  | nil => exact Suf.ret e
  | cons c l ih => exact (pPart_suf c e).bind fun e' => ih e'
theorem pEff_suf : Suf pEff := (ch_suf _).bind fun _ => (pParts_suf _ _).bind fun e => (pass_suf _).map fun _ => e
theorem pEff_eats : Eats pEff := (ch_eats (by decide)).bind fun _ => (pParts_suf _ _).bind fun e => (pass_suf _).map fun _ => e
theorem pRow_in (i : Nat) : Suf (fun r : Tks => if i = 0 then (tk 1 r).bind fun t r1 =>
    if hk r1 = 2 then (tk 2 r1).bind fun u r2 => (block pEff r2).bind fun E r3 => .ok ⟨t.w, true, (u.n : Int), E⟩ r3
    else (block pEff r1).bind fun E r3 => .ok ⟨t.w, false, 0, E⟩ r3
  else (block pEff r).bind fun E r3 => PR.ok (⟨[], false, 0, E⟩ : Rw) r3) := by
  refine Suf.ite ((tk_suf 1).bind fun t => Suf.ite ((tk_suf 2).bind fun u => (block_suf pEff_suf).map _) ((block_suf pEff_suf).map _)) ((block_suf pEff_suf).map _)
theorem pRow_suf : Suf pRow := (ch_suf _).bind fun i => pRow_in i
theorem pRow_eats : Eats pRow := (ch_eats (by decide)).bind fun i => pRow_in i
theorem pState_suf : Suf pState := (pass_suf _).bind fun _ => (tk_suf 1).bind fun t => (block_suf pRow_suf).map _
theorem pState_eats : Eats pState := (pass_eats (by decide)).bind fun _ => (tk_suf 1).bind fun t => (block_suf pRow_suf).map _
theorem pCase_in (i : Nat) : Suf (fun r : Tks => if i = 0 then (tk 1 r).bind fun t r1 => (ch dirs r1).bind fun d r2 => (pass w_semi r2).bind fun _ r3 => .ok ⟨t.w, (d : Int) + 1⟩ r3
  else (ch dirs r).bind fun d r2 => (pass w_semi r2).bind fun _ r3 => PR.ok (⟨[], (d : Int) + 1⟩ : Cs) r3) :=
  Suf.ite ((tk_suf 1).bind fun t => (ch_suf _).bind fun d => (pass_suf _).map _) ((ch_suf _).bind fun d => (pass_suf _).map _)
theorem pCase_suf : Suf pCase := (ch_suf _).bind fun i => pCase_in i
theorem pCase_eats : Eats pCase := (ch_eats (by decide)).bind fun i => pCase_in i
theorem pLimit_suf : Suf pLimit :=
  Suf.ite ((pass_suf _).bind fun _ => (tk_suf 2).bind fun a => (pass_suf _).bind fun _ => (tk_suf 2).bind fun b => (pass_suf _).map _) (Suf.ret _)
theorem pKind_in : Suf (fun r : Tks => (tk 1 r).bind fun t r1 => (pass w_open r1).bind fun _ r2 => (pLimit r2).bind fun lw r3 =>
  (Many pCase noCase r3).bind fun C r4 => (Many pState (isW w_close) r4).bind fun S r5 => (pass w_close r5).bind fun _ r6 => PR.ok (⟨t.w, lw.1, lw.2, C, S⟩ : Kd) r6) :=
  (tk_suf 1).bind fun t => (pass_suf _).bind fun _ => pLimit_suf.bind fun lw => (Many_suf pCase_suf _).bind fun C => (Many_suf pState_suf _).bind fun S => (pass_suf _).map _
theorem pKind_suf : Suf pKind := (pass_suf _).bind fun _ => pKind_in
theorem pKind_eats : Eats pKind := (pass_eats (by decide)).bind fun _ => pKind_in
theorem pProg_suf : Suf pProg := Many_suf pKind_suf _
end Go.Proofs.YtnkokonkbklelaaGreatDoor.Ps

/- parse in plain words: what a reader says of a text hangs on what it has come to; places are nothing to it. -/
set_option linter.unusedVariables false
namespace Go.Proofs.YtnkokonkbklelaaGreatDoor.Ps
open Go.RowKit Go.Proofs.YtnkokonkbklelaaGreatDoor Lx

/-- More behind it: what was not at the end says the same; what was at the end goes on from there. -/
def Loc {α : Type} (p : Tks → PR α) : Prop := ∀ T U, ((p T).rest ≠ [] → p (T ++ U) = (p T).app U) ∧ ((p T).rest = [] → (p (T ++ U)).rest <:+ U)
/-- What was read to its end is read so, whatever follows. -/
def Shut {α : Type} (p : Tks → PR α) : Prop := ∀ T U a r, p T = .ok a r → p (T ++ U) = .ok a (r ++ U)

theorem suf_nil {α : Type} {p : Tks → PR α} (h : Suf p) : (p []).rest = [] := List.suffix_nil.1 (h [])
theorem Loc.of {α : Type} {p : Tks → PR α} (hs : Suf p) (h : ∀ x T U, ((p (x :: T)).rest ≠ [] → p (x :: T ++ U) = (p (x :: T)).app U) ∧ ((p (x :: T)).rest = [] → (p (x :: T ++ U)).rest <:+ U)) : Loc p := by
  intro T U
  cases T with
  | nil => exact ⟨fun h0 => absurd (suf_nil hs) h0, fun _ => hs U⟩
  | cons x T => exact h x T U
theorem Loc.bind {α β : Type} {p : Tks → PR α} {f : α → Tks → PR β} (h : Loc p) (k : ∀ a, Loc (f a)) (ks : ∀ a, Suf (f a)) : Loc fun T => (p T).bind f := by
  intro T U
  obtain ⟨h1, h2⟩ := h T U
  have tail : (p T).rest = [] → ((p (T ++ U)).bind f).rest <:+ U := fun h0 => by
    have := h2 h0
    cases hq : p (T ++ U) with
    | ok a s => rw [hq] at this; exact (ks a s).trans this
    | bad s => rw [hq] at this; exact this
  show (((p T).bind f).rest ≠ [] → (p (T ++ U)).bind f = ((p T).bind f).app U) ∧ (((p T).bind f).rest = [] → ((p (T ++ U)).bind f).rest <:+ U)
  cases hp : p T with
  | bad r =>
    rw [hp] at h1 h2 tail
    refine ⟨fun h0 => ?_, fun h0 => tail h0⟩
    have e : p (T ++ U) = .bad (r ++ U) := h1 h0
    rw [e]; rfl
  | ok a r =>
    rw [hp] at h1 h2 tail
    by_cases hr : r = []
    · subst hr
      refine ⟨fun h0 => ?_, fun _ => tail rfl⟩
      exact absurd (suf_nil (ks a)) h0
    · have e : p (T ++ U) = .ok a (r ++ U) := h1 hr
      rw [e]
      exact k a r U
theorem Loc.ret {α : Type} (a : α) : Loc (fun T => PR.ok a T) := fun T U => ⟨fun _ => rfl, fun h => by
  have : T = [] := h
  subst this; exact List.suffix_refl _⟩
theorem Loc.map {α β : Type} {p : Tks → PR α} (h : Loc p) (g : α → β) : Loc fun T => (p T).bind fun a r => .ok (g a) r := h.bind (fun a => Loc.ret (g a)) fun a => Suf.ret (g a)
theorem Loc.ite {α : Type} {c : Tks → Prop} [∀ T, Decidable (c T)] {p q : Tks → PR α} (hc : ∀ x T U, c (x :: T ++ U) ↔ c (x :: T)) (h : Loc p) (hs : Suf p) (k : Loc q) (ks : Suf q) : Loc fun T => if c T then p T else q T := by
  refine Loc.of (hs.ite ks) fun x T U => ?_
  have e := hc x T U
  by_cases h1 : c (x :: T)
  · have h2 := e.2 h1
    simp only [if_pos h1, if_pos h2]
    exact h _ U
  · have h2 : ¬ c (x :: T ++ U) := fun y => h1 (e.1 y)
    simp only [if_neg h1, if_neg h2]
    exact k _ U
theorem tk_loc (k : Nat) : Loc (tk k) := Loc.of (tk_suf k) fun x T U => by
  rw [List.cons_append, tk_c, tk_c]
  split
  · exact ⟨fun _ => rfl, fun h => by have : T = [] := h; subst this; exact List.suffix_refl _⟩
  · exact ⟨fun _ => rfl, fun h => by cases h⟩
theorem ch_loc (ws : List Wd) : Loc (ch ws) := Loc.of (ch_suf ws) fun x T U => by
  have e : hw (x :: T ++ U) = hw (x :: T) := rfl
  unfold ch
  rw [e]
  split
  · exact ⟨fun _ => rfl, fun h => by have : T = [] := h; subst this; exact List.suffix_refl _⟩
  · exact ⟨fun _ => rfl, fun h => by cases h⟩
theorem pass_loc (s : Wd) : Loc (pass s) := Loc.of (pass_suf s) fun x T U => by
  have e : hw (x :: T ++ U) = hw (x :: T) := rfl
  unfold pass
  rw [e]
  split
  · exact ⟨fun _ => rfl, fun h => by have : T = [] := h; subst this; exact List.suffix_refl _⟩
  · exact ⟨fun _ => rfl, fun h => by cases h⟩
theorem many_loc {α : Type} {p : Tks → PR α} (h : Loc p) (hs : Suf p) {stop : Tks → Bool} (hc : ∀ x T U, stop (x :: T ++ U) = stop (x :: T)) (n : Nat) : Loc (many p stop n) := by
  induction n with
  | zero => exact fun T U => ⟨fun _ => rfl, fun h0 => by
      have : T = [] := h0
      subst this; exact List.suffix_refl _⟩
  | succ n ih =>
    have e : (many p stop (n + 1)) = fun T => if stop T = true then .ok [] T else (p T).bind fun a r => (many p stop n r).bind fun l r' => .ok (a :: l) r' := rfl
    rw [e]
    have s1 : ∀ a : α, Suf fun r => (many p stop n r).bind fun l r' => .ok (a :: l) r' := fun a => (many_suf hs stop n).map fun l => a :: l
    exact Loc.ite (fun x T U => by rw [hc]) (Loc.ret _) (Suf.ret _) (h.bind (fun a => ih.map fun l => a :: l) s1) (hs.bind s1)
theorem Many_loc {α : Type} {p : Tks → PR α} (h : Loc p) (hs : Suf p) (hE : Eats p) {stop : Tks → Bool} (hc : ∀ x T U, stop (x :: T ++ U) = stop (x :: T)) : Loc (Many p stop) := by
  intro T U
  have e : Many p stop T = many p stop ((T ++ U).length + 1) T := many_fuel hE stop _ _ T (by omega) (by simp; omega)
  rw [e]
  exact many_loc h hs hc _ T U
theorem isW_head (s : Wd) (x : Tok × Nat) (T U : Tks) : isW s (x :: T ++ U) = isW s (x :: T) := rfl
theorem noCase_head (x : Tok × Nat) (T U : Tks) : noCase (x :: T ++ U) = noCase (x :: T) := rfl
theorem block_loc {α : Type} {p : Tks → PR α} (h : Loc p) (hs : Suf p) (hE : Eats p) : Loc (block p) :=
  (pass_loc _).bind (fun _ => (Many_loc h hs hE (isW_head _)).bind (fun l => (pass_loc _).map fun _ => l) fun l => (pass_suf _).map fun _ => l) fun _ => (Many_suf hs _).bind fun l => (pass_suf _).map fun _ => l
theorem pVal_loc : Loc pVal := Loc.ite (fun x T U => Iff.rfl) ((tk_loc 2).map _) ((tk_suf 2).map _) ((ch_loc _).map _) ((ch_suf _).map _)
theorem pPart_loc (c : UInt8) (e : Eff) : Loc (pPart c e) := by
  intro T U; unfold pPart; (repeat' split)
  · exact ((tk_loc 1).map _) T U
  · exact ((tk_loc 1).map _) T U
  · exact ((tk_loc 1).map _) T U
  · exact ((tk_loc 2).map _) T U
  · exact (pVal_loc.map _) T U
theorem pParts_loc (l : List UInt8) (e : Eff) : Loc (pParts l e) := by
  induction l generalizing e with
  | nil => exact Loc.ret e
  | cons c l ih => exact (pPart_loc c e).bind (fun e' => ih e') fun e' => pParts_suf l e'
theorem pEff_loc : Loc pEff := (ch_loc _).bind (fun _ => (pParts_loc _ _).bind (fun e => (pass_loc _).map fun _ => e) fun e => (pass_suf _).map fun _ => e) fun _ => (pParts_suf _ _).bind fun e => (pass_suf _).map fun _ => e
theorem bE_loc : Loc (block pEff) := block_loc pEff_loc pEff_suf pEff_eats
theorem bE_suf : Suf (block pEff) := block_suf pEff_suf
theorem pRow_loc : Loc pRow := (ch_loc _).bind (fun i => Loc.ite (fun x T U => Iff.rfl)
  ((tk_loc 1).bind (fun t => Loc.ite (fun x T U => Iff.rfl) ((tk_loc 2).bind (fun u => bE_loc.map _) fun u => bE_suf.map _) ((tk_suf 2).bind fun u => bE_suf.map _) (bE_loc.map _) (bE_suf.map _)) fun t => Suf.ite ((tk_suf 2).bind fun u => bE_suf.map _) (bE_suf.map _))
  ((tk_suf 1).bind fun t => Suf.ite ((tk_suf 2).bind fun u => bE_suf.map _) (bE_suf.map _)) (bE_loc.map _) (bE_suf.map _)) fun i => pRow_in i
theorem bR_loc : Loc (block pRow) := block_loc pRow_loc pRow_suf pRow_eats
theorem bR_suf : Suf (block pRow) := block_suf pRow_suf
theorem pState_loc : Loc pState := (pass_loc _).bind (fun _ => (tk_loc 1).bind (fun t => bR_loc.map _) fun t => bR_suf.map _) fun _ => (tk_suf 1).bind fun t => bR_suf.map _
theorem pCase_loc : Loc pCase := (ch_loc _).bind (fun i => Loc.ite (fun x T U => Iff.rfl)
  ((tk_loc 1).bind (fun t => (ch_loc _).bind (fun d => (pass_loc _).map _) fun d => (pass_suf _).map _) fun t => (ch_suf _).bind fun d => (pass_suf _).map _)
  ((tk_suf 1).bind fun t => (ch_suf _).bind fun d => (pass_suf _).map _)
  ((ch_loc _).bind (fun d => (pass_loc _).map _) fun d => (pass_suf _).map _) ((ch_suf _).bind fun d => (pass_suf _).map _)) fun i => pCase_in i
theorem pLimit_loc : Loc pLimit := Loc.ite (fun x T U => Iff.rfl)
  ((pass_loc _).bind (fun _ => (tk_loc 2).bind (fun a => (pass_loc _).bind (fun _ => (tk_loc 2).bind (fun b => (pass_loc _).map _) fun b => (pass_suf _).map _) fun _ => (tk_suf 2).bind fun b => (pass_suf _).map _) fun a => (pass_suf _).bind fun _ => (tk_suf 2).bind fun b => (pass_suf _).map _) fun _ => (tk_suf 2).bind fun a => (pass_suf _).bind fun _ => (tk_suf 2).bind fun b => (pass_suf _).map _)
  ((pass_suf _).bind fun _ => (tk_suf 2).bind fun a => (pass_suf _).bind fun _ => (tk_suf 2).bind fun b => (pass_suf _).map _) (Loc.ret _) (Suf.ret _)

theorem Shut.map {α β : Type} {p : Tks → PR α} (h : Shut p) (g : α → β) : Shut fun T => (p T).bind fun a r => .ok (g a) r := by
  intro T U b r hb
  have hb' : (p T).bind (fun a r => PR.ok (g a) r) = .ok b r := hb
  cases hp : p T with
  | ok a s => rw [hp] at hb'; cases hb'; show (p (T ++ U)).bind _ = _; rw [h T U a _ hp]; rfl
  | bad s => rw [hp] at hb'; cases hb'
theorem pass_shut {s : Wd} (h : s ≠ []) : Shut (pass s) := by
  intro T U a r hp
  unfold pass at hp
  split at hp
  · rename_i hm
    cases T with
    | nil => exact absurd hm.symm h
    | cons x T => cases hp; exact if_pos hm
  · cases hp
theorem Shut.bind {α β : Type} {p : Tks → PR α} {f : α → Tks → PR β} (h : Loc p) (kE : ∀ a, Eats (f a)) (k : ∀ a, Shut (f a)) : Shut fun T => (p T).bind f := by
  intro T U b r hb
  have hb' : (p T).bind f = .ok b r := hb
  cases hp : p T with
  | bad s => rw [hp] at hb'; cases hb'
  | ok a s =>
    rw [hp] at hb'
    have hs : s ≠ [] := fun e => by subst e; exact absurd (kE a [] b r hb') (by simp)
    have e : p (T ++ U) = .ok a (s ++ U) := by rw [(h T U).1 (by rw [hp]; exact hs), hp]; rfl
    show (p (T ++ U)).bind f = _
    rw [e]
    exact k a s U b r hb'
theorem Eats.late {α β : Type} {p : Tks → PR α} {f : α → Tks → PR β} (h : Suf p) (k : ∀ a, Eats (f a)) : Eats fun T => (p T).bind f := by
  intro T b r hb
  have hb' : (p T).bind f = .ok b r := hb
  cases hp : p T with
  | ok a r1 =>
    rw [hp] at hb'
    exact Nat.lt_of_lt_of_le (k a r1 b r hb') (h.le hp)
  | bad r1 => rw [hp] at hb'; cases hb'
theorem close_shut {α β : Type} (g : β) : Shut fun T => (pass w_close T).bind fun _ r => PR.ok g r := (pass_shut (by decide)).map _
theorem close_eats {β : Type} (g : β) : Eats fun T => (pass w_close T).bind fun _ r => PR.ok g r := (pass_eats (by decide)).bind fun _ => Suf.ret _
theorem pKind_shut : Shut pKind :=
  Shut.bind (pass_loc _) (fun _ => (tk_eats 1).bind fun t => (pass_suf _).bind fun _ => pLimit_suf.bind fun lw => (Many_suf pCase_suf _).bind fun C => (Many_suf pState_suf _).bind fun S => (pass_suf _).map _) fun _ =>
  Shut.bind (tk_loc 1) (fun t => (pass_eats (by decide)).bind fun _ => pLimit_suf.bind fun lw => (Many_suf pCase_suf _).bind fun C => (Many_suf pState_suf _).bind fun S => (pass_suf _).map _) fun t =>
  Shut.bind (pass_loc _) (fun _ => Eats.late pLimit_suf fun lw => Eats.late (Many_suf pCase_suf _) fun C => Eats.late (Many_suf pState_suf _) fun S => close_eats _) fun _ =>
  Shut.bind pLimit_loc (fun lw => Eats.late (Many_suf pCase_suf _) fun C => Eats.late (Many_suf pState_suf _) fun S => close_eats _) fun lw =>
  Shut.bind (Many_loc pCase_loc pCase_suf pCase_eats noCase_head) (fun C => Eats.late (Many_suf pState_suf _) fun S => close_eats _) fun C =>
  Shut.bind (Many_loc pState_loc pState_suf pState_eats (isW_head _)) (fun S => close_eats _) fun S => (pass_shut (by decide)).map _
theorem pKind_loc : Loc pKind :=
  (pass_loc _).bind (fun _ => (tk_loc 1).bind (fun t => (pass_loc _).bind (fun _ => pLimit_loc.bind (fun lw => (Many_loc pCase_loc pCase_suf pCase_eats noCase_head).bind (fun C =>
    (Many_loc pState_loc pState_suf pState_eats (isW_head _)).bind (fun S => (pass_loc _).map _) fun S => (pass_suf _).map _) fun C => (Many_suf pState_suf _).bind fun S => (pass_suf _).map _)
    fun lw => (Many_suf pCase_suf _).bind fun C => (Many_suf pState_suf _).bind fun S => (pass_suf _).map _) fun _ => pLimit_suf.bind fun lw => (Many_suf pCase_suf _).bind fun C => (Many_suf pState_suf _).bind fun S => (pass_suf _).map _)
    fun t => (pass_suf _).bind fun _ => pLimit_suf.bind fun lw => (Many_suf pCase_suf _).bind fun C => (Many_suf pState_suf _).bind fun S => (pass_suf _).map _) fun _ => pKind_in
theorem pProg_loc : Loc pProg := Many_loc pKind_loc pKind_suf pKind_eats fun x T U => rfl
theorem pProg_eq (T : Tks) : pProg T = if T.isEmpty then .ok [] T else (pKind T).bind fun a r => (pProg r).bind fun l r' => .ok (a :: l) r' := Many_eq pKind_eats _ T
theorem pProg_nil : pProg [] = .ok [] [] := rfl
/-- A program that was read leaves nothing. -/
theorem pProg_ok (k : Nat) (T : Tks) (hk : T.length ≤ k) (P : List Kd) (r : Tks) (h : pProg T = .ok P r) : r = [] := by
  induction k generalizing T P with
  | zero =>
    have : T = [] := List.eq_nil_of_length_eq_zero (by omega)
    subst this; cases h; rfl
  | succ k ih =>
    rw [pProg_eq] at h
    cases T with
    | nil => cases h; rfl
    | cons x T =>
      have e : (x :: T : Tks).isEmpty = false := rfl
      rw [e] at h
      simp only [Bool.false_eq_true, if_false] at h
      cases hq : pKind (x :: T) with
      | bad s => rw [hq] at h; cases h
      | ok a s =>
        rw [hq] at h
        simp only [PR.bind_ok] at h
        have hl := pKind_eats _ a s hq
        cases hs : pProg s with
        | bad v => rw [hs] at h; cases h
        | ok l v =>
          rw [hs] at h
          simp only [PR.bind_ok, PR.ok.injEq] at h
          have h2 := h.2
          subst h2
          exact ih s (by simp at hl hk; omega) l hs
/-- A program's tokens and others behind: the kinds of both. -/
theorem pProg_app (k : Nat) (T U : Tks) (hk : T.length ≤ k) (P : List Kd) (r : Tks) (h : pProg T = .ok P r) : pProg (T ++ U) = (pProg U).bind fun l r => .ok (P ++ l) r := by
  induction k generalizing T P with
  | zero =>
    have : T = [] := List.eq_nil_of_length_eq_zero (by omega)
    subst this
    cases h
    rw [List.nil_append]
    cases pProg U <;> rfl
  | succ k ih =>
    cases T with
    | nil =>
      cases h
      rw [List.nil_append]
      cases pProg U <;> rfl
    | cons x T =>
      rw [pProg_eq] at h ⊢
      have e : (x :: T : Tks).isEmpty = false := rfl
      have e' : (x :: T ++ U : Tks).isEmpty = false := rfl
      rw [e] at h
      rw [e']
      simp only [Bool.false_eq_true, if_false] at h ⊢
      cases hq : pKind (x :: T) with
      | bad s => rw [hq] at h; cases h
      | ok a s =>
        rw [hq] at h
        simp only [PR.bind_ok] at h
        have hl := pKind_eats _ a s hq
        rw [pKind_shut _ U a s hq, PR.bind_ok]
        cases hs : pProg s with
        | bad v => rw [hs] at h; cases h
        | ok l v =>
          rw [hs] at h
          simp only [PR.bind_ok, PR.ok.injEq] at h
          rw [ih s (by simp at hl hk; omega) l (hs.trans (by rw [h.2])), ← h.1]
          cases pProg U <;> rfl

/-! ### Places are nothing to a reader -/
def sh (g : Nat → Nat) (x : Tok × Nat) : Tok × Nat := (x.1, g x.2)
def PR.mp {α : Type} (g : Nat → Nat) : PR α → PR α | .ok a r => .ok a (r.map (sh g)) | .bad r => .bad (r.map (sh g))
def Bl {α : Type} (p : Tks → PR α) : Prop := ∀ g T, p (T.map (sh g)) = (p T).mp g
theorem Bl.bind {α β : Type} {p : Tks → PR α} {f : α → Tks → PR β} (h : Bl p) (k : ∀ a, Bl (f a)) : Bl fun T => (p T).bind f := by
  intro g T
  show (p (T.map (sh g))).bind f = ((p T).bind f).mp g
  rw [h g T]
  cases p T with
  | ok a r => exact k a g r
  | bad r => rfl
theorem Bl.ret {α : Type} (a : α) : Bl (fun T => PR.ok a T) := fun g T => rfl
theorem Bl.map {α β : Type} {p : Tks → PR α} (h : Bl p) (g : α → β) : Bl fun T => (p T).bind fun a r => .ok (g a) r := h.bind fun a => Bl.ret (g a)
theorem Bl.ite {α : Type} {c : Tks → Prop} [∀ T, Decidable (c T)] {p q : Tks → PR α} (hc : ∀ g T, c (T.map (sh g)) ↔ c T) (h : Bl p) (k : Bl q) : Bl fun T => if c T then p T else q T := by
  intro g T
  have e := hc g T
  by_cases h1 : c T
  · have h2 := e.2 h1
    simp only [if_pos h1, if_pos h2]; exact h g T
  · have h2 : ¬ c (T.map (sh g)) := fun y => h1 (e.1 y)
    simp only [if_neg h1, if_neg h2]; exact k g T
theorem hw_map (g : Nat → Nat) (T : Tks) : hw (T.map (sh g)) = hw T := by cases T <;> rfl
theorem hk_map (g : Nat → Nat) (T : Tks) : hk (T.map (sh g)) = hk T := by cases T <;> rfl
theorem tk_bl (k : Nat) : Bl (tk k) := by
  intro g T
  cases T with
  | nil => rfl
  | cons x T =>
    rw [List.map_cons, tk_c, tk_c]
    show (if x.1.k = k then _ else _) = _
    split <;> rfl
theorem ch_bl (ws : List Wd) : Bl (ch ws) := by
  intro g T
  unfold ch
  rw [hw_map]
  split
  · show _ = PR.ok _ _
    rw [List.map_tail]
  · rfl
theorem pass_bl (s : Wd) : Bl (pass s) := by
  intro g T
  unfold pass
  rw [hw_map]
  split
  · show _ = PR.ok _ _
    rw [List.map_tail]
  · rfl
theorem many_bl {α : Type} {p : Tks → PR α} (h : Bl p) {stop : Tks → Bool} (hc : ∀ g T, stop (T.map (sh g)) = stop T) (n : Nat) : Bl (many p stop n) := by
  induction n with
  | zero => exact fun g T => rfl
  | succ n ih =>
    have e : (many p stop (n + 1)) = fun T => if stop T = true then .ok [] T else (p T).bind fun a r => (many p stop n r).bind fun l r' => .ok (a :: l) r' := rfl
    rw [e]
    exact Bl.ite (fun g T => by rw [hc]) (Bl.ret _) (h.bind fun a => ih.map fun l => a :: l)
theorem Many_bl {α : Type} {p : Tks → PR α} (h : Bl p) {stop : Tks → Bool} (hc : ∀ g T, stop (T.map (sh g)) = stop T) : Bl (Many p stop) := by
  intro g T
  unfold Many
  rw [List.length_map]
  exact many_bl h hc _ g T
theorem isW_map (s : Wd) (g : Nat → Nat) (T : Tks) : isW s (T.map (sh g)) = isW s T := by unfold isW; rw [hw_map]
theorem noCase_map (g : Nat → Nat) (T : Tks) : noCase (T.map (sh g)) = noCase T := by unfold noCase; rw [hw_map]
theorem block_bl {α : Type} {p : Tks → PR α} (h : Bl p) : Bl (block p) := (pass_bl _).bind fun _ => (Many_bl h (isW_map _)).bind fun l => (pass_bl _).map fun _ => l
theorem hk_iff (g : Nat → Nat) (T : Tks) : hk (T.map (sh g)) = 2 ↔ hk T = 2 := by rw [hk_map]
theorem pVal_bl : Bl pVal := Bl.ite hk_iff ((tk_bl 2).map _) ((ch_bl _).map _)
theorem pPart_bl (c : UInt8) (e : Eff) : Bl (pPart c e) := by
  intro g T; unfold pPart; (repeat' split)
  · exact ((tk_bl 1).map _) g T
  · exact ((tk_bl 1).map _) g T
  · exact ((tk_bl 1).map _) g T
  · exact ((tk_bl 2).map _) g T
  · exact (pVal_bl.map _) g T
theorem pParts_bl (l : List UInt8) (e : Eff) : Bl (pParts l e) := by
  induction l generalizing e with
  | nil => exact Bl.ret e
  | cons c l ih => exact (pPart_bl c e).bind fun e' => ih e'
theorem pEff_bl : Bl pEff := (ch_bl _).bind fun _ => (pParts_bl _ _).bind fun e => (pass_bl _).map fun _ => e
theorem pRow_bl : Bl pRow := (ch_bl _).bind fun i => Bl.ite (fun _ _ => Iff.rfl) ((tk_bl 1).bind fun t => Bl.ite hk_iff ((tk_bl 2).bind fun u => (block_bl pEff_bl).map _) ((block_bl pEff_bl).map _)) ((block_bl pEff_bl).map _)
theorem pState_bl : Bl pState := (pass_bl _).bind fun _ => (tk_bl 1).bind fun t => (block_bl pRow_bl).map _
theorem pCase_bl : Bl pCase := (ch_bl _).bind fun i => Bl.ite (fun _ _ => Iff.rfl) ((tk_bl 1).bind fun t => (ch_bl _).bind fun d => (pass_bl _).map _) ((ch_bl _).bind fun d => (pass_bl _).map _)
theorem pLimit_bl : Bl pLimit := Bl.ite (fun g T => by rw [hw_map]) ((pass_bl _).bind fun _ => (tk_bl 2).bind fun a => (pass_bl _).bind fun _ => (tk_bl 2).bind fun b => (pass_bl _).map _) (Bl.ret _)
theorem pKind_bl : Bl pKind := (pass_bl _).bind fun _ => (tk_bl 1).bind fun t => (pass_bl _).bind fun _ => pLimit_bl.bind fun lw => (Many_bl pCase_bl noCase_map).bind fun C => (Many_bl pState_bl (isW_map _)).bind fun S => (pass_bl _).map _
theorem pProg_bl : Bl pProg := Many_bl pKind_bl fun g T => by cases T <;> rfl
end Go.Proofs.YtnkokonkbklelaaGreatDoor.Ps
