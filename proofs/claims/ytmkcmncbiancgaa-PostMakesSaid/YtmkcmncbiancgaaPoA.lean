/- An operation of a box, as a list of accesses and what each answers: in plain words. -/
import Derived.Test.YtmkcmncbiancgaaRingV
namespace Go.Proofs.Ytmkcmncbiancgaa.Po
open Go.RowKit Go.Proofs.Ytmkcmncbiancgaa

/-- Where a box lies: its blocks (the struct's, the rings', the memory's), its base, its rings' slots. -/
structure BA where
  bx : Nat
  mg : Nat
  ng : Nat
  hb : Nat
  rb : Nat
  b : Nat
  c : Nat
  d : Nat
def BA.rg (A : BA) (k : Bool) : Nat := if k then A.ng else A.mg
def BA.bb (A : BA) (k : Bool) : Nat := if k then A.b + 4 + 2 * A.c else A.b + 2
def BA.cc (A : BA) (k : Bool) : Nat := if k then A.d else A.c

/-- Where an operation stands (k: of the notes, or of the mail; h: held). -/
inductive PS where
  | put (k : Bool) (s : OS) | load (k : Bool) | swap (k : Bool) (s : Int)
  | ask (v : Int) | stand (z : Int) | gone | whole (k : Bool) (s : OS)
  | set (h : Bool) | lookN (h : Bool) (s : OS) | lookM (s : OS) | charge (h : Bool)
  | over (o : Nat) (x : Int)
def rest (h : Bool) : Int := if h then 3 else 0

def pacc (A : BA) : PS → Acc
  | .put k s => acc (A.bb k) (A.cc k) s
  | .load _ => .load A.b
  | .swap _ s => .swap A.b s 1
  | .ask _ => .swap (A.b + 1) 0 1
  | .stand z => .store A.b z
  | .gone => .load A.b
  | .whole k s => acc (A.bb k) (A.cc k) s
  | .set h => .store A.b (rest h)
  | .lookN _ s => acc (A.bb true) (A.cc true) s
  | .lookM s => acc (A.bb false) (A.cc false) s
  | .charge h => .swap A.b (rest h) 1
  | .over _ _ => .none

/-- What comes behind a ring's operation. -/
def fin (s : OS) (go : OS → PS) (k : Nat → Int → PS) : PS :=
  match s with
  | .over o x _ => k o x
  | s => go s
theorem fin_over (o : Nat) (x : Int) (t : Nat) (go : OS → PS) (k : Nat → Int → PS) : fin (.over o x t) go k = k o x := rfl
theorem fin_go (s : OS) (go : OS → PS) (k : Nat → Int → PS) (h : s.isO = false) : fin s go k = go s := by
  cases s <;> first | rfl | simp [OS.isO] at h
def looked (h : Bool) (o : Nat) : PS := if o = 1 then .charge h else .over 4 0
def pres (A : BA) (a : Int) : PS → PS
  | .put k s => fin (res (A.cc k) a s) (.put k) (fun o _ => if o = 1 then .load k else .over o 0)
  | .load k => if a = 0 ∨ (k = true ∧ a = 3) then .swap k a else .over 1 0
  | .swap k _ => if a = 0 then .load k else .over 7 0
  | .ask v => if a = 0 then .over 4 0 else .put true (.put0 v)
  | .stand _ => .over 1 0
  | .gone => if a = 4 then .over 1 0 else .over 4 0
  | .whole k s => fin (res (A.cc k) a s) (.whole k) (fun o x => .over o x)
  | .set h => .lookN h .look0
  | .lookN h s => fin (res (A.cc true) a s) (.lookN h) (fun o _ => if o = 1 ∨ h = true then looked h o else .lookM .look0)
  | .lookM s => fin (res (A.cc false) a s) .lookM (fun o _ => looked false o)
  | .charge _ => if a = 0 then .over 1 0 else .over 8 0
  | .over o x => .over o x

def PS.isO : PS → Bool
  | .over _ _ => true
  | _ => false
def PS.o : PS → Int
  | .over o _ => (o : Int)
  | _ => 0
def PS.x : PS → Int
  | .over _ x => x
  | _ => 0
/-- A ring's operation that isn't over, with a ticket that can be. -/
def rok (s : OS) : Prop := s.isO = false ∧ s.tk
def PS.ok : PS → Prop
  | .put _ s => rok s
  | .whole _ s => rok s
  | .lookN _ s => rok s
  | .lookM s => rok s
  | .over o _ => 1 ≤ o
  | _ => True
def pstepS (A : BA) (L : List Int) (s : PS) : PS := pres A (doAcc L (pacc A s)).2 s
def pstepL (A : BA) (L : List Int) (s : PS) : List Int := (doAcc L (pacc A s)).1
def pstepT (s : PS) (t : Int) : Int := if s.isO then t else t + 1
theorem pstepL_length (A : BA) (L : List Int) (s : PS) : (pstepL A L s).length = L.length := doAcc_length _ _
/-- The rings' numbers. -/
def PNums (A : BA) (L : List Int) : Prop := Nums (A.bb false) L ∧ Nums (A.bb true) L
theorem PNums.of {A : BA} {L : List Int} (h : PNums A L) (k : Bool) : Nums (A.bb k) L := by cases k; exact h.1; exact h.2

theorem put_eq (A : BA) (L : List Int) (k : Bool) (s : OS) : pstepS A L (.put k s) = fin (stepS (A.bb k) (A.cc k) L s) (.put k) (fun o _ => if o = 1 then .load k else .over o 0) := rfl
theorem whole_eq (A : BA) (L : List Int) (k : Bool) (s : OS) : pstepS A L (.whole k s) = fin (stepS (A.bb k) (A.cc k) L s) (.whole k) (fun o x => .over o x) := rfl
theorem lookN_eq (A : BA) (L : List Int) (h : Bool) (s : OS) : pstepS A L (.lookN h s) = fin (stepS (A.bb true) (A.cc true) L s) (.lookN h) (fun o _ => if o = 1 ∨ h = true then looked h o else .lookM .look0) := rfl
theorem lookM_eq (A : BA) (L : List Int) (s : OS) : pstepS A L (.lookM s) = fin (stepS (A.bb false) (A.cc false) L s) .lookM (fun o _ => looked false o) := rfl
theorem looked_ok (h : Bool) (o : Nat) : (looked h o).ok := by
  unfold looked; split
  · trivial
  · exact (by decide : 1 ≤ 4)
theorem isO_of {s : OS} (h : s.isO = true) : ∃ o x t, s = .over o x t := by
  cases s <;> first | exact ⟨_, _, _, rfl⟩ | simp [OS.isO] at h
theorem fin_ok (s : OS) (go : OS → PS) (k : Nat → Int → PS) (hs : s.tk) (hg : s.isO = false → (go s).ok) (hk : ∀ o x, 1 ≤ o → (k o x).ok) : (fin s go k).ok := by
  cases h : s.isO with
  | false => rw [fin_go s go k h]; exact hg h
  | true =>
    obtain ⟨o, x, t, rfl⟩ := isO_of h
    exact hk o x hs
theorem pstepS_ok (A : BA) (L : List Int) (s : PS) (h : s.ok) (hn : PNums A L) : (pstepS A L s).ok := by
  cases s with
  | put k s =>
    rw [put_eq]
    refine fin_ok _ _ _ (stepS_tk _ _ _ _ h.2 (hn.of k)) (fun q => ⟨q, stepS_tk _ _ _ _ h.2 (hn.of k)⟩) (fun o x q => ?_)
    split
    · trivial
    · exact q
  | whole k s =>
    rw [whole_eq]
    exact fin_ok _ _ _ (stepS_tk _ _ _ _ h.2 (hn.of k)) (fun q => ⟨q, stepS_tk _ _ _ _ h.2 (hn.of k)⟩) (fun o x q => q)
  | lookN z s =>
    rw [lookN_eq]
    refine fin_ok _ _ _ (stepS_tk _ _ _ _ h.2 hn.2) (fun q => ⟨q, stepS_tk _ _ _ _ h.2 hn.2⟩) (fun o x q => ?_)
    split
    · exact looked_ok _ _
    · exact ⟨rfl, trivial⟩
  | lookM s =>
    rw [lookM_eq]
    exact fin_ok _ _ _ (stepS_tk _ _ _ _ h.2 hn.1) (fun q => ⟨q, stepS_tk _ _ _ _ h.2 hn.1⟩) (fun o x q => looked_ok _ _)
  | load k => simp only [pstepS, pres]; split <;> first | trivial | exact (by decide : 1 ≤ 1)
  | swap k z => simp only [pstepS, pres]; split <;> first | trivial | exact (by decide : 1 ≤ 7)
  | ask v => simp only [pstepS, pres]; split <;> first | exact (by decide : 1 ≤ 4) | exact ⟨rfl, trivial⟩
  | stand z => exact (by decide : 1 ≤ 1)
  | gone => simp only [pstepS, pres]; split <;> first | exact (by decide : 1 ≤ 1) | exact (by decide : 1 ≤ 4)
  | set z => exact ⟨rfl, trivial⟩
  | charge z => simp only [pstepS, pres]; split <;> first | exact (by decide : 1 ≤ 1) | exact (by decide : 1 ≤ 8)
  | over o x => exact h

/-- n steps, and the operation is over. -/
inductive PRuns (A : BA) : Nat → List Int → PS → List Int → PS → Prop
  | over {L : List Int} {s : PS} (h : s.isO = true) : PRuns A 0 L s L s
  | step {n : Nat} {L L' : List Int} {s s' : PS} (h : s.isO = false) (hn : PNums A L) (hr : PRuns A n (pstepL A L s) (pstepS A L s) L' s') : PRuns A (n + 1) L s L' s'
theorem PRuns.isO {A : BA} {n : Nat} {L L' : List Int} {s s' : PS} (h : PRuns A n L s L' s') : s'.isO = true := by
  induction h with
  | over h => exact h
  | step _ _ _ ih => exact ih
theorem PRuns.ok {A : BA} {n : Nat} {L L' : List Int} {s s' : PS} (h : PRuns A n L s L' s') (hs : s.ok) : s'.ok := by
  induction h with
  | over h => exact hs
  | step _ hn _ ih => exact ih (pstepS_ok _ _ _ hs hn)
theorem PRuns.length {A : BA} {n : Nat} {L L' : List Int} {s s' : PS} (h : PRuns A n L s L' s') : L'.length = L.length := by
  induction h with
  | over h => rfl
  | step _ _ _ ih => rw [ih, pstepL_length]
end Go.Proofs.Ytmkcmncbiancgaa.Po
