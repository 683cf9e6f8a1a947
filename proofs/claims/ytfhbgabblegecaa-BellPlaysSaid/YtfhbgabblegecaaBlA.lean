/- A bell's operations as lists of accesses, and what each answers. (Plain words.) -/
import Derived.Test.YtfhbgabblegecaaSpanA
namespace Go.Proofs.Ytfhbgabblegecaa.Bl
open Go.RowKit

/-- What an operation of one worker does. -/
inductive Kd where
  | sleep | up | poll
def Kd.acc (b v : Nat) : Kd → Acc
  | .sleep => .store (b + v) 1
  | .up => .store (b + v) 0
  | .poll => .load (b + v)
/-- Where an operation stands: at its one access (with the blocks of what its closure captured), at a Ring's look, at its rousing; or it is over. -/
inductive OS where
  | one (k : Kd) (v cb cw : Nat) | look (v : Nat) | rouse (v : Nat) | over (o : Nat) (x : Int)
def acc (b : Nat) : OS → Acc
  | .one k v _ _ => k.acc b v
  | .look v => .load (b + v)
  | .rouse v => .swap (b + v) 1 0
  | .over _ _ => .none
/-- A Ring goes on behind v. -/
def on (n v : Nat) : OS := if v + 1 = n then .over 4 (-1) else .look (v + 1)
def Kd.out (a : Int) : Kd → Nat
  | .poll => if a = 0 then 1 else 4
  | _ => 1
def res (n : Nat) (a : Int) : OS → OS
  | .one k _ _ _ => .over (k.out a) (-1)
  | .look v => if a = 1 then .rouse v else on n v
  | .rouse v => if a = 0 then on n v else .over 7 (v : Int)
  | .over o x => .over o x
def OS.isO : OS → Bool
  | .over _ _ => true
  | _ => false
def OS.o : OS → Int
  | .over o _ => (o : Int)
  | _ => 0
def OS.x : OS → Int
  | .over _ x => x
  | _ => -1
def OS.ok (n : Nat) : OS → Prop
  | .one _ v _ _ => v < n
  | .look v => v < n
  | .rouse v => v < n
  | .over o _ => 1 ≤ o
/-- What its closure captured lies apart. -/
def OS.apart (S : Nat → Prop) : OS → Prop
  | .one _ _ cb cw => ¬ S cb ∧ ¬ S cw
  | _ => True
def stepS (b n : Nat) (L : List Int) (s : OS) : OS := res n (doAcc L (acc b s)).2 s
def stepL (b : Nat) (L : List Int) (s : OS) : List Int := (doAcc L (acc b s)).1
def stepT (s : OS) (t : Int) : Int := if s.isO then t else t + 1
theorem stepL_length (b : Nat) (L : List Int) (s : OS) : (stepL b L s).length = L.length := doAcc_length _ _
theorem on_ok (n v : Nat) (h : v < n) : (on n v).ok n := by
  unfold on; split
  · show 1 ≤ 4; omega
  · show v + 1 < n; omega
theorem stepS_ok (b n : Nat) (L : List Int) (s : OS) (h : s.ok n) : (stepS b n L s).ok n := by
  unfold stepS
  generalize (doAcc L (acc b s)).2 = a
  cases s with
  | one k v cb cw => cases k <;> simp only [res, Kd.out] <;> (try split) <;> first | (show 1 ≤ 1; omega) | (show 1 ≤ 4; omega)
  | look v =>
    simp only [res]; split
    · exact h
    · exact on_ok n v h
  | rouse v =>
    simp only [res]; split
    · exact on_ok n v h
    · show 1 ≤ 7; omega
  | over o x => exact h
theorem on_apart (n v : Nat) (S : Nat → Prop) : (on n v).apart S := by unfold on; split <;> trivial
theorem stepS_apart (b n : Nat) (L : List Int) (s : OS) (S : Nat → Prop) (h : s.apart S) : (stepS b n L s).apart S := by
  unfold stepS
  generalize (doAcc L (acc b s)).2 = a
  cases s with
  | one k v cb cw => trivial
  | look v =>
    simp only [res]; split
    · trivial
    · exact on_apart n v S
  | rouse v =>
    simp only [res]; split
    · exact on_apart n v S
    · trivial
  | over o x => exact h
theorem isO_ne {n : Nat} (s : OS) (h : s.ok n) : (s.o != 0) = s.isO := by
  cases s <;> simp only [OS.o, OS.isO] <;> simp [OS.ok] at h ⊢
  omega
theorem OS.apart_mono {S T : Nat → Prop} {s : OS} (h : s.apart S) (hs : ∀ k, T k → S k) : s.apart T := by
  cases s <;> simp only [OS.apart] at h ⊢
  exact ⟨fun t => h.1 (hs _ t), fun t => h.2 (hs _ t)⟩
end Go.Proofs.Ytfhbgabblegecaa.Bl
