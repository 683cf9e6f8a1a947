/- An operation of a ring, as a list of accesses and what each answers; the document's own small functions (turn, Wait, Do). -/
import Derived.Test.YtmkcmncbiancgaaAccE
namespace Go.Proofs.Ytmkcmncbiancgaa
open Go.RowKit

/-- The cell of a ticket's turn; the turn of a slot that waits for a ticket. -/
def turnAt (b c t : Nat) : Nat := b + 2 + 2 * (t % c)
def waitAt (c t : Nat) : Nat := 2 * (t / c)
theorem turnAt_lt (b c t : Nat) (hc : 0 < c) : turnAt b c t + 1 < b + 2 + 2 * c := by
  have := Nat.mod_lt t hc
  unfold turnAt; omega
theorem waitAt_le (c t : Nat) : waitAt c t ≤ 2 * t := by
  have := Nat.div_le_self t c
  unfold waitAt; omega

/-- Where an operation stands. -/
inductive OS where
  | put0 (v : Int) | put1 (v : Int) (t : Nat) | put2 (v : Int) (t : Nat) | put3 (v : Int) (t : Nat) | put4 (v : Int) (t : Nat)
  | take0 | look0 | drain0 | drain1 (t : Nat)
  | turn (look : Bool) (h : Nat) | val (h : Nat) | out (h : Nat) (x : Int) | hd (h : Nat) (x : Int)
  | close0 | close1 (t : Nat)
  | over (o : Nat) (x : Int) (t : Nat)

def two63 : Nat := 9223372036854775808

/-- The next access. -/
def acc (b c : Nat) : OS → Acc
  | .put0 _ => .load b
  | .put1 _ t => .load (turnAt b c t)
  | .put2 _ t => .swap b (t : Int) ((t : Int) + 1)
  | .put3 v t => .store (turnAt b c t + 1) v
  | .put4 _ t => .store (turnAt b c t) ((waitAt c t : Int) + 1)
  | .take0 => .load (b + 1)
  | .look0 => .load (b + 1)
  | .drain0 => .load b
  | .drain1 _ => .load (b + 1)
  | .turn _ h => .load (turnAt b c h)
  | .val h => .load (turnAt b c h + 1)
  | .out h _ => .store (turnAt b c h) ((waitAt c h : Int) + 2)
  | .hd h _ => .store (b + 1) ((h : Int) + 1)
  | .close0 => .load b
  | .close1 t => .swap b (t : Int) ((t : Int) + 9223372036854775808)
  | .over _ _ _ => .none

/-- What its answer makes of it. -/
def res (c : Nat) (a : Int) : OS → OS
  | .put0 v => if (9223372036854775808 : Int) ≤ a then .over 3 0 0 else .put1 v a.toNat
  | .put1 v t => if a < (waitAt c t : Int) then .over 2 0 0 else if (waitAt c t : Int) < a then .put0 v else .put2 v t
  | .put2 v t => if a = 0 then .put0 v else .put3 v t
  | .put3 v t => .put4 v t
  | .put4 _ t => .over 1 0 t
  | .take0 => .turn false a.toNat
  | .look0 => .turn true a.toNat
  | .drain0 => .drain1 a.toNat
  | .drain1 t => if (t : Int) = a + 9223372036854775808 then .over 5 0 0 else .turn false a.toNat
  | .turn look h => if a ≠ (waitAt c h : Int) + 1 then .over 4 0 0 else if look then .over 1 0 0 else .val h
  | .val h => .out h a
  | .out h x => .hd h x
  | .hd _ x => .over 1 x 0
  | .close0 => if (9223372036854775808 : Int) ≤ a then .over 1 0 0 else .close1 a.toNat
  | .close1 _ => if a = 0 then .close0 else .over 1 0 0
  | .over o x t => .over o x t



/-- What the document wants of an operation that stands so. -/
def wantOf (b c : Nat) : OS → Value
  | .over o x t => .agg #[.bool true, .int .i64 0, .int .i64 0, .int .u64 0, .int .u64 0, .int .i64 (o : Int), .int .u64 x, .int .u64 (t : Int)]
  | s => accWant (acc b c s)

end Go.Proofs.Ytmkcmncbiancgaa
