/- act: orders told by what holds; plans held against each other; the example. -/
import Derived.Test.YtimnaiahokafaaaAcG
set_option linter.unusedVariables false
namespace Go.Proofs.Ytimnaiahokafaaa.Ac
open Go Go.RowKit Go.Proofs.Ytimnaiahokafaaa Lx Ps Ch

/-- A region in whatever order, told by what holds between two operations. -/
theorem wpAnyH_inv {P : Program} {md : Region.Mode} {ops : Array Oper} {Q : Exit → Act → World → Prop} {S : World → Prop} {m : Nat} (I : Nat → Array Bool → Act → World → Prop)
    (h0 : ∀ l a w, I 0 l a w → wpAnyH P md ops Q S m l a w)
    (hs : ∀ k l a w, I (k + 1) l a w → (Region.ready md ops l = [] → False) ∧ ∀ i ∈ Region.ready md ops l, wpOp P ops Q i (fun a' w' => S w' ∧ I k (l.setIfInBounds i true) a' w') a w) :
    ∀ k l a w, I k l a w → wpAnyH P md ops Q S (m + k) l a w
  | 0, l, a, w, h => h0 l a w h
  | k + 1, l, a, w, h => ⟨fun e => ((hs k l a w h).1 e).elim, fun i hi => wpOp_mono (fun a' w' h' => ⟨h'.1, wpAnyH_inv I h0 hs k _ _ _ h'.2⟩) ((hs k l a w h).2 i hi)⟩
theorem eql_eff (e f : Eff) (w : World) : (binOp .eql 50 (.agg #[.int .i64 e.act, .string (bs e.ref), .string (bs e.slot), .string (bs e.name), .int .i64 e.val, .int .i64 e.n, .int .i64 e.delay]) (.agg #[.int .i64 f.act, .string (bs f.ref), .string (bs f.slot), .string (bs f.name), .int .i64 f.val, .int .i64 f.n, .int .i64 f.delay])).run Try.prog w = .ok (.bool (decide (e = f))) w := by
  have hp : Try.prog.stoodInHeld 50 = false := by kernel_rfl
  have hu := Try.underlying50
  have h9 := Try.underlying9
  have h3 := Try.underlying3
  rw [run_eql_struct]
  simp [go_sem, hp, hu, h9, h3]
  obtain ⟨a, b, c, d, e, f, g⟩ := e
  rename_i f0
  obtain ⟨a', b', c', d', e', f', g'⟩ := f0
  simp only [toList_bs, Eff.mk.injEq]
  (repeat' split) <;> simp_all
theorem guard_eql (x y : Operand) (xs ys : Array Value) (w : World) : (eqGuard .eql 50 x y (.agg xs) (.agg ys)).run Try.prog w = .ok () w := run_eqGuard_agg w _ _ _ _ _ _ (by kernel_rfl)
theorem bool_ne (a b : Bool) : (a != b) = !decide (a = b) := by cases a <;> cases b <;> rfl

set_option maxHeartbeats 4000000 in
set_option maxRecDepth 100000 in
/-- A plan is as its twin. -/
theorem rsame15 {D D' : Nat} {w : World} (p : Pl) {a a' : Option Addr} {n c c' : Nat} (h : XE D w (.slice a n c) p.effs) (h' : XE D' w (.slice a' n c') p.effs) (hn : p.effs.length = n) (hb : n ≤ 140737488355328) :
    Calls Try.prog 12 #[.agg #[.bool p.stash, .slice a n c, .string (bs p.state), .bool p.stop, .string (bs p.fail)], .agg #[.bool p.stash, .slice a' n c', .string (bs p.state), .bool p.stop, .string (bs p.fail)]] w fun e w' => e = .returned (.bool true) ∧ Only Nil w w' := by
  obtain ⟨W1, hW1⟩ : ∃ W, W = w.alloc (.cells #[.bool p.stash, .slice a n c, .string (bs p.state), .bool p.stop, .string (bs p.fail)] 30) := ⟨_, rfl⟩
  have s1 : W1.heap.size = w.heap.size + 1 := by rw [hW1]; simp
  have o1 : Only Nil w W1 := hW1 ▸ (Only.refl Nil w).alloc _
  have b1 : Bx W1 (w.heap.size) [.bool p.stash, .slice a n c, .string (bs p.state), .bool p.stop, .string (bs p.fail)] 30 := hW1 ▸ bx_new w _ _
  obtain ⟨W2, hW2⟩ : ∃ W, W = W1.alloc (.cells #[.bool p.stash, (.slice a' n c'), .string (bs p.state), .bool p.stop, .string (bs p.fail)] 30) := ⟨_, rfl⟩
  have s2 : W2.heap.size = w.heap.size + 1 + 1 := by rw [hW2]; simp [s1]
  have o2 : Only Nil W1 W2 := hW2 ▸ (Only.refl Nil W1).alloc _
  have b2 : Bx W2 (w.heap.size + 1) [.bool p.stash, (.slice a' n c'), .string (bs p.state), .bool p.stop, .string (bs p.fail)] 30 := by have h := bx_new W1 [.bool p.stash, (.slice a' n c'), .string (bs p.state), .bool p.stop, .string (bs p.fail)] 30; rw [s1] at h; rw [hW2]; exact h
  have X1 := Lib.hid (b1.keep o2)
  have X2 := Lib.hid b2
  have O := Lib.hid (o1.trans o2)
  have SZ := Lib.hid s2
  have H1 := Lib.hid (h.keep O.out (nilS · D))
  have H2 := Lib.hid (h'.keep O.out (nilS · D'))
  have q1 := str_eq p.state
  have q2 := str_eq p.fail
  have hbi : (n : Int) ≤ 140737488355328 := by omega
  have HN := Lib.hid hn
  have hzz : ((n : Int) != (n : Int)) = false := by simp
  have hzn : (n != n) = false := by simp
  obtain ⟨stash, E, st, stop, fl⟩ := p
  dsimp only at *
  clear h h' hn
  go_enter Try.func12, Try.ntmps12
  go_upto_region 1 with (fail)
  (try simp only [World.size_alloc])
  rw [← hW1, ← hW2]
  clear hW1 s1 o1 b1 hW2 s2 o2 b2
  generalize hB2 : w.heap.size + 1 = B2 at *
  generalize hB1 : w.heap.size = B1 at *
  have HB1 := Lib.hid hB1
  have HB2 := Lib.hid hB2
  clear hB1 hB2
  have k0 := X1.out.cell 0 (v := .bool stash) rfl
  have k1 := X1.out.cell 1 (v := .slice a n c) rfl
  have k2 := X1.out.cell 2 (v := .string (bs st)) rfl
  have k3 := X1.out.cell 3 (v := .bool stop) rfl
  have k4 := X1.out.cell 4 (v := .string (bs fl)) rfl
  have z0 := X2.out.cell 0 (v := .bool stash) rfl
  have z1 := X2.out.cell 1 (v := .slice a' n c') rfl
  have z2 := X2.out.cell 2 (v := .string (bs st)) rfl
  have z3 := X2.out.cell 3 (v := .bool stop) rfl
  have z4 := X2.out.cell 4 (v := .string (bs fl)) rfl
  have hz1 : (stash != stash) = false := by simp
  have hz2 : (stop != stop) = false := by simp
  go_wp2
  go_loopw [5] (fun s5 wr => ∃ (i : Nat), i ≤ n ∧ s5 = .int .i64 (i : Int) ∧ Hid (Only Nil W2 wr)) (fun s5 _ => n - (intOf s5).toNat)
  case atStart => exact ⟨0, Nat.zero_le _, rfl, Lib.hid (Only.refl _ _)⟩
  case round =>
    obtain ⟨i, hi, rfl, hO⟩ := hrel
    clear k0 k1 k2 k3 k4 z0 z1 z2 z3 z4
    have k1 := (X1.out.keep hO.out).cell 1 (v := .slice a n c) rfl
    have z1 := (X2.out.keep hO.out).cell 1 (v := .slice a' n c') rfl
    by_cases him : i < n
    · obtain ⟨b, off, rfl, hlt, hc⟩ := XE.at_ (H1.out.keep hO.out (nilS · D)) HN.out i him
      obtain ⟨b', off', rfl, hlt', hc'⟩ := XE.at_ (H2.out.keep hO.out (nilS · D')) HN.out i him
      generalize E[i]'(by rw [HN.out]; exact him) = x at *
      have c0 : wr.cell? ⟨b, off + i * 7, none⟩ = some (.int .i64 x.act) := hc 0 (by decide)
      have d0 : wr.cell? ⟨b', off' + i * 7, none⟩ = some (.int .i64 x.act) := hc' 0 (by decide)
      have c1 : wr.cell? ⟨b, off + i * 7 + 1, none⟩ = some (.string (bs x.ref)) := hc 1 (by decide)
      have d1 : wr.cell? ⟨b', off' + i * 7 + 1, none⟩ = some (.string (bs x.ref)) := hc' 1 (by decide)
      have c2 : wr.cell? ⟨b, off + i * 7 + 2, none⟩ = some (.string (bs x.slot)) := hc 2 (by decide)
      have d2 : wr.cell? ⟨b', off' + i * 7 + 2, none⟩ = some (.string (bs x.slot)) := hc' 2 (by decide)
      have c3 : wr.cell? ⟨b, off + i * 7 + 3, none⟩ = some (.string (bs x.name)) := hc 3 (by decide)
      have d3 : wr.cell? ⟨b', off' + i * 7 + 3, none⟩ = some (.string (bs x.name)) := hc' 3 (by decide)
      have c4 : wr.cell? ⟨b, off + i * 7 + 4, none⟩ = some (.int .i64 x.val) := hc 4 (by decide)
      have d4 : wr.cell? ⟨b', off' + i * 7 + 4, none⟩ = some (.int .i64 x.val) := hc' 4 (by decide)
      have c5 : wr.cell? ⟨b, off + i * 7 + 5, none⟩ = some (.int .i64 x.n) := hc 5 (by decide)
      have d5 : wr.cell? ⟨b', off' + i * 7 + 5, none⟩ = some (.int .i64 x.n) := hc' 5 (by decide)
      have c6 : wr.cell? ⟨b, off + i * 7 + 6, none⟩ = some (.int .i64 x.delay) := hc 6 (by decide)
      have d6 : wr.cell? ⟨b', off' + i * 7 + 6, none⟩ = some (.int .i64 x.delay) := hc' 6 (by decide)
      clear hc hc'
      have hg := guard_eff
      have hne := neq_eff x x
      simp only [decide_true, Bool.not_true] at hne
      have himi : (i : Int) < (n : Int) := by omega
      have od := Lib.hid (hO.out.trans (Only.refl Nil wr).drew)
      have HI := Lib.hid him
      clear him hi
      go_upto_region 6 with (fail)
      go_region_with (fail)
      all_goals
        go_wp2
        go_roundw
        case rel => exact ⟨i + 1, HI.out, by go_num, od⟩
        case measure => have := HI.out; simp [intOf]; omega
    · obtain rfl : i = n := by omega
      have hk0 : ¬ (i : Int) < (i : Int) := by omega
      clear him
      go_wp2
      go_ret
      exact ⟨rfl, O.out.trans hO.out⟩

set_option maxHeartbeats 4000000 in
set_option maxRecDepth 100000 in
/-- A plan is as its twin. -/
theorem lsame15 {D D' : Nat} {w : World} (p : Pl) {a a' : Option Addr} {n c c' : Nat} (h : XE D w (.slice a n c) p.effs) (h' : XE D' w (.slice a' n c') p.effs) (hn : p.effs.length = n) (hb : n ≤ 140737488355328) :
    Calls Try.prog 26 #[.agg #[.bool p.stash, .slice a n c, .string (bs p.state), .bool p.stop, .string (bs p.fail)], .agg #[.bool p.stash, .slice a' n c', .string (bs p.state), .bool p.stop, .string (bs p.fail)]] w fun e w' => e = .returned (.bool true) ∧ Only Nil w w' := by
  obtain ⟨W1, hW1⟩ : ∃ W, W = w.alloc (.cells #[.bool p.stash, .slice a n c, .string (bs p.state), .bool p.stop, .string (bs p.fail)] 30) := ⟨_, rfl⟩
  have s1 : W1.heap.size = w.heap.size + 1 := by rw [hW1]; simp
  have o1 : Only Nil w W1 := hW1 ▸ (Only.refl Nil w).alloc _
  have b1 : Bx W1 (w.heap.size) [.bool p.stash, .slice a n c, .string (bs p.state), .bool p.stop, .string (bs p.fail)] 30 := hW1 ▸ bx_new w _ _
  obtain ⟨W2, hW2⟩ : ∃ W, W = W1.alloc (.cells #[.bool p.stash, (.slice a' n c'), .string (bs p.state), .bool p.stop, .string (bs p.fail)] 30) := ⟨_, rfl⟩
  have s2 : W2.heap.size = w.heap.size + 1 + 1 := by rw [hW2]; simp [s1]
  have o2 : Only Nil W1 W2 := hW2 ▸ (Only.refl Nil W1).alloc _
  have b2 : Bx W2 (w.heap.size + 1) [.bool p.stash, (.slice a' n c'), .string (bs p.state), .bool p.stop, .string (bs p.fail)] 30 := by have h := bx_new W1 [.bool p.stash, (.slice a' n c'), .string (bs p.state), .bool p.stop, .string (bs p.fail)] 30; rw [s1] at h; rw [hW2]; exact h
  have X1 := Lib.hid (b1.keep o2)
  have X2 := Lib.hid b2
  have O := Lib.hid (o1.trans o2)
  have SZ := Lib.hid s2
  have H1 := Lib.hid (h.keep O.out (nilS · D))
  have H2 := Lib.hid (h'.keep O.out (nilS · D'))
  have q1 := str_eq p.state
  have q2 := str_eq p.fail
  have hbi : (n : Int) ≤ 140737488355328 := by omega
  have HN := Lib.hid hn
  have hzz : ((n : Int) != (n : Int)) = false := by simp
  have hzn : (n != n) = false := by simp
  obtain ⟨stash, E, st, stop, fl⟩ := p
  dsimp only at *
  clear h h' hn
  go_enter Try.func26, Try.ntmps26
  go_upto_region 1 with (fail)
  (try simp only [World.size_alloc])
  rw [← hW1, ← hW2]
  clear hW1 s1 o1 b1 hW2 s2 o2 b2
  generalize hB2 : w.heap.size + 1 = B2 at *
  generalize hB1 : w.heap.size = B1 at *
  have HB1 := Lib.hid hB1
  have HB2 := Lib.hid hB2
  clear hB1 hB2
  have k0 := X1.out.cell 0 (v := .bool stash) rfl
  have k1 := X1.out.cell 1 (v := .slice a n c) rfl
  have k2 := X1.out.cell 2 (v := .string (bs st)) rfl
  have k3 := X1.out.cell 3 (v := .bool stop) rfl
  have k4 := X1.out.cell 4 (v := .string (bs fl)) rfl
  have z0 := X2.out.cell 0 (v := .bool stash) rfl
  have z1 := X2.out.cell 1 (v := .slice a' n c') rfl
  have z2 := X2.out.cell 2 (v := .string (bs st)) rfl
  have z3 := X2.out.cell 3 (v := .bool stop) rfl
  have z4 := X2.out.cell 4 (v := .string (bs fl)) rfl
  have hz1 : (stash != stash) = false := by simp
  have hz2 : (stop != stop) = false := by simp
  go_wp2
  go_loopw [5] (fun s5 wr => ∃ (i : Nat), i ≤ n ∧ s5 = .int .i64 (i : Int) ∧ Hid (Only Nil W2 wr)) (fun s5 _ => n - (intOf s5).toNat)
  case atStart => exact ⟨0, Nat.zero_le _, rfl, Lib.hid (Only.refl _ _)⟩
  case round =>
    obtain ⟨i, hi, rfl, hO⟩ := hrel
    clear k0 k1 k2 k3 k4 z0 z1 z2 z3 z4
    have k1 := (X1.out.keep hO.out).cell 1 (v := .slice a n c) rfl
    have z1 := (X2.out.keep hO.out).cell 1 (v := .slice a' n c') rfl
    by_cases him : i < n
    · obtain ⟨b, off, rfl, hlt, hc⟩ := XE.at_ (H1.out.keep hO.out (nilS · D)) HN.out i him
      obtain ⟨b', off', rfl, hlt', hc'⟩ := XE.at_ (H2.out.keep hO.out (nilS · D')) HN.out i him
      generalize E[i]'(by rw [HN.out]; exact him) = x at *
      have c0 : wr.cell? ⟨b, off + i * 7, none⟩ = some (.int .i64 x.act) := hc 0 (by decide)
      have d0 : wr.cell? ⟨b', off' + i * 7, none⟩ = some (.int .i64 x.act) := hc' 0 (by decide)
      have c1 : wr.cell? ⟨b, off + i * 7 + 1, none⟩ = some (.string (bs x.ref)) := hc 1 (by decide)
      have d1 : wr.cell? ⟨b', off' + i * 7 + 1, none⟩ = some (.string (bs x.ref)) := hc' 1 (by decide)
      have c2 : wr.cell? ⟨b, off + i * 7 + 2, none⟩ = some (.string (bs x.slot)) := hc 2 (by decide)
      have d2 : wr.cell? ⟨b', off' + i * 7 + 2, none⟩ = some (.string (bs x.slot)) := hc' 2 (by decide)
      have c3 : wr.cell? ⟨b, off + i * 7 + 3, none⟩ = some (.string (bs x.name)) := hc 3 (by decide)
      have d3 : wr.cell? ⟨b', off' + i * 7 + 3, none⟩ = some (.string (bs x.name)) := hc' 3 (by decide)
      have c4 : wr.cell? ⟨b, off + i * 7 + 4, none⟩ = some (.int .i64 x.val) := hc 4 (by decide)
      have d4 : wr.cell? ⟨b', off' + i * 7 + 4, none⟩ = some (.int .i64 x.val) := hc' 4 (by decide)
      have c5 : wr.cell? ⟨b, off + i * 7 + 5, none⟩ = some (.int .i64 x.n) := hc 5 (by decide)
      have d5 : wr.cell? ⟨b', off' + i * 7 + 5, none⟩ = some (.int .i64 x.n) := hc' 5 (by decide)
      have c6 : wr.cell? ⟨b, off + i * 7 + 6, none⟩ = some (.int .i64 x.delay) := hc 6 (by decide)
      have d6 : wr.cell? ⟨b', off' + i * 7 + 6, none⟩ = some (.int .i64 x.delay) := hc' 6 (by decide)
      clear hc hc'
      have hg := guard_eff
      have hne := neq_eff x x
      simp only [decide_true, Bool.not_true] at hne
      have himi : (i : Int) < (n : Int) := by omega
      have od := Lib.hid (hO.out.trans (Only.refl Nil wr).drew)
      have HI := Lib.hid him
      clear him hi
      go_upto_region 6 with (fail)
      go_region_with (fail)
      all_goals
        go_wp2
        go_roundw
        case rel => exact ⟨i + 1, HI.out, by go_num, od⟩
        case measure => have := HI.out; simp [intOf]; omega
    · obtain rfl : i = n := by omega
      have hk0 : ¬ (i : Int) < (i : Int) := by omega
      clear him
      go_wp2
      go_ret
      exact ⟨rfl, O.out.trans hO.out⟩

def exA : Eff := ⟨11, [], [], [], 0, 0, 0⟩
def exB : Eff := ⟨1, [97], [], [120], 1, 0, 0⟩
def exC : Eff := ⟨3, [], [], [116], 0, 0, 0⟩
def exD : Eff := ⟨4, [], [], [], 0, 0, 0⟩
def exF : Eff := ⟨1, [97], [], [120], 2, 4, 0⟩
def exS : List Sta := [⟨[115], [⟨[120], true, 0, [exA]⟩, ⟨[120], false, 0, [exB, exC]⟩, ⟨[], false, 0, [exD]⟩]⟩]
def pA : Pl := ⟨false, [], [115], true, []⟩
def pB : Pl := ⟨false, [exF], [116], false, []⟩
def pC : Pl := ⟨true, [], [115], false, []⟩
theorem plan_a : planOf exS [115] [120] 0 = pA := by decide +kernel
theorem plan_b : planOf exS [115] [120] 5 = pB := by decide +kernel
theorem plan_c : planOf exS [115] [121] 1 = pC := by decide +kernel

set_option maxHeartbeats 4000000 in
theorem example_any (w : World) : Calls Try.prog 27 #[] w fun e w' => (∃ q, e = .returned (.agg #[.string ⟨#[107]⟩, .int .i64 0, .int .i64 0, .slice none 0 0, .slice (some ⟨q, 0, none⟩) 1 1]) ∧ SIn w'.heap.size w' (some ⟨q, 0, none⟩) 1 1 exS) ∧ Only Nil w w' := by
  obtain ⟨W1, hW1⟩ : ∃ W, W = w.alloc (.cells #[.string ⟨#[107]⟩, .int .i64 0, .int .i64 0, .slice none 0 0, .slice (some ⟨w.heap.size + 1 + 1 + 1 + 1 + 1, 0, none⟩) 1 1] 25) := ⟨_, rfl⟩
  have s1 : W1.heap.size = w.heap.size + 1 := by rw [hW1]; simp
  have o1 : Only Nil w W1 := hW1 ▸ (Only.refl Nil w).alloc _
  have b1 : Bx W1 (w.heap.size) [.string ⟨#[107]⟩, .int .i64 0, .int .i64 0, .slice none 0 0, .slice (some ⟨w.heap.size + 1 + 1 + 1 + 1 + 1, 0, none⟩) 1 1] 25 := hW1 ▸ bx_new w _ _
  obtain ⟨W2, hW2⟩ : ∃ W, W = W1.alloc (.cells #[.int .i64 11, .string ⟨#[]⟩, .string ⟨#[]⟩, .string ⟨#[]⟩, .int .i64 0, .int .i64 0, .int .i64 0] 50) := ⟨_, rfl⟩
  have s2 : W2.heap.size = w.heap.size + 1 + 1 := by rw [hW2]; simp [s1]
  have o2 : Only Nil W1 W2 := hW2 ▸ (Only.refl Nil W1).alloc _
  have b2 : Bx W2 (w.heap.size + 1) [.int .i64 11, .string ⟨#[]⟩, .string ⟨#[]⟩, .string ⟨#[]⟩, .int .i64 0, .int .i64 0, .int .i64 0] 50 := by have h := bx_new W1 [.int .i64 11, .string ⟨#[]⟩, .string ⟨#[]⟩, .string ⟨#[]⟩, .int .i64 0, .int .i64 0, .int .i64 0] 50; rw [s1] at h; rw [hW2]; exact h
  obtain ⟨W3, hW3⟩ : ∃ W, W = W2.alloc (.cells #[.int .i64 1, .string ⟨#[97]⟩, .string ⟨#[]⟩, .string ⟨#[120]⟩, .int .i64 1, .int .i64 0, .int .i64 0, .int .i64 3, .string ⟨#[]⟩, .string ⟨#[]⟩, .string ⟨#[116]⟩, .int .i64 0, .int .i64 0, .int .i64 0] 50) := ⟨_, rfl⟩
  have s3 : W3.heap.size = w.heap.size + 1 + 1 + 1 := by rw [hW3]; simp [s2]
  have o3 : Only Nil W2 W3 := hW3 ▸ (Only.refl Nil W2).alloc _
  have b3 : Bx W3 (w.heap.size + 1 + 1) [.int .i64 1, .string ⟨#[97]⟩, .string ⟨#[]⟩, .string ⟨#[120]⟩, .int .i64 1, .int .i64 0, .int .i64 0, .int .i64 3, .string ⟨#[]⟩, .string ⟨#[]⟩, .string ⟨#[116]⟩, .int .i64 0, .int .i64 0, .int .i64 0] 50 := by have h := bx_new W2 [.int .i64 1, .string ⟨#[97]⟩, .string ⟨#[]⟩, .string ⟨#[120]⟩, .int .i64 1, .int .i64 0, .int .i64 0, .int .i64 3, .string ⟨#[]⟩, .string ⟨#[]⟩, .string ⟨#[116]⟩, .int .i64 0, .int .i64 0, .int .i64 0] 50; rw [s2] at h; rw [hW3]; exact h
  obtain ⟨W4, hW4⟩ : ∃ W, W = W3.alloc (.cells #[.int .i64 4, .string ⟨#[]⟩, .string ⟨#[]⟩, .string ⟨#[]⟩, .int .i64 0, .int .i64 0, .int .i64 0] 50) := ⟨_, rfl⟩
  have s4 : W4.heap.size = w.heap.size + 1 + 1 + 1 + 1 := by rw [hW4]; simp [s3]
  have o4 : Only Nil W3 W4 := hW4 ▸ (Only.refl Nil W3).alloc _
  have b4 : Bx W4 (w.heap.size + 1 + 1 + 1) [.int .i64 4, .string ⟨#[]⟩, .string ⟨#[]⟩, .string ⟨#[]⟩, .int .i64 0, .int .i64 0, .int .i64 0] 50 := by have h := bx_new W3 [.int .i64 4, .string ⟨#[]⟩, .string ⟨#[]⟩, .string ⟨#[]⟩, .int .i64 0, .int .i64 0, .int .i64 0] 50; rw [s3] at h; rw [hW4]; exact h
  obtain ⟨W5, hW5⟩ : ∃ W, W = W4.alloc (.cells #[.string ⟨#[120]⟩, .bool true, .int .i64 0, .slice (some ⟨w.heap.size + 1, 0, none⟩) 1 1, .string ⟨#[120]⟩, .bool false, .int .i64 0, .slice (some ⟨w.heap.size + 1 + 1, 0, none⟩) 2 2, .string ⟨#[]⟩, .bool false, .int .i64 0, .slice (some ⟨w.heap.size + 1 + 1 + 1, 0, none⟩) 1 1] 40) := ⟨_, rfl⟩
  have s5 : W5.heap.size = w.heap.size + 1 + 1 + 1 + 1 + 1 := by rw [hW5]; simp [s4]
  have o5 : Only Nil W4 W5 := hW5 ▸ (Only.refl Nil W4).alloc _
  have b5 : Bx W5 (w.heap.size + 1 + 1 + 1 + 1) [.string ⟨#[120]⟩, .bool true, .int .i64 0, .slice (some ⟨w.heap.size + 1, 0, none⟩) 1 1, .string ⟨#[120]⟩, .bool false, .int .i64 0, .slice (some ⟨w.heap.size + 1 + 1, 0, none⟩) 2 2, .string ⟨#[]⟩, .bool false, .int .i64 0, .slice (some ⟨w.heap.size + 1 + 1 + 1, 0, none⟩) 1 1] 40 := by have h := bx_new W4 [.string ⟨#[120]⟩, .bool true, .int .i64 0, .slice (some ⟨w.heap.size + 1, 0, none⟩) 1 1, .string ⟨#[120]⟩, .bool false, .int .i64 0, .slice (some ⟨w.heap.size + 1 + 1, 0, none⟩) 2 2, .string ⟨#[]⟩, .bool false, .int .i64 0, .slice (some ⟨w.heap.size + 1 + 1 + 1, 0, none⟩) 1 1] 40; rw [s4] at h; rw [hW5]; exact h
  obtain ⟨W6, hW6⟩ : ∃ W, W = W5.alloc (.cells #[.string ⟨#[115]⟩, .slice (some ⟨w.heap.size + 1 + 1 + 1 + 1, 0, none⟩) 3 3] 48) := ⟨_, rfl⟩
  have s6 : W6.heap.size = w.heap.size + 1 + 1 + 1 + 1 + 1 + 1 := by rw [hW6]; simp [s5]
  have o6 : Only Nil W5 W6 := hW6 ▸ (Only.refl Nil W5).alloc _
  have b6 : Bx W6 (w.heap.size + 1 + 1 + 1 + 1 + 1) [.string ⟨#[115]⟩, .slice (some ⟨w.heap.size + 1 + 1 + 1 + 1, 0, none⟩) 3 3] 48 := by have h := bx_new W5 [.string ⟨#[115]⟩, .slice (some ⟨w.heap.size + 1 + 1 + 1 + 1, 0, none⟩) 3 3] 48; rw [s5] at h; rw [hW6]; exact h
  have X1 := Lib.hid (((((b1.keep o2).keep o3).keep o4).keep o5).keep o6)
  have X2 := Lib.hid ((((b2.keep o3).keep o4).keep o5).keep o6)
  have X3 := Lib.hid (((b3.keep o4).keep o5).keep o6)
  have X4 := Lib.hid ((b4.keep o5).keep o6)
  have X5 := Lib.hid (b5.keep o6)
  have X6 := Lib.hid b6
  have O := Lib.hid (((((o1.trans o2).trans o3).trans o4).trans o5).trans o6)
  have SZ := Lib.hid s6
  go_enter Try.func27, Try.ntmps27
  go_wp2
  (try simp only [World.size_alloc])
  rw [← hW1, ← hW2, ← hW3, ← hW4, ← hW5, ← hW6]
  refine bodyPost_ret (results_agg rfl _ _ w.heap.size [.string ⟨#[107]⟩, .int .i64 0, .int .i64 0, .slice none 0 0, .slice (some ⟨w.heap.size + 1 + 1 + 1 + 1 + 1, 0, none⟩) 1 1] Try.isAgg25 Try.sizeOf25 rfl X1.out) rfl ?_
  have hs : W6.heap.size = w.heap.size + 1 + 1 + 1 + 1 + 1 + 1 := SZ.out
  have g1 : XE W6.heap.size W6 (.slice (some ⟨w.heap.size + 1, 0, none⟩) 1 1) [exA] := cin_box X2.out rfl (by omega)
  have g2 : XE W6.heap.size W6 (.slice (some ⟨w.heap.size + 1 + 1, 0, none⟩) 2 2) [exB, exC] := cin_box X3.out rfl (by omega)
  have g3 : XE W6.heap.size W6 (.slice (some ⟨w.heap.size + 1 + 1 + 1, 0, none⟩) 1 1) [exD] := cin_box X4.out rfl (by omega)
  have g4 : XR W6.heap.size W6 (.slice (some ⟨w.heap.size + 1 + 1 + 1 + 1, 0, none⟩) 3 3) [⟨[120], true, 0, [exA]⟩, ⟨[120], false, 0, [exB, exC]⟩, ⟨[], false, 0, [exD]⟩] :=
    ⟨[(⟨[120], true, 0, [exA]⟩, .slice (some ⟨w.heap.size + 1, 0, none⟩) 1 1), (⟨[120], false, 0, [exB, exC]⟩, .slice (some ⟨w.heap.size + 1 + 1, 0, none⟩) 2 2), (⟨[], false, 0, [exD]⟩, .slice (some ⟨w.heap.size + 1 + 1 + 1, 0, none⟩) 1 1)], rfl, cin_box X5.out rfl (by omega), fun x hx => by
      simp only [List.mem_cons, List.not_mem_nil, or_false] at hx
      rcases hx with rfl | rfl | rfl
      · exact g1
      · exact g2
      · exact g3⟩
  have g5 : XS W6.heap.size W6 (.slice (some ⟨w.heap.size + 1 + 1 + 1 + 1 + 1, 0, none⟩) 1 1) exS := ⟨[(⟨[115], [⟨[120], true, 0, [exA]⟩, ⟨[120], false, 0, [exB, exC]⟩, ⟨[], false, 0, [exD]⟩]⟩, .slice (some ⟨w.heap.size + 1 + 1 + 1 + 1, 0, none⟩) 3 3)], rfl, cin_box X6.out rfl (by omega), fun x hx => by rw [List.mem_singleton.1 hx]; exact g4⟩
  refine ⟨⟨_, rfl, g5, rfl, by decide, fun x hx => ?_, fun x hx => ?_, Nat.le_refl _⟩, O.out⟩
  · rw [List.mem_singleton.1 hx]
    refine ⟨by decide, fun r hr => ?_⟩
    simp only [List.mem_cons, List.not_mem_nil, or_false] at hr
    rcases hr with rfl | rfl | rfl
    · exact ⟨by unfold inW; decide, by decide, fun e he => by rw [List.mem_singleton.1 he]; unfold exA; exact ⟨by unfold inW; decide, by unfold inW; decide, by unfold inW; decide, by unfold inW; decide, by decide, by decide, by decide⟩⟩
    · refine ⟨by unfold inW; decide, by decide, fun e he => ?_⟩
      simp only [List.mem_cons, List.not_mem_nil, or_false] at he
      rcases he with rfl | rfl
      · unfold exB; exact ⟨by unfold inW; decide, by unfold inW; decide, by unfold inW; decide, by unfold inW; decide, by decide, by decide, by decide⟩
      · unfold exC; exact ⟨by unfold inW; decide, by unfold inW; decide, by unfold inW; decide, by unfold inW; decide, by decide, by decide, by decide⟩
    · exact ⟨by unfold inW; decide, by decide, fun e he => by rw [List.mem_singleton.1 he]; unfold exD; exact ⟨by unfold inW; decide, by unfold inW; decide, by unfold inW; decide, by unfold inW; decide, by decide, by decide, by decide⟩⟩
  · rw [List.mem_singleton.1 hx]
    refine ⟨by decide, fun r hr => ?_⟩
    simp only [List.mem_cons, List.not_mem_nil, or_false] at hr
    rcases hr with rfl | rfl | rfl <;> (unfold bzR; decide)
end Go.Proofs.Ytimnaiahokafaaa.Ac
