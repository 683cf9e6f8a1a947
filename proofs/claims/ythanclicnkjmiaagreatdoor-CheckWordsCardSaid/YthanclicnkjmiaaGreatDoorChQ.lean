/- check: the document's examples. -/
import Derived.Test.YthanclicnkjmiaaGreatDoorChP
set_option linter.unusedVariables false
namespace Go.Proofs.YthanclicnkjmiaaGreatDoor.Ch
open Go.RowKit Go.Proofs.YthanclicnkjmiaaGreatDoor Lx Ps

theorem cin_box {w : World} {q D n s : Nat} {t : TypeId} {cs : List Value} (h : Bx w q cs t) (hn : cs.length = n * s) (hq : q < D) : CIn D w (.slice (some ⟨q, 0, none⟩) n n) n s cs :=
  ⟨_, n, ⟨rfl, Nat.le_refl _⟩, hn, fun i hi => ⟨q, 0, rfl, hq, lt_of_block h, fun j hj => by
    rw [Nat.zero_add, cell_of_row w q j _ _ _ h]; simp⟩⟩
def oneP (E : List Eff) : List Kd := [⟨[97], 0, 1, [], [⟨[115], [⟨[120], false, 0, E⟩]⟩]⟩]
set_option maxHeartbeats 2000000 in
theorem one_any {D : Nat} {w : World} {E : List Eff} {a : Option Addr} {n c : Nat} (hE : XE D w (.slice a n c) E) (hn : E.length = n) (hD : D ≤ w.heap.size) :
    Calls Tryz.prog 33 #[.slice a n c] w fun e w' => ∃ q, e = .returned (.agg #[.slice (some ⟨q, 0, none⟩) 1 1]) ∧ XK w'.heap.size w' (.slice (some ⟨q, 0, none⟩) 1 1) (oneP E) ∧ Only Nil w w' := by
  go_enter Tryz.func33, Tryz.ntmps33
  go_wp2
  have o1 : Only Nil w (w.alloc (.cells #[.slice (some ⟨w.heap.size + 1 + 1 + 1, 0, none⟩) 1 1] 25)) := (Only.refl Nil w).alloc _
  have b1 := bx_new w [.slice (some ⟨w.heap.size + 1 + 1 + 1, 0, none⟩) 1 1] 25
  have b2 := bx_new (w.alloc (.cells #[.slice (some ⟨w.heap.size + 1 + 1 + 1, 0, none⟩) 1 1] 25)) [.string ⟨#[120]⟩, .bool false, .int .i64 0, .slice a n c] 62
  have b3 := bx_new ((w.alloc (.cells #[.slice (some ⟨w.heap.size + 1 + 1 + 1, 0, none⟩) 1 1] 25)).alloc (.cells #[.string ⟨#[120]⟩, .bool false, .int .i64 0, .slice a n c] 62)) [.string ⟨#[115]⟩, .slice (some ⟨w.heap.size + 1, 0, none⟩) 1 1] 59
  have b4 := bx_new (((w.alloc (.cells #[.slice (some ⟨w.heap.size + 1 + 1 + 1, 0, none⟩) 1 1] 25)).alloc (.cells #[.string ⟨#[120]⟩, .bool false, .int .i64 0, .slice a n c] 62)).alloc (.cells #[.string ⟨#[115]⟩, .slice (some ⟨w.heap.size + 1, 0, none⟩) 1 1] 59)) [.string ⟨#[97]⟩, .int .i64 0, .int .i64 1, .slice none 0 0, .slice (some ⟨w.heap.size + 1 + 1, 0, none⟩) 1 1] 56
  have s1 : (w.alloc (.cells #[.slice (some ⟨w.heap.size + 1 + 1 + 1, 0, none⟩) 1 1] 25)).heap.size = w.heap.size + 1 := by simp
  have s2 : ((w.alloc (.cells #[.slice (some ⟨w.heap.size + 1 + 1 + 1, 0, none⟩) 1 1] 25)).alloc (.cells #[.string ⟨#[120]⟩, .bool false, .int .i64 0, .slice a n c] 62)).heap.size = w.heap.size + 1 + 1 := by simp
  have s3 : (((w.alloc (.cells #[.slice (some ⟨w.heap.size + 1 + 1 + 1, 0, none⟩) 1 1] 25)).alloc (.cells #[.string ⟨#[120]⟩, .bool false, .int .i64 0, .slice a n c] 62)).alloc (.cells #[.string ⟨#[115]⟩, .slice (some ⟨w.heap.size + 1, 0, none⟩) 1 1] 59)).heap.size = w.heap.size + 1 + 1 + 1 := by simp
  have s4 : ((((w.alloc (.cells #[.slice (some ⟨w.heap.size + 1 + 1 + 1, 0, none⟩) 1 1] 25)).alloc (.cells #[.string ⟨#[120]⟩, .bool false, .int .i64 0, .slice a n c] 62)).alloc (.cells #[.string ⟨#[115]⟩, .slice (some ⟨w.heap.size + 1, 0, none⟩) 1 1] 59)).alloc (.cells #[.string ⟨#[97]⟩, .int .i64 0, .int .i64 1, .slice none 0 0, .slice (some ⟨w.heap.size + 1 + 1, 0, none⟩) 1 1] 56)).heap.size = w.heap.size + 1 + 1 + 1 + 1 := by simp
  rw [s1] at b2
  rw [s2] at b3
  rw [s3] at b4
  have q34 : Only Nil (((w.alloc (.cells #[.slice (some ⟨w.heap.size + 1 + 1 + 1, 0, none⟩) 1 1] 25)).alloc (.cells #[.string ⟨#[120]⟩, .bool false, .int .i64 0, .slice a n c] 62)).alloc (.cells #[.string ⟨#[115]⟩, .slice (some ⟨w.heap.size + 1, 0, none⟩) 1 1] 59)) ((((w.alloc (.cells #[.slice (some ⟨w.heap.size + 1 + 1 + 1, 0, none⟩) 1 1] 25)).alloc (.cells #[.string ⟨#[120]⟩, .bool false, .int .i64 0, .slice a n c] 62)).alloc (.cells #[.string ⟨#[115]⟩, .slice (some ⟨w.heap.size + 1, 0, none⟩) 1 1] 59)).alloc (.cells #[.string ⟨#[97]⟩, .int .i64 0, .int .i64 1, .slice none 0 0, .slice (some ⟨w.heap.size + 1 + 1, 0, none⟩) 1 1] 56)) := (Only.refl Nil _).alloc _
  have q23 : Only Nil ((w.alloc (.cells #[.slice (some ⟨w.heap.size + 1 + 1 + 1, 0, none⟩) 1 1] 25)).alloc (.cells #[.string ⟨#[120]⟩, .bool false, .int .i64 0, .slice a n c] 62)) (((w.alloc (.cells #[.slice (some ⟨w.heap.size + 1 + 1 + 1, 0, none⟩) 1 1] 25)).alloc (.cells #[.string ⟨#[120]⟩, .bool false, .int .i64 0, .slice a n c] 62)).alloc (.cells #[.string ⟨#[115]⟩, .slice (some ⟨w.heap.size + 1, 0, none⟩) 1 1] 59)) := (Only.refl Nil _).alloc _
  have q12 : Only Nil (w.alloc (.cells #[.slice (some ⟨w.heap.size + 1 + 1 + 1, 0, none⟩) 1 1] 25)) ((w.alloc (.cells #[.slice (some ⟨w.heap.size + 1 + 1 + 1, 0, none⟩) 1 1] 25)).alloc (.cells #[.string ⟨#[120]⟩, .bool false, .int .i64 0, .slice a n c] 62)) := (Only.refl Nil _).alloc _
  have c1 := ((b1.keep q12).keep q23).keep q34
  have c2 := (b2.keep q23).keep q34
  have c3 := b3.keep q34
  have oo : Only Nil w ((((w.alloc (.cells #[.slice (some ⟨w.heap.size + 1 + 1 + 1, 0, none⟩) 1 1] 25)).alloc (.cells #[.string ⟨#[120]⟩, .bool false, .int .i64 0, .slice a n c] 62)).alloc (.cells #[.string ⟨#[115]⟩, .slice (some ⟨w.heap.size + 1, 0, none⟩) 1 1] 59)).alloc (.cells #[.string ⟨#[97]⟩, .int .i64 0, .int .i64 1, .slice none 0 0, .slice (some ⟨w.heap.size + 1 + 1, 0, none⟩) 1 1] 56)) := ((o1.trans q12).trans q23).trans q34
  refine bodyPost_ret (results_agg rfl _ _ w.heap.size [.slice (some ⟨w.heap.size + 1 + 1 + 1, 0, none⟩) 1 1] Tryz.isAgg25 Tryz.sizeOf25 rfl c1) rfl ?_
  refine ⟨_, rfl, ?_, oo⟩
  rw [s4]
  have hEE : XE (w.heap.size + 1 + 1 + 1 + 1) _ (.slice a n c) E := (hE.keep oo (nilS · D)).mono (by omega)
  have cE : XR (w.heap.size + 1 + 1 + 1 + 1) _ (.slice (some ⟨w.heap.size + 1, 0, none⟩) 1 1) [⟨[120], false, 0, E⟩] :=
    ⟨[(⟨[120], false, 0, E⟩, .slice a n c)], rfl, cin_box c2 rfl (by omega), fun x hx => by rw [List.mem_singleton.1 hx]; exact hEE⟩
  have cS : XS (w.heap.size + 1 + 1 + 1 + 1) _ (.slice (some ⟨w.heap.size + 1 + 1, 0, none⟩) 1 1) [⟨[115], [⟨[120], false, 0, E⟩]⟩] :=
    ⟨[(⟨[115], [⟨[120], false, 0, E⟩]⟩, .slice (some ⟨w.heap.size + 1, 0, none⟩) 1 1)], rfl, cin_box c3 rfl (by omega), fun x hx => by rw [List.mem_singleton.1 hx]; exact cE⟩
  exact ⟨[(⟨[97], 0, 1, [], [⟨[115], [⟨[120], false, 0, E⟩]⟩]⟩, .slice none 0 0, .slice (some ⟨w.heap.size + 1 + 1, 0, none⟩) 1 1)], rfl, cin_box b4 rfl (by omega), fun x hx => by
    rw [List.mem_singleton.1 hx]
    exact ⟨⟨none, 0, ⟨rfl, Nat.le_refl _⟩, rfl, fun i hi => absurd hi (Nat.not_lt_zero i)⟩, cS⟩⟩
end Go.Proofs.YthanclicnkjmiaaGreatDoor.Ch
