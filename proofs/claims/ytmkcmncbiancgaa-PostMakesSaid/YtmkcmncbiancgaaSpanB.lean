/- At: the row of a memory's cells, or none. -/
import Derived.Test.YtmkcmncbiancgaaSpanA
namespace Go.Proofs.Ytmkcmncbiancgaa
open Go.RowKit
/-- Two results, the first of which is an aggregate that lies in a block of its own. -/
theorem results_agg2 {P : Program} {fn : Func} {p q : Tmp} {ty te : TypeId} (h : fn.results = #[.cell p ty, .tmp q]) (tmps : Array Value) (w : World) (b : Nat) (cs : List Value)
    (hag : ∀ w, (isAgg ty).run P w = .ok true w) (hsz : ∀ w, (Go.sizeOf ty).run P w = .ok cs.length w) (hp : tmps.getD p undef = .pointer (some ⟨b, 0, none⟩)) (hc : w.heap[b]? = some (.cells cs.toArray te (0, 0))) :
    (results fn tmps).run P w = .ok (.tuple #[.agg cs.toArray, tmps.getD q undef]) w := by
  have hp' : tmps[p]?.getD undef = .pointer (some ⟨b, 0, none⟩) := by simpa using hp
  have hl := run_loadCells_list (P := P) w ⟨b, 0, none⟩ cs (fun j v hj => by
    have e : (⟨b, 0, none⟩ : Addr).add j = ⟨b, j, none⟩ := by unfold Addr.add; split <;> simp_all
    rw [e, cell_of_row w b j _ _ _ hc]; simpa using hj)
  simp only [results, h]
  simp [Sem.run_bind, Result.andThen, asAddr, loadVar, hag, hsz, hp', hl]
theorem set2_heap {w : World} {q : Nat} {x0 x1 : Value} {t : TypeId} (h : w.heap[q]? = some (.cells [x0, x1].toArray t (0, 0))) (y0 y1 : Value) :
    ((w.setCell ⟨q, 0, none⟩ y0).setCell ⟨q, 1, none⟩ y1).heap[q]? = some (.cells [y0, y1].toArray t (0, 0)) :=
  set1_heap (set1_heap h 0 y0) 1 y1
theorem frozen_new2 (w : World) (x y : Value) (ty : TypeId) : (w.alloc (.cells #[x, y] ty)).frozen? ⟨w.heap.size, 0, none⟩ = false ∧ (w.alloc (.cells #[x, y] ty)).frozen? ⟨w.heap.size, 1, none⟩ = false := by
  have hn := heap_new w (.cells #[x, y] ty)
  constructor
  · unfold World.frozen?; rw [hn]; rfl
  · unfold World.frozen?; rw [hn]; rfl
section
variable {w : World} {hb rb : Nat} {L : List Int} {t : Int}
/-- Where At finds none. -/
theorem no_row (w : World) : (w.alloc (.cells #[.pointer none, .int .i64 0] 78)).heap[w.heap.size]? = some (.cells [.pointer none, .int .i64 0].toArray 78 (0, 0)) := heap_new w _
theorem at_nil (w : World) (b c : Int) :
    Calls Try.prog 38 #[.pointer none, .int .i64 b, .int .i64 c] w fun e w' => e = .returned (.tuple #[.agg #[.pointer none, .int .i64 0], .bool false]) ∧ Only Nil w w' := by
  have b0 := Lib.hid (no_row w)
  have o1 := Lib.hid ((Only.refl Nil w).alloc (.cells #[.pointer none, .int .i64 0] 78))
  go_enter Try.func38, Try.ntmps38
  go_wp2
  refine bodyPost_ret (results_agg2 rfl _ _ w.heap.size [.pointer none, .int .i64 0] Try.isAgg78 Try.sizeOf78 rfl b0.out) rfl ?_
  exact ⟨rfl, o1.out⟩
theorem at_low (w : World) (hb : Nat) (b c : Int) (hc : c < 1) :
    Calls Try.prog 38 #[.pointer (some ⟨hb, 0, none⟩), .int .i64 b, .int .i64 c] w fun e w' => e = .returned (.tuple #[.agg #[.pointer none, .int .i64 0], .bool false]) ∧ Only Nil w w' := by
  have b0 := Lib.hid (no_row w)
  have o1 := Lib.hid ((Only.refl Nil w).alloc (.cells #[.pointer none, .int .i64 0] 78))
  go_enter Try.func38, Try.ntmps38
  go_wp2
  refine bodyPost_ret (results_agg2 rfl _ _ w.heap.size [.pointer none, .int .i64 0] Try.isAgg78 Try.sizeOf78 rfl b0.out) rfl ?_
  exact ⟨rfl, o1.out⟩
theorem at_no (h : MemAt w hb rb L t) (b c : Int) (hc : 1 ≤ c) (hc2 : c ≤ 1000000) (hL2 : L.length ≤ 65536) (hn : b < 0 ∨ (L.length : Int) - c < b) :
    Calls Try.prog 38 #[.pointer (some ⟨hb, 0, none⟩), .int .i64 b, .int .i64 c] w fun e w' => e = .returned (.tuple #[.agg #[.pointer none, .int .i64 0], .bool false]) ∧ Only Nil w w' := by
  have b0 := Lib.hid (no_row w)
  have o1 := Lib.hid ((Only.refl Nil w).alloc (.cells #[.pointer none, .int .i64 0] 78))
  have ln := Lib.hid (len_any (h.alloc (.cells #[.pointer none, .int .i64 0] 78)))
  have g5 : ¬ (c < 1) := by omega
  have g6 : IntKind.i64.wrap ((L.length : Int) - c) = (L.length : Int) - c := IntWalk.i64_in _ (by omega)
  clear h hc hc2 hL2
  by_cases g4 : b < 0
  · clear hn
    go_enter Try.func38, Try.ntmps38
    go_wp2
    refine bodyPost_ret (results_agg2 rfl _ _ w.heap.size [.pointer none, .int .i64 0] Try.isAgg78 Try.sizeOf78 rfl b0.out) rfl ?_
    exact ⟨rfl, o1.out⟩
  · have g1 : (L.length : Int) - c < b := by omega
    clear hn
    go_enter Try.func38, Try.ntmps38
    go_wp2_with (go_at_call 10; refine (ln.out).mono ?_; rintro e w1 ⟨rfl, rfl⟩)
    refine bodyPost_ret (results_agg2 rfl _ _ w.heap.size [.pointer none, .int .i64 0] Try.isAgg78 Try.sizeOf78 rfl b0.out) rfl ?_
    exact ⟨rfl, o1.out⟩
theorem at_yes (h : MemAt w hb rb L t) (b : Nat) (c : Int) (hc : 1 ≤ c) (hc2 : c ≤ 1000000) (hL2 : L.length ≤ 65536) (hn : (b : Int) + c ≤ (L.length : Int)) :
    Calls Try.prog 38 #[.pointer (some ⟨hb, 0, none⟩), .int .i64 (b : Int), .int .i64 c] w fun e w' => e = .returned (.tuple #[spanV hb b, .bool true]) ∧ Only Nil w w' := by
  have b0 : Hid ((w.alloc (.cells #[.pointer (some ⟨hb, 0, none⟩), .int .i64 (b : Int)] 78)).heap[w.heap.size]? = some (.cells [.pointer (some ⟨hb, 0, none⟩), .int .i64 (b : Int)].toArray 78 (0, 0))) := Lib.hid (heap_new w _)
  have o1 := Lib.hid ((Only.refl Nil w).alloc (.cells #[.pointer (some ⟨hb, 0, none⟩), .int .i64 (b : Int)] 78))
  have ln := Lib.hid (len_any (h.alloc (.cells #[.pointer none, .int .i64 0] 78)))
  obtain ⟨f0, f1⟩ := frozen_new2 w (.pointer none) (.int .i64 0) 78
  have g5 : ¬ (c < 1) := by omega
  have g4 : ¬ ((b : Int) < 0) := by omega
  have g1 : ¬ ((L.length : Int) - c < (b : Int)) := by omega
  have g6 : IntKind.i64.wrap ((L.length : Int) - c) = (L.length : Int) - c := IntWalk.i64_in _ (by omega)
  unfold spanV
  clear h hc hc2 hL2 hn
  go_enter Try.func38, Try.ntmps38
  go_wp2_with (go_at_call 10; refine (ln.out).mono ?_; rintro e w1 ⟨rfl, rfl⟩)
  refine bodyPost_ret (results_agg2 rfl _ _ w.heap.size [.pointer (some ⟨hb, 0, none⟩), .int .i64 (b : Int)] Try.isAgg78 Try.sizeOf78 rfl b0.out) rfl ?_
  exact ⟨rfl, o1.out⟩
end
end Go.Proofs.Ytmkcmncbiancgaa
