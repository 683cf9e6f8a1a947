/- stash: rows of ids; a row backwards; worlds that hold a line. -/
import Derived.Test.YtdhfmocjhcgicaaOnA
import Derived.Lib.AppendZerosOnto
namespace Go.Proofs.Ytdhfmocjhcgicaa.St
open Go.RowKit Go.Proofs.Ytdhfmocjhcgicaa

/-- The cells of a row of ids. -/
def us (X : List Int) : List Value := X.map (Value.int .u64)
theorem us_length (X : List Int) : (us X).length = X.length := by simp [us]
theorem us_append (X Y : List Int) : us (X ++ Y) = us X ++ us Y := by simp [us]
theorem us_oneCell (X : List Int) : ∀ v ∈ us X, v.oneCell' = true := by
  intro v hv
  simp only [us, List.mem_map] at hv
  obtain ⟨x, _, rfl⟩ := hv
  rfl
theorem us_in {w : World} {base : Nat} {e : TypeId} {a : Option Addr} {n c : Nat} {X : List Int} (h : w.ownsRow base e 1 (.slice a n c) n (us X)) (q : Nat) (hq : q < n) :
    ∃ g, a = some ⟨g, 0, none⟩ ∧ g < w.heap.size ∧ w.cell? ⟨g, q, none⟩ = some (.int .u64 (X.getD q 0)) := by
  have hl : X.length = n := by have := h.1; simp [us] at this; exact this
  rcases h.2 with ⟨_, h0⟩ | ⟨g, c', cur, hv, _, hg, _⟩
  · omega
  · simp only [Value.slice.injEq] at hv
    obtain ⟨rfl, _, rfl⟩ := hv
    refine ⟨g, rfl, lt_of_block hg, ?_⟩
    rw [h.cellAt q (by omega)]
    simp [us, hl, hq]
/-- A row of the ids X in v. -/
def Row (w : World) (v : Value) (X : List Int) : Prop := w.ownsRow 0 30 1 v X.length (us X)
theorem Row.keep {S : Nat → Prop} {w w' : World} {v : Value} {X : List Int} (h : Row w v X) (o : Only S w w') (hS : ∀ g, some g = v.ownBlock → ¬ S g) : Row w' v X := own_keep h o hS
theorem Row.nil {w w' : World} {v : Value} {X : List Int} (h : Row w v X) (o : Only Nil w w') : Row w' v X := own_keep h o (fun _ _ h => h)
theorem Row.none (w : World) : Row w (.slice none 0 0) [] := World.ownsRow_nil _ _ _ _
theorem Row.lt {w : World} {v : Value} {X : List Int} (h : Row w v X) {g : Nat} (hg : some g = v.ownBlock) : g < w.heap.size := by
  rcases h.2 with ⟨rfl, _⟩ | ⟨g', c, cur, rfl, _, hh, _⟩
  · simp [Value.ownBlock] at hg
  · have : g = g' := by simpa [Value.ownBlock] using hg
    subst this
    exact lt_of_block hh
theorem Row.ne {w : World} {v : Value} {X : List Int} (h : Row w v X) {g k : Nat} {y : Array Value} {t : TypeId} {m : Nat × Nat} (hg : some g = v.ownBlock) (hk : w.heap[k]? = some (.cells y t m)) (ht : 30 ≠ t) : g ≠ k := by
  rcases h.2 with ⟨rfl, _⟩ | ⟨g', c, cur, rfl, _, hh, _⟩
  · simp [Value.ownBlock] at hg
  · have : g = g' := by simpa [Value.ownBlock] using hg
    subst this
    exact blk_ne hh hk ht
theorem Row.cells {w : World} {v : Value} {X : List Int} (h : Row w v X) {g : Nat} (hg : some g = v.ownBlock) : ∃ y, w.heap[g]? = some (.cells y 30 (0, 0)) := by
  rcases h.2 with ⟨rfl, _⟩ | ⟨g', c, cur, rfl, _, hh, _⟩
  · simp [Value.ownBlock] at hg
  · have : g = g' := by simpa [Value.ownBlock] using hg
    subst this
    exact ⟨_, hh⟩
theorem Row.slice {w : World} {v : Value} {X : List Int} (h : Row w v X) : ∃ a c, v = .slice a X.length c := own_slice_n h

theorem Try.infoU : (Try.prog.info? 30).map (fun i => (i.zero, i.size, i.bytes)) = some (some (.int .u64 0), 1, 8) := by kernel_rfl

/-- One id more at the end of a row. -/
theorem push {w : World} {a : Option Addr} {n c : Nat} {X : List Int} (h : Row w (.slice a n c) X) (hn : X.length = n) (x : Int) (few : n ≤ 65000) :
    ∃ a' c' w5, (Builtin.append_ #[26, 26] 26 #[.slice a n c, .slice (some ⟨w.heap.size, 0, none⟩) 1 1]).run Try.prog (w.alloc (.cells #[.int .u64 x] 30)) = .ok (.slice a' (n + 1) c') w5 ∧
      Hid (Row w5 (.slice a' (n + 1) c') (X ++ [x]) ∧ Only (RowOf a) w w5 ∧ SameOrNew w a a') := by
  subst hn
  have oA : Only Nil w (w.alloc (.cells #[.int .u64 x] 30)) := (Only.refl Nil w).alloc _
  obtain ⟨a', c', w5, hr, ho, hon, hsn⟩ := run_append_end (P := Try.prog) (w := w.alloc (.cells #[.int .u64 x] 30)) (t := 26) (ty := 26) (e := 30) (size := 1) (bytes := 8) Try.underlying26 Try.infoU rfl (own_keep h oA (fun _ _ h => h)) ⟨w.heap.size, 0, none⟩ [.int .u64 x] rfl (by intro u hu; simp at hu; subst hu; rfl)
    (fun j u hj => by
      rw [add_lit0, cell_of_row _ w.heap.size _ _ _ _ (heap_new w (.cells #[.int .u64 x] 30)), Nat.zero_add]
      simpa using hj) (by omega) (by decide)
  refine ⟨a', c', w5, hr, Lib.hid ⟨?_, (oA.nilTo _).trans hon, fun y hy => (hsn y hy).imp id (fun e => Nat.le_trans oA.size e)⟩⟩
  unfold Row
  rw [List.length_append, us_append]
  exact ho
end Go.Proofs.Ytdhfmocjhcgicaa.St
