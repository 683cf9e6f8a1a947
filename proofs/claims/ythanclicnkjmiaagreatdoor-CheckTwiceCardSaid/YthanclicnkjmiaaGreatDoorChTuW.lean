/- check: a program with one state's rows in another order. -/
import Derived.Test.YthanclicnkjmiaaGreatDoorChR
import Derived.Test.YthanclicnkjmiaaGreatDoorChT
import Derived.Test.YthanclicnkjmiaaGreatDoorChPlW
import Derived.StillTailTactics
set_option linter.unusedVariables false
namespace Go.Proofs.YthanclicnkjmiaaGreatDoor.Ch
open Go Go.RowKit Go.Proofs.YthanclicnkjmiaaGreatDoor Lx Ps

/-- The program with other rows in one state. -/
def rowsAt (P : List Kd) (i j : Nat) (R : List Rw) : List Kd := P.set i { (gt P i) with states := (gt P i).states.set j ⟨(gt (gt P i).states j).name, R⟩ }
theorem rows_mem {P : List Kd} {i j : Nat} {R : List Rw} {k : Kd} (h : k ∈ rowsAt P i j R) : k ∈ P ∨ k = { (gt P i) with states := (gt P i).states.set j ⟨(gt (gt P i).states j).name, R⟩ } := by
  exact List.mem_or_eq_of_mem_set h
theorem rowsAt_len (P : List Kd) (i j : Nat) (R : List Rw) : (rowsAt P i j R).length = P.length := List.length_set
theorem rows_sz {P : List Kd} (h : szP P) {i j : Nat} (hi : i < P.length) (hj : j < (gt P i).states.length) {R : List Rw} (hR : R.length ≤ 140737488355328) (hm : ∀ r ∈ R, szR r) : szP (rowsAt P i j R) := by
  refine ⟨by rw [rowsAt_len]; exact h.1, fun k hk => ?_⟩
  have hK := h.2 (gt P i) (by rw [gt_eq hi]; exact List.getElem_mem hi)
  rcases rows_mem hk with hk | rfl
  · exact h.2 _ hk
  · refine ⟨hK.1, by dsimp only; rw [List.length_set]; exact hK.2.1, fun s hs => ?_⟩
    rcases List.mem_or_eq_of_mem_set hs with hs | rfl
    · exact hK.2.2 _ hs
    · exact ⟨hR, hm⟩
theorem rows_wf {P : List Kd} (h : wfP P) {i j : Nat} (hi : i < P.length) (hj : j < (gt P i).states.length) {R : List Rw} (hm : ∀ r ∈ R, wfR r) : wfP (rowsAt P i j R) := by
  intro k hk
  have hK := h (gt P i) (by rw [gt_eq hi]; exact List.getElem_mem hi)
  rcases rows_mem hk with hk | rfl
  · exact h _ hk
  · refine ⟨hK.limit, hK.within, hK.name, hK.cases, fun s hs => ?_⟩
    rcases List.mem_or_eq_of_mem_set hs with hs | rfl
    · exact hK.states _ hs
    · exact ⟨(hK.states (gt (gt P i).states j) (by rw [gt_eq hj]; exact List.getElem_mem hj)).name, hm⟩
theorem rows_whole {P : List Kd} {i j : Nat} (hi : i < P.length) (hj : j < (gt P i).states.length) {R : List Rw} (hR : R.Perm (gt (gt P i).states j).rows) : whole (rowsAt P i j R) = none ↔ whole P = none := by
  have ej : gt (gt P i).states j = (gt P i).states[j] := gt_eq hj
  unfold rowsAt
  rw [ej] at hR ⊢
  have ei : gt P i = P[i] := gt_eq hi
  revert hR hj
  rw [ei]
  intro hj hR _
  exact turned hi hj hR
end Go.Proofs.YthanclicnkjmiaaGreatDoor.Ch

/- check: CheckTurned's walk. -/
set_option linter.unusedVariables false
namespace Go.Proofs.YthanclicnkjmiaaGreatDoor.Ch
open Go Go.RowKit Go.Proofs.YthanclicnkjmiaaGreatDoor Lx Ps

theorem own_empty (w : World) (e : TypeId) (s : Nat) : (w.alloc (.cells #[] e)).ownsRow 0 e s (.slice (some ⟨w.heap.size, 0, none⟩) 0 0) 0 [] :=
  World.ownsRow_made w #[] 0 (Nat.zero_le _) (Nat.zero_le _) (by simp)
theorem cells_at {α : Type} {D : Nat} {w : World} {g n s c : Nat} {f : α → List Value} {Z : List α} (hf : ∀ x, (f x).length = s) (hs : 0 < s) (h : CIn D w (.slice (some ⟨g, 0, none⟩) n c) n s (Z.flatMap f)) (hZ : Z.length = n) (j : Nat) (hj : j < n) {z : α} (hz : ∀ h : j < Z.length, z = Z[j]'h) (k : Nat) (hk : k < s) : w.cell? ⟨g, j * s + k, none⟩ = (f z)[k]? := by
  rw [hz (by omega)]
  obtain ⟨b, off, e, _, h⟩ := CIn.at_ hf hs h hZ j hj
  obtain ⟨rfl, rfl⟩ : g = b ∧ 0 = off := by simpa using e
  have := h k hk
  rw [Nat.zero_add] at this
  exact this
theorem cin_at {D w w' g n s c cs q} (h : CIn D w (.slice (some ⟨g, 0, none⟩) n c) n s cs) (o : Only (At q) w w') (hq : g ≠ q) : CIn D w' (.slice (some ⟨g, 0, none⟩) n c) n s cs := by
  obtain ⟨a, c', h1, h2, h3⟩ := h
  refine ⟨a, c', h1, h2, fun i hi => ?_⟩
  obtain ⟨b, off, ha, hD, hlt, hc⟩ := h3 i hi
  have hb : b = g := by
    have := h1.1
    rw [ha] at this
    simp at this
    exact this.1.1.symm
  refine ⟨b, off, ha, hD, Nat.lt_of_lt_of_le hlt o.size, fun j hj => ?_⟩
  have e : cs[j]? = some cs[j] := by simp [hj]
  rw [e]
  exact only_cellS o (fun h => hq (hb ▸ h)) ((hc j hj).trans e)
def Blk (w : World) (g : Nat) (t : TypeId) : Prop := ∃ cur : Array Value, w.heap[g]? = some (.cells cur t (0, 0))
theorem Blk.of {w : World} {lo e s g n c xs} (h : w.ownsRow lo e s (.slice (some ⟨g, 0, none⟩) n c) n xs) : Blk w g e := by
  rcases h.2 with ⟨h', _⟩ | ⟨g', c', cur, hv, _, hg, _⟩
  · simp at h'
  · simp only [Value.slice.injEq, Option.some.injEq, Addr.mk.injEq, and_true, true_and] at hv
    obtain ⟨rfl, _⟩ := hv
    exact ⟨cur, hg⟩
theorem Blk.keep {S : Nat → Prop} {w w' : World} {g t} (h : Blk w g t) (o : Only S w w') (hS : ¬ S g) : Blk w' g t := by
  obtain ⟨cur, hg⟩ := h
  exact ⟨cur, (o.block g (lt_of_block hg) hS).trans hg⟩
theorem Blk.free {w : World} {g t} (h : Blk w g t) (k : Nat) : w.frozen? ⟨g, k, none⟩ = false := by
  obtain ⟨cur, hg⟩ := h
  exact frozen_blk hg k
theorem Blk.set {w : World} {g t} (h : Blk w g t) (o : Nat) (vs : List Value) : Blk (w.setCells g o vs) g t := by
  obtain ⟨cur, hg⟩ := h
  exact ⟨_, setCells_row g vs o w cur t (0, 0) hg⟩
theorem bx_set {w : World} {O : Nat} {cs : List Value} {t : TypeId} (h : Bx w O cs t) (k : Nat) (v : Value) : Bx (w.setCell ⟨O, k, none⟩ v) O (cs.set k v) t := by
  unfold Bx at h ⊢
  rw [heap_setCell_self v h]
  simp
end Go.Proofs.YthanclicnkjmiaaGreatDoor.Ch
