/- check: rows that are copied whole, and turned at one place. -/
import Derived.Test.YthanclicnkjmiaaGreatDoorChS
import Derived.Test.YthanclicnkjmiaaGreatDoorChR
import Derived.Test.YthanclicnkjmiaaGreatDoorCtA
set_option linter.unusedVariables false
namespace Go.Proofs.YthanclicnkjmiaaGreatDoor.Ch
open Go Go.RowKit Go.Proofs.YthanclicnkjmiaaGreatDoor Lx Ps

theorem flat_len {α : Type} {f : α → List Value} {s : Nat} (hf : ∀ x, (f x).length = s) (L : List α) : (L.flatMap f).length = L.length * s := by
  induction L with
  | nil => simp
  | cons x L ih => rw [List.flatMap_cons, List.length_append, ih, hf, List.length_cons, Nat.succ_mul, Nat.add_comm]
/-- append of a whole row that came in to an empty one: a row of one's own. -/
theorem copy_cin {P : Program} {w : World} {t ty e : TypeId} {z : Value} {size bytes : Nat} (ht : P.underlying t = some (.slice e)) (hi : (P.info? e).map (fun i => (i.zero, i.size, i.bytes)) = some (some z, size, bytes)) (hzs : z.cells.size = size)
    {D n c : Nat} {a x0 : Option Addr} {cs : List Value} (h : CIn D w (.slice a n c) n size cs) (h0 : w.ownsRow 0 e size (.slice x0 0 0) 0 []) (hn : 0 < n) (hs : 0 < size) (hy : 0 < bytes) (hb : n * bytes ≤ 140737488355328) :
    ∃ c' w', (Builtin.append_ #[t, t] ty #[.slice x0 0 0, .slice a n c]).run P w = .ok (.slice (some ⟨w.heap.size, 0, none⟩) n c') w' ∧ w'.ownsRow 0 e size (.slice (some ⟨w.heap.size, 0, none⟩) n c') n cs ∧ Only Nil w w' := by
  obtain ⟨i0, hi0, hz0, hz1, hz2⟩ := info_parts hi
  obtain ⟨a', c0, ⟨h1, _⟩, h2, h3⟩ := h
  simp only [Value.slice.injEq] at h1
  obtain ⟨rfl, _, rfl⟩ := h1
  obtain ⟨b, off, rfl, _, _, hc⟩ := h3 0 (by rw [h2]; exact Nat.mul_pos hn hs)
  have hnb : n * 1 ≤ n * bytes := Nat.mul_le_mul_left _ hy
  obtain ⟨c', w', hr, ho, hon⟩ := run_append_new (P := P) w t ty e i0 z size bytes ht hi0 hz0 hz1 hz2 hzs x0 0 [] h0 ⟨b, off, none⟩ n c hn cs h2 (fun j u hj => by
    have hl : j < cs.length := (List.getElem?_eq_some_iff.1 hj).1
    have := (hc j hl).trans hj
    rw [show (⟨b, off, none⟩ : Addr).add j = ⟨b, off + j, none⟩ from by by_cases h0 : j = 0 <;> simp [Addr.add, h0]]
    exact this) (by unfold maxLen; omega) (by rw [Nat.zero_add]; exact hb)
  rw [Nat.zero_add] at hr ho
  exact ⟨c', w', hr, by simpa using ho, hon⟩
theorem cin_set {α : Type} {D s n c g : Nat} {w w' : World} {f : α → List Value} (hf : ∀ x, (f x).length = s) (hs : 0 < s) {Z : List α} (h : CIn D w (.slice (some ⟨g, 0, none⟩) n c) n s (Z.flatMap f)) (hZ : Z.length = n) (i : Nat) (z : α)
    (hsz : w.heap.size ≤ w'.heap.size) (hin : ∀ k, k < s → w'.cell? ⟨g, i * s + k, none⟩ = (f z)[k]?) (hout : ∀ j, (j < i * s ∨ i * s + s ≤ j) → w'.cell? ⟨g, j, none⟩ = w.cell? ⟨g, j, none⟩) :
    CIn D w' (.slice (some ⟨g, 0, none⟩) n c) n s ((Z.set i z).flatMap f) := by
  obtain ⟨a', c', ⟨h1, hcap⟩, h2, h3⟩ := h
  simp only [Value.slice.injEq] at h1
  obtain ⟨rfl, _, rfl⟩ := h1
  have hl : ((Z.set i z).flatMap f).length = n * s := by rw [flat_len hf, List.length_set, hZ]
  refine ⟨_, _, ⟨rfl, hcap⟩, hl, fun i' hi' => ?_⟩
  obtain ⟨b, off, ha, hD, hb, hc⟩ := h3 i' (by omega)
  obtain ⟨rfl, rfl⟩ : g = b ∧ 0 = off := by simpa using ha
  refine ⟨_, _, rfl, hD, by omega, fun j hj => ?_⟩
  rw [Nat.zero_add]
  have hj' : j < n * s := by omega
  have hdm : j / s * s + j % s = j := Nat.div_add_mod' j s
  have hm : j % s < s := Nat.mod_lt _ hs
  have hq : j / s < n := Nat.div_lt_of_lt_mul (by rw [Nat.mul_comm]; exact hj')
  have hc' : w.cell? ⟨g, j, none⟩ = (Z.flatMap f)[j]? := by have := hc j (by omega); rw [Nat.zero_add] at this; exact this
  have hqs : j / s < (Z.set i z).length := by rw [List.length_set]; omega
  have e1 := flat_get f s hf (Z.set i z) (j / s) (j % s) hqs hm
  rw [hdm] at e1
  rw [e1]
  by_cases he : j / s = i
  · have e2 : (Z.set i z)[j / s] = z := by rw [List.getElem_set, if_pos he.symm]
    rw [e2, ← hin _ hm, ← he, hdm]
  · have e2 : (Z.set i z)[j / s] = Z[j / s]'(by omega) := by rw [List.getElem_set, if_neg (Ne.symm he)]
    have e3 := flat_get f s hf Z (j / s) (j % s) (by omega) hm
    rw [hdm] at e3
    rw [e2, ← e3, ← hc']
    refine hout j ?_
    rcases Nat.lt_or_gt_of_ne he with h | h
    · left
      have : (j / s + 1) * s ≤ i * s := Nat.mul_le_mul_right _ h
      rw [Nat.succ_mul] at this; omega
    · right
      have : (i + 1) * s ≤ j / s * s := Nat.mul_le_mul_right _ h
      rw [Nat.succ_mul] at this; omega
/-- One element of a row is stored anew. -/
theorem cin_put {α : Type} {D s n c g : Nat} {w : World} {f : α → List Value} (hf : ∀ x, (f x).length = s) (hs : 0 < s) {Z : List α} (h : CIn D w (.slice (some ⟨g, 0, none⟩) n c) n s (Z.flatMap f)) (hZ : Z.length = n) (i : Nat) (hi : i < n) (z : α) :
    CIn D (w.setCells g (i * s) (f z)) (.slice (some ⟨g, 0, none⟩) n c) n s ((Z.set i z).flatMap f) := by
  refine cin_set hf hs h hZ i z (only_setCells (S := At g) (a := w) g rfl (f z) (i * s) w (Only.refl _ _)).size (fun k hk => ?_) (fun j hj => ?_)
  · have ha := CIn.at_ hf hs h hZ i hi
    obtain ⟨b, off, e, _, hc⟩ := ha
    obtain ⟨rfl, rfl⟩ : g = b ∧ 0 = off := by simpa using e
    have hk' : k < (f z).length := by rw [hf]; exact hk
    rw [World.cell?_setCells_in g (f z) (i * s) w (fun j hj => by
      have := hc j (by rw [hf] at hj; exact hj)
      rw [Nat.zero_add] at this
      rw [this, List.getElem?_eq_getElem (by rw [hf] at hj ⊢; exact hj)]; rfl) k hk']
    simp [hk']
  · exact World.cell?_setCells_out g (f z) (i * s) w ⟨g, j, none⟩ (fun _ _ => by rw [hf]; exact hj)
end Go.Proofs.YthanclicnkjmiaaGreatDoor.Ch
