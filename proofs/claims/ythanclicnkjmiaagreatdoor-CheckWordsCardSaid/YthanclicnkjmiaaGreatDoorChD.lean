/- check: library contracts, laid: slices.Insert and Clone at []int, slices.Contains at []string. -/
import Derived.Test.YthanclicnkjmiaaGreatDoorChC
import Derived.Shelf.Spec.SlicesInsertGrow
import Derived.Shelf.Spec.SlicesInsert
import Derived.Shelf.Slices.Clone
import Derived.Shelf.Slices.Turned
set_option linter.unusedVariables false
namespace Go.Proofs.YthanclicnkjmiaaGreatDoor.Ch
open Go.RowKit Go.Proofs.YthanclicnkjmiaaGreatDoor Lx Ps Go.Shelf

def Tryz.insl_ren : Go.Shelf.Ren := ⟨fun | 21 => 98 | 27 => 137 | 28 => 138 | 35 => 171 | 39 => 205 | n => n, fun | 0 => 0 | 3 => 3 | 4 => 4 | 22 => 38 | n => n, fun n => n⟩
theorem Tryz.insl : Lays2.n21 Tryz.prog Tryz.insl_ren where
  mixed := by kernel_rfl
  f21 := Tryz.func98.trans (congrArg some (by kernel_rfl))
  f27 := Tryz.func137.trans (congrArg some (by kernel_rfl))
  f28 := Tryz.func138.trans (congrArg some (by kernel_rfl))
  f35 := Tryz.func171.trans (congrArg some (by kernel_rfl))
  f39 := Tryz.func205.trans (congrArg some (by kernel_rfl))
  t0 := Tryz.underlying0
  a0 := Tryz.isAgg0
  z0 := Tryz.sizeOf0
  v0 := Tryz.zeroValue0
  t3 := Tryz.underlying3
  a3 := Tryz.isAgg3
  z3 := Tryz.sizeOf3
  v3 := Tryz.zeroValue3
  t4 := Tryz.underlying4
  a4 := Tryz.isAgg4
  z4 := Tryz.sizeOf4
  v4 := Tryz.zeroValue4
  t22 := Tryz.underlying38
  a22 := Tryz.isAgg38
  z22 := Tryz.sizeOf38
  v22 := Tryz.zeroValue38
  i3 := by kernel_rfl

def Tryz.clol_ren : Go.Shelf.Ren := ⟨fun | 15 => 41 | n => n, fun | 3 => 3 | 4 => 4 | 22 => 38 | n => n, fun n => n⟩
theorem Tryz.clol : Lays2.n15 Tryz.prog Tryz.clol_ren where
  mixed := by kernel_rfl
  f15 := Tryz.func41.trans (congrArg some (by kernel_rfl))
  t3 := Tryz.underlying3
  a3 := Tryz.isAgg3
  z3 := Tryz.sizeOf3
  v3 := Tryz.zeroValue3
  t4 := Tryz.underlying4
  a4 := Tryz.isAgg4
  z4 := Tryz.sizeOf4
  v4 := Tryz.zeroValue4
  t22 := Tryz.underlying38
  a22 := Tryz.isAgg38
  z22 := Tryz.sizeOf38
  v22 := Tryz.zeroValue38
  i3 := by kernel_rfl

def Tryz.conl_ren : Go.Shelf.Ren := ⟨fun | 110 => 130 | 109 => 167 | n => n, fun | 0 => 0 | 3 => 3 | 4 => 4 | 9 => 9 | 31 => 103 | n => n, fun n => n⟩
theorem Tryz.conl : Lays.n110 Tryz.prog Tryz.conl_ren where
  mixed := by kernel_rfl
  f109 := Tryz.func167.trans (congrArg some (by kernel_rfl))
  f110 := Tryz.func130.trans (congrArg some (by kernel_rfl))
  t0 := Tryz.underlying0
  a0 := Tryz.isAgg0
  z0 := Tryz.sizeOf0
  v0 := Tryz.zeroValue0
  t3 := Tryz.underlying3
  a3 := Tryz.isAgg3
  z3 := Tryz.sizeOf3
  v3 := Tryz.zeroValue3
  t4 := Tryz.underlying4
  a4 := Tryz.isAgg4
  z4 := Tryz.sizeOf4
  v4 := Tryz.zeroValue4
  t9 := Tryz.underlying9
  a9 := Tryz.isAgg9
  z9 := Tryz.sizeOf9
  v9 := Tryz.zeroValue9
  t31 := Tryz.underlying103
  a31 := Tryz.isAgg103
  z31 := Tryz.sizeOf103
  v31 := Tryz.zeroValue103

def putA (cur : Array Value) : Nat → List Value → Array Value
  | _, [] => cur
  | o, v :: r => putA (cur.setIfInBounds o v) (o + 1) r
theorem putA_size (vs : List Value) : ∀ (o : Nat) (cur : Array Value), (putA cur o vs).size = cur.size := by
  induction vs with
  | nil => intro o cur; rfl
  | cons v r ih => intro o cur; rw [putA, ih]; simp
theorem putA_get (vs : List Value) : ∀ (o : Nat) (cur : Array Value) (j : Nat), o + vs.length ≤ cur.size → (putA cur o vs)[j]? = if o ≤ j ∧ j < o + vs.length then vs[j - o]? else cur[j]? := by
  induction vs with
  | nil => intro o cur j _; rw [putA, if_neg (by simp)]
  | cons v r ih =>
    intro o cur j h
    rw [putA, ih (o + 1) _ j (by simp at h ⊢; omega)]
    simp only [List.length_cons] at h ⊢
    by_cases h1 : o + 1 ≤ j ∧ j < o + 1 + r.length
    · rw [if_pos h1, if_pos (by omega)]
      have : j - o = (j - (o + 1)) + 1 := by omega
      rw [this]; rfl
    · rw [if_neg h1]
      by_cases h2 : j = o
      · subst h2
        rw [if_pos (by omega)]
        have hlt : j < cur.size := by omega
        simp [hlt]
      · rw [if_neg (by omega), Array.getElem?_setIfInBounds_ne (Ne.symm h2)]
theorem setCells_row (b : Nat) (vs : List Value) : ∀ (o : Nat) (w : World) (cur : Array Value) (t : TypeId) (m : Nat × Nat), w.heap[b]? = some (.cells cur t m) → (w.setCells b o vs).heap[b]? = some (.cells (putA cur o vs) t m) := by
  induction vs with
  | nil => intro o w cur t m h; exact h
  | cons v r ih => intro o w cur t m h; exact ih _ _ _ _ _ (heap_setCell_self v h)
theorem only_setCells {S : Nat → Prop} {a : World} (b : Nat) (hb : S b) (vs : List Value) : ∀ (o : Nat) (w : World), Only S a w → Only S a (w.setCells b o vs) := by
  induction vs with
  | nil => intro o w h; exact h
  | cons v r ih => intro o w h; exact ih _ _ (h.setCell (p := ⟨b, o, none⟩) hb v)
theorem take_of_get {L M : List Value} {n : Nat} (hM : M.length = n) (hL : n ≤ L.length) (h : ∀ j, j < n → L[j]? = M[j]?) : L.take n = M := by
  refine List.ext_getElem? fun j => ?_
  rw [List.getElem?_take]
  split
  · exact h j (by assumption)
  · rw [List.getElem?_eq_none (by omega)]
theorem intsC_len (W : List Nat) : (intsC W).length = W.length := by unfold intsC; simp
theorem intsC_one (W : List Nat) : ∀ v ∈ intsC W, v.oneCell' = true := by
  intro v hv; unfold intsC at hv; obtain ⟨n, _, rfl⟩ := List.mem_map.1 hv; rfl
/-- A number ahead of a row. -/
theorem insert_front {w : World} {lo : Nat} {v : Value} {W : List Nat} (own : w.ownsRow lo 3 1 v W.length (intsC W)) (hnil : W = [] → v = .slice none 0 0) (few : W.length ≤ 100) (q x : Nat)
    (hq : w.heap[q]? = some (.cells #[.int .i64 (x : Int)] 3 (0, 0))) (hlo : lo ≤ w.heap.size) (hne : ∀ g, v.ownBlock = some g → q ≠ g) :
    Calls Tryz.prog 98 #[v, .int .i64 0, .slice (some ⟨q, 0, none⟩) 1 1] w fun e w' => ∃ a c, e = .returned (.slice a (W.length + 1) c) ∧ w'.ownsRow lo 3 1 (.slice a (W.length + 1) c) (W.length + 1) (intsC (x :: W)) ∧ Only (fun k => v.ownBlock = some k) w w' := by
  have hvs : ∀ j u, ([Value.int .i64 (x : Int)] : List Value)[j]? = some u → w.cell? ⟨q, 0 + j, none⟩ = some u := fun j u hj => by
    cases j with
    | zero => simp only [List.getElem?_cons_zero, Option.some.injEq] at hj; subst hj; simp only [World.cell?, hq]; rfl
    | succ j => simp at hj
  have h1v : ∀ u ∈ ([Value.int .i64 (x : Int)] : List Value), u.oneCell' = true := fun u hu => by rw [List.mem_singleton.1 hu]; rfl
  have e2 : intsC (x :: W) = Value.int .i64 (x : Int) :: intsC W := rfl
  have hcl : (intsC W).length = W.length := intsC_len _
  have hxl : (intsC (x :: W)).length = W.length + 1 := intsC_len _
  by_cases hW : W = []
  · subst hW
    obtain rfl := hnil rfl
    have h := Any2.slices_Insert_int_end_grow Tryz.insl none 0 0 q 0 1 1 [] [.int .i64 (x : Int)] w (by decide) (Nat.le_refl _) (by decide) (by decide) rfl rfl (fun _ => rfl) (fun a ha => by cases ha) hvs h1v
    refine Calls.mono h fun e w' ⟨he, hw⟩ => ?_
    subst hw
    have hge := grownCap_ge w (0 + 1) 0 3
    have hcm : grownCap w (0 + 1) 0 3 ≤ maxLen := grownCap_le_maxLen w (0 + 1) 0 _ (by unfold maxLen; omega)
    refine ⟨_, _, he, ⟨rfl, .inr ⟨w.heap.size, _, _, rfl, hlo, heap_alloc_new w.drew _, hge, hcm, ?_, ?_⟩⟩, (Only.refl _ w).drew.alloc _⟩
    · simp only [Array.size_append, List.size_toArray, size_zeroCells]
      show ([] ++ [Value.int .i64 (x : Int)] : List Value).length + (grownCap w (0 + 1) 0 3 - (0 + 1)) * 1 = grownCap w (0 + 1) 0 3 * 1
      generalize grownCap w (0 + 1) 0 3 = G at *
      have : ([] ++ [Value.int .i64 (x : Int)] : List Value).length = 1 := rfl
      omega
    · simp [intsC]
  · have hpos : 0 < W.length := List.length_pos_iff.2 hW
    obtain ⟨hl, hI⟩ := own
    rcases hI with ⟨_, hz⟩ | ⟨g, c, cur, rfl, hb, hg, hnc, hcm, hcs, htk⟩
    · omega
    rw [Nat.mul_one] at hcs htk
    have hget : ∀ j, j < W.length → cur[j]? = (intsC W)[j]? := fun j hj => by
      rw [← htk, List.getElem?_take, if_pos hj]; simp
    have hcc : ∀ j u, (intsC W)[j]? = some u → w.cell? ⟨g, 0 + j, none⟩ = some u := fun j u hj => by
      have hjl : j < W.length := by rw [← hcl]; exact (List.getElem?_eq_some_iff.1 hj).1
      rw [Nat.zero_add, cell_of_row w g j _ _ _ hg, hget j hjl]; exact hj
    have hne' : q ≠ g := hne g rfl
    have h63 : c ≤ 9223372036854775807 := by unfold maxLen at hcm; exact hcm
    by_cases hroom : W.length + 1 ≤ c
    · have hsp : ∀ j, j < W.length + 1 → (w.cell? ⟨g, 0 + j, none⟩).isSome = true := fun j hj => by
        have hlt : j < cur.size := by omega
        rw [Nat.zero_add, cell_of_row w g j _ _ _ hg, Array.getElem?_eq_getElem hlt]; rfl
      have hsb : w.shape? g = some (3, c) := by simp only [World.shape?, hg]; rw [hcs]
      have h := Any2.slices_Insert_int_shift Tryz.insl g 0 W.length c 0 q 0 1 1 (intsC W) [.int .i64 (x : Int)] w hpos (by decide) hroom h63 hne' hcl rfl hcc
        hsp (fun j hj => by simp only [World.frozen?, hg]; simp) hvs (intsC_one _) h1v
        3 3 1 c (by simp [World.shape?, hq]) hsb (by omega) (by simp only [World.frozen?, hq]; simp) (by simp only [World.frozen?, hq]; simp)
      refine Calls.mono h fun e w' ⟨he, hw⟩ => ?_
      subst hw
      have r1 := setCells_row g ((intsC W).drop 0) (0 + (0 + 1)) w.drew cur 3 (0, 0) hg
      have r2 := setCells_row g [.int .i64 (x : Int)] (0 + 0) _ _ _ _ r1
      have hs1 : (putA (putA cur (0 + (0 + 1)) ((intsC W).drop 0)) (0 + 0) [.int .i64 (x : Int)]).size = c := by rw [putA_size, putA_size]; exact hcs
      refine ⟨_, _, he, ⟨by rw [hxl, Nat.mul_one], .inr ⟨g, c, _, rfl, hb, r2, hroom, hcm, by rw [hs1, Nat.mul_one], ?_⟩⟩, ?_⟩
      · rw [Nat.mul_one]
        refine take_of_get hxl (Nat.le_trans hroom (Nat.le_of_eq (Array.length_toList.trans hs1).symm)) fun j hj => ?_
        rw [Array.getElem?_toList, putA_get _ _ _ _ (by rw [putA_size]; simp; omega)]
        by_cases hj0 : j = 0
        · subst hj0; rw [if_pos (by simp)]; rfl
        · rw [if_neg (by simp; omega), putA_get _ _ _ _ (by rw [List.drop_zero, hcl]; omega), if_pos (by rw [List.drop_zero, hcl]; omega), List.drop_zero]
          obtain ⟨k, rfl⟩ : ∃ k, j = k + 1 := ⟨j - 1, by omega⟩
          have : k + 1 - (0 + (0 + 1)) = k := by omega
          rw [this, e2, List.getElem?_cons_succ]
      · have oo : Only (fun k => k = g) w ((w.drew.setCells g (0 + (0 + 1)) ((intsC W).drop 0)).setCells g (0 + 0) [.int .i64 (x : Int)]) := only_setCells (S := fun k => k = g) g rfl _ _ _ (only_setCells (S := fun k => k = g) g rfl _ _ _ (Only.refl _ w).drew)
        exact oo.mono fun k hk => by rw [hk]; rfl
    · have h := Any2.slices_Insert_int_grow Tryz.insl g 0 W.length c 0 q 0 1 1 (intsC W) [.int .i64 (x : Int)] w hpos (by decide) hnc (by omega) (by omega) hcl rfl hcc hvs (intsC_one _) h1v
      refine Calls.mono h fun e w' ⟨he, hw⟩ => ?_
      subst hw
      have hge := grownCap_ge w (W.length + 1) c 3
      have hcm' : grownCap w (W.length + 1) c 3 ≤ maxLen := grownCap_le_maxLen w (W.length + 1) c _ (by unfold maxLen; omega)
      change e = .returned (.slice (some ⟨w.heap.size, 0, none⟩) (W.length + 1) (grownCap w (W.length + 1) c 3)) at he
      refine ⟨_, _, he, ?_⟩
      show World.ownsRow ((((w.alloc (.cells (((intsC W).take 0).toArray ++ Builtin.zeroCells (Value.int IntKind.i64 0).cells (W.length + 1 - 0) ++ Builtin.zeroCells (Value.int IntKind.i64 0).cells (grownCap w (W.length + 1) c 3 - (W.length + 1))) 3))).drew.setCells w.heap.size 0 [.int .i64 (x : Int)]).drew.setCells w.heap.size (0 + 1) ((intsC W).drop 0)) _ _ _ _ _ _ ∧
        Only _ w ((((w.alloc (.cells (((intsC W).take 0).toArray ++ Builtin.zeroCells (Value.int IntKind.i64 0).cells (W.length + 1 - 0) ++ Builtin.zeroCells (Value.int IntKind.i64 0).cells (grownCap w (W.length + 1) c 3 - (W.length + 1))) 3))).drew.setCells w.heap.size 0 [.int .i64 (x : Int)]).drew.setCells w.heap.size (0 + 1) ((intsC W).drop 0))
      generalize hG : grownCap w (W.length + 1) c 3 = G at *
      have hsz : (((intsC W).take 0).toArray ++ Builtin.zeroCells (Value.int IntKind.i64 0).cells (W.length + 1 - 0) ++ Builtin.zeroCells (Value.int IntKind.i64 0).cells (G - (W.length + 1))).size = G := by
        simp only [Array.size_append, List.size_toArray, size_zeroCells, List.take_zero, List.length_nil]
        show 0 + (W.length + 1 - 0) * 1 + (G - (W.length + 1)) * 1 = G
        omega
      generalize ((intsC W).take 0).toArray ++ Builtin.zeroCells (Value.int IntKind.i64 0).cells (W.length + 1 - 0) ++ Builtin.zeroCells (Value.int IntKind.i64 0).cells (G - (W.length + 1)) = A0 at *
      have r0 : (w.alloc (.cells A0 3)).drew.heap[w.heap.size]? = some (.cells A0 3) := heap_new w _
      have r1 := setCells_row w.heap.size [.int .i64 (x : Int)] 0 _ _ _ _ r0
      have r1' : ((w.alloc (.cells A0 3)).drew.setCells w.heap.size 0 [.int .i64 (x : Int)]).drew.heap[w.heap.size]? = _ := r1
      have r2 := setCells_row w.heap.size ((intsC W).drop 0) (0 + 1) _ _ _ _ r1'
      have hs1 : (putA (putA A0 0 [.int .i64 (x : Int)]) (0 + 1) ((intsC W).drop 0)).size = G := by rw [putA_size, putA_size]; exact hsz
      refine ⟨⟨by rw [hxl, Nat.mul_one], .inr ⟨w.heap.size, G, _, rfl, hlo, r2, hge, hcm', by rw [hs1, Nat.mul_one], ?_⟩⟩, ?_⟩
      · rw [Nat.mul_one]
        refine take_of_get hxl (Nat.le_trans hge (Nat.le_of_eq (Array.length_toList.trans hs1).symm)) fun j hj => ?_
        rw [Array.getElem?_toList, putA_get _ _ _ _ (by rw [putA_size, hsz, List.drop_zero, hcl]; omega)]
        by_cases hj0 : j = 0
        · subst hj0
          rw [if_neg (by omega), putA_get _ _ _ _ (by rw [hsz]; simp; omega), if_pos (by simp)]; rfl
        · rw [if_pos (by rw [List.drop_zero, hcl]; omega), List.drop_zero]
          obtain ⟨k, rfl⟩ : ∃ k, j = k + 1 := ⟨j - 1, by omega⟩
          have : k + 1 - (0 + 1) = k := by omega
          rw [this, e2, List.getElem?_cons_succ]
      · have oo : Only (fun k => w.heap.size ≤ k) w (((w.alloc (.cells A0 3)).drew.setCells w.heap.size 0 [.int .i64 (x : Int)]).drew.setCells w.heap.size (0 + 1) ((intsC W).drop 0)) :=
          only_setCells (S := fun k => w.heap.size ≤ k) w.heap.size (Nat.le_refl _) _ _ _ (Only.drew (only_setCells (S := fun k => w.heap.size ≤ k) w.heap.size (Nat.le_refl _) _ _ _ (Only.drew ((Only.refl _ w).alloc _))))
        exact (oo.fresh (fun k hk => hk)).nilTo _
end Go.Proofs.YthanclicnkjmiaaGreatDoor.Ch
