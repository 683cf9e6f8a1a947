/- wheel: the timers sorted by their numbers. -/
import Derived.Test.YtpmgmdlfnlmieaaWhTh
namespace Go.Proofs.Ytpmgmdlfnlmieaa.Wh
open Go.RowKit Go.Proofs.Ytpmgmdlfnlmieaa Go.Shelf Go.Sort

theorem nan_any (x : Int) (w : World) : Calls Try.prog 44 #[.int .i64 x] w fun e w' => e = .returned (.bool false) ∧ w = w' := by
  go_enter Try.func44, Try.ntmps44
  go_wp2
  go_ret
  exact ⟨rfl, rfl⟩

theorem compare_any (x y : Int) (w : World) : Calls Try.prog 38 #[.int .i64 x, .int .i64 y] w fun e w' => e = .returned (.int .i64 (Lib.compareInt x y)) ∧ w = w' := by
  by_cases h1 : x < y
  · rw [show Lib.compareInt x y = -1 by simp [Lib.compareInt, h1]]
    go_enter Try.func38, Try.ntmps38
    go_wp2_with (go_at_call 44; (with_reducible refine (nan_any _ _).mono ?_); rintro e w' ⟨rfl, rfl⟩)
    go_ret
    exact ⟨rfl, rfl⟩
  by_cases h2 : y < x
  · rw [show Lib.compareInt x y = 1 by simp [Lib.compareInt, h1, h2]]
    go_enter Try.func38, Try.ntmps38
    go_wp2_with (go_at_call 44; (with_reducible refine (nan_any _ _).mono ?_); rintro e w' ⟨rfl, rfl⟩)
    go_ret
    exact ⟨rfl, rfl⟩
  · rw [show Lib.compareInt x y = 0 by simp [Lib.compareInt, h1, h2]]
    go_enter Try.func38, Try.ntmps38
    go_wp2_with (go_at_call 44; (with_reducible refine (nan_any _ _).mono ?_); rintro e w' ⟨rfl, rfl⟩)
    go_ret
    exact ⟨rfl, rfl⟩

/-- The order of Ids: by number. -/
def cfT (x y : Tm) : Int := Lib.compareInt (x.num : Int) (y.num : Int)
theorem ltT (x y : Tm) : ltOf cfT x y = decide (x.num < y.num) := by
  unfold ltOf cfT Lib.compareInt
  by_cases h1 : x.num < y.num
  · have : (x.num : Int) < y.num := by omega
    simp [h1, this]
  · have h1' : ¬ (x.num : Int) < y.num := by omega
    by_cases h2 : y.num < x.num
    · have : (y.num : Int) < x.num := by omega
      simp [h1, h1', this]
    · have : ¬ (y.num : Int) < x.num := by omega
      simp [h1, h1', this]
theorem swoT : Sort.SWO (ltOf cfT) where
  irrefl x := by rw [ltT]; simp
  trans x y z h1 h2 := by rw [ltT] at *; simp at *; omega
  ntrans x y z h1 h2 := by rw [ltT] at *; simp at *; omega

theorem ids2_any (x y : Tm) (w : World) : Calls Try.prog 37 #[.agg #[.int .u64 (x.id : Int), .int .i64 (x.due : Int), .int .i64 (x.num : Int)], .agg #[.int .u64 (y.id : Int), .int .i64 (y.due : Int), .int .i64 (y.num : Int)]] w fun e w' =>
    e = .returned (.int .i64 (cfT x y)) ∧ ∃ q os', w' = Sort.grow (w.drewN q) os' := by
  unfold cfT
  have hcon := fun W' => compare_any (x.num : Int) (y.num : Int) W'
  generalize Lib.compareInt (x.num : Int) (y.num : Int) = r at hcon ⊢
  generalize (x.num : Int) = x2 at *
  generalize (y.num : Int) = y2 at *
  generalize (x.id : Int) = x0 at *
  generalize (y.id : Int) = y0 at *
  generalize (x.due : Int) = x1 at *
  generalize (y.due : Int) = y1 at *
  go_enter Try.func37, Try.ntmps37
  go_wp2_with (go_at_call 38; refine (hcon _).mono ?_; rintro e w' ⟨rfl, rfl⟩)
  go_ret
  exact ⟨rfl, 0, _, by rw [Sort.alloc_eq_grow, Sort.alloc_eq_grow, Sort.grow_grow]; rfl⟩

theorem cmpT (blk off size : Nat) (w : World) : CmpLays Try.prog 37 #[] tm 3 cfT blk off size w :=
  fun _ _ _ _ x y => ids2_any x y _

theorem holdsT {w : World} {T m cap : Nat} {P : List Tm} (hm : P.length = m) (ho : w.ownsRow 0 67 3 (.slice (some ⟨T, 0, none⟩) m cap) m (tms P)) : HoldsK tm 3 w T 0 P.toArray ∧ T < w.heap.size := by
  rcases ho.2 with ⟨e, _⟩ | ⟨g, c', cur, hv, _, hg, _⟩
  · simp at e
  · simp only [Value.slice.injEq, Option.some.injEq, Addr.mk.injEq, and_true, true_and] at hv
    obtain ⟨rfl, rfl⟩ := hv
    refine ⟨fun j hj => ?_, lt_of_block hg⟩
    have hj' : j < P.toArray.size * 3 := by simpa [flatK] using hj
    refine ⟨?_, by simp [World.frozen?, hg]⟩
    rw [get_flatK _ _ _ _ hj', Nat.zero_add]
    have hP : j < P.length * 3 := by simpa using hj'
    rw [ho.cellAt _ (by omega)]
    have hq : j / 3 < P.length := by omega
    obtain ⟨e0, e1, e2⟩ := tms_get P (j / 3) hq
    have ed : P.toArray[j / 3]! = P.getD (j / 3) default := by
      simp [List.getD, hq]
    have hr : j = j / 3 * 3 + j % 3 := by omega
    rw [ed]
    have h3 : j % 3 = 0 ∨ j % 3 = 1 ∨ j % 3 = 2 := by omega
    rcases h3 with h | h | h
    · rw [h]; rw [h] at hr; rw [hr, ← show j / 3 = (j / 3 * 3 + 0) / 3 by omega, Nat.add_zero, e0]; rfl
    · rw [h]; rw [h] at hr; rw [hr, ← show j / 3 = (j / 3 * 3 + 1) / 3 by omega, e1]; rfl
    · rw [h]; rw [h] at hr; rw [hr, ← show j / 3 = (j / 3 * 3 + 2) / 3 by omega, e2]; rfl

theorem only_map {w : World} {T : Nat} {f : Array Value → Array Value} : Only (fun q => q = T) w (Sort.mapBlock w T f) :=
  ⟨rfl, rfl, rfl, by simp [Sort.mapBlock], fun k _ hk => by
    simp only [Sort.mapBlock, Array.getElem?_modify]
    rw [if_neg (fun e => hk e.symm)]⟩
theorem only_grow {S : Nat → Prop} {w : World} {os : Array Obj} : Only S w (Sort.grow w os) :=
  ⟨rfl, rfl, rfl, by simp [Sort.grow], fun k hk _ => Sort.heap_grow_old w os hk⟩

theorem num_uniq : ∀ {L : List Tm}, (L.Pairwise fun a b => a.num < b.num) → ∀ {a b : Tm}, a ∈ L → b ∈ L → a.num = b.num → a = b := by
  intro L h
  induction h with
  | nil => intro a b ha; cases ha
  | cons hx _ ih =>
    intro a b ha hb e
    rcases List.mem_cons.1 ha with rfl | ha' <;> rcases List.mem_cons.1 hb with rfl | hb'
    · rfl
    · have := hx b hb'; omega
    · have := hx a ha'; omega
    · exact ih ha' hb' e
theorem sorted_eq {P L : List Tm} {d' : Array Tm} (hp : P.Perm L) (hL : L.Pairwise fun a b => a.num < b.num) (h1 : Sort.PermIn 0 P.toArray.size P.toArray d') (h2 : Sort.SortedIn (ltOf cfT) 0 P.toArray.size d') : d'.toList = L := by
  obtain ⟨hs, _, hq⟩ := h1
  have hq' : d'.toList.Perm P := by
    have e1 : d'.extract 0 P.toArray.size = d' := by rw [← hs]; simp
    rw [e1] at hq
    simpa using hq
  have hm : d'.toList.Pairwise fun a b => a.num ≤ b.num := by
    rw [List.pairwise_iff_getElem]
    intro i j hi hj hij
    have hi' : i < d'.size := by simpa using hi
    have hj' : j < d'.size := by simpa using hj
    have := h2 i j (Nat.zero_le _) hij (by omega)
    rw [ltT, getElem!_pos d' i hi', getElem!_pos d' j hj'] at this
    simp at this
    simpa using this
  refine List.Perm.eq_of_pairwise (le := fun a b => a.num ≤ b.num) ?_ hm (hL.imp (fun h => Nat.le_of_lt h)) (hq'.trans hp)
  intro a b ha hb h1 h2
  exact num_uniq hL ((hq'.trans hp).mem_iff.1 ha) hb (by omega)

set_option maxHeartbeats 1000000 in
/-- The row, sorted by number: the timers L. -/
theorem sort_any {w : World} {T m cap : Nat} {P L : List Tm} (hm : P.length = m) (h64 : m ≤ 65000) (ho : w.ownsRow 0 67 3 (.slice (some ⟨T, 0, none⟩) m cap) m (tms P)) (hp : P.Perm L) (hL : L.Pairwise fun a b => a.num < b.num) :
    Calls Try.prog 36 #[.slice (some ⟨T, 0, none⟩) m cap, .func (.func 37) #[] #[]] w fun e w' =>
      e = .returned (.tuple #[]) ∧ TIn w' (some ⟨T, 0, none⟩) L ∧ Only (fun q => q = T) w w' := by
  obtain ⟨hH, hblk⟩ := holdsT hm ho
  have eg : ∀ args w, (callFunc 37 args).run Try.prog w = .ok (.enter 37 args) w := enters_of Try.func37 (by kernel_rfl) rfl
  have hcon := AnyQ.slices_SortFunc Try.sortTm 3 Try.isAgg67 Try.sizeOf67 tm (fun _ => rfl) (fun x => tm_oneCell x) cfT swoT 37 #[] T 0 cap P.toArray w eg (cmpT T 0 _ w) hH hblk (by simp; omega)
  change Calls Try.prog 36 _ _ _ at hcon
  rw [show P.toArray.size = m by simpa using hm] at hcon
  refine hcon.mono ?_
  rintro e w' ⟨rfl, d', n, os, h1, h2, rfl⟩
  have hs : P.toArray.size = m := by simpa using hm
  have hl := sorted_eq hp hL (by rw [hs]; exact h1) (by rw [hs]; exact h2)
  have hds : d'.size = P.toArray.size := h1.1
  have hK := holdsK_sortWorldK_c tm 3 w T 0 P.toArray d' n os hH hblk hds
  refine ⟨rfl, ?_, ?_⟩
  · subst hl
    intro i hi
    refine ⟨T, rfl, by simp [sortWorldK, Sort.grow, putRowK, Sort.putRow, Sort.mapBlock, Sort.ahead]; omega, fun j hj => ?_⟩
    have hj' : j < d'.size := by simpa using hj
    have ed : d'[j]! = d'.toList.getD j default := by simp [List.getD, hj']
    have c0 := (hK.cell hj' (c := 0) (by decide)).1
    have c1 := (hK.cell hj' (c := 1) (by decide)).1
    have c2 := (hK.cell hj' (c := 2) (by decide)).1
    rw [ed, Nat.zero_add] at c0 c1 c2
    exact ⟨c0, c1, c2⟩
  · have o1 : Only (fun q => q = T) w (Sort.ahead w n) := ⟨rfl, rfl, rfl, Nat.le_refl _, fun _ _ _ => rfl⟩
    exact (o1.trans only_map).trans only_grow
end Go.Proofs.Ytpmgmdlfnlmieaa.Wh
