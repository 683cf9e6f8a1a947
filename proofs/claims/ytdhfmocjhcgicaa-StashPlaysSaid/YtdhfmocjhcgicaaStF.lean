/- stash: the document's functions; Same. -/
import Derived.Test.YtdhfmocjhcgicaaStE
namespace Go.Proofs.Ytdhfmocjhcgicaa.St
open Go.RowKit Go.Proofs.Ytdhfmocjhcgicaa

set_option maxHeartbeats 400000 in
theorem join_any {w : World} {va vb : Value} {X Y : List Int} (hx : Src w va X) (hy : Src w vb Y) (few : X.length + Y.length ≤ 50000) :
    Calls Try.prog 22 #[va, vb] w fun e w' => ∃ v', e = .returned v' ∧ Hid (RowB w.heap.size w' v' (X ++ Y) ∧ Only Nil w w') := by
  obtain ⟨a, c, hv⟩ := hx.slice
  obtain ⟨b, d, hv2⟩ := hy.slice
  have h0 : RowB w.heap.size w (.slice none 0 0) [] := World.ownsRow_nil _ _ _ _
  obtain ⟨v1, w1, hr1, ho1, hg1⟩ := rows h0 hx (by simp; omega) (Nat.le_refl _)
  rw [List.nil_append] at ho1
  have o1 : Only Nil w w1 := own_grown h0 (Only.refl _ _) (Nat.le_refl _) hg1
  obtain ⟨v2, w2, hr2, ho2, hg2⟩ := rows ho1 (hy.nil o1) (by omega) o1.size
  have o2 : Only Nil w w2 := own_grown ho1 o1 (Nat.le_refl _) hg2
  have fin := Lib.hid (And.intro ho2 o2)
  obtain ⟨p, q, hv3⟩ := ho1.slice
  have r1 := Lib.hid hr1
  have r2 := Lib.hid hr2
  subst hv hv2 hv3
  clear hr1 hr2 hg1 hg2 ho1 ho2 h0 o1 o2 hx hy few
  generalize X.length = n at *
  generalize Y.length = m at *
  go_enter Try.func22, Try.ntmps22
  go_wp2_with (first
    | (at_builtin; refine Lib.wpList_append_run _ rfl (.tmp 6) (.tmp 7) 26 26 rfl _ _ rfl rfl _ _ r1.out ?_)
    | (at_builtin; refine Lib.wpList_append_run _ rfl (.tmp 9) (.tmp 10) 26 26 rfl _ _ rfl rfl _ _ r2.out ?_))
  go_ret
  exact ⟨v2, rfl, fin⟩

/-- Results of which the first one is an aggregate that lies in a block of its own. -/
theorem results_ag1 {P : Program} {fn : Func} {p q : Tmp} {ty te : TypeId} (h : fn.results = #[.cell p ty, .tmp q]) (tmps : Array Value) (w : World) (b : Nat) (cs : List Value) (u : Value)
    (hag : ∀ w, (isAgg ty).run P w = .ok true w) (hsz : ∀ w, (Go.sizeOf ty).run P w = .ok cs.length w) (hp : tmps.getD p undef = .pointer (some ⟨b, 0, none⟩)) (hq : tmps.getD q undef = u) (hc : w.heap[b]? = some (.cells cs.toArray te (0, 0))) :
    (results fn tmps).run P w = .ok (.tuple #[.agg cs.toArray, u]) w := by
  have hp' : tmps[p]?.getD undef = .pointer (some ⟨b, 0, none⟩) := by simpa using hp
  have hq' : tmps[q]?.getD undef = u := by simpa using hq
  have hl := run_loadCells_list (P := P) w ⟨b, 0, none⟩ cs (fun j v hj => by
    have e : (⟨b, 0, none⟩ : Addr).add j = ⟨b, j, none⟩ := by unfold Addr.add; split <;> simp_all
    rw [e, cell_of_row w b j _ _ _ hc]; simpa using hj)
  simp only [results, h]
  simp [Sem.run_bind, Result.andThen, asAddr, loadVar, hag, hsz, hp', hq', hl]
theorem results_ag2 {P : Program} {fn : Func} {p q r : Tmp} {ty te : TypeId} (h : fn.results = #[.cell p ty, .tmp q, .tmp r]) (tmps : Array Value) (w : World) (b : Nat) (cs : List Value) (u v : Value)
    (hag : ∀ w, (isAgg ty).run P w = .ok true w) (hsz : ∀ w, (Go.sizeOf ty).run P w = .ok cs.length w) (hp : tmps.getD p undef = .pointer (some ⟨b, 0, none⟩)) (hq : tmps.getD q undef = u) (hr : tmps.getD r undef = v) (hc : w.heap[b]? = some (.cells cs.toArray te (0, 0))) :
    (results fn tmps).run P w = .ok (.tuple #[.agg cs.toArray, u, v]) w := by
  have hp' : tmps[p]?.getD undef = .pointer (some ⟨b, 0, none⟩) := by simpa using hp
  have hq' : tmps[q]?.getD undef = u := by simpa using hq
  have hr' : tmps[r]?.getD undef = v := by simpa using hr
  have hl := run_loadCells_list (P := P) w ⟨b, 0, none⟩ cs (fun j v hj => by
    have e : (⟨b, 0, none⟩ : Addr).add j = ⟨b, j, none⟩ := by unfold Addr.add; split <;> simp_all
    rw [e, cell_of_row w b j _ _ _ hc]; simpa using hj)
  simp only [results, h]
  simp [Sem.run_bind, Result.andThen, asAddr, loadVar, hag, hsz, hp', hq', hr', hl]

theorem set3_heap {w : World} {b : Nat} {x y z : Value} {t : TypeId} (h : w.heap[b]? = some (.cells #[x, y, z] t (0, 0))) (a c d : Value) :
    (((w.setCell ⟨b, 0, none⟩ a).setCell ⟨b, 1, none⟩ c).setCell ⟨b, 2, none⟩ d).heap[b]? = some (.cells #[a, c, d] t (0, 0)) := by
  have h1 : (w.setCell ⟨b, 0, none⟩ a).heap[b]? = some (.cells #[a, y, z] t (0, 0)) := heap_setCell_self (o := 0) a h
  have h2 : ((w.setCell ⟨b, 0, none⟩ a).setCell ⟨b, 1, none⟩ c).heap[b]? = some (.cells #[a, c, z] t (0, 0)) := heap_setCell_self (o := 1) c h1
  exact heap_setCell_self (o := 2) d h2
theorem set3_only {w : World} {b : Nat} (a c d : Value) : Only (fun q => q = b) w (((w.setCell ⟨b, 0, none⟩ a).setCell ⟨b, 1, none⟩ c).setCell ⟨b, 2, none⟩ d) :=
  (((Only.refl (fun q => q = b) w).setCell (p := ⟨b, 0, none⟩) rfl _).setCell (p := ⟨b, 1, none⟩) rfl _).setCell (p := ⟨b, 2, none⟩) rfl _

set_option maxHeartbeats 400000 in
theorem rnew_any (r : Int) (w : World) : Calls Try.prog 10 #[.int .i64 r] w fun e w' =>
    e = .returned (.agg #[.int .i64 (rm r : Nat), .slice none 0 0, .slice none 0 0]) ∧ Only Nil w w' := by
  obtain ⟨wB, hwB⟩ : ∃ wB, wB = w.alloc (.cells #[.int .i64 0, .slice none 0 0, .slice none 0 0] 28) := ⟨_, rfl⟩
  have oB : Only Nil w wB := by rw [hwB]; exact (Only.refl Nil w).alloc _
  have bB : wB.heap[w.heap.size]? = some (.cells #[.int .i64 0, .slice none 0 0, .slice none 0 0] 28 (0, 0)) := by rw [hwB]; exact heap_new _ _
  have x0 : wB.cell? ⟨w.heap.size, 0, none⟩ = some (.int .i64 0) := by simp [World.cell?, bB]
  have x1 : wB.cell? ⟨w.heap.size, 1, none⟩ = some (.slice none 0 0) := by simp [World.cell?, bB]
  have x2 : wB.cell? ⟨w.heap.size, 2, none⟩ = some (.slice none 0 0) := by simp [World.cell?, bB]
  have f0 : wB.frozen? ⟨w.heap.size, 0, none⟩ = false := by simp [World.frozen?, bB]
  have f1 : wB.frozen? ⟨w.heap.size, 1, none⟩ = false := by simp [World.frozen?, bB]
  have f2 : wB.frozen? ⟨w.heap.size, 2, none⟩ = false := by simp [World.frozen?, bB]
  have lt := lt_of_block bB
  have bB' := Lib.hid bB
  have oB' := Lib.hid oB
  have hrm := rm_eq r
  clear bB oB
  generalize hO : w.heap.size = O at *
  have hO' := Lib.hid hO
  clear hO
  have fin : ∀ x : Value, Only Nil w (((wB.setCell ⟨O, 0, none⟩ x).setCell ⟨O, 1, none⟩ (.slice none 0 0)).setCell ⟨O, 2, none⟩ (.slice none 0 0)) := fun x => oB'.out.then (set3_only _ _ _) (fun q hq hlt => by have := hO'.out; omega)
  have fin' := Lib.hid fin
  clear fin
  by_cases h0 : r < 0
  · have e : rm r = 0 := by omega
    rw [e]
    clear hrm e
    go_enter Try.func10, Try.ntmps10
    go_upto_region 1 with (fail)
    rw [hO'.out, ← hwB]; clear hwB
    go_wp2
    refine bodyPost_ret (results_agg rfl _ _ O [.int .i64 0, .slice none 0 0, .slice none 0 0] Try.isAgg28 Try.sizeOf28 rfl (set3_heap bB'.out _ _ _)) rfl ?_
    exact ⟨rfl, fin'.out _⟩
  · by_cases h1 : 64 < r
    · have e : rm r = 64 := by omega
      rw [e]
      clear hrm e
      go_enter Try.func10, Try.ntmps10
      go_upto_region 1 with (fail)
      rw [hO'.out, ← hwB]; clear hwB
      go_wp2
      refine bodyPost_ret (results_agg rfl _ _ O [.int .i64 64, .slice none 0 0, .slice none 0 0] Try.isAgg28 Try.sizeOf28 rfl (set3_heap bB'.out _ _ _)) rfl ?_
      exact ⟨rfl, fin'.out _⟩
    · have e : ((rm r : Nat) : Int) = r := by omega
      rw [e]
      clear hrm e
      go_enter Try.func10, Try.ntmps10
      go_upto_region 1 with (fail)
      rw [hO'.out, ← hwB]; clear hwB
      go_wp2
      refine bodyPost_ret (results_agg rfl _ _ O [.int .i64 r, .slice none 0 0, .slice none 0 0] Try.isAgg28 Try.sizeOf28 rfl (set3_heap bB'.out _ _ _)) rfl ?_
      exact ⟨rfl, fin'.out _⟩
end Go.Proofs.Ytdhfmocjhcgicaa.St
