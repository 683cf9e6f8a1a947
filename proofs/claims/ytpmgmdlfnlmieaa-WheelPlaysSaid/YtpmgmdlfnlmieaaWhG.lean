/- wheel: find. -/
import Derived.Test.YtpmgmdlfnlmieaaWhF
namespace Go.Proofs.Ytpmgmdlfnlmieaa.Wh
open Go.RowKit Go.Proofs.Ytpmgmdlfnlmieaa

/-- Three results, of which two are aggregates and one isn't, each in a block of its own. -/
theorem results_aac {P : Program} {fn : Func} {p q r : Tmp} {tp tq tr te tf tg : TypeId} (h : fn.results = #[.cell p tp, .cell q tq, .cell r tr]) (tmps : Array Value) (w : World) (b1 b2 b3 : Nat) (cs ds : List Value) (v : Value)
    (hag1 : ∀ w, (isAgg tp).run P w = .ok true w) (hsz1 : ∀ w, (Go.sizeOf tp).run P w = .ok cs.length w) (hp1 : tmps.getD p undef = .pointer (some ⟨b1, 0, none⟩)) (hc1 : w.heap[b1]? = some (.cells cs.toArray te (0, 0)))
    (hag2 : ∀ w, (isAgg tq).run P w = .ok true w) (hsz2 : ∀ w, (Go.sizeOf tq).run P w = .ok ds.length w) (hp2 : tmps.getD q undef = .pointer (some ⟨b2, 0, none⟩)) (hc2 : w.heap[b2]? = some (.cells ds.toArray tf (0, 0)))
    (hag3 : ∀ w, (isAgg tr).run P w = .ok false w) (hp3 : tmps.getD r undef = .pointer (some ⟨b3, 0, none⟩)) (hc3 : w.heap[b3]? = some (.cells #[v] tg (0, 0))) :
    (results fn tmps).run P w = .ok (.tuple #[.agg cs.toArray, .agg ds.toArray, v]) w := by
  have hp1' : tmps[p]?.getD undef = .pointer (some ⟨b1, 0, none⟩) := by simpa using hp1
  have hp2' : tmps[q]?.getD undef = .pointer (some ⟨b2, 0, none⟩) := by simpa using hp2
  have hp3' : tmps[r]?.getD undef = .pointer (some ⟨b3, 0, none⟩) := by simpa using hp3
  have hl1 := run_loadCells_list (P := P) w ⟨b1, 0, none⟩ cs (fun j v hj => by
    have e : (⟨b1, 0, none⟩ : Addr).add j = ⟨b1, j, none⟩ := by unfold Addr.add; split <;> simp_all
    rw [e, cell_of_row w b1 j _ _ _ hc1]; simpa using hj)
  have hl2 := run_loadCells_list (P := P) w ⟨b2, 0, none⟩ ds (fun j v hj => by
    have e : (⟨b2, 0, none⟩ : Addr).add j = ⟨b2, j, none⟩ := by unfold Addr.add; split <;> simp_all
    rw [e, cell_of_row w b2 j _ _ _ hc2]; simpa using hj)
  have hc3' := cell_of_heap hc3
  simp only [results, h]
  simp [Sem.run_bind, Result.andThen, asAddr, loadVar, hag1, hag2, hag3, hsz1, hsz2, hp1', hp2', hp3', hl1, hl2, hc3']

/-- What find answers. -/
def FRes (k j i : Nat) (t : Tm) (ok : Bool) : Value := .tuple #[.agg #[.int .i64 (k : Int), .int .i64 (j : Int), .int .i64 (i : Int)], .agg #[.int .u64 (t.id : Int), .int .i64 (t.due : Int), .int .i64 (t.num : Int)], .bool ok]

/-- find: somebody of that id, or nobody. -/
def Found (F : Nat → List Tm) (id : Nat) (e : Ending) : Prop :=
  ((∀ t ∈ all F, t.id ≠ id) ∧ e = .returned (FRes 0 0 0 ⟨0, 0, 0⟩ false)) ∨
  ∃ k j i, k < 4 ∧ j < 8 ∧ i < (F (8 * k + j)).length ∧ ((F (8 * k + j)).getD i default).id = id ∧ e = .returned (FRes k j i ((F (8 * k + j)).getD i default) true)

/-- find's variables as it begins. -/
theorem fv_new (w : World) (id : Nat) : FV ((((w.alloc (.cells #[.int .u64 (id : Int)] 30)).alloc (.cells #[.int .i64 0, .int .i64 0, .int .i64 0] 65)).alloc (.cells #[.int .u64 0, .int .i64 0, .int .i64 0] 67)).alloc (.cells #[.bool false] 4)) w.heap.size id 0 0 0 0 0 0 false := by
  have n0 := heap_new w (.cells #[.int .u64 (id : Int)] 30)
  have s0 : (w.alloc (.cells #[.int .u64 (id : Int)] 30)).heap.size = w.heap.size + 1 := by simp
  generalize w.alloc (.cells #[.int .u64 (id : Int)] 30) = wa at *
  have n1 := heap_new wa (.cells #[.int .i64 0, .int .i64 0, .int .i64 0] 65)
  have s1 : (wa.alloc (.cells #[.int .i64 0, .int .i64 0, .int .i64 0] 65)).heap.size = w.heap.size + 2 := by simp [s0]
  have n01 := (Below.heap_alloc wa (.cells #[.int .i64 0, .int .i64 0, .int .i64 0] 65) w.heap.size (by omega)).trans n0
  generalize wa.alloc (.cells #[.int .i64 0, .int .i64 0, .int .i64 0] 65) = wb at *
  have n2 := heap_new wb (.cells #[.int .u64 0, .int .i64 0, .int .i64 0] 67)
  have s2 : (wb.alloc (.cells #[.int .u64 0, .int .i64 0, .int .i64 0] 67)).heap.size = w.heap.size + 3 := by simp [s1]
  have n02 := (Below.heap_alloc wb (.cells #[.int .u64 0, .int .i64 0, .int .i64 0] 67) w.heap.size (by omega)).trans n01
  have n12 := (Below.heap_alloc wb (.cells #[.int .u64 0, .int .i64 0, .int .i64 0] 67) wa.heap.size (by omega)).trans n1
  generalize wb.alloc (.cells #[.int .u64 0, .int .i64 0, .int .i64 0] 67) = wc at *
  have n3 := heap_new wc (.cells #[.bool false] 4)
  rw [s0] at n12
  rw [s1] at n2
  rw [s2] at n3
  exact ⟨(Below.heap_alloc wc _ w.heap.size (by omega)).trans n02, (Below.heap_alloc wc _ (w.heap.size + 1) (by omega)).trans n12, (Below.heap_alloc wc _ (w.heap.size + 2) (by omega)).trans n2, n3⟩

/-- find's end: its results are read. -/
theorem find_end {w : World} {b id x0 x1 x2 y0 y1 y2 : Nat} {ok : Bool} (h : FV w b id x0 x1 x2 y0 y1 y2 ok) :
    FV ((((((((w.setCell ⟨b + 1, 0, none⟩ (.int .i64 (x0 : Int))).setCell ⟨b + 1, 1, none⟩ (.int .i64 (x1 : Int))).setCell ⟨b + 1, 2, none⟩ (.int .i64 (x2 : Int))).setCell ⟨b + 1 + 1, 0, none⟩ (.int .u64 (y0 : Int))).setCell ⟨b + 1 + 1, 1, none⟩ (.int .i64 (y1 : Int))).setCell ⟨b + 1 + 1, 2, none⟩ (.int .i64 (y2 : Int))).setCell ⟨b + 1 + 1 + 1, 0, none⟩ (.bool ok)).drew) b id x0 x1 x2 y0 y1 y2 ok :=
  (((((((h.s10 x0).s11 x1).s12 x2).s20 y0).s21 y1).s22 y2).s30 ok).keep ((Only.refl Nil _).drew)

/-- Behind visit: the results are laid once more, and answered. -/
structure Left (w : World) (F : Nat → List Tm) (id : Nat) (wx : World) (k j i : Nat) (t : Tm) (ok : Bool) : Prop where
  fv : FV wx w.heap.size id k j i t.id t.due t.num ok
  only : Only Nil w wx
  found : Found F id (.returned (FRes k j i t ok))

set_option maxHeartbeats 4000000 in
theorem find_any {w : World} {S : Nat → Prop} {hb now added : Nat} {V : Nat → Value} {F : Nat → List Tm} (h : At w S hb now added V F) (hs : (all F).length ≤ 65000) (id : Nat) :
    Calls Try.prog 26 #[.pointer (some ⟨hb, 0, none⟩), .int .u64 (id : Int)] w fun e w' => Found F id e ∧ Only Nil w w' := by
  have eg : ∀ args w, (callFunc 39 args).run Try.prog w = .ok (.enter 39 args) w := enters_of Try.func39 (by kernel_rfl) rfl
  have hv := visit_any (S := S) (hb := hb) (now := now) (added := added) (V := V) (F := F) 39 #[.pointer (some ⟨w.heap.size, 0, none⟩), .pointer (some ⟨w.heap.size + 1, 0, none⟩), .pointer (some ⟨w.heap.size + 2, 0, none⟩), .pointer (some ⟨w.heap.size + 3, 0, none⟩)] eg
    (fun n i wx => Only Nil w wx ∧ FV wx w.heap.size id 0 0 0 0 0 0 false ∧ ∀ t ∈ pre F n i, t.id ≠ id) (fun wx => ∃ k j i t, Left w F id wx k j i t true)
    (fun n i wx hi => h.nil hi.1) (fun n hn => by have := slot_le F n hn; omega) (fun n wx _ hi => by rw [pre_next] at hi; exact hi)
    (fun n i wx wy hi o => ⟨hi.1.trans o, hi.2.1.keep o, hi.2.2⟩)
    (fun k j i wx hk hj hi hI => by
      by_cases hid : ((F (8 * k + j)).getD i default).id = id
      · have hid' := hid
        generalize ht : (F (8 * k + j)).getD i default = t at *
        subst hid'
        refine (find1_yes hI.2.1 k j i t.due t.num).mono ?_
        rintro e w' ⟨rfl, hf, o⟩
        exact .inr ⟨rfl, k, j, i, t, hf, hI.1.then o (fun q hq hlt => by omega), .inr ⟨k, j, i, hk, hj, hi, by rw [ht], by rw [ht]⟩⟩
      · refine (find1_no hI.2.1 k j i _ _ _ hid).mono ?_
        rintro e w' ⟨rfl, o⟩
        refine .inl ⟨rfl, hI.1.trans o, hI.2.1.keep o, ?_⟩
        rw [pre_step _ _ _ hi]
        intro t ht
        rcases List.mem_append.1 ht with ht | ht
        · exact hI.2.2 t ht
        · simp at ht; subst ht; simpa using hid)
  have hv2 : ∀ wx, Only Nil w wx ∧ FV wx w.heap.size id 0 0 0 0 0 0 false → Calls Try.prog 32 #[.pointer (some ⟨hb, 0, none⟩), .func (.func 39) #[] #[.pointer (some ⟨w.heap.size, 0, none⟩), .pointer (some ⟨w.heap.size + 1, 0, none⟩), .pointer (some ⟨w.heap.size + 1 + 1, 0, none⟩), .pointer (some ⟨w.heap.size + 1 + 1 + 1, 0, none⟩)]] wx
      fun e w' => e = .returned (.tuple #[]) ∧ ∃ k j i t ok, Left w F id w' k j i t ok := fun wx hx => (hv wx ⟨hx.1, hx.2, by simp [pre]⟩).mono (by
    rintro e w' ⟨rfl, ⟨o, hf, hn⟩ | ⟨k, j, i, t, hl⟩⟩
    · exact ⟨rfl, 0, 0, 0, ⟨0, 0, 0⟩, false, hf, o, .inl ⟨by rw [← pre_all]; exact hn, rfl⟩⟩
    · exact ⟨rfl, k, j, i, t, true, hl⟩)
  have hv' := Lib.hid hv2
  have hnew := Lib.hid (And.intro ((((((Only.refl Nil w).alloc (.cells #[.int .u64 (id : Int)] 30)).alloc (.cells #[.int .i64 0, .int .i64 0, .int .i64 0] 65)).alloc (.cells #[.int .u64 0, .int .i64 0, .int .i64 0] 67)).alloc (.cells #[.bool false] 4))) (fv_new w id))
  clear hv hv2 h hs
  go_enter Try.func26, Try.ntmps26
  go_wp2_with (go_at_call 32; (with_reducible refine (hv'.out _ hnew.out).mono ?_); rintro e w' ⟨rfl, k, j, i, t, ok, hl⟩)
  have l1 : w.heap.size + 1 < w'.heap.size := lt_of_block hl.fv.b1
  have l2 : w.heap.size + 1 + 1 < w'.heap.size := lt_of_block hl.fv.b2
  have l3 : w.heap.size + 1 + 1 + 1 < w'.heap.size := lt_of_block hl.fv.b3
  have f1 : ∀ o, w'.frozen? ⟨w.heap.size + 1, o, none⟩ = false := fun o => by simp [World.frozen?, hl.fv.b1]
  have f2 : ∀ o, w'.frozen? ⟨w.heap.size + 1 + 1, o, none⟩ = false := fun o => by have := hl.fv.b2; simp only [World.frozen?]; rw [this]; simp
  have f30 : w'.frozen? ⟨w.heap.size + 1 + 1 + 1, 0, none⟩ = false := by have := hl.fv.b3; simp only [World.frozen?]; rw [this]; simp
  have f10 := f1 0
  have f11 := f1 1
  have f12 := f1 2
  have f20 := f2 0
  have f21 := f2 1
  have f22 := f2 2
  have p0 : w'.cell? ⟨w.heap.size + 1, 0, none⟩ = some (.int .i64 (k : Int)) := by simp [World.cell?, hl.fv.b1]
  have p1 : w'.cell? ⟨w.heap.size + 1, 1, none⟩ = some (.int .i64 (j : Int)) := by simp [World.cell?, hl.fv.b1]
  have p2 : w'.cell? ⟨w.heap.size + 1, 2, none⟩ = some (.int .i64 (i : Int)) := by simp [World.cell?, hl.fv.b1]
  have q0 : w'.cell? ⟨w.heap.size + 1 + 1, 0, none⟩ = some (.int .u64 (t.id : Int)) := by have := hl.fv.b2; simp only [World.cell?]; rw [this]; simp
  have q1 : w'.cell? ⟨w.heap.size + 1 + 1, 1, none⟩ = some (.int .i64 (t.due : Int)) := by have := hl.fv.b2; simp only [World.cell?]; rw [this]; simp
  have q2 : w'.cell? ⟨w.heap.size + 1 + 1, 2, none⟩ = some (.int .i64 (t.num : Int)) := by have := hl.fv.b2; simp only [World.cell?]; rw [this]; simp
  have c3 : w'.cell? ⟨w.heap.size + 1 + 1 + 1, 0, none⟩ = some (.bool ok) := cell_of_heap hl.fv.b3
  have hl' := Lib.hid hl
  have o1 : Only (fun q => q = w.heap.size + 1 ∨ q = w.heap.size + 1 + 1 ∨ q = w.heap.size + 1 + 1 + 1) w w' := hl.only.nilTo _
  have hq := Lib.hid (((FV.only (FV.only (FV.only (FV.only (FV.only (FV.only (FV.only o1 (w.heap.size + 1) 0 (by simp) (.int .i64 (k : Int))) (w.heap.size + 1) 1 (by simp) (.int .i64 (j : Int))) (w.heap.size + 1) 2 (by simp) (.int .i64 (i : Int))) (w.heap.size + 1 + 1) 0 (by simp) (.int .u64 (t.id : Int))) (w.heap.size + 1 + 1) 1 (by simp) (.int .i64 (t.due : Int))) (w.heap.size + 1 + 1) 2 (by simp) (.int .i64 (t.num : Int))) (w.heap.size + 1 + 1 + 1) 0 (by simp) (.bool ok)).drew).fresh (fun q hq => by omega))
  have fe := Lib.hid (find_end hl.fv)
  have hfound := Lib.hid hl.found
  clear hl hl' o1 f1 f2 hv' hnew eg
  generalize hB : w.heap.size = B at *
  go_region_with fail
  all_goals
    go_wp2
    refine bodyPost_ret (results_aac rfl _ _ (B + 1) (B + 1 + 1) (B + 1 + 1 + 1) [.int .i64 (k : Int), .int .i64 (j : Int), .int .i64 (i : Int)] [.int .u64 (t.id : Int), .int .i64 (t.due : Int), .int .i64 (t.num : Int)] (.bool ok)
      Try.isAgg65 Try.sizeOf65 rfl fe.out.b1 Try.isAgg67 Try.sizeOf67 rfl fe.out.b2 Try.isAgg4 rfl fe.out.b3) rfl ?_
    exact ⟨hfound.out, hq.out⟩
end Go.Proofs.Ytpmgmdlfnlmieaa.Wh
