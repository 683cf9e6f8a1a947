/- wheel: Len. -/
import Derived.Test.YtpmgmdlfnlmieaaWhD
namespace Go.Proofs.Ytpmgmdlfnlmieaa.Wh
open Go.RowKit Go.Proofs.Ytpmgmdlfnlmieaa

/-- What has been shown ahead of number i of slot n. -/
def pre (F : Nat → List Tm) (n i : Nat) : List Tm := (List.range n).flatMap F ++ (F n).take i
theorem pre_next (F : Nat → List Tm) (n : Nat) : pre F n (F n).length = pre F (n + 1) 0 := by
  simp [pre, List.range_succ]
theorem pre_step (F : Nat → List Tm) (n i : Nat) (hi : i < (F n).length) : pre F n (i + 1) = pre F n i ++ [(F n).getD i default] := by
  unfold pre
  rw [List.take_succ_eq_append_getElem hi, List.append_assoc]
  simp [hi]
/-- All that lie on a wheel. -/
def all (F : Nat → List Tm) : List Tm := (List.range 32).flatMap F
theorem pre_all (F : Nat → List Tm) : pre F 32 0 = all F := by simp [pre, all]
theorem mem_all {F : Nat → List Tm} {t : Tm} : t ∈ all F ↔ ∃ n, n < 32 ∧ t ∈ F n := by simp [all]

theorem pre_mono (F : Nat → List Tm) (n : Nat) : ∀ d, (pre F n 0).length ≤ (pre F (n + d) 0).length := by
  intro d
  induction d with
  | zero => exact Nat.le_refl _
  | succ d ih =>
    refine Nat.le_trans ih ?_
    rw [← Nat.add_assoc, ← pre_next]
    simp [pre]
theorem pre_le (F : Nat → List Tm) (n i : Nat) (hn : n < 32) : (pre F n i).length ≤ (all F).length := by
  have h1 : (pre F n i).length ≤ (pre F n (F n).length).length := by simp [pre]; omega
  have h2 := pre_mono F (n + 1) (31 - n)
  rw [show n + 1 + (31 - n) = 32 by omega, pre_all] at h2
  rw [pre_next] at h1
  omega
theorem slot_le (F : Nat → List Tm) (n : Nat) (hn : n < 32) : (F n).length ≤ (all F).length := by
  have := pre_le F n (F n).length hn
  simp [pre] at this
  omega

theorem cell_of_heap {w : World} {b : Nat} {v : Value} {t : TypeId} (h : w.heap[b]? = some (.cells #[v] t (0, 0))) : w.cell? ⟨b, 0, none⟩ = some v := by simp [World.cell?, h]
/-- The closure of Len counts one more. -/
theorem len1_any {w : World} {b m : Nat} (hm : m ≤ 65536) (h : w.heap[b]? = some (.cells #[.int .i64 (m : Int)] 3 (0, 0))) (xs ys : Array Value) :
    Calls Try.prog 33 #[.agg xs, .agg ys, .pointer (some ⟨b, 0, none⟩)] w fun e w' => e = .returned (.bool true) ∧ w'.heap[b]? = some (.cells #[.int .i64 ((m + 1 : Nat) : Int)] 3 (0, 0)) ∧ Only (fun k => k = b) w w' := by
  have c0 : w.cell? ⟨b, 0, none⟩ = some (.int .i64 (m : Int)) := by simp [World.cell?, h]
  have f0 : w.frozen? ⟨b, 0, none⟩ = false := by simp [World.frozen?, h]
  have lt : b < w.heap.size := lt_of_block h
  have hm' : (m : Int) ≤ 65536 := by omega
  have h' := Lib.hid h
  clear h hm
  go_enter Try.func33, Try.ntmps33
  go_wp2
  go_ret
  refine ⟨rfl, ?_, (((Only.refl (fun k => k = b) w).setCell (p := ⟨b, 0, none⟩) rfl _).alloc _).alloc _⟩
  rw [Below.heap_alloc _ _ _ (by simp [World.setCell]; omega), Below.heap_alloc _ _ _ (by simpa [World.setCell] using lt), heap_setCell_self _ h'.out]
  simp

set_option maxHeartbeats 1000000 in
theorem wlen_any {w : World} {S : Nat → Prop} {hb now added : Nat} {V : Nat → Value} {F : Nat → List Tm} (h : At w S hb now added V F) (hs : (all F).length ≤ 65000) :
    Calls Try.prog 20 #[.pointer (some ⟨hb, 0, none⟩)] w fun e w' => e = .returned (.int .i64 ((all F).length : Int)) ∧ Only Nil w w' := by
  have eg : ∀ args w, (callFunc 33 args).run Try.prog w = .ok (.enter 33 args) w := enters_of Try.func33 (by kernel_rfl) rfl
  have hv := visit_any (S := S) (hb := hb) (now := now) (added := added) (V := V) (F := F) 33 #[.pointer (some ⟨w.heap.size, 0, none⟩)] eg
    (fun n i wx => Only Nil w wx ∧ wx.heap[w.heap.size]? = some (.cells #[.int .i64 ((pre F n i).length : Int)] 3 (0, 0))) (fun _ => False)
    (fun n i wx hi => h.nil hi.1) (fun n hn => by have := slot_le F n hn; omega) (fun n wx _ hi => by rw [pre_next] at hi; exact hi)
    (fun n i wx wy hi o => ⟨hi.1.trans o, (o.block _ (lt_of_block hi.2) (fun h => h.elim)).trans hi.2⟩)
    (fun k j i wx hk hj hi hI => by
      have hp := pre_le F (8 * k + j) i (by omega)
      refine (len1_any (by omega) hI.2 _ _).mono ?_
      rintro e w' ⟨rfl, hb', o⟩
      refine .inl ⟨rfl, hI.1.then o (fun q hq hlt => by omega), ?_⟩
      rw [pre_step _ _ _ hi]
      simpa using hb')
  have hv' := Lib.hid hv
  have hnew := Lib.hid (And.intro (heap_new w (.cells #[.int .i64 0] 3)) ((Only.refl Nil w).alloc (.cells #[.int .i64 0] 3)))
  clear hv h hs
  go_enter Try.func20, Try.ntmps20
  go_wp2_with (go_at_call 32; (with_reducible refine (hv'.out _ ⟨hnew.out.2, by simpa [pre] using hnew.out.1⟩).mono ?_); rintro e w' ⟨rfl, hw'⟩; obtain ⟨o, hw'⟩ := hw'.resolve_right (fun h => h); rw [pre_all] at hw'; have c0 := cell_of_heap hw'; clear hw'; have o' := Lib.hid o; clear o)
  go_ret
  exact ⟨rfl, o'.out⟩
end Go.Proofs.Ytpmgmdlfnlmieaa.Wh
