/- check: each. -/
import Derived.Test.YthanclicnkjmiaaGreatDoorChD
set_option linter.unusedVariables false
namespace Go.Proofs.YthanclicnkjmiaaGreatDoor.Ch
open Go.RowKit Go.Proofs.YthanclicnkjmiaaGreatDoor Lx Ps

theorem eachR_go {f : Nat → Fau} {i r : Nat} (h : f i = none) : eachR f i (r + 1) = eachR f (i + 1) r := by simp only [eachR, h]
theorem eachR_stop {f : Nat → Fau} {i r : Nat} {x : Nat × List Nat} (h : f i = some x) : eachR f i (r + 1) = some (x.1, (i + 1) :: x.2) := by simp only [eachR, h]
set_option maxHeartbeats 2000000 in
set_option maxRecDepth 100000 in
theorem each1_any {w0 w : World} {n : Nat} {fv : Value} {f : Nat → Fau} (h : FindOK w0 fv n f) (o : Only Nil w0 w) (q1 q2 : Nat) (c1 : w.cell? ⟨q1, 0, none⟩ = some (.int .i64 (n : Int))) (c2 : w.cell? ⟨q2, 0, none⟩ = some fv) (hn : n ≤ 140737488355328)
    (hsm : ∀ i x, i < n → f i = some x → x.2.length ≤ 100) :
    Calls Tryz.prog 97 #[.pointer (some ⟨q1, 0, none⟩), .pointer (some ⟨q2, 0, none⟩)] w fun e w' => BadR w.heap.size w' e (eachO n f) ∧ Only Nil w w' := by
  obtain ⟨g, cs, cb, rfl, eg, hc⟩ := h
  have HC := Lib.hid (fun i w' hi (o' : Only Nil w w') => hc i w' hi (o.trans o'))
  have C2 := Lib.hid c2
  have HS := Lib.hid hsm
  have hn' : (n : Int) ≤ 140737488355328 := by omega
  clear hc o hn hsm c2
  go_enter Tryz.func97, Tryz.ntmps97
  go_wp2
  go_loopw [6] (fun s6 wr => ∃ (i : Nat), i ≤ n ∧ s6 = .int .i64 (i : Int) ∧ Hid (eachO n f = eachR f i (n - i)) ∧ Hid (Only Nil w wr))
    (fun s6 _ => n - (intOf s6).toNat)
  case atStart => exact ⟨0, Nat.zero_le _, rfl, Lib.hid rfl, Lib.hid (Only.refl _ _)⟩
  case round =>
    obtain ⟨i, hi, rfl, hE, hO⟩ := hrel
    by_cases hin : i < n
    · have d2 := only_cell0 hO.out C2.out
      have HF := Lib.hid (HC.out i wr hin hO.out)
      have HM := Lib.hid (HS.out i · hin)
      have hin' : (i : Int) < (n : Int) := by omega
      have e1 : n - i = (n - (i + 1)) + 1 := by omega
      have HE := Lib.hid (hE.out.trans (by rw [e1]))
      clear e1
      cases hf : f i with
      | none =>
        have HN := Lib.hid (HE.out.trans (eachR_go hf))
        rw [hf] at HF
        clear hf
        go_wp2_with (go_at_fn g; refine HF.out.mono ?_; rintro e w1 ⟨hb, o1⟩; obtain rfl : e = .returned (.pointer none) := hb; have O1 := Lib.hid (hO.out.trans o1))
        go_roundw
        case rel => exact ⟨i + 1, by omega, by go_num, HN, O1⟩
        case measure => simp [intOf]; omega
      | some x =>
        have HN := Lib.hid (HE.out.trans (eachR_stop hf))
        have HL := Lib.hid (HM.out x hf)
        rw [hf] at HF
        clear hf
        have HW := Lib.hid hO.out.size
        go_upto_region 6 with (go_at_fn g; refine HF.out.mono ?_; rintro e w1 ⟨⟨b, rfl, hB⟩, o1⟩; have O1 := Lib.hid o1; have HB := Lib.hid hB; obtain ⟨hnb, v, hrow, hown, hnil⟩ := hB)
        obtain ⟨va, vc, hv⟩ := own_slice_n hown
        subst hv
        have hb1 : w1.cell? ⟨b, 1, none⟩ = some (.slice va x.2.length vc) := cell_of_row w1 b 1 _ _ _ hrow
        have hne := Lib.hid (show ∀ q, (Value.slice va x.2.length vc).ownBlock = some q → b ≠ q ∧ wr.heap.size ≤ q from fun q hq => by
          rcases hown.2 with ⟨e1, _⟩ | ⟨g', c', cur, e1, hge, hg', _⟩
          · rw [e1] at hq; simp [Value.ownBlock] at hq
          · rw [e1] at hq
            simp only [Value.ownBlock, Option.some.injEq] at hq
            subst hq
            exact ⟨blk_ne hrow hg' (by decide), hge⟩)
        have o2 : Only Nil w1 (w1.alloc (.cells #[.int .i64 ((i : Int) + 1)] 3)) := (Only.refl Nil w1).alloc _
        have hq : (w1.alloc (.cells #[.int .i64 ((i : Int) + 1)] 3)).heap[w1.heap.size]? = some (.cells #[.int .i64 ((i : Int) + 1)] 3 (0, 0)) := heap_new w1 _
        have hlt1 : b < w1.heap.size := lt_of_block hrow
        have HI := Lib.hid (insert_front (own_keep hown o2 (fun _ _ q => q.elim)) hnil HL.out w1.heap.size (i + 1) (by rw [hq]; rfl) (Nat.le_trans O1.out.size o2.size) (fun q hq' => by
          have := (hne.out q hq').2
          intro e
          rcases hown.2 with ⟨e1, _⟩ | ⟨g', c', cur, e1, _, hg', _⟩
          · rw [e1] at hq'; simp [Value.ownBlock] at hq'
          · rw [e1] at hq'
            simp only [Value.ownBlock, Option.some.injEq] at hq'
            have := lt_of_block hg'
            omega))
        have HRow := Lib.hid ((o2.block b hlt1 (fun q => q.elim)).trans hrow)
        have O2 := Lib.hid o2
        have hbw : b < (w1.alloc (.cells #[.int .i64 ((i : Int) + 1)] 3)).heap.size := Nat.lt_of_lt_of_le hlt1 o2.size
        clear hown hnil hrow o2 hq d2
        go_upto_region 7 with (go_at_call 98; refine HI.out.mono ?_; rintro e w3 ⟨a3, k3, rfl, own3, o3⟩; have R3 := (o3.block b hbw (fun hk => (hne.out b hk).1 rfl)).trans HRow.out; have b3 := cell_of_row w3 b 1 _ _ _ R3; have f3 : w3.frozen? ⟨b, 1, none⟩ = false := (by simp [World.frozen?, R3]); have OWN3 := Lib.hid own3; have O3 := Lib.hid o3; have RR := Lib.hid R3; clear own3 o3 R3)
        go_wp2
        go_ret
        have og : Only Nil wr w3 := (O1.out.trans O2.out).then O3.out (fun q hq hlt => by have := (hne.out q hq).2; omega)
        have hge := HB.out.new
        have ok : (w3.setCell ⟨b, 1, none⟩ (.slice a3 (x.2.length + 1) k3)).ownsRow wr.heap.size 3 1 (.slice a3 (x.2.length + 1) k3) (x.2.length + 1) (intsC ((i + 1) :: x.2)) := by
          refine own_keep OWN3.out ((Only.refl (fun k => k = b) w3).setCell (p := ⟨b, 1, none⟩) rfl _) (fun k hk e => ?_)
          rcases OWN3.out.2 with ⟨_, e1⟩ | ⟨g', c', cur, e1, _, hg', _⟩
          · omega
          · rw [e1] at hk
            simp only [Value.ownBlock, Option.some.injEq] at hk
            subst hk
            exact blk_ne RR.out hg' (by decide) e.symm
        refine ⟨by rw [HN.out]; exact ⟨b, rfl, Nat.le_trans HW.out hge, _, heap_setCell_self _ RR.out, own_lower ok HW.out, fun h => by cases h⟩, ?_⟩
        · exact hO.out.trans (og.then ((Only.refl (fun k => k = b) w3).setCell (p := ⟨b, 1, none⟩) rfl _) (fun q hq hlt => by omega))
    · obtain rfl : i = n := by omega
      have hk0 : ¬ (i : Int) < (i : Int) := by omega
      have HX := Lib.hid (show eachO i f = none from by rw [hE.out, Nat.sub_self]; rfl)
      clear hin
      go_wp2
      go_ret
      exact ⟨by rw [HX.out]; rfl, hO.out⟩
theorem each_any {w : World} {n : Nat} {fv : Value} {f : Nat → Fau} (h : FindOK w fv n f) (hn : n ≤ 140737488355328) (hsm : ∀ i x, i < n → f i = some x → x.2.length ≤ 100) :
    Calls Tryz.prog 62 #[.int .i64 (n : Int), fv] w fun e w' => ∃ g cs cb, e = .returned (.func (.func g) cs cb) ∧ LookOK w' (.func (.func g) cs cb) (eachO n f) ∧ Only Nil w w' := by
  have HT := Lib.hid h
  have HS := Lib.hid hsm
  have HN := Lib.hid hn
  obtain ⟨g, cs, cb, rfl, eg, hc⟩ := h
  clear hc hsm hn
  go_enter Tryz.func62, Tryz.ntmps62
  go_wp2
  go_ret
  have o : Only Nil w ((w.alloc (.cells #[.int .i64 (n : Int)] 3)).alloc (.cells #[.func (.func g) cs cb] 129)) := ((Only.refl Nil w).alloc _).alloc _
  have h1 := heap_new w (.cells #[.int .i64 (n : Int)] 3)
  have h2 := heap_new (w.alloc (.cells #[.int .i64 (n : Int)] 3)) (.cells #[.func (.func g) cs cb] 129)
  have k1 : (w.alloc (.cells #[.int .i64 (n : Int)] 3)).cell? ⟨w.heap.size, 0, none⟩ = some (.int .i64 (n : Int)) := by simp only [World.cell?, h1]; rfl
  have k2 : ((w.alloc (.cells #[.int .i64 (n : Int)] 3)).alloc (.cells #[.func (.func g) cs cb] 129)).cell? ⟨w.heap.size + 1, 0, none⟩ = some (.func (.func g) cs cb) := by
    have e : (w.alloc (.cells #[.int .i64 (n : Int)] 3)).heap.size = w.heap.size + 1 := by simp
    rw [e] at h2
    simp only [World.cell?, h2]; rfl
  have k1' := only_cell0 ((Only.refl Nil (w.alloc (.cells #[.int .i64 (n : Int)] 3))).alloc (.cells #[.func (.func g) cs cb] 129)) k1
  exact ⟨_, _, _, rfl, ⟨97, _, _, rfl, enters_of Tryz.func97 (by kernel_rfl) rfl, fun w' o' => each1_any (HT.out.keep (o.trans o')) (Only.refl _ _) _ _ (only_cell0 o' k1') (only_cell0 o' k2) HN.out HS.out⟩, o⟩
end Go.Proofs.YthanclicnkjmiaaGreatDoor.Ch
