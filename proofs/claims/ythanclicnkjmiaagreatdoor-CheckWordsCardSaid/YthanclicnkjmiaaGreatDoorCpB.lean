/- check: the parts of a program by index; the document's state. -/
import Derived.Test.YthanclicnkjmiaaGreatDoorCpA
set_option linter.unusedVariables false
set_option linter.unusedSimpArgs false
namespace Go.Proofs.YthanclicnkjmiaaGreatDoor.Ch
open Go.RowKit Go.Proofs.YthanclicnkjmiaaGreatDoor Lx Ps

theorem kd_at {D : Nat} {w : World} {a : Option Addr} {n c : Nat} {L : List Kd} (h : XK D w (.slice a n c) L) (hn : L.length = n) (j : Nat) (hj : j < n) :
    ∃ b off a1 c1 a2 c2, a = some ⟨b, off, none⟩ ∧ (w.cell? ⟨b, off + j * 5, none⟩ = some (.string (bs (gt L j).name)) ∧ w.cell? ⟨b, off + j * 5 + 1, none⟩ = some (.int .i64 (gt L j).limit) ∧ w.cell? ⟨b, off + j * 5 + 2, none⟩ = some (.int .i64 (gt L j).within) ∧
      w.cell? ⟨b, off + j * 5 + 3, none⟩ = some (.slice a1 (gt L j).cases.length c1) ∧ w.cell? ⟨b, off + j * 5 + 4, none⟩ = some (.slice a2 (gt L j).states.length c2)) ∧
      XC D w (.slice a1 (gt L j).cases.length c1) (gt L j).cases ∧ XS D w (.slice a2 (gt L j).states.length c2) (gt L j).states := by
  obtain ⟨s1, s2, ⟨b, off, ha, hlt, hc⟩, g1, g2⟩ := h.at_ hn j hj
  rw [gt_eq (by omega : j < L.length)]
  obtain ⟨a1, c1, rfl⟩ := g1.slice
  obtain ⟨a2, c2, rfl⟩ := g2.slice
  exact ⟨b, off, a1, c1, a2, c2, ha, ⟨hc 0 (by decide), hc 1 (by decide), hc 2 (by decide), hc 3 (by decide), hc 4 (by decide)⟩, g1, g2⟩
theorem sta_at {D : Nat} {w : World} {a : Option Addr} {n c : Nat} {L : List Sta} (h : XS D w (.slice a n c) L) (hn : L.length = n) (j : Nat) (hj : j < n) :
    ∃ b off a1 c1, a = some ⟨b, off, none⟩ ∧ (w.cell? ⟨b, off + j * 2, none⟩ = some (.string (bs (gt L j).name)) ∧ w.cell? ⟨b, off + j * 2 + 1, none⟩ = some (.slice a1 (gt L j).rows.length c1)) ∧ XR D w (.slice a1 (gt L j).rows.length c1) (gt L j).rows := by
  obtain ⟨s1, ⟨b, off, ha, hlt, hc⟩, g1⟩ := h.at_ hn j hj
  rw [gt_eq (by omega : j < L.length)]
  obtain ⟨a1, c1, rfl⟩ := g1.slice
  exact ⟨b, off, a1, c1, ha, ⟨hc 0 (by decide), hc 1 (by decide)⟩, g1⟩
theorem row_at {D : Nat} {w : World} {a : Option Addr} {n c : Nat} {L : List Rw} (h : XR D w (.slice a n c) L) (hn : L.length = n) (j : Nat) (hj : j < n) :
    ∃ b off a1 c1, a = some ⟨b, off, none⟩ ∧ (w.cell? ⟨b, off + j * 4, none⟩ = some (.string (bs (gt L j).tag)) ∧ w.cell? ⟨b, off + j * 4 + 1, none⟩ = some (.bool (gt L j).only) ∧ w.cell? ⟨b, off + j * 4 + 2, none⟩ = some (.int .i64 (gt L j).n) ∧
      w.cell? ⟨b, off + j * 4 + 3, none⟩ = some (.slice a1 (gt L j).effs.length c1)) ∧ XE D w (.slice a1 (gt L j).effs.length c1) (gt L j).effs := by
  obtain ⟨s1, ⟨b, off, ha, hlt, hc⟩, g1⟩ := h.at_ hn j hj
  rw [gt_eq (by omega : j < L.length)]
  obtain ⟨a1, c1, rfl⟩ := g1.slice
  exact ⟨b, off, a1, c1, ha, ⟨hc 0 (by decide), hc 1 (by decide), hc 2 (by decide), hc 3 (by decide)⟩, g1⟩
theorem cs_at {D : Nat} {w : World} {a : Option Addr} {n c : Nat} {L : List Cs} (h : XC D w (.slice a n c) L) (hn : L.length = n) (j : Nat) (hj : j < n) :
    ∃ b off, a = some ⟨b, off, none⟩ ∧ w.cell? ⟨b, off + j * 2, none⟩ = some (.string (bs (gt L j).reason)) ∧ w.cell? ⟨b, off + j * 2 + 1, none⟩ = some (.int .i64 (gt L j).act) := by
  obtain ⟨b, off, ha, hlt, hc⟩ := h.at_ hn j hj
  rw [gt_eq (by omega : j < L.length)]
  exact ⟨b, off, ha, hc 0 (by decide), hc 1 (by decide)⟩
theorem gt_mem {α : Type} [Inhabited α] {L : List α} {i : Nat} (h : i < L.length) : gt L i ∈ L := by rw [gt_eq h]; exact List.getElem_mem h

/-- None of the first n has the i-th one's key. -/
def Far {α β : Type} [Inhabited α] (f : α → β) (L : List α) (i n : Nat) : Prop := ∀ j, j < n → ¬ f (gt L j) = f (gt L i)
theorem Far.zero {α β : Type} [Inhabited α] (f : α → β) (L : List α) (i : Nat) : Far f L i 0 := fun j hj => absurd hj (Nat.not_lt_zero _)
theorem Far.succ {α β : Type} [Inhabited α] {f : α → β} {L : List α} {i n : Nat} (h : Far f L i n) (hn : ¬ f (gt L n) = f (gt L i)) : Far f L i (n + 1) := fun j hj => by
  rcases Nat.lt_or_ge j n with h1 | h1
  · exact h j h1
  · obtain rfl : j = n := by omega
    exact hn
theorem far_new {α β : Type} [Inhabited α] [DecidableEq β] {f : α → β} {L : List α} {i : Nat} (hi : i < L.length) (h : Far f L i i) : isNew (L.map f) i = true := by
  unfold isNew
  rw [List.getElem?_eq_getElem (by simpa using hi)]
  simp only [Bool.not_eq_true', decide_eq_false_iff_not]
  intro hm
  obtain ⟨j, hj, e⟩ := List.getElem_of_mem hm
  have hj' : j < i ∧ j < L.length := by simp at hj; omega
  refine h j hj'.1 ?_
  rw [gt_eq hj'.2, gt_eq hi]
  simpa using e
theorem near_old {α β : Type} [Inhabited α] [DecidableEq β] {f : α → β} {L : List α} {i j : Nat} (hi : i < L.length) (hj : j < i) (h : f (gt L j) = f (gt L i)) : isNew (L.map f) i = false := by
  unfold isNew
  rw [List.getElem?_eq_getElem (by simpa using hi)]
  simp only [Bool.not_eq_false', decide_eq_true_eq]
  rw [gt_eq (by omega : j < L.length), gt_eq hi] at h
  rw [List.mem_iff_getElem]
  exact ⟨j, by simp; omega, by simpa using h⟩

def hSta (S : List Sta) (i : Nat) : Fau := firstO [un 43 (isNm (gt S i).name), un 41 (isNew (S.map Sta.name) i), un 40 (decide ((gt S i).rows.length ≤ 16))]
theorem hsta_split (PN : List Wd) (S : List Sta) (i : Nat) : ofSta PN S i = match hSta S i with | some x => some x | none => eachO (gt S i).rows.length (ofRow PN (S.map Sta.name) (gt S i).rows) := by
  unfold ofSta hSta
  generalize un 43 (isNm (gt S i).name) = a
  generalize un 41 (isNew (S.map Sta.name) i) = b
  generalize un 40 (decide ((gt S i).rows.length ≤ 16)) = c
  generalize eachO (gt S i).rows.length (ofRow PN (S.map Sta.name) (gt S i).rows) = d
  cases a <;> cases b <;> cases c <;> cases d <;> rfl

set_option maxHeartbeats 2000000 in
set_option maxRecDepth 100000 in
theorem rsta_any {D : Nat} {w : World} {x : Kd} {a1 a2 : Option Addr} {nC c1 nS c2 : Nat} (hX : VX D w x a1 nC c1 a2 nS c2) (i : Nat) (hi : i < nS) :
    Calls Tryz.prog 37 #[.agg #[.string (bs x.name), .int .i64 x.limit, .int .i64 x.within, .slice a1 nC c1, .slice a2 nS c2], .int .i64 (i : Int)] w fun e w' => e = .returned (.int .i64 (codeF (hSta x.states i) : Int)) ∧ Only Nil w w' := by
  obtain ⟨W, hW⟩ : ∃ W, W = w.alloc (.cells #[.string (bs x.name), .int .i64 x.limit, .int .i64 x.within, .slice a1 nC c1, .slice a2 nS c2] 56) := ⟨_, rfl⟩
  have oW : Only Nil w W := hW ▸ (Only.refl Nil w).alloc _
  have b : Bx W w.heap.size [.string (bs x.name), .int .i64 x.limit, .int .i64 x.within, .slice a1 nC c1, .slice a2 nS c2] 56 := hW ▸ bx_new w _ _
  have HB := Lib.hid b
  have HV := Lib.hid (hX.keep oW)
  have O := Lib.hid oW
  have hnS : (nS : Int) ≤ 140737488355328 := by have := hX.sb; omega
  have HNM := Lib.hid (fun w => rnameq_any (gt x.states i).name w ((hX.wf.states _ (gt_mem (by rw [hX.sn]; exact hi))).name))
  have hi' : (i : Int) < (nS : Int) := by omega
  have HI := Lib.hid hi
  have HIL := Lib.hid (show i < x.states.length from by rw [hX.sn]; exact hi)
  clear oW b hX hi
  obtain ⟨q, off, u, uc, rfl, ⟨e0, e1⟩, _⟩ := sta_at HV.out.s HV.out.sn i HI.out
  have z4 := HB.out.cell 4 (v := .slice (some ⟨q, off, none⟩) nS c2) rfl
  have hrb : ((gt x.states i).rows.length : Int) ≤ 140737488355328 := by
    have := (HV.out.sz.2.2 _ (gt_mem HIL.out)).1
    omega
  cases hnm : isNm (gt x.states i).name with
  | false =>
    have HF := Lib.hid (show codeF (hSta x.states i) = 43 from by unfold hSta; rw [hnm]; rfl)
    rw [hnm] at HNM
    clear hnm
    generalize (gt x.states i).name = nmi at *
    generalize (gt x.states i).rows.length = nR at *
    go_enter Tryz.func37, Tryz.ntmps37
    go_upto_region 1 with (fail)
    rw [← hW]; clear hW
    go_wp2_with (go_at_call 64; (with_reducible refine (HNM.out _).mono ?_); rintro e wn ⟨rfl, rfl⟩)
    go_ret
    exact ⟨by rw [HF.out]; rfl, O.out⟩
  | true =>
    rw [hnm] at HNM
    have HT := Lib.hid (show Hid (isNew (x.states.map Sta.name) i = false) → codeF (hSta x.states i) = 41 from fun h => by unfold hSta; rw [hnm, h.out]; rfl)
    have HG := Lib.hid (show Hid (isNew (x.states.map Sta.name) i = true) → ¬ (gt x.states i).rows.length ≤ 16 → codeF (hSta x.states i) = 40 from fun h h2 => by unfold hSta; rw [hnm, h.out, decide_eq_false h2]; rfl)
    have HO := Lib.hid (show Hid (isNew (x.states.map Sta.name) i = true) → (gt x.states i).rows.length ≤ 16 → codeF (hSta x.states i) = 0 from fun h h2 => by unfold hSta; rw [hnm, h.out, decide_eq_true h2]; rfl)
    clear hnm
    obtain ⟨nmi, hni⟩ : ∃ nmi, nmi = (gt x.states i).name := ⟨_, rfl⟩
    obtain ⟨nR, hnR⟩ : ∃ nR, nR = (gt x.states i).rows.length := ⟨_, rfl⟩
    rw [← hni] at e0 HNM
    rw [← hnR] at e1 HG HO hrb
    have HNI := Lib.hid hni
    clear hni hnR
    go_enter Tryz.func37, Tryz.ntmps37
    go_upto_region 1 with (fail)
    rw [← hW]; clear hW
    go_upto_region 4 with (go_at_call 64; (with_reducible refine (HNM.out _).mono ?_); rintro e wn ⟨rfl, rfl⟩)
    clear HNM
    go_loopw [5] (fun s5 wr => ∃ j : Nat, j ≤ i ∧ s5 = .int .i64 (j : Int) ∧ Hid (Far Sta.name x.states i j) ∧ Hid (Only Nil W wr))
      (fun s5 _ => i - (intOf s5).toNat)
    case atStart => exact ⟨0, Nat.zero_le _, rfl, Lib.hid (Far.zero _ _ _), Lib.hid (Only.refl _ _)⟩
    case round =>
      obtain ⟨j, hj, rfl, hF, hO⟩ := hrel
      have HBr := Lib.hid (HB.out.keep hO.out)
      have z4 := HBr.out.cell 4 (v := .slice (some ⟨q, off, none⟩) nS c2) rfl
      have e0 := only_cell0 hO.out e0
      have e1 := only_cell0 hO.out e1
      by_cases hji : j < i
      · have hji' : (j : Int) < (i : Int) := by omega
        have hjn' : (j : Int) < (nS : Int) := by omega
        obtain ⟨q', off', u', uc', eq', ⟨f0, _⟩, _⟩ := sta_at (HV.out.keep hO.out).s HV.out.sn j (by omega)
        cases eq'
        obtain ⟨nmj, hnj⟩ : ∃ nmj, nmj = (gt x.states j).name := ⟨_, rfl⟩
        rw [← hnj] at f0
        have HNJ := Lib.hid hnj
        clear hnj
        have hq : ((bs nmj).toList == (bs nmi).toList) = decide (nmj = nmi) := bsq _ _
        by_cases hE : nmj = nmi
        · rw [decide_eq_true hE] at hq
          have H41 := Lib.hid (HT.out (Lib.hid (near_old (f := Sta.name) HIL.out hji (by rw [← HNJ.out, ← HNI.out]; exact hE))))
          clear hE
          go_upto_region 6 with (fail)
          go_quiet (fail)
          go_wp2
          go_ret
          exact ⟨by rw [H41.out]; rfl, (O.out.trans hO.out).drewN nq⟩
        · rw [decide_eq_false hE] at hq
          have hF2 := Lib.hid (hF.out.succ (show ¬ (gt x.states j).name = (gt x.states i).name from by rw [← HNJ.out, ← HNI.out]; exact hE))
          clear hE hF
          go_upto_region 6 with (fail)
          go_quiet (fail)
          go_wp2
          go_roundw
          case rel => exact ⟨j + 1, by omega, by go_num, hF2, Lib.hid (hO.out.drewN nq)⟩
          case measure => simp [intOf]; omega
      · obtain rfl : j = i := by omega
        have hjj : ¬ (j : Int) < (j : Int) := by omega
        have HNew := Lib.hid (far_new HIL.out hF.out)
        clear hji
        by_cases h16 : nR ≤ 16
        · have h16' : ¬ ((16 : Int) < (nR : Int)) := by omega
          have H0 := Lib.hid (HO.out HNew h16)
          go_wp2
          go_ret
          exact ⟨by rw [H0.out]; rfl, O.out.trans hO.out⟩
        · have h16' : ((16 : Int) < (nR : Int)) := by omega
          have H40 := Lib.hid (HG.out HNew h16)
          go_wp2
          go_ret
          exact ⟨by rw [H40.out]; rfl, O.out.trans hO.out⟩
end Go.Proofs.YthanclicnkjmiaaGreatDoor.Ch
