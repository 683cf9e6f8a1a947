/- mercy: Directive, the program's and the document's. -/
import Derived.Test.YteafdhpnkgebnaaMeCs
import Derived.Shelf.Abstract
set_option linter.unusedSimpArgs false
set_option linter.unusedVariables false
namespace Go.Proofs.Yteafdhpnkgebnaa.Me
open Go.RowKit Go.Proofs.Yteafdhpnkgebnaa

theorem bs_list (l : Wd) : (bs l).data.toList = l := by simp [bs]
theorem toList_bs (l : Wd) : (bs l).toList = l := by rw [ByteArray.toList_eq, bs_list]
def hit (r : Wd) (c : Cs) : Bool := c.reason == r
def dirOf (L : List Cs) (r : Wd) : Int := match L.find? (hit r) with
  | some c => c.act
  | none => match L.find? (hit []) with
    | some c => c.act
    | none => 3
theorem find_at {p : Cs → Bool} {L : List Cs} {i : Nat} (h : ∀ j, j < i → p (L.getD j default) = false) (hi : i < L.length) (hp : p (L.getD i default) = true) : L.find? p = some (L.getD i default) := by
  induction L generalizing i with
  | nil => simp at hi
  | cons x L ih =>
    cases i with
    | zero => simp at hp ⊢; simp [hp]
    | succ i =>
      have h0 := h 0 (by omega)
      simp at h0
      rw [List.find?_cons, h0]
      have := ih (i := i) (fun j hj => by have := h (j + 1) (by omega); simpa using this) (by simpa using hi) (by simpa using hp)
      simpa using this
theorem find_no {p : Cs → Bool} {L : List Cs} (h : ∀ j, j < L.length → p (L.getD j default) = false) : L.find? p = none := by
  rw [List.find?_eq_none]
  intro x hx
  obtain ⟨j, hj, rfl⟩ := List.getElem_of_mem hx
  have := h j hj
  simp [List.getD, hj] at this
  simp [this]
/-- None of the first n is met. -/
def Miss (p : Cs → Bool) (L : List Cs) (n : Nat) : Prop := ∀ j, j < n → p (L.getD j default) = false
theorem Miss.zero (p : Cs → Bool) (L : List Cs) : Miss p L 0 := fun j hj => absurd hj (Nat.not_lt_zero _)
theorem Miss.succ {p : Cs → Bool} {L : List Cs} {n : Nat} (h : Miss p L n) (hn : p (L.getD n default) = false) : Miss p L (n + 1) := fun j hj => by
  rcases Nat.lt_or_ge j n with h1 | h1
  · exact h j h1
  · obtain rfl : j = n := by omega
    exact hn

def Yes (p : Cs → Bool) (L : List Cs) (x : Cs) : Prop := L.find? p = some x
def No (p : Cs → Bool) (L : List Cs) : Prop := L.find? p = none
def Pred_cs (w0 : World) (fv : Value) (p : Cs → Bool) : Prop :=
  ∃ g cs cb, fv = .func (.func g) cs cb ∧ (∀ args w, (callFunc g args).run Try.prog w = .ok (.enter g args) w) ∧ ∀ (w : World) (x : Cs), Only Nil w0 w → Calls Try.prog g (cs ++ #[.agg #[.string (bs x.reason), .int .i64 x.act]] ++ cb) w fun e w' => e = .returned (.bool (p x)) ∧ Only Nil w w'
set_option maxHeartbeats 2000000 in
set_option maxRecDepth 100000 in
theorem ix_any {w : World} {a : Option Addr} {n c : Nat} {L : List Cs} (hx : CaIn w a L) (hn : L.length = n) (hb : n ≤ 140737488355328) {fv : Value} {p : Cs → Bool} (h : Pred_cs w fv p) :
    Calls Try.prog 24 #[.slice a n c, fv] w fun e w' => Hid ((∃ (i : Nat), e = .returned (.int .i64 (i : Int)) ∧ i < n ∧ Yes p L (L.getD i default)) ∨ (No p L ∧ e = .returned (.int .i64 (-1)))) ∧ Only Nil w w' := by
  obtain ⟨g, cs, cb, rfl, eg, hcl⟩ := h
  have HX := Lib.hid hx
  have HC := Lib.hid hcl
  have HN := Lib.hid hn
  have hb' : (n : Int) ≤ 140737488355328 := by omega
  clear hx hcl hn hb
  go_enter Try.func24, Try.ntmps24
  go_wp2
  go_loopw [8] (fun s8 wr => ∃ (i : Nat), i ≤ n ∧ s8 = .int .i64 (i : Int) ∧ Hid (Miss p L i) ∧ Hid (Only Nil w wr))
    (fun s8 _ => n - (intOf s8).toNat)
  case atStart => exact ⟨0, Nat.zero_le _, rfl, Lib.hid (Miss.zero _ _), Lib.hid (Only.refl _ _)⟩
  case round =>
    obtain ⟨i, hi, rfl, hE, hO⟩ := hrel
    by_cases hin : i < n
    · obtain ⟨q, off, rfl, hlt, e0, e1⟩ := (HX.out.nil hO.out) i (by rw [HN.out]; exact hin)
      obtain ⟨x, hx⟩ : ∃ x, x = L.getD i default := ⟨_, rfl⟩
      rw [← hx] at e0 e1
      have HL := Lib.hid hx
      have HI := Lib.hid hin
      clear hx
      have hin' : (i : Int) < (n : Int) := by omega
      have HF := Lib.hid (HC.out wr x hO.out)
      cases hp : p x with
      | false =>
        rw [hp] at HF
        have HP := Lib.hid hp
        clear hp
        go_wp2_with (go_at_fn g; refine HF.out.mono ?_; rintro e w1 ⟨rfl, o1⟩; have O1 := Lib.hid (hO.out.trans o1))
        go_roundw
        case rel => exact ⟨i + 1, by omega, by go_num, Lib.hid (hE.out.succ (by rw [← HL.out]; exact HP.out)), O1⟩
        case measure => simp [intOf]; omega
      | true =>
        rw [hp] at HF
        have HP := Lib.hid hp
        clear hp
        go_wp2_with (go_at_fn g; refine HF.out.mono ?_; rintro e w1 ⟨rfl, o1⟩; have O1 := Lib.hid (hO.out.trans o1))
        go_ret
        exact ⟨Lib.hid (Or.inl ⟨i, rfl, HI.out, find_at hE.out (by rw [HN.out]; exact HI.out) (by rw [← HL.out]; exact HP.out)⟩), O1.out⟩
    · obtain rfl : i = n := by omega
      have hk0 : ¬ (i : Int) < (i : Int) := by omega
      clear hin
      go_wp2
      go_ret
      exact ⟨Lib.hid (Or.inr ⟨find_no (by rw [HN.out]; exact hE.out), rfl⟩), hO.out⟩

set_option maxRecDepth 100000 in
theorem clod_any {w : World} {q : Nat} (r : Wd) (x : Cs) (hq : w.cell? ⟨q, 0, none⟩ = some (.string (bs r))) (hlt : q < w.heap.size) :
    Calls Try.prog 25 #[.agg #[.string (bs x.reason), .int .i64 x.act], .pointer (some ⟨q, 0, none⟩)] w fun e w' => e = .returned (.bool (hit r x)) ∧ Only Nil w w' := by
  obtain ⟨W, hW⟩ : ∃ W, W = w.alloc (.cells #[.string (bs x.reason), .int .i64 x.act] 50) := ⟨_, rfl⟩
  have oW : Only Nil w W := by rw [hW]; exact (Only.refl Nil w).alloc _
  have b : W.heap[w.heap.size]? = some (.cells #[.string (bs x.reason), .int .i64 x.act] 50 (0, 0)) := by rw [hW]; exact heap_new _ _
  have c0 : W.cell? ⟨w.heap.size, 0, none⟩ = some (.string (bs x.reason)) := by simp [World.cell?, b]
  have cq := only_cellS oW (fun h => h) hq
  have hh : Hid (hit r x = ((bs x.reason).toList == (bs r).toList)) := by refine Lib.hid ?_; rw [toList_bs, toList_bs]; rfl
  clear b
  go_enter Try.func25, Try.ntmps25
  go_upto_region 1 with (fail)
  rw [← hW]
  clear hW
  go_wp2
  go_ret
  exact ⟨by rw [hh.out]; rfl, oW⟩

theorem dir_at {L : List Cs} {r : Wd} {x : Cs} (h : Yes (hit r) L x) : dirOf L r = x.act := by unfold dirOf; rw [show L.find? (hit r) = some x from h]
theorem dir_else {L : List Cs} {r : Wd} {x : Cs} (h : No (hit r) L) (h2 : Yes (hit []) L x) : dirOf L r = x.act := by unfold dirOf; rw [show L.find? (hit r) = none from h]; simp only; rw [show L.find? (hit []) = some x from h2]
theorem dir_none {L : List Cs} {r : Wd} (h : No (hit r) L) (h2 : No (hit []) L) : dirOf L r = 3 := by unfold dirOf; rw [show L.find? (hit r) = none from h]; simp only; rw [show L.find? (hit []) = none from h2]
/-- What has been looked for. -/
structure Lk (L : List Cs) (r : Wd) (j : Nat) : Prop where
  a : 1 ≤ j → No (hit r) L
  b : 2 ≤ j → No (hit []) L
/-- The name of a round. -/
def nmd (r : Wd) (j : Nat) : Wd := if j = 0 then r else []
theorem Lk.step {L : List Cs} {r : Wd} {j : Nat} (h : Lk L r j) (hj : j < 2) (hn : No (hit (nmd r j)) L) : Lk L r (j + 1) := by
  rcases Nat.eq_zero_or_pos j with e | e
  · subst e; exact ⟨fun _ => hn, fun h => by omega⟩
  · obtain rfl : j = 1 := by omega
    exact ⟨fun _ => h.a (by decide), fun _ => hn⟩
theorem Lk.yes {L : List Cs} {r : Wd} {j : Nat} {x : Cs} (h : Lk L r j) (hj : j < 2) (hn : Yes (hit (nmd r j)) L x) : dirOf L r = x.act := by
  rcases Nat.eq_zero_or_pos j with e | e
  · subst e; exact dir_at hn
  · obtain rfl : j = 1 := by omega
    exact dir_else (h.a (by decide)) hn

set_option maxHeartbeats 2000000 in
set_option maxRecDepth 100000 in
theorem dir_any {w : World} {a : Option Addr} {n c : Nat} {L : List Cs} (hx : CaIn w a L) (hn : L.length = n) (hb : n ≤ 140737488355328) (r : Wd) (v0 v1 v2 v4 : Value) :
    Calls Try.prog 16 #[.agg #[v0, v1, v2, .slice a n c, v4], .string (bs r)] w fun e w' => e = .returned (.int .i64 (dirOf L r)) ∧ Only Nil w w' := by
  obtain ⟨W, hW⟩ : ∃ W, W = w.alloc (.cells #[v0, v1, v2, .slice a n c, v4] 41) := ⟨_, rfl⟩
  have oW : Only Nil w W := by rw [hW]; exact (Only.refl Nil w).alloc _
  have b : W.heap[w.heap.size]? = some (.cells #[v0, v1, v2, .slice a n c, v4] 41 (0, 0)) := by rw [hW]; exact heap_new _ _
  obtain ⟨W2, hW2⟩ : ∃ W2, W2 = W.alloc (.cells #[.string (bs r), .string ⟨#[]⟩] 9) := ⟨_, rfl⟩
  have oW2 : Only Nil W W2 := by rw [hW2]; exact (Only.refl Nil W).alloc _
  have b2 : W2.heap[W.heap.size]? = some (.cells #[.string (bs r), .string ⟨#[]⟩] 9 (0, 0)) := by rw [hW2]; exact heap_new _ _
  have sW : W.heap.size = w.heap.size + 1 := by rw [hW]; simp
  rw [sW] at b2
  have HB := Lib.hid ((oW2.block _ (lt_of_block b) (fun h => h)).trans b)
  have HB2 := Lib.hid b2
  have HO := Lib.hid (oW.trans oW2)
  have HX := Lib.hid (hx.nil (oW.trans oW2))
  have HN := Lib.hid hn
  have hb' : (n : Int) ≤ 140737488355328 := by omega
  have Hb := Lib.hid hb
  have HW2 := Lib.hid hW2
  clear oW oW2 b b2 hx hn hb hW2
  go_enter Try.func16, Try.ntmps16
  go_upto_region 1 with (fail)
  rw [← hW]
  clear hW
  go_wp2
  rw [← HW2.out]
  clear HW2
  go_loopw [11] (fun s11 wr => ∃ (j : Nat), j ≤ 2 ∧ s11 = .int .i64 (j : Int) ∧ Hid (Lk L r j) ∧ Hid (Only Nil W2 wr))
    (fun s11 _ => 2 - (intOf s11).toNat)
  case atStart => exact ⟨0, by decide, rfl, Lib.hid ⟨fun h => absurd h (by decide), fun h => absurd h (by decide)⟩, Lib.hid (Only.refl _ _)⟩
  case round =>
    obtain ⟨j, hj, rfl, hK, hO⟩ := hrel
    have B1 := (hO.out.block _ (lt_of_block HB.out) (fun h => h)).trans HB.out
    have B2 := (hO.out.block _ (lt_of_block HB2.out) (fun h => h)).trans HB2.out
    by_cases hj2 : j < 2
    · have hj3 : (j : Int) < 2 := by omega
      have x0 : wr.cell? ⟨w.heap.size + 1, j, none⟩ = some (.string (bs (nmd r j))) := by
        rcases Nat.eq_zero_or_pos j with e | e
        · subst e; simp [World.cell?, B2, nmd]
        · obtain rfl : j = 1 := by omega
          simp [World.cell?, B2, nmd, bs]
      obtain ⟨wn, hwn⟩ : ∃ wn, wn = wr.alloc (.cells #[.string (bs (nmd r j))] 9) := ⟨_, rfl⟩
      have on : Only Nil wr wn := hwn ▸ (Only.refl Nil wr).alloc _
      have bn : wn.heap[wr.heap.size]? = some (.cells #[.string (bs (nmd r j))] 9 (0, 0)) := hwn ▸ heap_new _ _
      have HWN := Lib.hid hwn
      have HIX := Lib.hid (ix_any (p := hit (nmd r j)) ((HX.out.nil hO.out).nil on) HN.out Hb.out (c := c) (fv := .func (.func 25) #[] #[.pointer (some ⟨wr.heap.size, 0, none⟩)])
        ⟨_, #[], #[.pointer (some ⟨wr.heap.size, 0, none⟩)], rfl, enters_of Try.func25 (by kernel_rfl) rfl, fun w' x o => by
          have b' := (o.block _ (lt_of_block bn) (fun h => h)).trans bn
          exact clod_any (nmd r j) x (by simp [World.cell?, b']) (lt_of_block b')⟩)
      have y3 : wn.cell? ⟨w.heap.size, 3, none⟩ = some (.slice a n c) := by
        have := (on.block _ (lt_of_block B1) (fun h => h)).trans B1
        simp [World.cell?, this]
      have HO2 := Lib.hid (hO.out.trans on)
      have HK := Lib.hid (hK.out.step hj2)
      have HY := Lib.hid (fun x => hK.out.yes (x := x) hj2)
      have HB4 := Lib.hid ((on.block _ (lt_of_block B1) (fun h => h)).trans B1)
      have HXN := Lib.hid ((HX.out.nil hO.out).nil on)
      clear hwn bn on B1 B2 hj2
      go_upto_region 4 with (fail)
      rw [← HWN.out]
      clear HWN
      go_wp2_with fail
      refine HIX.out.mono ?_
      rintro e w3 ⟨hr, o3⟩
      have HR := Lib.hid hr.out
      have O3 := Lib.hid o3
      clear hr o3 y3
      have B5 := (O3.out.block _ (lt_of_block HB4.out) (fun h => h)).trans HB4.out
      have y5 : w3.cell? ⟨w.heap.size, 3, none⟩ = some (.slice a n c) := by simp [World.cell?, B5]
      clear B5
      rcases HR.out with ⟨i, rfl, hi, hY⟩ | ⟨hN, rfl⟩
      · obtain ⟨q, off, rfl, hlt, e0, e1⟩ := (HXN.out.nil O3.out) i (by rw [HN.out]; exact hi)
        have hi0 : (0 : Int) ≤ (i : Int) := by omega
        have hi1 : (i : Int) < (n : Int) := by omega
        have HD := Lib.hid (HY.out _ hY)
        generalize (L.getD i default).act = d at *
        clear HR hY e0
        go_wp2
        go_ret
        exact ⟨by rw [HD.out]; rfl, HO.out.trans (HO2.out.trans O3.out)⟩
      · have HK2 := Lib.hid (HK.out hN)
        have O4 := Lib.hid (HO2.out.trans O3.out)
        clear HR hN
        go_wp2
        go_roundw
        case rel => exact ⟨j + 1, by omega, by go_num, HK2, O4⟩
        case measure => simp [intOf]; omega
    · obtain rfl : j = 2 := by omega
      have hD := Lib.hid (dir_none (hK.out.a (by decide)) (hK.out.b (by decide)))
      clear hj2 B1 B2
      go_wp2
      go_ret
      exact ⟨by rw [hD.out]; rfl, HO.out.trans hO.out⟩
end Go.Proofs.Yteafdhpnkgebnaa.Me
