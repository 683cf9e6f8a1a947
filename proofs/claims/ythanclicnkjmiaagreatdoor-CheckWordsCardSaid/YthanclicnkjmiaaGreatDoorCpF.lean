/- check: the document's Program: plain words. -/
import Derived.Test.YthanclicnkjmiaaGreatDoorCpE
set_option linter.unusedVariables false
set_option linter.unusedSimpArgs false
namespace Go.Proofs.YthanclicnkjmiaaGreatDoor.Ch
open Go.RowKit Go.Proofs.YthanclicnkjmiaaGreatDoor Lx Ps

theorem firstO_un {l : List Fau} (h : ∀ f ∈ l, ∃ c b, f = un c b ∧ c ≠ 0) {x : Nat × List Nat} (hx : firstO l = some x) : x.2 = [] ∧ x.1 ≠ 0 := by
  obtain ⟨c, b, e, hc⟩ := h _ (first_some hx)
  have := un_some e.symm
  rw [this]
  exact ⟨rfl, hc⟩
theorem hkd_some {P : List Kd} {i : Nat} {x : Nat × List Nat} (h : hKd P i = some x) : x.2 = [] ∧ x.1 ≠ 0 := firstO_un (fun f hf => by
  simp only [List.mem_cons, List.not_mem_nil, or_false] at hf
  rcases hf with rfl | rfl | rfl | rfl | rfl <;> exact ⟨_, _, rfl, by decide⟩) h
theorem hsta_some {S : List Sta} {i : Nat} {x : Nat × List Nat} (h : hSta S i = some x) : x.2 = [] ∧ x.1 ≠ 0 := firstO_un (fun f hf => by
  simp only [List.mem_cons, List.not_mem_nil, or_false] at hf
  rcases hf with rfl | rfl | rfl <;> exact ⟨_, _, rfl, by decide⟩) h
theorem hrow_some {R : List Rw} {i : Nat} {x : Nat × List Nat} (h : hRow R i = some x) : x.2 = [] ∧ x.1 ≠ 0 := firstO_un (fun f hf => by
  simp only [List.mem_cons, List.not_mem_nil, or_false] at hf
  rcases hf with rfl | rfl | rfl | rfl <;> exact ⟨_, _, rfl, by decide⟩) h
theorem oeff_some {PN SN : List Wd} {L : List Eff} {i : Nat} {x : Nat × List Nat} (h : ofEff PN SN L i = some x) : x.2 = [] ∧ x.1 ≠ 0 := firstO_un (fun f hf => by
  simp only [List.mem_cons, List.not_mem_nil, or_false] at hf
  rcases hf with rfl | rfl | rfl <;> exact ⟨_, _, rfl, by decide⟩) h
/-- None of the first n. -/
def Free0 (f : Nat → Fau) (n : Nat) : Prop := ∀ j, j < n → f j = none
theorem Free0.zero (f : Nat → Fau) : Free0 f 0 := fun j h => absurd h (Nat.not_lt_zero _)
theorem Free0.succ {f : Nat → Fau} {n : Nat} (h : Free0 f n) (hn : f n = none) : Free0 f (n + 1) := fun j hj => by
  rcases Nat.lt_or_ge j n with h1 | h1
  · exact h j h1
  · obtain rfl : j = n := by omega
    exact hn
theorem whole_kd {P : List Kd} (h1 : 1 ≤ P.length ∧ P.length ≤ 8) {i : Nat} (hi : i < P.length) (h : Free0 (ofKd P) i) {x : Nat × List Nat} (hx : ofKd P i = some x) : whole P = some (x.1, (i + 1) :: x.2) := by
  unfold whole
  rw [decide_eq_true h1.1, decide_eq_true h1.2, eachO_hit hx hi h]; rfl
theorem whole_no {P : List Kd} (h1 : 1 ≤ P.length ∧ P.length ≤ 8) (h : Free0 (ofKd P) P.length) : whole P = none := by
  unfold whole
  rw [decide_eq_true h1.1, decide_eq_true h1.2, eachO_none.2 h]; rfl
theorem whole_cnt {P : List Kd} (h1 : ¬ (1 ≤ P.length ∧ P.length ≤ 8)) : whole P = some (40, []) := by
  unfold whole
  have : (decide (1 ≤ P.length) && decide (P.length ≤ 8)) = false := by
    rw [Bool.eq_false_iff]; intro h; simp at h; exact h1 h
  rw [this]; rfl
theorem kd_hit {P : List Kd} {i : Nat} {x : Nat × List Nat} (h : hKd P i = some x) : ofKd P i = some (x.1, []) := by
  rw [hkd_split, h]; simp only; rw [← (hkd_some h).1]
theorem kd_sta {P : List Kd} {i j : Nat} (hk : hKd P i = none) (hj : j < (gt P i).states.length) (h : Free0 (ofSta (P.map Kd.name) (gt P i).states) j) {x : Nat × List Nat} (hx : ofSta (P.map Kd.name) (gt P i).states j = some x) : ofKd P i = some (x.1, (j + 1) :: x.2) := by
  rw [hkd_split, hk]; exact eachO_hit hx hj h
theorem kd_no {P : List Kd} {i : Nat} (hk : hKd P i = none) (h : Free0 (ofSta (P.map Kd.name) (gt P i).states) (gt P i).states.length) : ofKd P i = none := by
  rw [hkd_split, hk]; exact eachO_none.2 h
theorem sta_hit {PN : List Wd} {S : List Sta} {i : Nat} {x : Nat × List Nat} (h : hSta S i = some x) : ofSta PN S i = some (x.1, []) := by
  rw [hsta_split, h]; simp only; rw [← (hsta_some h).1]
theorem sta_row {PN : List Wd} {S : List Sta} {i j : Nat} (hk : hSta S i = none) (hj : j < (gt S i).rows.length) (h : Free0 (ofRow PN (S.map Sta.name) (gt S i).rows) j) {x : Nat × List Nat} (hx : ofRow PN (S.map Sta.name) (gt S i).rows j = some x) : ofSta PN S i = some (x.1, (j + 1) :: x.2) := by
  rw [hsta_split, hk]; exact eachO_hit hx hj h
theorem sta_no {PN : List Wd} {S : List Sta} {i : Nat} (hk : hSta S i = none) (h : Free0 (ofRow PN (S.map Sta.name) (gt S i).rows) (gt S i).rows.length) : ofSta PN S i = none := by
  rw [hsta_split, hk]; exact eachO_none.2 h
theorem row_hit {PN SN : List Wd} {R : List Rw} {i : Nat} {x : Nat × List Nat} (h : hRow R i = some x) : ofRow PN SN R i = some (x.1, []) := by
  rw [hrow_split, h]; simp only; rw [← (hrow_some h).1]
theorem row_eff {PN SN : List Wd} {R : List Rw} {i j : Nat} (hk : hRow R i = none) (hj : j < (gt R i).effs.length) (h : Free0 (ofEff PN SN (gt R i).effs) j) {x : Nat × List Nat} (hx : ofEff PN SN (gt R i).effs j = some x) : ofRow PN SN R i = some (x.1, [j + 1]) := by
  rw [hrow_split, hk]; simp only; rw [eachO_hit hx hj h, (oeff_some hx).1]
theorem row_no {PN SN : List Wd} {R : List Rw} {i : Nat} (hk : hRow R i = none) (h : Free0 (ofEff PN SN (gt R i).effs) (gt R i).effs.length) : ofRow PN SN R i = none := by
  rw [hrow_split, hk]; exact eachO_none.2 h
/-- A number that is none or a fault's. -/
theorem code_z {f : Fau} (hs : ∀ x, f = some x → x.1 ≠ 0) : (codeF f = 0 ∧ f = none) ∨ (codeF f ≠ 0 ∧ ∃ x, f = some x ∧ codeF f = x.1) := by
  cases f with
  | none => exact .inl ⟨rfl, rfl⟩
  | some x => exact .inr ⟨hs x rfl, x, rfl, rfl⟩
theorem code_le {f : Fau} {l : List Fau} (hf : f = firstO l) (h : ∀ g ∈ l, ∃ c b, g = un c b ∧ c ≤ 100) : codeF f ≤ 100 := by
  cases f with
  | none => exact Nat.zero_le _
  | some x =>
    obtain ⟨c, b, e, hc⟩ := h _ (first_some hf.symm)
    have := un_some e.symm
    show x.1 ≤ 100
    rw [this]; exact hc

/-- A fault is stored into the result. -/
theorem store_fault {w w5 : World} {R : Nat} {x0 x1 : Value} {c : Int} {x : Option Addr} {k : Nat} {W : List Nat} (b : Bx w5 R [x0, x1] 40) (ho : w5.ownsRow 0 3 1 (.slice x W.length k) W.length (intsC W)) (o : Only Nil w w5) (hR : w.heap.size ≤ R) :
    Bx ((w5.setCell ⟨R, 0, none⟩ (.int .i64 c)).setCell ⟨R, 1, none⟩ (.slice x W.length k)) R [.int .i64 c, .slice x W.length k] 40 ∧
    ((w5.setCell ⟨R, 0, none⟩ (.int .i64 c)).setCell ⟨R, 1, none⟩ (.slice x W.length k)).ownsRow 0 3 1 (.slice x W.length k) W.length (intsC W) ∧ Only Nil w ((w5.setCell ⟨R, 0, none⟩ (.int .i64 c)).setCell ⟨R, 1, none⟩ (.slice x W.length k)) := by
  have t1 := Bx.put b 0 (.int .i64 c)
  have t2 := Bx.put t1 1 (.slice x W.length k)
  simp only [List.set_cons_zero, List.set_cons_succ] at t2
  have oS : Only (At R) w5 ((w5.setCell ⟨R, 0, none⟩ (.int .i64 c)).setCell ⟨R, 1, none⟩ (.slice x W.length k)) := ((Only.refl (At R) w5).setCell (p := ⟨R, 0, none⟩) rfl _).setCell (p := ⟨R, 1, none⟩) rfl _
  refine ⟨t2, own_keep ho oS (fun g hg e => ?_), o.then oS (fun q hq hlt => by have : q = R := hq; omega)⟩
  have e' : g = R := e
  subst e'
  rcases ho.2 with ⟨e2, _⟩ | ⟨g', k', cur, e2, _, hh, _⟩
  · rw [e2] at hg; simp [Value.ownBlock] at hg
  · have : g = g' := by rw [e2] at hg; simpa [Value.ownBlock] using hg
    subst this
    exact blk_ne b hh (by decide) rfl
end Go.Proofs.YthanclicnkjmiaaGreatDoor.Ch
