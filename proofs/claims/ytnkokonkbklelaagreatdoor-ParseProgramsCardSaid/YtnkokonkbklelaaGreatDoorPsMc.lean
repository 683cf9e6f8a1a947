/- parse: the document's examples. -/
import Derived.Test.YtnkokonkbklelaaGreatDoorPsMa
import Derived.Test.YtnkokonkbklelaaGreatDoorLxM3
import Derived.Test.YtnkokonkbklelaaGreatDoorPsM6
import Derived.Deep.Slices
import Derived.Deep.Fields
import Derived.Lib.SmallJoins
import Derived.SizedLaws
import Derived.ChangeMaps5
set_option linter.unusedVariables false
namespace Go.Proofs.YtnkokonkbklelaaGreatDoor.Ps
open Go.RowKit Go.Proofs.YtnkokonkbklelaaGreatDoor Lx

deriving instance DecidableEq for Out
def ex1 : List UInt8 := [107, 105, 110, 100, 32, 97, 32, 123, 32, 115, 116, 97, 116, 101, 32, 115, 32, 123, 32, 111, 110, 32, 103, 111, 32, 51, 32, 123, 32, 115, 101, 110, 100, 32, 98, 32, 120, 32, 108, 101, 115, 115, 59, 32, 115, 116, 111, 112, 59, 32, 125, 32, 97, 110, 121, 32, 123, 32, 125, 32, 125, 32, 125]
def ex2 : List UInt8 := [107, 105, 110, 100, 32, 97, 32, 123, 32, 108, 105, 109, 105, 116, 32, 48, 32, 105, 110, 32, 49, 32, 59, 32, 115, 116, 97, 116, 101, 32, 115, 32, 123, 32, 111, 110, 32, 103, 111, 32, 51, 32, 123, 32, 115, 101, 110, 100, 32, 98, 32, 120, 32, 108, 101, 115, 115, 32, 59, 32, 115, 116, 111, 112, 32, 59, 32, 125, 32, 97, 110, 121, 32, 123, 32, 125, 32, 125, 32, 125]
def exE1 : Eff := ⟨1, [98], [], [120], 1, 0, 0⟩
def exE2 : Eff := ⟨11, [], [], [], 0, 0, 0⟩
def exR : List Rw := [⟨[103, 111], true, 3, [exE1, exE2]⟩, ⟨[], false, 0, []⟩]
def exP : List Kd := [⟨[97], 0, 1, [], [⟨[115], exR⟩]⟩]
theorem ex_prog : prog ex1 = .ok exP := by decide +kernel
theorem ex_end : prog [107, 105, 110, 100, 32, 97] = .bad 31 6 := by decide +kernel
theorem ex_bad : prog [107, 105, 110, 100, 32, 123, 32, 125] = .bad 30 5 := by decide +kernel
theorem ex_err : outE exP = 0 := by decide +kernel
theorem ex_text : outT exP = ex2 := by decide +kernel
theorem ex_wf : wfP exP := by
  intro k hk
  simp only [exP, List.mem_singleton] at hk
  subst hk
  refine ⟨by unfold inW; decide, by unfold inW; decide, by decide, (fun c hc => absurd hc List.not_mem_nil), fun s hs => ?_⟩
  simp only [List.mem_singleton] at hs
  subst hs
  refine ⟨by decide, fun r hr => ?_⟩
  simp only [exR, List.mem_cons, List.not_mem_nil, or_false] at hr
  rcases hr with rfl | rfl
  · refine ⟨by unfold inW; decide, by decide, fun e he => ?_⟩
    simp only [List.mem_cons, List.not_mem_nil, or_false] at he
    rcases he with rfl | rfl <;> (constructor <;> (first | (unfold inW; decide) | decide))
  · exact ⟨by unfold inW; decide, by decide, fun e he => absurd he List.not_mem_nil⟩
theorem ex_sm : smP exP := by unfold smP smK smS smR; decide +kernel
/-- A cell of element j. -/
theorem Ats.cell {w : World} {a : Option Addr} {s j : Nat} {cs : List Value} (h : Ats w a s j cs) : ∃ b off, a = some ⟨b, off, none⟩ ∧ ∀ k v, k < s → cs[k]? = some v → w.cell? ⟨b, off + j * s + k, none⟩ = some v := by
  obtain ⟨b, off, ha, _, h⟩ := h
  exact ⟨b, off, ha, fun k v hk hv => (h k hk).trans hv⟩
theorem eff_same (w : World) : (binOp .eql 50 (.agg #[.int .i64 1, .string ⟨#[98]⟩, .string ⟨#[]⟩, .string ⟨#[120]⟩, .int .i64 1, .int .i64 0, .int .i64 0]) (.agg #[.int .i64 1, .string ⟨#[98]⟩, .string ⟨#[]⟩, .string ⟨#[120]⟩, .int .i64 1, .int .i64 0, .int .i64 0])).run Tryz.prog w = .ok (.bool true) w := by kernel_rfl
theorem bs_same : ((bs ex2).toList == (bs ex2).toList) = true := beq_self_eq_true _

set_option maxRecDepth 100000 in
set_option maxHeartbeats 4000000 in
theorem alive_any (w : World) (E : Env w) (T : Tab w) : Calls Tryz.prog 4 #[] w fun e w' => e = .returned (.bool true) ∧ Only Nil w w' := by
  have HE := Lib.hid E
  have HT := Lib.hid T
  have HQ := Lib.hid eff_same
  clear E T
  go_enter Tryz.func4, Tryz.ntmps4
  go_wp2_with fail
  refine (prog_ok_any ex1 w (by decide) HE.out exP ex_prog).mono ?_
  rintro e w1 ⟨sl, rfl, hv, o1⟩
  have hx := hv.x
  obtain ⟨a, c, rfl⟩ := hx.slice
  have hl : exP.length = 1 := rfl
  rw [hl] at hx hv
  rw [hl]
  go_upto_region 2 with (fail)
  have o2 : Only Nil w1 (w1.alloc (.cells #[.slice a 1 c] 25)) := (Only.refl Nil w1).alloc _
  have hb2 : Bx (w1.alloc (.cells #[.slice a 1 c] 25)) w1.heap.size [.slice a 1 c] 25 := bx_new w1 [.slice a 1 c] _
  have hx2 := hx.keep o2 (nilS · _)
  clear hl hv hx
  have OW := Lib.hid (o1.trans o2)
  have HX := Lib.hid hx2
  have HD := Lib.hid o2.size
  generalize w1.alloc (.cells #[.slice a 1 c] 25) = w2 at *
  generalize w1.heap.size = B1 at *
  have HB := Lib.hid hb2
  have b0 := hb2.cell 0 (v := .slice a 1 c) rfl
  clear o1 o2 hb2
  obtain ⟨s1, s2, at0, _, hS⟩ := hx2.at_ (L := exP) rfl 0 (by decide)
  obtain ⟨b, off, rfl, hc⟩ := at0.cell
  have k2 := hc 2 (.int .i64 1) (by decide) rfl
  have k4 := hc 4 s2 (by decide) rfl
  obtain ⟨a2, c2, rfl⟩ := hS.slice
  have hS' := hS
  obtain ⟨s3, at1, hR⟩ := hS'.at_ (L := exP[0].states) rfl 0 (by decide)
  obtain ⟨b', off', rfl, hc'⟩ := at1.cell
  have l1 := hc' 1 s3 (by decide) rfl
  obtain ⟨a3, c3, rfl⟩ := hR.slice
  obtain ⟨s4, at2, hE⟩ := hR.at_ (L := exR) rfl 0 (by decide)
  obtain ⟨b'', off'', rfl, hc''⟩ := at2.cell
  have m0 := hc'' 0 (.string (bs [103, 111])) (by decide) rfl
  have m1 := hc'' 1 (.bool true) (by decide) rfl
  have m2 := hc'' 2 (.int .i64 3) (by decide) rfl
  have m3 := hc'' 3 s4 (by decide) rfl
  obtain ⟨a4, c4, rfl⟩ := hE.slice
  have at3 := hE.at_ (L := [exE1, exE2]) rfl 0 (by decide)
  obtain ⟨b3, off3, rfl, hc3⟩ := at3.cell
  have n0 := hc3 0 (.int .i64 1) (by decide) rfl
  have n1 := hc3 1 (.string (bs [98])) (by decide) rfl
  have n2 := hc3 2 (.string (bs [])) (by decide) rfl
  have n3 := hc3 3 (.string (bs [120])) (by decide) rfl
  have n4 := hc3 4 (.int .i64 1) (by decide) rfl
  have n5 := hc3 5 (.int .i64 0) (by decide) rfl
  have n6 := hc3 6 (.int .i64 0) (by decide) rfl
  have HE4 := Lib.hid hE
  have la : exP[0].states.length = 1 := rfl
  have lb : exP[0].states[0].rows.length = 2 := rfl
  have lc : exR[0].effs.length = 2 := rfl
  rw [la] at k4
  simp only [Nat.zero_mul, Nat.add_zero] at k2 k4 l1 m0 m1 m2 m3 n0 n1 n2 n3 n4 n5 n6
  clear hc hc' hc'' hc3 at0 at1 at2 at3 hS' hS hR hE hx2
  rw [lb] at l1
  rw [lc] at m3 HE4
  go_upto_region 4 with (fail)
  go_upto_region 5 with (fail)
  have hb3 := bx_new w2 [.string (bs [103, 111]), .bool true, .int .i64 3, .slice (some ⟨b3, off3, none⟩) 2 c4] 46
  have o3 : Only Nil w2 (w2.alloc (.cells #[.string (bs [103, 111]), .bool true, .int .i64 3, .slice (some ⟨b3, off3, none⟩) 2 c4] 46)) := (Only.refl Nil w2).alloc _
  clear k2 k4 l1 m0 m1 m2 m3 b0
  obtain ⟨w3, hw3⟩ : ∃ w3, w3 = w2.alloc (.cells #[.string (bs [103, 111]), .bool true, .int .i64 3, .slice (some ⟨b3, off3, none⟩) 2 c4] 46) := ⟨_, rfl⟩
  rw [← hw3] at o3 ⊢
  rw [show w2.alloc (.cells ([.string (bs [103, 111]), .bool true, .int .i64 3, .slice (some ⟨b3, off3, none⟩) 2 c4] : List Value).toArray 46) = w3 from hw3.symm] at hb3
  have HX3 := Lib.hid (HX.out.keep o3 (nilS · _))
  have HBR := Lib.hid hb3
  have O3 := Lib.hid (OW.out.trans o3)
  have HD3 := Lib.hid (Nat.le_trans HD.out o3.size)
  have HB3 := Lib.hid (HB.out.keep o3)
  have b0 := HB3.out.cell 0 (v := .slice (some ⟨b, off, none⟩) 1 c) rfl
  replace n0 := only_cell0 o3 n0
  replace n1 := only_cell0 o3 n1
  replace n2 := only_cell0 o3 n2
  replace n3 := only_cell0 o3 n3
  replace n4 := only_cell0 o3 n4
  replace n5 := only_cell0 o3 n5
  replace n6 := only_cell0 o3 n6
  clear hw3 hb3 o3 OW HX HB HD
  generalize w2.heap.size = B2 at *
  go_wp2_with fail
  refine (print_any exP _ HX3.out HD3.out ex_wf ex_sm (HT.out.keep O3.out)).mono ?_
  rintro e w4 ⟨rfl, o4⟩
  rw [ex_err, ex_text]
  replace n0 := only_cell0 o4 n0
  replace n1 := only_cell0 o4 n1
  replace n2 := only_cell0 o4 n2
  replace n3 := only_cell0 o4 n3
  replace n4 := only_cell0 o4 n4
  replace n5 := only_cell0 o4 n5
  replace n6 := only_cell0 o4 n6
  have HBR4 := Lib.hid (HBR.out.keep o4)
  have O4 := Lib.hid (O3.out.trans o4)
  clear HBR O3 HB3 b0 o4 HX3 HD3
  go_upto_region 6 with (fail)
  go_wp2_with fail
  refine (prog_bad_any _ w4 (by decide) (HE.out.keep O4.out) 31 6 ex_end).mono ?_
  rintro e w5 ⟨b5, rfl, F5, o5⟩
  go_upto_region 7 with (fail)
  have o6 : Only Nil w4 (w5.alloc (.cells #[.slice none 0 0] 25)) := o5.trans ((Only.refl Nil w5).alloc _)
  have F6 := F5.keep ((Only.refl Nil w5).alloc (.cells #[.slice none 0 0] 25))
  clear o5 F5
  generalize w5.heap.size = B5 at *
  generalize w5.alloc (.cells #[.slice none 0 0] 25) = w6 at *
  go_wp2_with fail
  refine (prog_bad_any _ w6 (by decide) (HE.out.keep (O4.out.trans o6)) 30 5 ex_bad).mono ?_
  rintro e w7 ⟨b7, rfl, F7, o7⟩
  go_upto_region 8 with (fail)
  have o8 : Only Nil w4 (w7.alloc (.cells #[.slice none 0 0] 25)) := (o6.trans o7).trans ((Only.refl Nil w7).alloc _)
  have oo : Only Nil w7 (w7.alloc (.cells #[.slice none 0 0] 25)) := ((Only.refl Nil w7).alloc _)
  have F8 := Lib.hid (F6.keep (o7.trans oo))
  have G8 := Lib.hid (F7.keep oo)
  clear o6 o7 oo F6 F7
  generalize w7.heap.size = B7 at *
  generalize w7.alloc (.cells #[.slice none 0 0] 25) = w8 at *
  replace n0 := only_cell0 o8 n0
  replace n1 := only_cell0 o8 n1
  replace n2 := only_cell0 o8 n2
  replace n3 := only_cell0 o8 n3
  replace n4 := only_cell0 o8 n4
  replace n5 := only_cell0 o8 n5
  replace n6 := only_cell0 o8 n6
  have HB8 := HBR4.out.keep o8
  have O8 := Lib.hid (O4.out.trans o8)
  have E8 := Lib.hid (HE.out.keep O8.out)
  have r0 := HB8.cell 0 (v := .string (bs [103, 111])) rfl
  have r1 := HB8.cell 1 (v := .bool true) rfl
  have r2 := HB8.cell 2 (v := .int .i64 3) rfl
  have r3 := HB8.cell 3 (v := .slice (some ⟨b3, off3, none⟩) 2 c4) rfl
  have q1 := HQ.out w8
  have q2 : (bs [103, 111]).toList = [103, 111] := by decide +kernel
  have q3 : (bs [98]).toList = [98] := by decide +kernel
  have q4 : (bs []).toList = [] := by decide +kernel
  have q5 : (bs [120]).toList = [120] := by decide +kernel
  have q6 : (bs ex2).toList = [107, 105, 110, 100, 32, 97, 32, 123, 32, 108, 105, 109, 105, 116, 32, 48, 32, 105, 110, 32, 49, 32, 59, 32, 115, 116, 97, 116, 101, 32, 115, 32, 123, 32, 111, 110, 32, 103, 111, 32, 51, 32, 123, 32, 115, 101, 110, 100, 32, 98, 32, 120, 32, 108, 101, 115, 115, 32, 59, 32, 115, 116, 111, 112, 32, 59, 32, 125, 32, 97, 110, 121, 32, 123, 32, 125, 32, 125, 32, 125] := by decide +kernel
  clear HBR4 O4 o8 HB8 HE HT
  go_wp2_with fail
  refine (code_fault b5 31 6 w8 F8.out E8.out).mono ?_
  rintro e w9 ⟨rfl, o9⟩
  go_wp2_with fail
  refine (at_fault b5 31 6 w9 (F8.out.keep o9) (E8.out.keep o9)).mono ?_
  rintro e w10 ⟨rfl, o10⟩
  go_wp2_with fail
  refine (code_fault b7 30 5 w10 (G8.out.keep (o9.trans o10)) (E8.out.keep (o9.trans o10))).mono ?_
  rintro e w11 ⟨rfl, o11⟩
  go_wp2_with fail
  refine (at_fault b7 30 5 w11 (G8.out.keep ((o9.trans o10).trans o11)) (E8.out.keep ((o9.trans o10).trans o11))).mono ?_
  rintro e w12 ⟨rfl, o12⟩
  go_wp2_with fail
  go_ret
  exact ⟨rfl, O8.out.trans (((o9.trans o10).trans o11).trans o12)⟩
end Go.Proofs.YtnkokonkbklelaaGreatDoor.Ps

/- parse: what the laws' walks share. -/
set_option linter.unusedVariables false
namespace Go.Proofs.YtnkokonkbklelaaGreatDoor.Ps
open Go.RowKit Go.Proofs.YtnkokonkbklelaaGreatDoor Lx

theorem str_to (l : List UInt8) (k : Nat) (hk : k ≤ l.length) (w : World) : (Instr.slice 9 (.string (bs l)) none (some (.int .i64 (k : Int))) none).run Tryz.prog w = .ok (.string (bs (l.take k))) w := by
  have e : (bs l).extract 0 k = bs (l.take k) := by rw [bs_extract]; rfl
  rw [← e]
  simp [go_sem, Tryz.underlying9]
  omega
theorem below_nil {w w' : World} (o : Only Nil w w') : Below w.heap.size w w' := o.below (Nat.le_refl _) (fun k h => h.elim)
theorem snoc_at (X : Tks) (y : Tok × Nat) : (X ++ [y]).getD X.length default = y := by simp
/-- Program of a text that has a program. -/
theorem prog_ok_at (l : List UInt8) (w : World) (hl : l.length ≤ 140737488355328) (E : Env w) (P : List Kd) (h : prog l = .ok P) (n : Nat) (hn : P.length = n) :
    Calls Tryz.prog 5 #[.string (bs l)] w fun e w' => ∃ a c, e = .returned (.tuple #[.agg #[.slice a n c], .nilIface]) ∧ XK w'.heap.size w' (.slice a n c) P ∧ Only Nil w w' := by
  refine (prog_ok_any l w hl E P h).mono ?_
  rintro e w' ⟨sl, rfl, hv, o⟩
  have hx := hv.x
  obtain ⟨a, c, rfl⟩ := hx.slice
  rw [hn] at hx ⊢
  exact ⟨a, c, rfl, hx, o⟩
end Go.Proofs.YtnkokonkbklelaaGreatDoor.Ps

/- parse: a program that came in, opened. -/
set_option linter.unusedVariables false
namespace Go.Proofs.YtnkokonkbklelaaGreatDoor.Ps
open Go.RowKit Go.ChangeShapes Go.WideShapes Go.ChangeAt Go.Joins Go.Deep Go.Proofs.YtnkokonkbklelaaGreatDoor Lx

theorem add_addP (b off j k : Nat) : ((⟨b, off, none⟩ : Addr).add j).add k = ⟨b, off + j + k, none⟩ := by
  have e : ∀ o n, (⟨b, o, none⟩ : Addr).add n = ⟨b, o + n, none⟩ := fun o n => by
    by_cases h : n = 0
    · subst h; simp [Addr.add]
    · simp [Addr.add, h]
  rw [e, e]
section
variable {H : Type} {enc : TypeId × Value → H} {w : World} {held : Bool}
/-- Nothing that it leads to is longer than memory is. -/
def Sz (P : Program) (t : TypeId) (d : DataW H) : Prop := ∀ k ∈ d.weights P t, k ≤ 140737488355328
theorem sz_all {P : Program} {e : TypeId} {l : List (DataW H)} (h : ∀ k ∈ DataW.weightsAll P e l, k ≤ 140737488355328) {d : DataW H} (hd : d ∈ l) : Sz P e d := by
  induction l with
  | nil => cases hd
  | cons x l ih =>
    simp only [DataW.weightsAll, List.mem_append] at h
    rcases List.mem_cons.1 hd with rfl | hd
    · exact fun k hk => h k (Or.inl hk)
    · exact ih (fun k hk => h k (Or.inr hk)) hd
set_option maxRecDepth 100000 in
theorem open_sl {α : Type} [Inhabited α] {P : Program} {t e : TypeId} {s : Nat} {f : α → List Value} {Q : α → Prop} (ht : P.underlying t = some (.slice e)) (hC : P.cellsOf e = s) (hs : 0 < s) (hf : ∀ x, (f x).length = s)
    (elem : ∀ {m : Nat} {cs : List Value} {x : DataW H × List MemPlace}, DataW.trod enc P w 0 (fun _ => true) held m e cs = some x → Sz P e x.1 → ∃ z : α, cs = f z ∧ Q z)
    {fuel : Nat} {cs : List Value} {x : DataW H × List MemPlace} (h : DataW.trod enc P w 0 (fun _ => true) held fuel t cs = some x) (hw : Sz P t x.1) :
    ∃ v, cs = [v] ∧ ∃ Z : List α, CIn w.heap.size w v Z.length s (Z.flatMap f) ∧ (∀ z ∈ Z, Q z) ∧ Z.length * P.bytesOf e ≤ 140737488355328 := by
  rcases open_slice ht h with ⟨rfl, rfl⟩ | ⟨y, len, c, m, n, D, Pl, rfl, _, hl, hm, hmm, rfl, hi⟩
  · exact ⟨_, rfl, [], ⟨none, 0, ⟨rfl, Nat.le_refl _⟩, by simp, (fun i hi => by simp at hi)⟩, (fun z hz => by cases hz), by simp⟩
  · simp only [if_true] at hmm
    subst hmm
    rw [hC] at hi
    have hw' : (∀ k, k = (len + (m - len)) * P.bytesOf e → k ≤ 140737488355328) ∧ ∀ k ∈ DataW.weightsAll P e ((List.range len).map D), k ≤ 140737488355328 := by
      have h0 : ∀ k ∈ (((List.range len).map D).length + ((List.range (m - len)).map fun j => D (len + j)).length) * P.bytesOf e :: (DataW.weightsAll P e ((List.range len).map D) ++ DataW.weightsAll P e ((List.range (m - len)).map fun j => D (len + j))), k ≤ 140737488355328 := by
        have := hw
        unfold Sz at this
        simp only [DataW.weights, ht] at this
        exact this
      refine ⟨fun k hk => h0 k ?_, fun k hk => h0 k (List.mem_cons_of_mem _ (List.mem_append_left _ hk))⟩
      rw [hk]; simp
    obtain ⟨g, hg⟩ := choose_lt (α := α) (n := len) (p := fun i z => (∀ k, k < s → w.cell? ((y.add (i * s)).add k) = (f z)[k]?) ∧ Q z) (fun i hil => by
      obtain ⟨cs', hc, htr⟩ := hi i (by omega)
      obtain ⟨_, hlc, hat⟩ := World.cells?_some hc
      obtain ⟨z, rfl, hz⟩ := elem htr (sz_all hw'.2 (List.mem_map.2 ⟨i, by simpa using hil, rfl⟩))
      exact ⟨z, hat, hz⟩)
    have hlen : ((List.range len).map g).length = len := by simp
    refine ⟨_, rfl, (List.range len).map g, ⟨some y, m, ⟨by rw [hlen], by rw [hlen]; omega⟩, ?_, ?_⟩, ?_, ?_⟩
    · have : ∀ L : List α, (L.flatMap f).length = L.length * s := fun L => by
        induction L with
        | nil => simp
        | cons a L ih => rw [List.flatMap_cons, List.length_append, hf, ih, List.length_cons, Nat.add_mul]; omega
      exact this _
    · have hL : ∀ L : List α, (L.flatMap f).length = L.length * s := fun L => by
        induction L with
        | nil => simp
        | cons a L ih => rw [List.flatMap_cons, List.length_append, hf, ih, List.length_cons, Nat.add_mul]; omega
      intro i hi'
      rw [hL, hlen] at hi'
      have hl0 : 0 < len := by rcases Nat.eq_zero_or_pos len with h0 | h0; (subst h0; simp at hi'); exact h0
      obtain ⟨b, off, spot⟩ := y
      have hx : ∃ v, (f (g 0))[0]? = some v := ⟨(f (g 0))[0]'(by rw [hf]; exact hs), by simp⟩
      obtain ⟨v0, hv0⟩ := hx
      have h0 := ((hg 0 hl0).1 0 hs).trans hv0
      have hspot : spot = none := by simpa [Addr.add] using World.cell?_spot h0
      subst hspot
      have hb : b < w.heap.size := by
        rw [add_addP] at h0
        exact cellLt h0
      refine ⟨b, off, rfl, hb, hb, fun j hj => ?_⟩
      rw [hL, hlen] at hj
      have hj1 : j / s < len := (Nat.div_lt_iff_lt_mul hs).2 hj
      have hj2 : j % s < s := Nat.mod_lt _ hs
      have hj3 : j = j / s * s + j % s := by rw [Nat.mul_comm]; exact (Nat.div_add_mod j s).symm
      have h1 := (hg (j / s) hj1).1 (j % s) hj2
      rw [add_addP] at h1
      have h2 := flat_get f s hf ((List.range len).map g) (j / s) (j % s) (by rw [hlen]; exact hj1) hj2
      simp only [List.getElem_map, List.getElem_range] at h2
      rw [hj3, h2, ← Nat.add_assoc]
      exact h1
    · intro z hz
      obtain ⟨i, hi', rfl⟩ := List.mem_map.1 hz
      exact (hg i (by simpa using hi')).2
    · rw [hlen]
      have := hw'.1 _ rfl
      refine Nat.le_trans (Nat.mul_le_mul_right _ ?_) this
      omega
theorem trod_struct5 {P : Program} {base : Nat} {spare : Nat → Bool} {t : TypeId} {f0 f1 f2 f3 f4 : Field} {fuel : Nat} {cs : List Value} {x : DataW H × List MemPlace} (ht : P.underlying t = some (.struct #[f0, f1, f2, f3, f4])) (h : DataW.trod enc P w base spare held fuel t cs = some x) :
    ∃ y0 y1 y2 y3 y4 n, x.1 = .agg [y0.1, y1.1, y2.1, y3.1, y4.1] ∧ cs.length = P.cellsOf t ∧ DataW.trod enc P w base spare held n f0.type ((cs.drop f0.offset).take (P.cellsOf f0.type)) = some y0 ∧
      DataW.trod enc P w base spare held n f1.type ((cs.drop f1.offset).take (P.cellsOf f1.type)) = some y1 ∧ DataW.trod enc P w base spare held n f2.type ((cs.drop f2.offset).take (P.cellsOf f2.type)) = some y2 ∧
      DataW.trod enc P w base spare held n f3.type ((cs.drop f3.offset).take (P.cellsOf f3.type)) = some y3 ∧ DataW.trod enc P w base spare held n f4.type ((cs.drop f4.offset).take (P.cellsOf f4.type)) = some y4 := by
  obtain ⟨xs, n, _, rfl, hl, hlen, hf⟩ := DataW.trod_struct ht h
  match xs, hlen with
  | [y0, y1, y2, y3, y4], _ => exact ⟨y0, y1, y2, y3, y4, n, by simp, hl, by simpa using hf 0 f0 rfl, by simpa using hf 1 f1 rfl, by simpa using hf 2 f2 rfl, by simpa using hf 3 f3 rfl, by simpa using hf 4 f4 rfl⟩
theorem trod_struct7 {P : Program} {base : Nat} {spare : Nat → Bool} {t : TypeId} {f0 f1 f2 f3 f4 f5 f6 : Field} {fuel : Nat} {cs : List Value} {x : DataW H × List MemPlace} (ht : P.underlying t = some (.struct #[f0, f1, f2, f3, f4, f5, f6])) (h : DataW.trod enc P w base spare held fuel t cs = some x) :
    ∃ y0 y1 y2 y3 y4 y5 y6 n, x.1 = .agg [y0.1, y1.1, y2.1, y3.1, y4.1, y5.1, y6.1] ∧ cs.length = P.cellsOf t ∧ DataW.trod enc P w base spare held n f0.type ((cs.drop f0.offset).take (P.cellsOf f0.type)) = some y0 ∧
      DataW.trod enc P w base spare held n f1.type ((cs.drop f1.offset).take (P.cellsOf f1.type)) = some y1 ∧ DataW.trod enc P w base spare held n f2.type ((cs.drop f2.offset).take (P.cellsOf f2.type)) = some y2 ∧
      DataW.trod enc P w base spare held n f3.type ((cs.drop f3.offset).take (P.cellsOf f3.type)) = some y3 ∧ DataW.trod enc P w base spare held n f4.type ((cs.drop f4.offset).take (P.cellsOf f4.type)) = some y4 ∧
      DataW.trod enc P w base spare held n f5.type ((cs.drop f5.offset).take (P.cellsOf f5.type)) = some y5 ∧ DataW.trod enc P w base spare held n f6.type ((cs.drop f6.offset).take (P.cellsOf f6.type)) = some y6 := by
  obtain ⟨xs, n, _, rfl, hl, hlen, hf⟩ := DataW.trod_struct ht h
  match xs, hlen with
  | [y0, y1, y2, y3, y4, y5, y6], _ => exact ⟨y0, y1, y2, y3, y4, y5, y6, n, by simp, hl, by simpa using hf 0 f0 rfl, by simpa using hf 1 f1 rfl, by simpa using hf 2 f2 rfl, by simpa using hf 3 f3 rfl, by simpa using hf 4 f4 rfl, by simpa using hf 5 f5 rfl, by simpa using hf 6 f6 rfl⟩
theorem inw_of {n : Int} (h : (Lit.int .i64 n).wf = true) : inW n := by
  simp [Lit.wf, IntKind.min, IntKind.max, IntKind.signed, IntKind.bits] at h
  unfold inW
  omega
/-- A string's cell. -/
theorem op_str {m : Nat} {v : Value} {y : DataW H × List MemPlace} (h : DataW.trod enc Tryz.prog w 0 (fun _ => true) held m 9 [v] = some y) (hz : Sz Tryz.prog 9 y.1) : ∃ l : Wd, v = .string (bs l) ∧ l.length ≤ 140737488355328 := by
  obtain ⟨s, e, rfl, _⟩ := DataW.trod_string Tryz.underlying9 h
  simp only [List.cons.injEq, and_true] at e
  subst e
  exact ⟨s.data.toList, by rw [bs_of], hz _ (by simp [DataW.weights])⟩
theorem op_int {m : Nat} {v : Value} {y : DataW H × List MemPlace} (h : DataW.trod enc Tryz.prog w 0 (fun _ => true) held m 3 [v] = some y) : ∃ n : Int, v = .int .i64 n ∧ inW n := by
  obtain ⟨n, e, _, wf⟩ := DataW.trod_int Tryz.underlying3 h
  simp only [List.cons.injEq, and_true] at e
  subst e
  exact ⟨n, rfl, inw_of wf⟩
theorem op_bool {m : Nat} {v : Value} {y : DataW H × List MemPlace} (h : DataW.trod enc Tryz.prog w 0 (fun _ => true) held m 4 [v] = some y) : ∃ b : Bool, v = .bool b := by
  obtain ⟨n, e, _⟩ := DataW.trod_bool Tryz.underlying4 h
  simp only [List.cons.injEq, and_true] at e
  exact ⟨n, e⟩
set_option maxRecDepth 100000 in
theorem open_eff {m : Nat} {cs : List Value} {x : DataW H × List MemPlace} (h : DataW.trod enc Tryz.prog w 0 (fun _ => true) held m 50 cs = some x) (hz : Sz Tryz.prog 50 x.1) : ∃ z : Eff, cs = effC z ∧ wfE z := by
  obtain ⟨y0, y1, y2, y3, y4, y5, y6, n, e, hl, h0, h1, h2, h3, h4, h5, h6⟩ := trod_struct7 Tryz.underlying50 h
  have hC : Tryz.prog.cellsOf 50 = 7 := by kernel_rfl
  rw [hC] at hl
  unfold Sz at hz
  rw [e] at hz
  simp only [DataW.weights, Tryz.underlying50, DataW.weightsEach, List.map_cons, List.map_nil, List.mem_append] at hz
  match cs, hl with
  | [v0, v1, v2, v3, v4, v5, v6], _ =>
    have g0 : DataW.trod enc Tryz.prog w 0 (fun _ => true) held n 3 [v0] = some y0 := h0
    have g1 : DataW.trod enc Tryz.prog w 0 (fun _ => true) held n 9 [v1] = some y1 := h1
    have g2 : DataW.trod enc Tryz.prog w 0 (fun _ => true) held n 9 [v2] = some y2 := h2
    have g3 : DataW.trod enc Tryz.prog w 0 (fun _ => true) held n 9 [v3] = some y3 := h3
    have g4 : DataW.trod enc Tryz.prog w 0 (fun _ => true) held n 3 [v4] = some y4 := h4
    have g5 : DataW.trod enc Tryz.prog w 0 (fun _ => true) held n 3 [v5] = some y5 := h5
    have g6 : DataW.trod enc Tryz.prog w 0 (fun _ => true) held n 3 [v6] = some y6 := h6
    obtain ⟨a0, rfl, i0⟩ := op_int g0
    obtain ⟨a1, rfl, i1⟩ := op_str g1 (fun k hk => hz k (Or.inr (Or.inl hk)))
    obtain ⟨a2, rfl, i2⟩ := op_str g2 (fun k hk => hz k (Or.inr (Or.inr (Or.inl hk))))
    obtain ⟨a3, rfl, i3⟩ := op_str g3 (fun k hk => hz k (Or.inr (Or.inr (Or.inr (Or.inl hk)))))
    obtain ⟨a4, rfl, i4⟩ := op_int g4
    obtain ⟨a5, rfl, i5⟩ := op_int g5
    obtain ⟨a6, rfl, i6⟩ := op_int g6
    exact ⟨⟨a0, a1, a2, a3, a4, a5, a6⟩, rfl, ⟨i0, i4, i5, i6, i1, i2, i3⟩⟩
/-- A list's rows as elements with a slice each. -/
theorem open_effs {m : Nat} {v : Value} {y : DataW H × List MemPlace} (h : DataW.trod enc Tryz.prog w 0 (fun _ => true) held m 44 [v] = some y) (hz : Sz Tryz.prog 44 y.1) :
    ∃ E : List Eff, XE w.heap.size w v E ∧ (∀ e ∈ E, wfE e) ∧ E.length * 80 ≤ 140737488355328 := by
  obtain ⟨v', e, E, h1, h2, h3⟩ := open_sl (s := 7) (f := effC) (Q := wfE) Tryz.underlying44 (by kernel_rfl) (by decide) (fun _ => rfl) open_eff h hz
  simp only [List.cons.injEq, and_true] at e
  subst e
  have e6 : Tryz.prog.bytesOf 50 = 80 := by kernel_rfl
  rw [e6] at h3
  exact ⟨E, h1, h2, h3⟩
set_option maxRecDepth 100000 in
theorem open_cs {m : Nat} {cs : List Value} {x : DataW H × List MemPlace} (h : DataW.trod enc Tryz.prog w 0 (fun _ => true) held m 72 cs = some x) (hz : Sz Tryz.prog 72 x.1) : ∃ z : Cs, cs = csC z ∧ wfC z := by
  obtain ⟨y0, y1, n, rfl, hl, h0, h1⟩ := trod_struct2 Tryz.underlying72 h
  have hC : Tryz.prog.cellsOf 72 = 2 := by kernel_rfl
  rw [hC] at hl
  unfold Sz at hz
  simp only [DataW.weights, Tryz.underlying72, DataW.weightsEach, List.map_cons, List.map_nil, List.mem_append] at hz
  match cs, hl with
  | [v0, v1], _ =>
    have g0 : DataW.trod enc Tryz.prog w 0 (fun _ => true) held n 9 [v0] = some y0 := h0
    have g1 : DataW.trod enc Tryz.prog w 0 (fun _ => true) held n 3 [v1] = some y1 := h1
    obtain ⟨a0, rfl, i0⟩ := op_str g0 (fun k hk => hz k (Or.inl hk))
    obtain ⟨a1, rfl, i1⟩ := op_int g1
    exact ⟨⟨a0, a1⟩, rfl, ⟨i1, i0⟩⟩
theorem open_css {m : Nat} {v : Value} {y : DataW H × List MemPlace} (h : DataW.trod enc Tryz.prog w 0 (fun _ => true) held m 37 [v] = some y) (hz : Sz Tryz.prog 37 y.1) :
    ∃ E : List Cs, XC w.heap.size w v E ∧ (∀ e ∈ E, wfC e) ∧ E.length * 24 ≤ 140737488355328 := by
  obtain ⟨v', e, E, h1, h2, h3⟩ := open_sl (s := 2) (f := csC) (Q := wfC) Tryz.underlying37 (by kernel_rfl) (by decide) (fun _ => rfl) open_cs h hz
  simp only [List.cons.injEq, and_true] at e
  subst e
  have e6 : Tryz.prog.bytesOf 72 = 24 := by kernel_rfl
  rw [e6] at h3
  exact ⟨E, h1, h2, h3⟩
/-- Sizes of a program that came in. -/
def szR (x : Rw) : Prop := x.effs.length ≤ 140737488355328
def szS (x : Sta) : Prop := x.rows.length ≤ 140737488355328 ∧ ∀ r ∈ x.rows, szR r
def szK (x : Kd) : Prop := x.cases.length ≤ 140737488355328 ∧ x.states.length ≤ 140737488355328 ∧ ∀ s ∈ x.states, szS s
def szP (P : List Kd) : Prop := P.length ≤ 140737488355328 ∧ ∀ k ∈ P, szK k
set_option maxRecDepth 100000 in
theorem open_row {m : Nat} {cs : List Value} {x : DataW H × List MemPlace} (h : DataW.trod enc Tryz.prog w 0 (fun _ => true) held m 46 cs = some x) (hz : Sz Tryz.prog 46 x.1) :
    ∃ z : Rw × Value, cs = rowCs z ∧ XE w.heap.size w z.2 z.1.effs ∧ wfR z.1 ∧ szR z.1 := by
  obtain ⟨y0, y1, y2, y3, n, rfl, hl, h0, h1, h2, h3⟩ := trod_struct4 Tryz.underlying46 h
  have hC : Tryz.prog.cellsOf 46 = 4 := by kernel_rfl
  rw [hC] at hl
  unfold Sz at hz
  simp only [DataW.weights, Tryz.underlying46, DataW.weightsEach, List.map_cons, List.map_nil, List.mem_append] at hz
  match cs, hl with
  | [v0, v1, v2, v3], _ =>
    have g0 : DataW.trod enc Tryz.prog w 0 (fun _ => true) held n 9 [v0] = some y0 := h0
    have g1 : DataW.trod enc Tryz.prog w 0 (fun _ => true) held n 4 [v1] = some y1 := h1
    have g2 : DataW.trod enc Tryz.prog w 0 (fun _ => true) held n 3 [v2] = some y2 := h2
    have g3 : DataW.trod enc Tryz.prog w 0 (fun _ => true) held n 44 [v3] = some y3 := h3
    obtain ⟨a0, rfl, i0⟩ := op_str g0 (fun k hk => hz k (Or.inl hk))
    obtain ⟨a1, rfl⟩ := op_bool g1
    obtain ⟨a2, rfl, i2⟩ := op_int g2
    obtain ⟨E, x3, i3, s3⟩ := open_effs g3 (fun k hk => hz k (Or.inr (Or.inr (Or.inr (Or.inl hk)))))
    exact ⟨(⟨a0, a1, a2, E⟩, v3), rfl, x3, ⟨i2, i0, i3⟩, by unfold szR; dsimp only; omega⟩
theorem open_rows {m : Nat} {v : Value} {y : DataW H × List MemPlace} (h : DataW.trod enc Tryz.prog w 0 (fun _ => true) held m 41 [v] = some y) (hz : Sz Tryz.prog 41 y.1) :
    ∃ R : List Rw, XR w.heap.size w v R ∧ (∀ e ∈ R, wfR e) ∧ (∀ e ∈ R, szR e) ∧ R.length ≤ 140737488355328 := by
  obtain ⟨v', e, Z, h1, h2, h3⟩ := open_sl (s := 4) (f := rowCs) (Q := fun z => XE w.heap.size w z.2 z.1.effs ∧ wfR z.1 ∧ szR z.1) Tryz.underlying41 (by kernel_rfl) (by decide) (fun _ => rfl) open_row h hz
  simp only [List.cons.injEq, and_true] at e
  subst e
  have e6 : Tryz.prog.bytesOf 46 = 56 := by kernel_rfl
  rw [e6] at h3
  refine ⟨Z.map Prod.fst, ⟨Z, rfl, by rw [List.length_map]; exact h1, fun x hx => (h2 x hx).1⟩, fun e he => ?_, fun e he => ?_, by rw [List.length_map]; omega⟩
  · obtain ⟨z, hz', rfl⟩ := List.mem_map.1 he; exact (h2 z hz').2.1
  · obtain ⟨z, hz', rfl⟩ := List.mem_map.1 he; exact (h2 z hz').2.2
set_option maxRecDepth 100000 in
theorem open_sta {m : Nat} {cs : List Value} {x : DataW H × List MemPlace} (h : DataW.trod enc Tryz.prog w 0 (fun _ => true) held m 43 cs = some x) (hz : Sz Tryz.prog 43 x.1) :
    ∃ z : Sta × Value, cs = staCs z ∧ XR w.heap.size w z.2 z.1.rows ∧ wfS z.1 ∧ szS z.1 := by
  obtain ⟨y0, y1, n, rfl, hl, h0, h1⟩ := trod_struct2 Tryz.underlying43 h
  have hC : Tryz.prog.cellsOf 43 = 2 := by kernel_rfl
  rw [hC] at hl
  unfold Sz at hz
  simp only [DataW.weights, Tryz.underlying43, DataW.weightsEach, List.map_cons, List.map_nil, List.mem_append] at hz
  match cs, hl with
  | [v0, v1], _ =>
    have g0 : DataW.trod enc Tryz.prog w 0 (fun _ => true) held n 9 [v0] = some y0 := h0
    have g1 : DataW.trod enc Tryz.prog w 0 (fun _ => true) held n 41 [v1] = some y1 := h1
    obtain ⟨a0, rfl, i0⟩ := op_str g0 (fun k hk => hz k (Or.inl hk))
    obtain ⟨R, x3, i3, s3, s4⟩ := open_rows g1 (fun k hk => hz k (Or.inr (Or.inl hk)))
    exact ⟨(⟨a0, R⟩, v1), rfl, x3, ⟨i0, i3⟩, ⟨s4, s3⟩⟩
theorem open_stas {m : Nat} {v : Value} {y : DataW H × List MemPlace} (h : DataW.trod enc Tryz.prog w 0 (fun _ => true) held m 38 [v] = some y) (hz : Sz Tryz.prog 38 y.1) :
    ∃ R : List Sta, XS w.heap.size w v R ∧ (∀ e ∈ R, wfS e) ∧ (∀ e ∈ R, szS e) ∧ R.length ≤ 140737488355328 := by
  obtain ⟨v', e, Z, h1, h2, h3⟩ := open_sl (s := 2) (f := staCs) (Q := fun z => XR w.heap.size w z.2 z.1.rows ∧ wfS z.1 ∧ szS z.1) Tryz.underlying38 (by kernel_rfl) (by decide) (fun _ => rfl) open_sta h hz
  simp only [List.cons.injEq, and_true] at e
  subst e
  have e6 : Tryz.prog.bytesOf 43 = 40 := by kernel_rfl
  rw [e6] at h3
  refine ⟨Z.map Prod.fst, ⟨Z, rfl, by rw [List.length_map]; exact h1, fun x hx => (h2 x hx).1⟩, fun e he => ?_, fun e he => ?_, by rw [List.length_map]; omega⟩
  · obtain ⟨z, hz', rfl⟩ := List.mem_map.1 he; exact (h2 z hz').2.1
  · obtain ⟨z, hz', rfl⟩ := List.mem_map.1 he; exact (h2 z hz').2.2
set_option maxRecDepth 100000 in
theorem open_kd {m : Nat} {cs : List Value} {x : DataW H × List MemPlace} (h : DataW.trod enc Tryz.prog w 0 (fun _ => true) held m 40 cs = some x) (hz : Sz Tryz.prog 40 x.1) :
    ∃ z : Kd × Value × Value, cs = kdCs z ∧ (XC w.heap.size w z.2.1 z.1.cases ∧ XS w.heap.size w z.2.2 z.1.states) ∧ wfK z.1 ∧ szK z.1 := by
  obtain ⟨y0, y1, y2, y3, y4, n, e, hl, h0, h1, h2, h3, h4⟩ := trod_struct5 Tryz.underlying40 h
  have hC : Tryz.prog.cellsOf 40 = 5 := by kernel_rfl
  rw [hC] at hl
  unfold Sz at hz
  rw [e] at hz
  simp only [DataW.weights, Tryz.underlying40, DataW.weightsEach, List.map_cons, List.map_nil, List.mem_append] at hz
  match cs, hl with
  | [v0, v1, v2, v3, v4], _ =>
    have g0 : DataW.trod enc Tryz.prog w 0 (fun _ => true) held n 9 [v0] = some y0 := h0
    have g1 : DataW.trod enc Tryz.prog w 0 (fun _ => true) held n 3 [v1] = some y1 := h1
    have g2 : DataW.trod enc Tryz.prog w 0 (fun _ => true) held n 3 [v2] = some y2 := h2
    have g3 : DataW.trod enc Tryz.prog w 0 (fun _ => true) held n 37 [v3] = some y3 := h3
    have g4 : DataW.trod enc Tryz.prog w 0 (fun _ => true) held n 38 [v4] = some y4 := h4
    obtain ⟨a0, rfl, i0⟩ := op_str g0 (fun k hk => hz k (Or.inl hk))
    obtain ⟨a1, rfl, i1⟩ := op_int g1
    obtain ⟨a2, rfl, i2⟩ := op_int g2
    obtain ⟨C, x3, i3, s3⟩ := open_css g3 (fun k hk => hz k (Or.inr (Or.inr (Or.inr (Or.inl hk)))))
    obtain ⟨S, x4, i4, s4, s5⟩ := open_stas g4 (fun k hk => hz k (Or.inr (Or.inr (Or.inr (Or.inr (Or.inl hk))))))
    exact ⟨(⟨a0, a1, a2, C, S⟩, v3, v4), rfl, ⟨x3, x4⟩, ⟨i1, i2, i0, i3, i4⟩, ⟨by dsimp only; omega, s5, s4⟩⟩
theorem open_kds {m : Nat} {v : Value} {y : DataW H × List MemPlace} (h : DataW.trod enc Tryz.prog w 0 (fun _ => true) held m 23 [v] = some y) (hz : Sz Tryz.prog 23 y.1) :
    ∃ R : List Kd, XK w.heap.size w v R ∧ wfP R ∧ szP R := by
  obtain ⟨v', e, Z, h1, h2, h3⟩ := open_sl (s := 5) (f := kdCs) (Q := fun z => (XC w.heap.size w z.2.1 z.1.cases ∧ XS w.heap.size w z.2.2 z.1.states) ∧ wfK z.1 ∧ szK z.1) Tryz.underlying23 (by kernel_rfl) (by decide) (fun _ => rfl) open_kd h hz
  simp only [List.cons.injEq, and_true] at e
  subst e
  have e6 : Tryz.prog.bytesOf 40 = 80 := by kernel_rfl
  rw [e6] at h3
  refine ⟨Z.map Prod.fst, ⟨Z, rfl, by rw [List.length_map]; exact h1, fun x hx => (h2 x hx).1⟩, fun e he => ?_, ⟨by rw [List.length_map]; omega, fun e he => ?_⟩⟩
  · obtain ⟨z, hz', rfl⟩ := List.mem_map.1 he; exact (h2 z hz').2.1
  · obtain ⟨z, hz', rfl⟩ := List.mem_map.1 he; exact (h2 z hz').2.2
set_option maxRecDepth 100000 in
/-- A program that came in. -/
theorem open_prog {m : Nat} {v : Value} {y : DataW H × List MemPlace} (hok : ∃ cs, v = .agg cs) (h : DataW.trod enc Tryz.prog w 0 (fun _ => true) held m 25 v.cells.toList = some y) (hz : Sz Tryz.prog 25 y.1) :
    ∃ sl P, v = .agg #[sl] ∧ XK w.heap.size w sl P ∧ wfP P ∧ szP P := by
  obtain ⟨⟨cs⟩, rfl⟩ := hok
  have h' : DataW.trod enc Tryz.prog w 0 (fun _ => true) held m 25 cs = some y := h
  obtain ⟨y0, n, rfl, hl, h0⟩ := trod_struct1 Tryz.underlying25 h'
  have hC : Tryz.prog.cellsOf 25 = 1 := by kernel_rfl
  rw [hC] at hl
  unfold Sz at hz
  simp only [DataW.weights, Tryz.underlying25, DataW.weightsEach, List.map_cons, List.map_nil, List.mem_append] at hz
  match cs, hl with
  | [v0], _ =>
    have g0 : DataW.trod enc Tryz.prog w 0 (fun _ => true) held n 23 [v0] = some y0 := h0
    obtain ⟨P, x1, x2, x3⟩ := open_kds g0 (fun k hk => hz k (Or.inl hk))
    exact ⟨v0, P, rfl, x1, x2, x3⟩
end
end Go.Proofs.YtnkokonkbklelaaGreatDoor.Ps
