/- check: ofState, ofKind, whole, Program. -/
import Derived.Test.YthanclicnkjmiaaGreatDoorChN
set_option linter.unusedVariables false
namespace Go.Proofs.YthanclicnkjmiaaGreatDoor.Ch
open Go.RowKit Go.Proofs.YthanclicnkjmiaaGreatDoor Lx Ps

set_option maxHeartbeats 16000000 in
set_option maxRecDepth 100000 in
theorem ofState_any {D : Nat} {w : World} {P : List Kd} {a0 : Option Addr} {nP c0 : Nat} {x : Kd} {a1 a2 : Option Addr} {nC c1 nS c2 : Nat} (hP : VK D w P a0 nP c0) (hX : VX D w x a1 nC c1 a2 nS c2) (hD : Hid (D ≤ w.heap.size)) (i : Nat) (hi : i < nS) :
    Calls Tryz.prog 106 #[.agg #[.slice a0 nP c0, .string (bs x.name), .int .i64 x.limit, .int .i64 x.within, .slice a1 nC c1, .slice a2 nS c2, .string (bs []), .slice none 0 0, .string (bs []), .bool false, .int .i64 0, .slice none 0 0], .int .i64 (i : Int)] w fun e w' => BadR w.heap.size w' e (ofSta (P.map Kd.name) x.states i) ∧ Only Nil w w' := by
  obtain ⟨W1, hW1⟩ : ∃ W1, W1 = (w.alloc (.cells #[.slice a0 nP c0, .string (bs x.name), .int .i64 x.limit, .int .i64 x.within, .slice a1 nC c1, .slice a2 nS c2, .string (bs []), .slice none 0 0, .string (bs []), .bool false, .int .i64 0, .slice none 0 0] 93)).alloc (.cells #[.int .i64 (i : Int)] 3) := ⟨_, rfl⟩
  obtain ⟨o1, b1, b2⟩ : Only Nil w W1 ∧ Bx W1 w.heap.size [.slice a0 nP c0, .string (bs x.name), .int .i64 x.limit, .int .i64 x.within, .slice a1 nC c1, .slice a2 nS c2, .string (bs []), .slice none 0 0, .string (bs []), .bool false, .int .i64 0, .slice none 0 0] 93 ∧ Bx W1 (w.heap.size + 1) [.int .i64 (i : Int)] 3 := two_box hW1
  have c_5 := b1.cell 5 (v := .slice a2 nS c2) rfl
  have c_6 := b1.cell 6 (v := .string (bs [])) rfl
  have c_7 := b1.cell 7 (v := .slice none 0 0) rfl
  have k0 := b2.cell 0 (v := .int .i64 (i : Int)) rfl
  obtain ⟨s1, ⟨q, off, rfl, hlt, hc⟩, gE⟩ := (hX.keep o1).s.at_ hX.sn i hi
  obtain ⟨a3, c3, rfl⟩ := gE.slice
  have hil : i < x.states.length := by rw [hX.sn]; exact hi
  have hg : gt x.states i = x.states[i] := gt_eq hil
  have hwf := hX.wf.states _ (List.getElem_mem hil)
  have hsz := hX.sz.2.2 _ (List.getElem_mem hil)
  have hres : ofSta (P.map Kd.name) x.states i = firstO [un 43 (isNm x.states[i].name), un 41 (isNew (x.states.map Sta.name) i), un 40 (decide (x.states[i].rows.length ≤ 16)), eachO x.states[i].rows.length (ofRow (P.map Kd.name) (x.states.map Sta.name) x.states[i].rows)] := by
    unfold ofSta; rw [hg]
  rw [hres]
  clear hres hg
  generalize x.states[i] = y at *
  generalize hnR : y.rows.length = nR at *
  have hbR : nR ≤ 140737488355328 := by rw [← hnR]; exact hsz.1
  have e0 : W1.cell? ⟨q, off + i * 2, none⟩ = some (.string (bs y.name)) := hc 0 (by decide)
  have e1 : W1.cell? ⟨q, off + i * 2 + 1, none⟩ = some (.slice a3 nR c3) := hc 1 (by decide)
  have f6 : W1.frozen? ⟨w.heap.size, 6, none⟩ = false := by (have h := b1; unfold Bx at h; simp [World.frozen?, h])
  have f7 : W1.frozen? ⟨w.heap.size, 7, none⟩ = false := by (have h := b1; unfold Bx at h; simp [World.frozen?, h])
  obtain ⟨W2, hW2⟩ : ∃ W2, W2 = ((W1.setCell ⟨w.heap.size, 6, none⟩ (.string (bs y.name))).setCell ⟨w.heap.size, 7, none⟩ (.slice a3 nR c3)) := ⟨_, rfl⟩
  have b3 : Bx W2 w.heap.size [.slice a0 nP c0, .string (bs x.name), .int .i64 x.limit, .int .i64 x.within, .slice a1 nC c1, .slice (some ⟨q, off, none⟩) nS c2, .string (bs y.name), .slice a3 nR c3, .string (bs []), .bool false, .int .i64 0, .slice none 0 0] 93 := by rw [hW2]; exact (heap_setCell_self (.slice a3 nR c3) (heap_setCell_self (.string (bs y.name)) b1))
  have o12 : Only (fun k => k = w.heap.size) W1 W2 := by rw [hW2]; exact (((Only.refl (fun k => k = w.heap.size) W1).setCell (p := ⟨w.heap.size, 6, none⟩) rfl (.string (bs y.name))).setCell (p := ⟨w.heap.size, 7, none⟩) rfl (.slice a3 nR c3))
  have o2 : Only Nil w W2 := o1.then o12 (fun k hk hlt => by omega)
  have b4 : Bx W2 (w.heap.size + 1) [.int .i64 (i : Int)] 3 := (o12.block _ (lt_of_block b2) (by omega)).trans b2
  have HP2 := Lib.hid (hP.keep o2)
  have HX2 := Lib.hid (hX.keep o2)
  have HY2 : Hid (VY D W2 y a3 nR c3) := Lib.hid ⟨gE.keep o12 (fun b hb hk => by have := hD.out; omega), hnR, hbR, hsz, hwf⟩
  have HD2 := Lib.hid (Nat.le_trans hD.out o2.size)
  have O2 := Lib.hid o2
  have VB := Lib.hid b3
  have AB := Lib.hid (b4.cell 0 (v := .int .i64 (i : Int)) rfl)
  have CC := Lib.hid (show ∀ w', Only Nil W2 w' → (fun w' : World => w'.cell? ⟨w.heap.size, 0, none⟩ = some (.slice a0 nP c0) ∧ w'.cell? ⟨w.heap.size, 1, none⟩ = some (.string (bs x.name)) ∧ w'.cell? ⟨w.heap.size, 2, none⟩ = some (.int .i64 x.limit) ∧ w'.cell? ⟨w.heap.size, 3, none⟩ = some (.int .i64 x.within) ∧ w'.cell? ⟨w.heap.size, 4, none⟩ = some (.slice a1 nC c1) ∧ w'.cell? ⟨w.heap.size, 5, none⟩ = some (.slice (some ⟨q, off, none⟩) nS c2) ∧ w'.cell? ⟨w.heap.size, 6, none⟩ = some (.string (bs y.name)) ∧ w'.cell? ⟨w.heap.size, 7, none⟩ = some (.slice a3 nR c3) ∧ w'.cell? ⟨w.heap.size, 8, none⟩ = some (.string (bs [])) ∧ w'.cell? ⟨w.heap.size, 9, none⟩ = some (.bool false) ∧ w'.cell? ⟨w.heap.size, 10, none⟩ = some (.int .i64 0) ∧ w'.cell? ⟨w.heap.size, 11, none⟩ = some (.slice none 0 0)) w' from fun w' o => ⟨only_cell0 o (b3.cell 0 rfl), only_cell0 o (b3.cell 1 rfl), only_cell0 o (b3.cell 2 rfl), only_cell0 o (b3.cell 3 rfl), only_cell0 o (b3.cell 4 rfl), only_cell0 o (b3.cell 5 rfl), only_cell0 o (b3.cell 6 rfl), only_cell0 o (b3.cell 7 rfl), only_cell0 o (b3.cell 8 rfl), only_cell0 o (b3.cell 9 rfl), only_cell0 o (b3.cell 10 rfl), only_cell0 o (b3.cell 11 rfl)⟩)
  have T1 : TestOK W2 (.func (.func 143) #[] #[.pointer (some ⟨w.heap.size, 0, none⟩)]) (isNm y.name) := ⟨_, _, _, rfl, enters_of Tryz.func143 (by kernel_rfl) rfl, fun w' o => os1_any (D := 0) w.heap.size (VB.out.keep o) hwf.name⟩
  have U1 : Hid (∀ w', Only Nil W2 w' → Calls Tryz.prog 59 #[.int .i64 43, .func (.func 143) #[] #[.pointer (some ⟨w.heap.size, 0, none⟩)]] w' fun e w'' => ∃ g cs cb, e = .returned (.func (.func g) cs cb) ∧ LookOK w'' (.func (.func g) cs cb) (un 43 (isNm y.name)) ∧ Only Nil w' w'') := Lib.hid (fun w' o => unless_any 43 (T1.keep o))
  have T2 : TestOK W2 (.func (.func 144) #[] #[.pointer (some ⟨w.heap.size, 0, none⟩), .pointer (some ⟨w.heap.size + 1, 0, none⟩)]) (isNew (x.states.map Sta.name) i) := ⟨_, _, _, rfl, enters_of Tryz.func144 (by kernel_rfl) rfl, fun w' o => os2_any (HX2.out.keep o) w.heap.size (VB.out.keep o) i (w.heap.size + 1) hi (only_cell0 o AB.out)⟩
  have U2 : Hid (∀ w', Only Nil W2 w' → Calls Tryz.prog 59 #[.int .i64 41, .func (.func 144) #[] #[.pointer (some ⟨w.heap.size, 0, none⟩), .pointer (some ⟨w.heap.size + 1, 0, none⟩)]] w' fun e w'' => ∃ g cs cb, e = .returned (.func (.func g) cs cb) ∧ LookOK w'' (.func (.func g) cs cb) (un 41 (isNew (x.states.map Sta.name) i)) ∧ Only Nil w' w'') := Lib.hid (fun w' o => unless_any 41 (T2.keep o))
  have T3 : TestOK W2 (.func (.func 147) #[] #[.pointer (some ⟨w.heap.size, 0, none⟩)]) (decide (nR ≤ 16)) := ⟨_, _, _, rfl, enters_of Tryz.func147 (by kernel_rfl) rfl, fun w' o => (os3_any w.heap.size (VB.out.keep o)).mono fun e w'' ⟨h1, h2⟩ => ⟨h1, h2 ▸ Only.refl _ _⟩⟩
  have U3 : Hid (∀ w', Only Nil W2 w' → Calls Tryz.prog 59 #[.int .i64 40, .func (.func 147) #[] #[.pointer (some ⟨w.heap.size, 0, none⟩)]] w' fun e w'' => ∃ g cs cb, e = .returned (.func (.func g) cs cb) ∧ LookOK w'' (.func (.func g) cs cb) (un 40 (decide (nR ≤ 16))) ∧ Only Nil w' w'') := Lib.hid (fun w' o => unless_any 40 (T3.keep o))
  have T4 : FindOK W2 (.func (.func 148) #[.agg #[.slice a0 nP c0, .string (bs x.name), .int .i64 x.limit, .int .i64 x.within, .slice a1 nC c1, .slice (some ⟨q, off, none⟩) nS c2, .string (bs y.name), .slice a3 nR c3, .string (bs []), .bool false, .int .i64 0, .slice none 0 0]] #[]) nR (ofRow (P.map Kd.name) (x.states.map Sta.name) y.rows) := ⟨_, _, _, rfl, enters_of Tryz.func148 (by kernel_rfl) rfl, fun i w' hi o => ofRow_any (HP2.out.keep o) (HX2.out.keep o) (HY2.out.keep o) (Lib.hid (Nat.le_trans HD2.out o.size)) i hi⟩
  have U4 := Lib.hid (fun w' (o : Only Nil W2 w') => each_any (T4.keep o) (hbR) (fun i x _ h => row_short i x h))
  have OO := Lib.hid (show Only Nil W2 W2.drew from (Only.refl Nil W2).drew)
  have HS := Lib.hid o2.size
  have hi' : (i : Int) < (nS : Int) := by omega
  clear hc o1 o2 o12 b1 b2 b3 b4 VB AB hP hX gE hwf hsz hil hi hnR hbR HP2 HX2 HY2 HD2 T1 T2 T3 T4
  go_enter Tryz.func106, Tryz.ntmps106
  go_upto_region 1 with (fail)
  (try simp only [World.size_alloc]); rw [← hW1]; clear hW1
  go_upto_region 2 with (fail)
  rw [← hW2]; clear hW2
  clear e0 e1 f6 f7 c_5 c_6 c_7 k0
  generalize hB : w.heap.size = B at *
  have HB := Lib.hid hB
  clear hB
  have hmf : ∀ (fn : Fn) (first cap : Array Value) (w : World), (Instr.makeFunc fn first cap).run Tryz.prog w = .ok (.func fn first cap) w := fun _ _ _ _ => rfl
  refine wp_region_held_drew (S := fun w' => w'.cell? ⟨B, 0, none⟩ = some (.slice a0 nP c0) ∧ w'.cell? ⟨B, 1, none⟩ = some (.string (bs x.name)) ∧ w'.cell? ⟨B, 2, none⟩ = some (.int .i64 x.limit) ∧ w'.cell? ⟨B, 3, none⟩ = some (.int .i64 x.within) ∧ w'.cell? ⟨B, 4, none⟩ = some (.slice a1 nC c1) ∧ w'.cell? ⟨B, 5, none⟩ = some (.slice (some ⟨q, off, none⟩) nS c2) ∧ w'.cell? ⟨B, 6, none⟩ = some (.string (bs y.name)) ∧ w'.cell? ⟨B, 7, none⟩ = some (.slice a3 nR c3) ∧ w'.cell? ⟨B, 8, none⟩ = some (.string (bs [])) ∧ w'.cell? ⟨B, 9, none⟩ = some (.bool false) ∧ w'.cell? ⟨B, 10, none⟩ = some (.int .i64 0) ∧ w'.cell? ⟨B, 11, none⟩ = some (.slice none 0 0)) (by kernel_rfl) (CC.out _ OO.out) (fun hHeld => ?_)
  refine take_dst (some 12) (i := 0) (v := ?vh1) rfl (by kernel_rfl) (by kernel_rfl) (by kernel_rfl) (by kernel_rfl) (fun _ _ _ h => h) (Or.inl ⟨by kernel_rfl, ?hh1⟩) (by assumption) ?rh1
  case hh1 => (intro w hSw; (try dsimp only at hSw); first | (go_simp; done) | (go_simp; with_reducible rfl))
  try simp only [Act.put, List.setIfInBounds_toArray, List.set_cons_zero, List.set_cons_succ]
  refine take_dst (some 14) (i := 2) (v := ?vh2) rfl (by kernel_rfl) (by kernel_rfl) (by kernel_rfl) (by kernel_rfl) (fun _ _ _ h => h) (Or.inl ⟨by kernel_rfl, ?hh2⟩) (by assumption) ?rh2
  case hh2 => (intro w hSw; (try dsimp only at hSw); first | (go_simp; done) | (go_simp; with_reducible rfl))
  try simp only [Act.put, List.setIfInBounds_toArray, List.set_cons_zero, List.set_cons_succ]
  refine take_dst (some 16) (i := 4) (v := ?vh3) rfl (by kernel_rfl) (by kernel_rfl) (by kernel_rfl) (by kernel_rfl) (fun _ _ _ h => h) (Or.inl ⟨by kernel_rfl, ?hh3⟩) (by assumption) ?rh3
  case hh3 => (intro w hSw; (try dsimp only at hSw); first | (go_simp; done) | (go_simp; with_reducible rfl))
  try simp only [Act.put, List.setIfInBounds_toArray, List.set_cons_zero, List.set_cons_succ]
  refine take_dst (some 18) (i := 6) (v := ?vh4) rfl (by kernel_rfl) (by kernel_rfl) (by kernel_rfl) (by kernel_rfl) (fun _ _ _ h => h) (Or.inl ⟨by kernel_rfl, ?hh4⟩) (by assumption) ?rh4
  case hh4 => (intro w hSw; (try dsimp only at hSw); first | (go_simp; done) | (go_simp; with_reducible rfl))
  try simp only [Act.put, List.setIfInBounds_toArray, List.set_cons_zero, List.set_cons_succ]
  refine take_dst (some 19) (i := 7) (v := ?vh5) rfl (by kernel_rfl) (by kernel_rfl) (by kernel_rfl) (by kernel_rfl) (fun _ _ _ h => h) (Or.inl ⟨by kernel_rfl, ?hh5⟩) (by assumption) ?rh5
  case hh5 => (intro w hSw; (try dsimp only at hSw); first | (go_simp; done) | (go_simp; with_reducible rfl))
  try simp only [Act.put, List.setIfInBounds_toArray, List.set_cons_zero, List.set_cons_succ]
  refine take_dst (some 20) (i := 8) (v := ?vh6) rfl (by kernel_rfl) (by kernel_rfl) (by kernel_rfl) (by kernel_rfl) (fun _ _ _ h => h) (Or.inl ⟨by kernel_rfl, ?hh6⟩) (by assumption) ?rh6
  case hh6 => (intro w hSw; (try dsimp only at hSw); first | (go_simp; done) | (go_simp; with_reducible rfl))
  try simp only [Act.put, List.setIfInBounds_toArray, List.set_cons_zero, List.set_cons_succ]
  refine take_dst (some 21) (i := 9) (v := ?vh7) rfl (by kernel_rfl) (by kernel_rfl) (by kernel_rfl) (by kernel_rfl) (fun _ _ _ h => h) (Or.inl ⟨by kernel_rfl, ?hh7⟩) (by assumption) ?rh7
  case hh7 => (intro w hSw; (try dsimp only at hSw); first | (go_simp; done) | (go_simp; with_reducible rfl))
  try simp only [Act.put, List.setIfInBounds_toArray, List.set_cons_zero, List.set_cons_succ]
  refine take_dst (some 22) (i := 10) (v := ?vh8) rfl (by kernel_rfl) (by kernel_rfl) (by kernel_rfl) (by kernel_rfl) (fun _ _ _ h => h) (Or.inl ⟨by kernel_rfl, ?hh8⟩) (by assumption) ?rh8
  case hh8 => (intro w hSw; (try dsimp only at hSw); first | (go_simp; done) | (go_simp; with_reducible rfl))
  try simp only [Act.put, List.setIfInBounds_toArray, List.set_cons_zero, List.set_cons_succ]
  refine take_dst (some 23) (i := 11) (v := ?vh9) rfl (by kernel_rfl) (by kernel_rfl) (by kernel_rfl) (by kernel_rfl) (fun _ _ _ h => h) (Or.inl ⟨by kernel_rfl, ?hh9⟩) (by assumption) ?rh9
  case hh9 => (intro w hSw; (try dsimp only at hSw); first | (go_simp; done) | (go_simp; with_reducible rfl))
  try simp only [Act.put, List.setIfInBounds_toArray, List.set_cons_zero, List.set_cons_succ]
  refine wpAnyH_ready (rs := [1]) (by kernel_rfl) (by simp) ?_
  refine AllReadyH.cons rfl (fun Kh10 hKh10 => ?_) AllReadyH.nil
  (go_simp; go_at_call 59; refine (U1.out _ OO.out).mono ?_; rintro e wn ⟨g1, cs1, cb1, rfl, L1, on⟩; have QL1 := Lib.hid L1; clear L1; have O9 := Lib.hid (OO.out.trans on); clear OO on; have OO := O9; clear O9; go_wp2_with fail)
  refine hKh10.out _ _ ?sh10 (fun hHeldh10 => ?_)
  case sh10 => exact CC.out _ OO.out
  clear hKh10 Kh10
  try simp only [Act.put, List.setIfInBounds_toArray, List.set_cons_zero, List.set_cons_succ]
  refine wpAnyH_ready (rs := [3]) (by kernel_rfl) (by simp) ?_
  refine AllReadyH.cons rfl (fun Kh11 hKh11 => ?_) AllReadyH.nil
  (go_simp; go_at_call 59; refine (U2.out _ OO.out).mono ?_; rintro e wn ⟨g2, cs2, cb2, rfl, L2, on⟩; have QL2 := Lib.hid L2; clear L2; have X1 := Lib.hid (QL1.out.keep on); clear QL1; have QL1 := X1; clear X1; have O9 := Lib.hid (OO.out.trans on); clear OO on; have OO := O9; clear O9; go_wp2_with fail)
  refine hKh11.out _ _ ?sh11 (fun hHeldh11 => ?_)
  case sh11 => exact CC.out _ OO.out
  clear hKh11 Kh11
  try simp only [Act.put, List.setIfInBounds_toArray, List.set_cons_zero, List.set_cons_succ]
  refine wpAnyH_ready (rs := [5]) (by kernel_rfl) (by simp) ?_
  refine AllReadyH.cons rfl (fun Kh12 hKh12 => ?_) AllReadyH.nil
  (go_simp; go_at_call 59; refine (U3.out _ OO.out).mono ?_; rintro e wn ⟨g3, cs3, cb3, rfl, L3, on⟩; have QL3 := Lib.hid L3; clear L3; have X1 := Lib.hid (QL1.out.keep on); clear QL1; have QL1 := X1; clear X1; have X2 := Lib.hid (QL2.out.keep on); clear QL2; have QL2 := X2; clear X2; have O9 := Lib.hid (OO.out.trans on); clear OO on; have OO := O9; clear O9; go_wp2_with fail)
  refine hKh12.out _ _ ?sh12 (fun hHeldh12 => ?_)
  case sh12 => exact CC.out _ OO.out
  clear hKh12 Kh12
  try simp only [Act.put, List.setIfInBounds_toArray, List.set_cons_zero, List.set_cons_succ]
  refine wpAnyH_ready (rs := [12]) (by kernel_rfl) (by simp) ?_
  refine AllReadyH.cons rfl (fun Kh13 hKh13 => ?_) AllReadyH.nil
  (go_simp; go_at_call 62; refine (U4.out _ OO.out).mono ?_; rintro e wn ⟨g4, cs4, cb4, rfl, L4, on⟩; have QL4 := Lib.hid L4; clear L4; have X1 := Lib.hid (QL1.out.keep on); clear QL1; have QL1 := X1; clear X1; have X2 := Lib.hid (QL2.out.keep on); clear QL2; have QL2 := X2; clear X2; have X3 := Lib.hid (QL3.out.keep on); clear QL3; have QL3 := X3; clear X3; have O9 := Lib.hid (OO.out.trans on); clear OO on; have OO := O9; clear O9; go_wp2_with fail)
  refine hKh13.out _ _ ?sh13 (fun hHeldh13 => ?_)
  case sh13 => exact CC.out _ OO.out
  clear hKh13 Kh13
  try simp only [Act.put, List.setIfInBounds_toArray, List.set_cons_zero, List.set_cons_succ]
  refine wpAnyH_ready (rs := [13]) (by kernel_rfl) (by simp) ?_
  refine AllReadyH.cons rfl (fun Kh14 hKh14 => ?_) AllReadyH.nil
  go_simp
  refine hKh14.out _ _ ?sh14 (fun hHeldh14 => ?_)
  case sh14 => exact CC.out _ (OO.out.alloc _)
  clear hKh14 Kh14
  try simp only [Act.put, List.setIfInBounds_toArray, List.set_cons_zero, List.set_cons_succ]
  refine wpAnyH_ready (rs := [14]) (by kernel_rfl) (by simp) ?_
  refine AllReadyH.cons rfl (fun Kh15 hKh15 => ?_) AllReadyH.nil
  (go_simp; go_at_call 58; refine (first_box [(.func (.func g1) cs1 cb1, un 43 (isNm y.name)), (.func (.func g2) cs2 cb2, un 41 (isNew (x.states.map Sta.name) i)), (.func (.func g3) cs3 cb3, un 40 (decide (nR ≤ 16))), (.func (.func g4) cs4 cb4, eachO nR (ofRow (P.map Kd.name) (x.states.map Sta.name) y.rows))] (List.forall_mem_cons.2 ⟨QL1.out, List.forall_mem_cons.2 ⟨QL2.out, List.forall_mem_cons.2 ⟨QL3.out, List.forall_mem_cons.2 ⟨QL4.out, fun _ h => absurd h List.not_mem_nil⟩⟩⟩⟩) (by simp)).mono ?_; rintro e wn ⟨p, rfl, hQ, on⟩; have HQ := Lib.hid (hQ.lower (Nat.le_trans HS.out OO.out.size)); clear hQ; have O9 := Lib.hid (OO.out.trans on); clear OO on; have OO := O9; clear O9; go_wp2_with fail)
  refine hKh15.out _ _ ?sh15 (fun hHeldh15 => ?_)
  case sh15 => exact CC.out _ OO.out
  clear hKh15 Kh15
  try simp only [Act.put, List.setIfInBounds_toArray, List.set_cons_zero, List.set_cons_succ]
  refine take_dst (some 4) (i := 15) (v := ?vh16) rfl (by kernel_rfl) (by kernel_rfl) (by kernel_rfl) (by kernel_rfl) (fun _ _ _ h => h) (Or.inl ⟨by kernel_rfl, ?hh16⟩) (by assumption) ?rh16
  case hh16 => (intro w hSw; (try dsimp only at hSw); first | (go_simp; done) | (go_simp; with_reducible rfl))
  try simp only [Act.put, List.setIfInBounds_toArray, List.set_cons_zero, List.set_cons_succ]
  refine wpAnyH_done (by kernel_rfl) ?_ _
  go_wp2
  go_ret
  exact ⟨by rw [HB.out]; exact HQ.out.ret, O2.out.trans OO.out⟩
set_option maxHeartbeats 16000000 in
set_option maxRecDepth 100000 in
theorem ofKind_any {D : Nat} {w : World} {P : List Kd} {a0 : Option Addr} {nP c0 : Nat} (hP : VK D w P a0 nP c0) (hD : Hid (D ≤ w.heap.size)) (i : Nat) (hi : i < nP) :
    Calls Tryz.prog 63 #[.agg #[.slice a0 nP c0, .string (bs []), .int .i64 0, .int .i64 0, .slice none 0 0, .slice none 0 0, .string (bs []), .slice none 0 0, .string (bs []), .bool false, .int .i64 0, .slice none 0 0], .int .i64 (i : Int)] w fun e w' => BadR w.heap.size w' e (ofKd P i) ∧ Only Nil w w' := by
  obtain ⟨W1, hW1⟩ : ∃ W1, W1 = (w.alloc (.cells #[.slice a0 nP c0, .string (bs []), .int .i64 0, .int .i64 0, .slice none 0 0, .slice none 0 0, .string (bs []), .slice none 0 0, .string (bs []), .bool false, .int .i64 0, .slice none 0 0] 93)).alloc (.cells #[.int .i64 (i : Int)] 3) := ⟨_, rfl⟩
  obtain ⟨o1, b1, b2⟩ : Only Nil w W1 ∧ Bx W1 w.heap.size [.slice a0 nP c0, .string (bs []), .int .i64 0, .int .i64 0, .slice none 0 0, .slice none 0 0, .string (bs []), .slice none 0 0, .string (bs []), .bool false, .int .i64 0, .slice none 0 0] 93 ∧ Bx W1 (w.heap.size + 1) [.int .i64 (i : Int)] 3 := two_box hW1
  have c_0 := b1.cell 0 (v := .slice a0 nP c0) rfl
  have c_1 := b1.cell 1 (v := .string (bs [])) rfl
  have c_2 := b1.cell 2 (v := .int .i64 0) rfl
  have c_3 := b1.cell 3 (v := .int .i64 0) rfl
  have c_4 := b1.cell 4 (v := .slice none 0 0) rfl
  have c_5 := b1.cell 5 (v := .slice none 0 0) rfl
  have k0 := b2.cell 0 (v := .int .i64 (i : Int)) rfl
  obtain ⟨s1, s2, ⟨q, off, rfl, hlt, hc⟩, gC, gS⟩ := (hP.keep o1).x.at_ hP.n i hi
  obtain ⟨a1, c1, rfl⟩ := gC.slice
  obtain ⟨a2, c2, rfl⟩ := gS.slice
  have hil : i < P.length := by rw [hP.n]; exact hi
  have hg : gt P i = P[i] := gt_eq hil
  have hwf := hP.wf _ (List.getElem_mem hil)
  have hsz := hP.sz.2 _ (List.getElem_mem hil)
  have hres : ofKd P i = firstO [un 43 (kdIn P[i]), un 41 (isNew (P.map Kd.name) i), un 40 (decide (P[i].cases.length ≤ 8) && (decide (1 ≤ P[i].states.length) && decide (P[i].states.length ≤ 8))), un 43 (P[i].cases.all caseIn), un 41 (once (P[i].cases.map Cs.reason)), eachO P[i].states.length (ofSta (P.map Kd.name) P[i].states)] := by
    unfold ofKd; rw [hg]; rfl
  rw [hres]
  clear hres hg
  generalize P[i] = x at *
  generalize hnC : x.cases.length = nC at *
  generalize hnS : x.states.length = nS at *
  have hbC : nC ≤ 140737488355328 := by rw [← hnC]; exact hsz.1
  have hbS : nS ≤ 140737488355328 := by rw [← hnS]; exact hsz.2.1
  have e0 : W1.cell? ⟨q, off + i * 5, none⟩ = some (.string (bs x.name)) := hc 0 (by decide)
  have e1 : W1.cell? ⟨q, off + i * 5 + 1, none⟩ = some (.int .i64 x.limit) := hc 1 (by decide)
  have e2 : W1.cell? ⟨q, off + i * 5 + 2, none⟩ = some (.int .i64 x.within) := hc 2 (by decide)
  have e3 : W1.cell? ⟨q, off + i * 5 + 3, none⟩ = some (.slice a1 nC c1) := hc 3 (by decide)
  have e4 : W1.cell? ⟨q, off + i * 5 + 4, none⟩ = some (.slice a2 nS c2) := hc 4 (by decide)
  have f1 : W1.frozen? ⟨w.heap.size, 1, none⟩ = false := by (have h := b1; unfold Bx at h; simp [World.frozen?, h])
  have f2 : W1.frozen? ⟨w.heap.size, 2, none⟩ = false := by (have h := b1; unfold Bx at h; simp [World.frozen?, h])
  have f3 : W1.frozen? ⟨w.heap.size, 3, none⟩ = false := by (have h := b1; unfold Bx at h; simp [World.frozen?, h])
  have f4 : W1.frozen? ⟨w.heap.size, 4, none⟩ = false := by (have h := b1; unfold Bx at h; simp [World.frozen?, h])
  have f5 : W1.frozen? ⟨w.heap.size, 5, none⟩ = false := by (have h := b1; unfold Bx at h; simp [World.frozen?, h])
  obtain ⟨W2, hW2⟩ : ∃ W2, W2 = (((((W1.setCell ⟨w.heap.size, 1, none⟩ (.string (bs x.name))).setCell ⟨w.heap.size, 2, none⟩ (.int .i64 x.limit)).setCell ⟨w.heap.size, 3, none⟩ (.int .i64 x.within)).setCell ⟨w.heap.size, 4, none⟩ (.slice a1 nC c1)).setCell ⟨w.heap.size, 5, none⟩ (.slice a2 nS c2)) := ⟨_, rfl⟩
  have b3 : Bx W2 w.heap.size [.slice (some ⟨q, off, none⟩) nP c0, .string (bs x.name), .int .i64 x.limit, .int .i64 x.within, .slice a1 nC c1, .slice a2 nS c2, .string (bs []), .slice none 0 0, .string (bs []), .bool false, .int .i64 0, .slice none 0 0] 93 := by rw [hW2]; exact (heap_setCell_self (.slice a2 nS c2) (heap_setCell_self (.slice a1 nC c1) (heap_setCell_self (.int .i64 x.within) (heap_setCell_self (.int .i64 x.limit) (heap_setCell_self (.string (bs x.name)) b1)))))
  have o12 : Only (fun k => k = w.heap.size) W1 W2 := by rw [hW2]; exact ((((((Only.refl (fun k => k = w.heap.size) W1).setCell (p := ⟨w.heap.size, 1, none⟩) rfl (.string (bs x.name))).setCell (p := ⟨w.heap.size, 2, none⟩) rfl (.int .i64 x.limit)).setCell (p := ⟨w.heap.size, 3, none⟩) rfl (.int .i64 x.within)).setCell (p := ⟨w.heap.size, 4, none⟩) rfl (.slice a1 nC c1)).setCell (p := ⟨w.heap.size, 5, none⟩) rfl (.slice a2 nS c2))
  have o2 : Only Nil w W2 := o1.then o12 (fun k hk hlt => by omega)
  have b4 : Bx W2 (w.heap.size + 1) [.int .i64 (i : Int)] 3 := (o12.block _ (lt_of_block b2) (by omega)).trans b2
  have HP2 := Lib.hid (hP.keep o2)
  have HX2 : Hid (VX D W2 x a1 nC c1 a2 nS c2) := Lib.hid ⟨gC.keep o12 (fun b hb hk => by have := hD.out; omega), hnC, hbC, gS.keep o12 (fun b hb hk => by have := hD.out; omega), hnS, hbS, hsz, hwf⟩
  have HD2 := Lib.hid (Nat.le_trans hD.out o2.size)
  have O2 := Lib.hid o2
  have VB := Lib.hid b3
  have AB := Lib.hid (b4.cell 0 (v := .int .i64 (i : Int)) rfl)
  have CC := Lib.hid (show ∀ w', Only Nil W2 w' → (fun w' : World => w'.cell? ⟨w.heap.size, 0, none⟩ = some (.slice (some ⟨q, off, none⟩) nP c0) ∧ w'.cell? ⟨w.heap.size, 1, none⟩ = some (.string (bs x.name)) ∧ w'.cell? ⟨w.heap.size, 2, none⟩ = some (.int .i64 x.limit) ∧ w'.cell? ⟨w.heap.size, 3, none⟩ = some (.int .i64 x.within) ∧ w'.cell? ⟨w.heap.size, 4, none⟩ = some (.slice a1 nC c1) ∧ w'.cell? ⟨w.heap.size, 5, none⟩ = some (.slice a2 nS c2) ∧ w'.cell? ⟨w.heap.size, 6, none⟩ = some (.string (bs [])) ∧ w'.cell? ⟨w.heap.size, 7, none⟩ = some (.slice none 0 0) ∧ w'.cell? ⟨w.heap.size, 8, none⟩ = some (.string (bs [])) ∧ w'.cell? ⟨w.heap.size, 9, none⟩ = some (.bool false) ∧ w'.cell? ⟨w.heap.size, 10, none⟩ = some (.int .i64 0) ∧ w'.cell? ⟨w.heap.size, 11, none⟩ = some (.slice none 0 0)) w' from fun w' o => ⟨only_cell0 o (b3.cell 0 rfl), only_cell0 o (b3.cell 1 rfl), only_cell0 o (b3.cell 2 rfl), only_cell0 o (b3.cell 3 rfl), only_cell0 o (b3.cell 4 rfl), only_cell0 o (b3.cell 5 rfl), only_cell0 o (b3.cell 6 rfl), only_cell0 o (b3.cell 7 rfl), only_cell0 o (b3.cell 8 rfl), only_cell0 o (b3.cell 9 rfl), only_cell0 o (b3.cell 10 rfl), only_cell0 o (b3.cell 11 rfl)⟩)
  have T1 : TestOK W2 (.func (.func 99) #[.agg #[.slice (some ⟨q, off, none⟩) nP c0, .string (bs x.name), .int .i64 x.limit, .int .i64 x.within, .slice a1 nC c1, .slice a2 nS c2, .string (bs []), .slice none 0 0, .string (bs []), .bool false, .int .i64 0, .slice none 0 0]] #[]) (kdIn x) := ⟨_, _, _, rfl, enters_of Tryz.func99 (by kernel_rfl) rfl, fun w' o => kdIn_any hwf.name⟩
  have U1 : Hid (∀ w', Only Nil W2 w' → Calls Tryz.prog 59 #[.int .i64 43, .func (.func 99) #[.agg #[.slice (some ⟨q, off, none⟩) nP c0, .string (bs x.name), .int .i64 x.limit, .int .i64 x.within, .slice a1 nC c1, .slice a2 nS c2, .string (bs []), .slice none 0 0, .string (bs []), .bool false, .int .i64 0, .slice none 0 0]] #[]] w' fun e w'' => ∃ g cs cb, e = .returned (.func (.func g) cs cb) ∧ LookOK w'' (.func (.func g) cs cb) (un 43 (kdIn x)) ∧ Only Nil w' w'') := Lib.hid (fun w' o => unless_any 43 (T1.keep o))
  have T2 : TestOK W2 (.func (.func 100) #[] #[.pointer (some ⟨w.heap.size, 0, none⟩), .pointer (some ⟨w.heap.size + 1, 0, none⟩)]) (isNew (P.map Kd.name) i) := ⟨_, _, _, rfl, enters_of Tryz.func100 (by kernel_rfl) rfl, fun w' o => ok1_any (HP2.out.keep o) w.heap.size (VB.out.keep o) i (w.heap.size + 1) hi (only_cell0 o AB.out)⟩
  have U2 : Hid (∀ w', Only Nil W2 w' → Calls Tryz.prog 59 #[.int .i64 41, .func (.func 100) #[] #[.pointer (some ⟨w.heap.size, 0, none⟩), .pointer (some ⟨w.heap.size + 1, 0, none⟩)]] w' fun e w'' => ∃ g cs cb, e = .returned (.func (.func g) cs cb) ∧ LookOK w'' (.func (.func g) cs cb) (un 41 (isNew (P.map Kd.name) i)) ∧ Only Nil w' w'') := Lib.hid (fun w' o => unless_any 41 (T2.keep o))
  have T3 : TestOK W2 (.func (.func 103) #[] #[.pointer (some ⟨w.heap.size, 0, none⟩)]) (decide (nC ≤ 8) && (decide (1 ≤ nS) && decide (nS ≤ 8))) := ⟨_, _, _, rfl, enters_of Tryz.func103 (by kernel_rfl) rfl, fun w' o => (ok2_any w.heap.size (VB.out.keep o)).mono fun e w'' ⟨h1, h2⟩ => ⟨h1, h2 ▸ Only.refl _ _⟩⟩
  have U3 : Hid (∀ w', Only Nil W2 w' → Calls Tryz.prog 59 #[.int .i64 40, .func (.func 103) #[] #[.pointer (some ⟨w.heap.size, 0, none⟩)]] w' fun e w'' => ∃ g cs cb, e = .returned (.func (.func g) cs cb) ∧ LookOK w'' (.func (.func g) cs cb) (un 40 (decide (nC ≤ 8) && (decide (1 ≤ nS) && decide (nS ≤ 8)))) ∧ Only Nil w' w'') := Lib.hid (fun w' o => unless_any 40 (T3.keep o))
  have T4 : TestOK W2 (.func (.func 104) #[.agg #[.slice (some ⟨q, off, none⟩) nP c0, .string (bs x.name), .int .i64 x.limit, .int .i64 x.within, .slice a1 nC c1, .slice a2 nS c2, .string (bs []), .slice none 0 0, .string (bs []), .bool false, .int .i64 0, .slice none 0 0]] #[]) (x.cases.all caseIn) := ⟨_, _, _, rfl, enters_of Tryz.func104 (by kernel_rfl) rfl, fun w' o => cases_any (HX2.out.keep o)⟩
  have U4 : Hid (∀ w', Only Nil W2 w' → Calls Tryz.prog 59 #[.int .i64 43, .func (.func 104) #[.agg #[.slice (some ⟨q, off, none⟩) nP c0, .string (bs x.name), .int .i64 x.limit, .int .i64 x.within, .slice a1 nC c1, .slice a2 nS c2, .string (bs []), .slice none 0 0, .string (bs []), .bool false, .int .i64 0, .slice none 0 0]] #[]] w' fun e w'' => ∃ g cs cb, e = .returned (.func (.func g) cs cb) ∧ LookOK w'' (.func (.func g) cs cb) (un 43 (x.cases.all caseIn)) ∧ Only Nil w' w'') := Lib.hid (fun w' o => unless_any 43 (T4.keep o))
  have T5 : TestOK W2 (.func (.func 105) #[.agg #[.slice (some ⟨q, off, none⟩) nP c0, .string (bs x.name), .int .i64 x.limit, .int .i64 x.within, .slice a1 nC c1, .slice a2 nS c2, .string (bs []), .slice none 0 0, .string (bs []), .bool false, .int .i64 0, .slice none 0 0]] #[]) (once (x.cases.map Cs.reason)) := ⟨_, _, _, rfl, enters_of Tryz.func105 (by kernel_rfl) rfl, fun w' o => once_any (HX2.out.keep o)⟩
  have U5 : Hid (∀ w', Only Nil W2 w' → Calls Tryz.prog 59 #[.int .i64 41, .func (.func 105) #[.agg #[.slice (some ⟨q, off, none⟩) nP c0, .string (bs x.name), .int .i64 x.limit, .int .i64 x.within, .slice a1 nC c1, .slice a2 nS c2, .string (bs []), .slice none 0 0, .string (bs []), .bool false, .int .i64 0, .slice none 0 0]] #[]] w' fun e w'' => ∃ g cs cb, e = .returned (.func (.func g) cs cb) ∧ LookOK w'' (.func (.func g) cs cb) (un 41 (once (x.cases.map Cs.reason))) ∧ Only Nil w' w'') := Lib.hid (fun w' o => unless_any 41 (T5.keep o))
  have T6 : FindOK W2 (.func (.func 106) #[.agg #[.slice (some ⟨q, off, none⟩) nP c0, .string (bs x.name), .int .i64 x.limit, .int .i64 x.within, .slice a1 nC c1, .slice a2 nS c2, .string (bs []), .slice none 0 0, .string (bs []), .bool false, .int .i64 0, .slice none 0 0]] #[]) nS (ofSta (P.map Kd.name) x.states) := ⟨_, _, _, rfl, enters_of Tryz.func106 (by kernel_rfl) rfl, fun i w' hi o => ofState_any (HP2.out.keep o) (HX2.out.keep o) (Lib.hid (Nat.le_trans HD2.out o.size)) i hi⟩
  have U6 := Lib.hid (fun w' (o : Only Nil W2 w') => each_any (T6.keep o) (hbS) (fun i x _ h => sta_short i x h))
  have OO := Lib.hid (show Only Nil W2 W2.drew from (Only.refl Nil W2).drew)
  have HS := Lib.hid o2.size
  have hi' : (i : Int) < (nP : Int) := by omega
  clear hc o1 o2 o12 b1 b2 b3 b4 VB AB hP gC gS hwf hsz hil hi hnC hnS hbC hbS HP2 HX2 HD2 T1 T2 T3 T4 T5 T6
  go_enter Tryz.func63, Tryz.ntmps63
  go_upto_region 1 with (fail)
  (try simp only [World.size_alloc]); rw [← hW1]; clear hW1
  go_upto_region 2 with (fail)
  rw [← hW2]; clear hW2
  clear e0 e1 e2 e3 e4 f1 f2 f3 f4 f5 c_0 c_1 c_2 c_3 c_4 c_5 k0
  generalize hB : w.heap.size = B at *
  have HB := Lib.hid hB
  clear hB
  have hmf : ∀ (fn : Fn) (first cap : Array Value) (w : World), (Instr.makeFunc fn first cap).run Tryz.prog w = .ok (.func fn first cap) w := fun _ _ _ _ => rfl
  refine wp_region_held_drew (S := fun w' => w'.cell? ⟨B, 0, none⟩ = some (.slice (some ⟨q, off, none⟩) nP c0) ∧ w'.cell? ⟨B, 1, none⟩ = some (.string (bs x.name)) ∧ w'.cell? ⟨B, 2, none⟩ = some (.int .i64 x.limit) ∧ w'.cell? ⟨B, 3, none⟩ = some (.int .i64 x.within) ∧ w'.cell? ⟨B, 4, none⟩ = some (.slice a1 nC c1) ∧ w'.cell? ⟨B, 5, none⟩ = some (.slice a2 nS c2) ∧ w'.cell? ⟨B, 6, none⟩ = some (.string (bs [])) ∧ w'.cell? ⟨B, 7, none⟩ = some (.slice none 0 0) ∧ w'.cell? ⟨B, 8, none⟩ = some (.string (bs [])) ∧ w'.cell? ⟨B, 9, none⟩ = some (.bool false) ∧ w'.cell? ⟨B, 10, none⟩ = some (.int .i64 0) ∧ w'.cell? ⟨B, 11, none⟩ = some (.slice none 0 0)) (by kernel_rfl) (CC.out _ OO.out) (fun hHeld => ?_)
  refine take_dst (some 12) (i := 0) (v := ?vh1) rfl (by kernel_rfl) (by kernel_rfl) (by kernel_rfl) (by kernel_rfl) (fun _ _ _ h => h) (Or.inl ⟨by kernel_rfl, ?hh1⟩) (by assumption) ?rh1
  case hh1 => (intro w hSw; (try dsimp only at hSw); first | (go_simp; done) | (go_simp; with_reducible rfl))
  try simp only [Act.put, List.setIfInBounds_toArray, List.set_cons_zero, List.set_cons_succ]
  refine take_dst (some 13) (i := 1) (v := ?vh2) rfl (by kernel_rfl) (by kernel_rfl) (by kernel_rfl) (by kernel_rfl) (fun _ _ _ h => h) (Or.inl ⟨by kernel_rfl, ?hh2⟩) (by assumption) ?rh2
  case hh2 => (intro w hSw; (try dsimp only at hSw); first | (go_simp; done) | (go_simp; with_reducible rfl))
  try simp only [Act.put, List.setIfInBounds_toArray, List.set_cons_zero, List.set_cons_succ]
  refine take_dst (some 15) (i := 3) (v := ?vh3) rfl (by kernel_rfl) (by kernel_rfl) (by kernel_rfl) (by kernel_rfl) (fun _ _ _ h => h) (Or.inl ⟨by kernel_rfl, ?hh3⟩) (by assumption) ?rh3
  case hh3 => (intro w hSw; (try dsimp only at hSw); first | (go_simp; done) | (go_simp; with_reducible rfl))
  try simp only [Act.put, List.setIfInBounds_toArray, List.set_cons_zero, List.set_cons_succ]
  refine take_dst (some 17) (i := 5) (v := ?vh4) rfl (by kernel_rfl) (by kernel_rfl) (by kernel_rfl) (by kernel_rfl) (fun _ _ _ h => h) (Or.inl ⟨by kernel_rfl, ?hh4⟩) (by assumption) ?rh4
  case hh4 => (intro w hSw; (try dsimp only at hSw); first | (go_simp; done) | (go_simp; with_reducible rfl))
  try simp only [Act.put, List.setIfInBounds_toArray, List.set_cons_zero, List.set_cons_succ]
  refine take_dst (some 19) (i := 7) (v := ?vh5) rfl (by kernel_rfl) (by kernel_rfl) (by kernel_rfl) (by kernel_rfl) (fun _ _ _ h => h) (Or.inl ⟨by kernel_rfl, ?hh5⟩) (by assumption) ?rh5
  case hh5 => (intro w hSw; (try dsimp only at hSw); first | (go_simp; done) | (go_simp; with_reducible rfl))
  try simp only [Act.put, List.setIfInBounds_toArray, List.set_cons_zero, List.set_cons_succ]
  refine take_dst (some 20) (i := 8) (v := ?vh6) rfl (by kernel_rfl) (by kernel_rfl) (by kernel_rfl) (by kernel_rfl) (fun _ _ _ h => h) (Or.inl ⟨by kernel_rfl, ?hh6⟩) (by assumption) ?rh6
  case hh6 => (intro w hSw; (try dsimp only at hSw); first | (go_simp; done) | (go_simp; with_reducible rfl))
  try simp only [Act.put, List.setIfInBounds_toArray, List.set_cons_zero, List.set_cons_succ]
  refine take_dst (some 22) (i := 10) (v := ?vh7) rfl (by kernel_rfl) (by kernel_rfl) (by kernel_rfl) (by kernel_rfl) (fun _ _ _ h => h) (Or.inl ⟨by kernel_rfl, ?hh7⟩) (by assumption) ?rh7
  case hh7 => (intro w hSw; (try dsimp only at hSw); first | (go_simp; done) | (go_simp; with_reducible rfl))
  try simp only [Act.put, List.setIfInBounds_toArray, List.set_cons_zero, List.set_cons_succ]
  refine take_dst (some 23) (i := 11) (v := ?vh8) rfl (by kernel_rfl) (by kernel_rfl) (by kernel_rfl) (by kernel_rfl) (fun _ _ _ h => h) (Or.inl ⟨by kernel_rfl, ?hh8⟩) (by assumption) ?rh8
  case hh8 => (intro w hSw; (try dsimp only at hSw); first | (go_simp; done) | (go_simp; with_reducible rfl))
  try simp only [Act.put, List.setIfInBounds_toArray, List.set_cons_zero, List.set_cons_succ]
  refine take_dst (some 25) (i := 13) (v := ?vh9) rfl (by kernel_rfl) (by kernel_rfl) (by kernel_rfl) (by kernel_rfl) (fun _ _ _ h => h) (Or.inl ⟨by kernel_rfl, ?hh9⟩) (by assumption) ?rh9
  case hh9 => (intro w hSw; (try dsimp only at hSw); first | (go_simp; done) | (go_simp; with_reducible rfl))
  try simp only [Act.put, List.setIfInBounds_toArray, List.set_cons_zero, List.set_cons_succ]
  refine take_dst (some 26) (i := 14) (v := ?vh10) rfl (by kernel_rfl) (by kernel_rfl) (by kernel_rfl) (by kernel_rfl) (fun _ _ _ h => h) (Or.inl ⟨by kernel_rfl, ?hh10⟩) (by assumption) ?rh10
  case hh10 => (intro w hSw; (try dsimp only at hSw); first | (go_simp; done) | (go_simp; with_reducible rfl))
  try simp only [Act.put, List.setIfInBounds_toArray, List.set_cons_zero, List.set_cons_succ]
  refine take_dst (some 27) (i := 15) (v := ?vh11) rfl (by kernel_rfl) (by kernel_rfl) (by kernel_rfl) (by kernel_rfl) (fun _ _ _ h => h) (Or.inl ⟨by kernel_rfl, ?hh11⟩) (by assumption) ?rh11
  case hh11 => (intro w hSw; (try dsimp only at hSw); first | (go_simp; done) | (go_simp; with_reducible rfl))
  try simp only [Act.put, List.setIfInBounds_toArray, List.set_cons_zero, List.set_cons_succ]
  refine take_dst (some 28) (i := 16) (v := ?vh12) rfl (by kernel_rfl) (by kernel_rfl) (by kernel_rfl) (by kernel_rfl) (fun _ _ _ h => h) (Or.inl ⟨by kernel_rfl, ?hh12⟩) (by assumption) ?rh12
  case hh12 => (intro w hSw; (try dsimp only at hSw); first | (go_simp; done) | (go_simp; with_reducible rfl))
  try simp only [Act.put, List.setIfInBounds_toArray, List.set_cons_zero, List.set_cons_succ]
  refine take_dst (some 29) (i := 17) (v := ?vh13) rfl (by kernel_rfl) (by kernel_rfl) (by kernel_rfl) (by kernel_rfl) (fun _ _ _ h => h) (Or.inl ⟨by kernel_rfl, ?hh13⟩) (by assumption) ?rh13
  case hh13 => (intro w hSw; (try dsimp only at hSw); first | (go_simp; done) | (go_simp; with_reducible rfl))
  try simp only [Act.put, List.setIfInBounds_toArray, List.set_cons_zero, List.set_cons_succ]
  refine take_dst (some 30) (i := 18) (v := ?vh14) rfl (by kernel_rfl) (by kernel_rfl) (by kernel_rfl) (by kernel_rfl) (fun _ _ _ h => h) (Or.inl ⟨by kernel_rfl, ?hh14⟩) (by assumption) ?rh14
  case hh14 => (intro w hSw; (try dsimp only at hSw); first | (go_simp; done) | (go_simp; with_reducible rfl))
  try simp only [Act.put, List.setIfInBounds_toArray, List.set_cons_zero, List.set_cons_succ]
  refine wpAnyH_ready (rs := [2]) (by kernel_rfl) (by simp) ?_
  refine AllReadyH.cons rfl (fun Kh15 hKh15 => ?_) AllReadyH.nil
  (go_simp; go_at_call 59; refine (U1.out _ OO.out).mono ?_; rintro e wn ⟨g1, cs1, cb1, rfl, L1, on⟩; have QL1 := Lib.hid L1; clear L1; have O9 := Lib.hid (OO.out.trans on); clear OO on; have OO := O9; clear O9; go_wp2_with fail)
  refine hKh15.out _ _ ?sh15 (fun hHeldh15 => ?_)
  case sh15 => exact CC.out _ OO.out
  clear hKh15 Kh15
  try simp only [Act.put, List.setIfInBounds_toArray, List.set_cons_zero, List.set_cons_succ]
  refine wpAnyH_ready (rs := [4]) (by kernel_rfl) (by simp) ?_
  refine AllReadyH.cons rfl (fun Kh16 hKh16 => ?_) AllReadyH.nil
  (go_simp; go_at_call 59; refine (U2.out _ OO.out).mono ?_; rintro e wn ⟨g2, cs2, cb2, rfl, L2, on⟩; have QL2 := Lib.hid L2; clear L2; have X1 := Lib.hid (QL1.out.keep on); clear QL1; have QL1 := X1; clear X1; have O9 := Lib.hid (OO.out.trans on); clear OO on; have OO := O9; clear O9; go_wp2_with fail)
  refine hKh16.out _ _ ?sh16 (fun hHeldh16 => ?_)
  case sh16 => exact CC.out _ OO.out
  clear hKh16 Kh16
  try simp only [Act.put, List.setIfInBounds_toArray, List.set_cons_zero, List.set_cons_succ]
  refine wpAnyH_ready (rs := [6]) (by kernel_rfl) (by simp) ?_
  refine AllReadyH.cons rfl (fun Kh17 hKh17 => ?_) AllReadyH.nil
  (go_simp; go_at_call 59; refine (U3.out _ OO.out).mono ?_; rintro e wn ⟨g3, cs3, cb3, rfl, L3, on⟩; have QL3 := Lib.hid L3; clear L3; have X1 := Lib.hid (QL1.out.keep on); clear QL1; have QL1 := X1; clear X1; have X2 := Lib.hid (QL2.out.keep on); clear QL2; have QL2 := X2; clear X2; have O9 := Lib.hid (OO.out.trans on); clear OO on; have OO := O9; clear O9; go_wp2_with fail)
  refine hKh17.out _ _ ?sh17 (fun hHeldh17 => ?_)
  case sh17 => exact CC.out _ OO.out
  clear hKh17 Kh17
  try simp only [Act.put, List.setIfInBounds_toArray, List.set_cons_zero, List.set_cons_succ]
  refine wpAnyH_ready (rs := [9]) (by kernel_rfl) (by simp) ?_
  refine AllReadyH.cons rfl (fun Kh18 hKh18 => ?_) AllReadyH.nil
  (go_simp; go_at_call 59; refine (U4.out _ OO.out).mono ?_; rintro e wn ⟨g4, cs4, cb4, rfl, L4, on⟩; have QL4 := Lib.hid L4; clear L4; have X1 := Lib.hid (QL1.out.keep on); clear QL1; have QL1 := X1; clear X1; have X2 := Lib.hid (QL2.out.keep on); clear QL2; have QL2 := X2; clear X2; have X3 := Lib.hid (QL3.out.keep on); clear QL3; have QL3 := X3; clear X3; have O9 := Lib.hid (OO.out.trans on); clear OO on; have OO := O9; clear O9; go_wp2_with fail)
  refine hKh18.out _ _ ?sh18 (fun hHeldh18 => ?_)
  case sh18 => exact CC.out _ OO.out
  clear hKh18 Kh18
  try simp only [Act.put, List.setIfInBounds_toArray, List.set_cons_zero, List.set_cons_succ]
  refine wpAnyH_ready (rs := [12]) (by kernel_rfl) (by simp) ?_
  refine AllReadyH.cons rfl (fun Kh19 hKh19 => ?_) AllReadyH.nil
  (go_simp; go_at_call 59; refine (U5.out _ OO.out).mono ?_; rintro e wn ⟨g5, cs5, cb5, rfl, L5, on⟩; have QL5 := Lib.hid L5; clear L5; have X1 := Lib.hid (QL1.out.keep on); clear QL1; have QL1 := X1; clear X1; have X2 := Lib.hid (QL2.out.keep on); clear QL2; have QL2 := X2; clear X2; have X3 := Lib.hid (QL3.out.keep on); clear QL3; have QL3 := X3; clear X3; have X4 := Lib.hid (QL4.out.keep on); clear QL4; have QL4 := X4; clear X4; have O9 := Lib.hid (OO.out.trans on); clear OO on; have OO := O9; clear O9; go_wp2_with fail)
  refine hKh19.out _ _ ?sh19 (fun hHeldh19 => ?_)
  case sh19 => exact CC.out _ OO.out
  clear hKh19 Kh19
  try simp only [Act.put, List.setIfInBounds_toArray, List.set_cons_zero, List.set_cons_succ]
  refine wpAnyH_ready (rs := [19]) (by kernel_rfl) (by simp) ?_
  refine AllReadyH.cons rfl (fun Kh20 hKh20 => ?_) AllReadyH.nil
  (go_simp; go_at_call 62; refine (U6.out _ OO.out).mono ?_; rintro e wn ⟨g6, cs6, cb6, rfl, L6, on⟩; have QL6 := Lib.hid L6; clear L6; have X1 := Lib.hid (QL1.out.keep on); clear QL1; have QL1 := X1; clear X1; have X2 := Lib.hid (QL2.out.keep on); clear QL2; have QL2 := X2; clear X2; have X3 := Lib.hid (QL3.out.keep on); clear QL3; have QL3 := X3; clear X3; have X4 := Lib.hid (QL4.out.keep on); clear QL4; have QL4 := X4; clear X4; have X5 := Lib.hid (QL5.out.keep on); clear QL5; have QL5 := X5; clear X5; have O9 := Lib.hid (OO.out.trans on); clear OO on; have OO := O9; clear O9; go_wp2_with fail)
  refine hKh20.out _ _ ?sh20 (fun hHeldh20 => ?_)
  case sh20 => exact CC.out _ OO.out
  clear hKh20 Kh20
  try simp only [Act.put, List.setIfInBounds_toArray, List.set_cons_zero, List.set_cons_succ]
  refine wpAnyH_ready (rs := [20]) (by kernel_rfl) (by simp) ?_
  refine AllReadyH.cons rfl (fun Kh21 hKh21 => ?_) AllReadyH.nil
  go_simp
  refine hKh21.out _ _ ?sh21 (fun hHeldh21 => ?_)
  case sh21 => exact CC.out _ (OO.out.alloc _)
  clear hKh21 Kh21
  try simp only [Act.put, List.setIfInBounds_toArray, List.set_cons_zero, List.set_cons_succ]
  refine wpAnyH_ready (rs := [21]) (by kernel_rfl) (by simp) ?_
  refine AllReadyH.cons rfl (fun Kh22 hKh22 => ?_) AllReadyH.nil
  (go_simp; go_at_call 58; refine (first_box [(.func (.func g1) cs1 cb1, un 43 (kdIn x)), (.func (.func g2) cs2 cb2, un 41 (isNew (P.map Kd.name) i)), (.func (.func g3) cs3 cb3, un 40 (decide (nC ≤ 8) && (decide (1 ≤ nS) && decide (nS ≤ 8)))), (.func (.func g4) cs4 cb4, un 43 (x.cases.all caseIn)), (.func (.func g5) cs5 cb5, un 41 (once (x.cases.map Cs.reason))), (.func (.func g6) cs6 cb6, eachO nS (ofSta (P.map Kd.name) x.states))] (List.forall_mem_cons.2 ⟨QL1.out, List.forall_mem_cons.2 ⟨QL2.out, List.forall_mem_cons.2 ⟨QL3.out, List.forall_mem_cons.2 ⟨QL4.out, List.forall_mem_cons.2 ⟨QL5.out, List.forall_mem_cons.2 ⟨QL6.out, fun _ h => absurd h List.not_mem_nil⟩⟩⟩⟩⟩⟩) (by simp)).mono ?_; rintro e wn ⟨p, rfl, hQ, on⟩; have HQ := Lib.hid (hQ.lower (Nat.le_trans HS.out OO.out.size)); clear hQ; have O9 := Lib.hid (OO.out.trans on); clear OO on; have OO := O9; clear O9; go_wp2_with fail)
  refine hKh22.out _ _ ?sh22 (fun hHeldh22 => ?_)
  case sh22 => exact CC.out _ OO.out
  clear hKh22 Kh22
  try simp only [Act.put, List.setIfInBounds_toArray, List.set_cons_zero, List.set_cons_succ]
  refine take_dst (some 4) (i := 22) (v := ?vh23) rfl (by kernel_rfl) (by kernel_rfl) (by kernel_rfl) (by kernel_rfl) (fun _ _ _ h => h) (Or.inl ⟨by kernel_rfl, ?hh23⟩) (by assumption) ?rh23
  case hh23 => (intro w hSw; (try dsimp only at hSw); first | (go_simp; done) | (go_simp; with_reducible rfl))
  try simp only [Act.put, List.setIfInBounds_toArray, List.set_cons_zero, List.set_cons_succ]
  refine wpAnyH_done (by kernel_rfl) ?_ _
  go_wp2
  go_ret
  exact ⟨by rw [HB.out]; exact HQ.out.ret, O2.out.trans OO.out⟩
set_option maxHeartbeats 16000000 in
set_option maxRecDepth 100000 in
theorem whole_any {D : Nat} {w : World} {P : List Kd} {a0 : Option Addr} {nP c0 : Nat} (hP : VK D w P a0 nP c0) (hD : Hid (D ≤ w.heap.size)) :
    Calls Tryz.prog 34 #[.agg #[.slice a0 nP c0, .string (bs []), .int .i64 0, .int .i64 0, .slice none 0 0, .slice none 0 0, .string (bs []), .slice none 0 0, .string (bs []), .bool false, .int .i64 0, .slice none 0 0]] w fun e w' => ∃ p, e = .returned (.pointer p) ∧ BadQ w.heap.size w' p (whole P) ∧ Only Nil w w' := by
  obtain ⟨W2, hW2⟩ : ∃ W2, W2 = w.alloc (.cells #[.slice a0 nP c0, .string (bs []), .int .i64 0, .int .i64 0, .slice none 0 0, .slice none 0 0, .string (bs []), .slice none 0 0, .string (bs []), .bool false, .int .i64 0, .slice none 0 0] 93) := ⟨_, rfl⟩
  have b3 : Bx W2 w.heap.size [.slice a0 nP c0, .string (bs []), .int .i64 0, .int .i64 0, .slice none 0 0, .slice none 0 0, .string (bs []), .slice none 0 0, .string (bs []), .bool false, .int .i64 0, .slice none 0 0] 93 := hW2 ▸ bx_new w _ _
  have o2 : Only Nil w W2 := hW2 ▸ (Only.refl Nil w).alloc _
  have HP2 := Lib.hid (hP.keep o2)
  have HD2 := Lib.hid (Nat.le_trans hD.out o2.size)
  have O2 := Lib.hid o2
  have VB := Lib.hid b3
  have CC := Lib.hid (show ∀ w', Only Nil W2 w' → (fun w' : World => w'.cell? ⟨w.heap.size, 0, none⟩ = some (.slice a0 nP c0) ∧ w'.cell? ⟨w.heap.size, 1, none⟩ = some (.string (bs [])) ∧ w'.cell? ⟨w.heap.size, 2, none⟩ = some (.int .i64 0) ∧ w'.cell? ⟨w.heap.size, 3, none⟩ = some (.int .i64 0) ∧ w'.cell? ⟨w.heap.size, 4, none⟩ = some (.slice none 0 0) ∧ w'.cell? ⟨w.heap.size, 5, none⟩ = some (.slice none 0 0) ∧ w'.cell? ⟨w.heap.size, 6, none⟩ = some (.string (bs [])) ∧ w'.cell? ⟨w.heap.size, 7, none⟩ = some (.slice none 0 0) ∧ w'.cell? ⟨w.heap.size, 8, none⟩ = some (.string (bs [])) ∧ w'.cell? ⟨w.heap.size, 9, none⟩ = some (.bool false) ∧ w'.cell? ⟨w.heap.size, 10, none⟩ = some (.int .i64 0) ∧ w'.cell? ⟨w.heap.size, 11, none⟩ = some (.slice none 0 0)) w' from fun w' o => ⟨only_cell0 o (b3.cell 0 rfl), only_cell0 o (b3.cell 1 rfl), only_cell0 o (b3.cell 2 rfl), only_cell0 o (b3.cell 3 rfl), only_cell0 o (b3.cell 4 rfl), only_cell0 o (b3.cell 5 rfl), only_cell0 o (b3.cell 6 rfl), only_cell0 o (b3.cell 7 rfl), only_cell0 o (b3.cell 8 rfl), only_cell0 o (b3.cell 9 rfl), only_cell0 o (b3.cell 10 rfl), only_cell0 o (b3.cell 11 rfl)⟩)
  have T1 : TestOK W2 (.func (.func 60) #[] #[.pointer (some ⟨w.heap.size, 0, none⟩)]) (decide (1 ≤ nP) && decide (nP ≤ 8)) := ⟨_, _, _, rfl, enters_of Tryz.func60 (by kernel_rfl) rfl, fun w' o => (wh1_any w.heap.size (VB.out.keep o)).mono fun e w'' ⟨h1, h2⟩ => ⟨h1, h2 ▸ Only.refl _ _⟩⟩
  have U1 : Hid (∀ w', Only Nil W2 w' → Calls Tryz.prog 59 #[.int .i64 40, .func (.func 60) #[] #[.pointer (some ⟨w.heap.size, 0, none⟩)]] w' fun e w'' => ∃ g cs cb, e = .returned (.func (.func g) cs cb) ∧ LookOK w'' (.func (.func g) cs cb) (un 40 (decide (1 ≤ nP) && decide (nP ≤ 8))) ∧ Only Nil w' w'') := Lib.hid (fun w' o => unless_any 40 (T1.keep o))
  have T2 : FindOK W2 (.func (.func 63) #[.agg #[.slice a0 nP c0, .string (bs []), .int .i64 0, .int .i64 0, .slice none 0 0, .slice none 0 0, .string (bs []), .slice none 0 0, .string (bs []), .bool false, .int .i64 0, .slice none 0 0]] #[]) nP (ofKd P) := ⟨_, _, _, rfl, enters_of Tryz.func63 (by kernel_rfl) rfl, fun i w' hi o => ofKind_any (HP2.out.keep o) (Lib.hid (Nat.le_trans HD2.out o.size)) i hi⟩
  have U2 := Lib.hid (fun w' (o : Only Nil W2 w') => each_any (T2.keep o) hP.b (fun i x _ h => kd_short i x h))
  have hres : whole P = firstO [un 40 (decide (1 ≤ nP) && decide (nP ≤ 8)), eachO nP (ofKd P)] := by unfold whole; rw [hP.n]
  rw [hres]
  have OO := Lib.hid (show Only Nil W2 W2.drew from (Only.refl Nil W2).drew)
  have HS := Lib.hid o2.size
  clear o2 b3 VB HP2 HD2 T1 T2 hP hD hres
  go_enter Tryz.func34, Tryz.ntmps34
  go_upto_region 1 with (fail)
  rw [← hW2]; clear hW2
  generalize hB : w.heap.size = B at *
  have HB := Lib.hid hB
  clear hB
  have hmf : ∀ (fn : Fn) (first cap : Array Value) (w : World), (Instr.makeFunc fn first cap).run Tryz.prog w = .ok (.func fn first cap) w := fun _ _ _ _ => rfl
  refine wp_region_held_drew (S := fun w' => w'.cell? ⟨B, 0, none⟩ = some (.slice a0 nP c0) ∧ w'.cell? ⟨B, 1, none⟩ = some (.string (bs [])) ∧ w'.cell? ⟨B, 2, none⟩ = some (.int .i64 0) ∧ w'.cell? ⟨B, 3, none⟩ = some (.int .i64 0) ∧ w'.cell? ⟨B, 4, none⟩ = some (.slice none 0 0) ∧ w'.cell? ⟨B, 5, none⟩ = some (.slice none 0 0) ∧ w'.cell? ⟨B, 6, none⟩ = some (.string (bs [])) ∧ w'.cell? ⟨B, 7, none⟩ = some (.slice none 0 0) ∧ w'.cell? ⟨B, 8, none⟩ = some (.string (bs [])) ∧ w'.cell? ⟨B, 9, none⟩ = some (.bool false) ∧ w'.cell? ⟨B, 10, none⟩ = some (.int .i64 0) ∧ w'.cell? ⟨B, 11, none⟩ = some (.slice none 0 0)) (by kernel_rfl) (CC.out _ OO.out) (fun hHeld => ?_)
  refine take_dst (some 3) (i := 0) (v := ?vh1) rfl (by kernel_rfl) (by kernel_rfl) (by kernel_rfl) (by kernel_rfl) (fun _ _ _ h => h) (Or.inl ⟨by kernel_rfl, ?hh1⟩) (by assumption) ?rh1
  case hh1 => (intro w hSw; (try dsimp only at hSw); first | (go_simp; done) | (go_simp; with_reducible rfl))
  try simp only [Act.put, List.setIfInBounds_toArray, List.set_cons_zero, List.set_cons_succ]
  refine take_dst (some 5) (i := 2) (v := ?vh2) rfl (by kernel_rfl) (by kernel_rfl) (by kernel_rfl) (by kernel_rfl) (fun _ _ _ h => h) (Or.inl ⟨by kernel_rfl, ?hh2⟩) (by assumption) ?rh2
  case hh2 => (intro w hSw; (try dsimp only at hSw); first | (go_simp; done) | (go_simp; with_reducible rfl))
  try simp only [Act.put, List.setIfInBounds_toArray, List.set_cons_zero, List.set_cons_succ]
  refine take_dst (some 6) (i := 3) (v := ?vh3) rfl (by kernel_rfl) (by kernel_rfl) (by kernel_rfl) (by kernel_rfl) (fun _ _ _ h => h) (Or.inl ⟨by kernel_rfl, ?hh3⟩) (by assumption) ?rh3
  case hh3 => (intro w hSw; (try dsimp only at hSw); first | (go_simp; done) | (go_simp; with_reducible rfl))
  try simp only [Act.put, List.setIfInBounds_toArray, List.set_cons_zero, List.set_cons_succ]
  refine take_dst (some 7) (i := 4) (v := ?vh4) rfl (by kernel_rfl) (by kernel_rfl) (by kernel_rfl) (by kernel_rfl) (fun _ _ _ h => h) (Or.inl ⟨by kernel_rfl, ?hh4⟩) (by assumption) ?rh4
  case hh4 => (intro w hSw; (try dsimp only at hSw); first | (go_simp; done) | (go_simp; with_reducible rfl))
  try simp only [Act.put, List.setIfInBounds_toArray, List.set_cons_zero, List.set_cons_succ]
  refine take_dst (some 8) (i := 5) (v := ?vh5) rfl (by kernel_rfl) (by kernel_rfl) (by kernel_rfl) (by kernel_rfl) (fun _ _ _ h => h) (Or.inl ⟨by kernel_rfl, ?hh5⟩) (by assumption) ?rh5
  case hh5 => (intro w hSw; (try dsimp only at hSw); first | (go_simp; done) | (go_simp; with_reducible rfl))
  try simp only [Act.put, List.setIfInBounds_toArray, List.set_cons_zero, List.set_cons_succ]
  refine take_dst (some 9) (i := 6) (v := ?vh6) rfl (by kernel_rfl) (by kernel_rfl) (by kernel_rfl) (by kernel_rfl) (fun _ _ _ h => h) (Or.inl ⟨by kernel_rfl, ?hh6⟩) (by assumption) ?rh6
  case hh6 => (intro w hSw; (try dsimp only at hSw); first | (go_simp; done) | (go_simp; with_reducible rfl))
  try simp only [Act.put, List.setIfInBounds_toArray, List.set_cons_zero, List.set_cons_succ]
  refine take_dst (some 10) (i := 7) (v := ?vh7) rfl (by kernel_rfl) (by kernel_rfl) (by kernel_rfl) (by kernel_rfl) (fun _ _ _ h => h) (Or.inl ⟨by kernel_rfl, ?hh7⟩) (by assumption) ?rh7
  case hh7 => (intro w hSw; (try dsimp only at hSw); first | (go_simp; done) | (go_simp; with_reducible rfl))
  try simp only [Act.put, List.setIfInBounds_toArray, List.set_cons_zero, List.set_cons_succ]
  refine wpAnyH_ready (rs := [1]) (by kernel_rfl) (by simp) ?_
  refine AllReadyH.cons rfl (fun Kh8 hKh8 => ?_) AllReadyH.nil
  (go_simp; go_at_call 59; refine (U1.out _ OO.out).mono ?_; rintro e wn ⟨g1, cs1, cb1, rfl, L1, on⟩; have QL1 := Lib.hid L1; clear L1; have O9 := Lib.hid (OO.out.trans on); clear OO on; have OO := O9; clear O9; go_wp2_with fail)
  refine hKh8.out _ _ ?sh8 (fun hHeldh8 => ?_)
  case sh8 => exact CC.out _ OO.out
  clear hKh8 Kh8
  try simp only [Act.put, List.setIfInBounds_toArray, List.set_cons_zero, List.set_cons_succ]
  refine wpAnyH_ready (rs := [8]) (by kernel_rfl) (by simp) ?_
  refine AllReadyH.cons rfl (fun Kh9 hKh9 => ?_) AllReadyH.nil
  (go_simp; go_at_call 62; refine (U2.out _ OO.out).mono ?_; rintro e wn ⟨g2, cs2, cb2, rfl, L2, on⟩; have QL2 := Lib.hid L2; clear L2; have X1 := Lib.hid (QL1.out.keep on); clear QL1; have QL1 := X1; clear X1; have O9 := Lib.hid (OO.out.trans on); clear OO on; have OO := O9; clear O9; go_wp2_with fail)
  refine hKh9.out _ _ ?sh9 (fun hHeldh9 => ?_)
  case sh9 => exact CC.out _ OO.out
  clear hKh9 Kh9
  try simp only [Act.put, List.setIfInBounds_toArray, List.set_cons_zero, List.set_cons_succ]
  refine wpAnyH_ready (rs := [9]) (by kernel_rfl) (by simp) ?_
  refine AllReadyH.cons rfl (fun Kh10 hKh10 => ?_) AllReadyH.nil
  go_simp
  refine hKh10.out _ _ ?sh10 (fun hHeldh10 => ?_)
  case sh10 => exact CC.out _ (OO.out.alloc _)
  clear hKh10 Kh10
  try simp only [Act.put, List.setIfInBounds_toArray, List.set_cons_zero, List.set_cons_succ]
  refine wpAnyH_ready (rs := [10]) (by kernel_rfl) (by simp) ?_
  refine AllReadyH.cons rfl (fun Kh11 hKh11 => ?_) AllReadyH.nil
  (go_simp; go_at_call 58; refine (first_box [(.func (.func g1) cs1 cb1, un 40 (decide (1 ≤ nP) && decide (nP ≤ 8))), (.func (.func g2) cs2 cb2, eachO nP (ofKd P))] (List.forall_mem_cons.2 ⟨QL1.out, List.forall_mem_cons.2 ⟨QL2.out, fun _ h => absurd h List.not_mem_nil⟩⟩) (by simp)).mono ?_; rintro e wn ⟨p, rfl, hQ, on⟩; have HQ := Lib.hid (hQ.lower (Nat.le_trans HS.out OO.out.size)); clear hQ; have O9 := Lib.hid (OO.out.trans on); clear OO on; have OO := O9; clear O9; go_wp2_with fail)
  refine hKh11.out _ _ ?sh11 (fun hHeldh11 => ?_)
  case sh11 => exact CC.out _ OO.out
  clear hKh11 Kh11
  try simp only [Act.put, List.setIfInBounds_toArray, List.set_cons_zero, List.set_cons_succ]
  refine take_dst (some 2) (i := 11) (v := ?vh12) rfl (by kernel_rfl) (by kernel_rfl) (by kernel_rfl) (by kernel_rfl) (fun _ _ _ h => h) (Or.inl ⟨by kernel_rfl, ?hh12⟩) (by assumption) ?rh12
  case hh12 => (intro w hSw; (try dsimp only at hSw); first | (go_simp; done) | (go_simp; with_reducible rfl))
  try simp only [Act.put, List.setIfInBounds_toArray, List.set_cons_zero, List.set_cons_succ]
  refine wpAnyH_done (by kernel_rfl) ?_ _
  go_wp2
  go_ret
  exact ⟨p, rfl, by rw [HB.out]; exact HQ.out, O2.out.trans OO.out⟩
/-- Program: nil, or what is wrong. -/
theorem program_any {D : Nat} {w : World} {P : List Kd} {a0 : Option Addr} {nP c0 : Nat} (hP : VK D w P a0 nP c0) (hD : Hid (D ≤ w.heap.size)) :
    Calls Tryz.prog 14 #[.agg #[.slice a0 nP c0]] w fun e w' => ((whole P = none ∧ e = .returned .nilIface) ∨ ∃ x b, whole P = some x ∧ e = .returned (.iface 46 (.pointer (some ⟨b, 0, none⟩))) ∧ BadAt w.heap.size w' b x) ∧ Only Nil w w' := by
  obtain ⟨W, hW⟩ : ∃ W, W = (w.alloc (.cells #[.slice a0 nP c0] 25)).alloc (.cells #[.slice a0 nP c0, .string ⟨#[]⟩, .int .i64 0, .int .i64 0, .slice none 0 0, .slice none 0 0, .string ⟨#[]⟩, .slice none 0 0, .string ⟨#[]⟩, .bool false, .int .i64 0, .slice none 0 0] 93) := ⟨_, rfl⟩
  obtain ⟨o, b1, b2⟩ : Only Nil w W ∧ Bx W w.heap.size [.slice a0 nP c0] 25 ∧ Bx W (w.heap.size + 1) [.slice a0 nP c0, .string ⟨#[]⟩, .int .i64 0, .int .i64 0, .slice none 0 0, .slice none 0 0, .string ⟨#[]⟩, .slice none 0 0, .string ⟨#[]⟩, .bool false, .int .i64 0, .slice none 0 0] 93 := two_box hW
  have c_0 := b2.cell 0 (v := .slice a0 nP c0) rfl
  have c_1 := b2.cell 1 (v := .string ⟨#[]⟩) rfl
  have c_2 := b2.cell 2 (v := .int .i64 0) rfl
  have c_3 := b2.cell 3 (v := .int .i64 0) rfl
  have c_4 := b2.cell 4 (v := .slice none 0 0) rfl
  have c_5 := b2.cell 5 (v := .slice none 0 0) rfl
  have c_6 := b2.cell 6 (v := .string ⟨#[]⟩) rfl
  have c_7 := b2.cell 7 (v := .slice none 0 0) rfl
  have c_8 := b2.cell 8 (v := .string ⟨#[]⟩) rfl
  have c_9 := b2.cell 9 (v := .bool false) rfl
  have c_10 := b2.cell 10 (v := .int .i64 0) rfl
  have c_11 := b2.cell 11 (v := .slice none 0 0) rfl
  have HC := Lib.hid (whole_any (hP.keep o) (Lib.hid (Nat.le_trans hD.out o.size)))
  have O := Lib.hid o
  clear hP hD b1 b2 o
  cases hw : whole P with
  | none =>
    rw [hw] at HC
    clear hw
    go_enter Tryz.func14, Tryz.ntmps14
    go_upto_region 2 with (fail)
    (try simp only [World.size_alloc]); rw [← hW]; clear hW
    go_wp2_with (go_at_call 34; refine HC.out.mono ?_; rintro e w1 ⟨p, rfl, hp, o1⟩; obtain rfl : p = none := hp)
    go_ret
    exact ⟨Or.inl ⟨by first | trivial | rfl, rfl⟩, O.out.trans o1⟩
  | some x =>
    rw [hw] at HC
    clear hw
    go_enter Tryz.func14, Tryz.ntmps14
    go_upto_region 2 with (fail)
    (try simp only [World.size_alloc]); rw [← hW]; clear hW
    go_wp2_with (go_at_call 34; refine HC.out.mono ?_; rintro e w1 ⟨p, rfl, ⟨b, rfl, hB⟩, o1⟩; have HB := Lib.hid (hB.lower O.out.size))
    go_ret
    exact ⟨Or.inr ⟨x, b, rfl, rfl, HB.out⟩, O.out.trans o1⟩
end Go.Proofs.YthanclicnkjmiaaGreatDoor.Ch
