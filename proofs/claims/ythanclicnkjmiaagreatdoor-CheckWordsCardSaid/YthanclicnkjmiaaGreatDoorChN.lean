/- check: ofRow. -/
import Derived.Test.YthanclicnkjmiaaGreatDoorChL
set_option linter.unusedVariables false
namespace Go.Proofs.YthanclicnkjmiaaGreatDoor.Ch
open Go.RowKit Go.Proofs.YthanclicnkjmiaaGreatDoor Lx Ps

set_option maxHeartbeats 16000000 in
set_option maxRecDepth 100000 in
theorem ofRow_any {D : Nat} {w : World} {P : List Kd} {a0 : Option Addr} {nP c0 : Nat} {x : Kd} {a1 a2 : Option Addr} {nC c1 nS c2 : Nat} {y : Sta} {a3 : Option Addr} {nR c3 : Nat} (hP : VK D w P a0 nP c0) (hX : VX D w x a1 nC c1 a2 nS c2) (hY : VY D w y a3 nR c3) (hD : Hid (D ≤ w.heap.size)) (i : Nat) (hi : i < nR) :
    Calls Tryz.prog 148 #[.agg #[.slice a0 nP c0, .string (bs x.name), .int .i64 x.limit, .int .i64 x.within, .slice a1 nC c1, .slice a2 nS c2, .string (bs y.name), .slice a3 nR c3, .string (bs []), .bool false, .int .i64 0, .slice none 0 0], .int .i64 (i : Int)] w fun e w' => BadR w.heap.size w' e (ofRow (P.map Kd.name) (x.states.map Sta.name) y.rows i) ∧ Only Nil w w' := by
  obtain ⟨W1, hW1⟩ : ∃ W1, W1 = (w.alloc (.cells #[.slice a0 nP c0, .string (bs x.name), .int .i64 x.limit, .int .i64 x.within, .slice a1 nC c1, .slice a2 nS c2, .string (bs y.name), .slice a3 nR c3, .string (bs []), .bool false, .int .i64 0, .slice none 0 0] 93)).alloc (.cells #[.int .i64 (i : Int)] 3) := ⟨_, rfl⟩
  obtain ⟨o1, b1, b2⟩ : Only Nil w W1 ∧ Bx W1 w.heap.size [.slice a0 nP c0, .string (bs x.name), .int .i64 x.limit, .int .i64 x.within, .slice a1 nC c1, .slice a2 nS c2, .string (bs y.name), .slice a3 nR c3, .string (bs []), .bool false, .int .i64 0, .slice none 0 0] 93 ∧ Bx W1 (w.heap.size + 1) [.int .i64 (i : Int)] 3 := two_box hW1
  have c_7 := b1.cell 7 (v := .slice a3 nR c3) rfl
  have c_8 := b1.cell 8 (v := .string (bs [])) rfl
  have c_9 := b1.cell 9 (v := .bool false) rfl
  have c_10 := b1.cell 10 (v := .int .i64 0) rfl
  have c_11 := b1.cell 11 (v := .slice none 0 0) rfl
  have k0 := b2.cell 0 (v := .int .i64 (i : Int)) rfl
  obtain ⟨s1, ⟨q, off, rfl, hlt, hc⟩, gE⟩ := (hY.keep o1).r.at_ hY.n i hi
  obtain ⟨a4, c4, rfl⟩ := gE.slice
  have hil : i < y.rows.length := by rw [hY.n]; exact hi
  have hg : gt y.rows i = y.rows[i] := gt_eq hil
  have hwf := hY.wf.rows _ (List.getElem_mem hil)
  have hsz := hY.sz.2 _ (List.getElem_mem hil)
  have hres : ofRow (P.map Kd.name) (x.states.map Sta.name) y.rows i = firstO [un 43 (rowIn y.rows[i]), un 41 (isNew (y.rows.map headR) i), un 40 (decide (y.rows[i].effs.length ≤ 8)), un 45 (alone y.rows[i].effs), eachO y.rows[i].effs.length (ofEff (P.map Kd.name) (x.states.map Sta.name) y.rows[i].effs)] := by
    unfold ofRow; rw [hg]
  rw [hres]
  clear hres hg
  generalize y.rows[i] = z at *
  generalize hnE : z.effs.length = nE at *
  have hbE : nE ≤ 140737488355328 := by rw [← hnE]; exact hsz
  have e0 : W1.cell? ⟨q, off + i * 4, none⟩ = some (.string (bs z.tag)) := hc 0 (by decide)
  have e1 : W1.cell? ⟨q, off + i * 4 + 1, none⟩ = some (.bool z.only) := hc 1 (by decide)
  have e2 : W1.cell? ⟨q, off + i * 4 + 2, none⟩ = some (.int .i64 z.n) := hc 2 (by decide)
  have e3 : W1.cell? ⟨q, off + i * 4 + 3, none⟩ = some (.slice a4 nE c4) := hc 3 (by decide)
  have f8 : W1.frozen? ⟨w.heap.size, 8, none⟩ = false := by (have h := b1; unfold Bx at h; simp [World.frozen?, h])
  have f9 : W1.frozen? ⟨w.heap.size, 9, none⟩ = false := by (have h := b1; unfold Bx at h; simp [World.frozen?, h])
  have f10 : W1.frozen? ⟨w.heap.size, 10, none⟩ = false := by (have h := b1; unfold Bx at h; simp [World.frozen?, h])
  have f11 : W1.frozen? ⟨w.heap.size, 11, none⟩ = false := by (have h := b1; unfold Bx at h; simp [World.frozen?, h])
  obtain ⟨W2, hW2⟩ : ∃ W2, W2 = ((((W1.setCell ⟨w.heap.size, 8, none⟩ (.string (bs z.tag))).setCell ⟨w.heap.size, 9, none⟩ (.bool z.only)).setCell ⟨w.heap.size, 10, none⟩ (.int .i64 z.n)).setCell ⟨w.heap.size, 11, none⟩ (.slice a4 nE c4)) := ⟨_, rfl⟩
  have b3 : Bx W2 w.heap.size [.slice a0 nP c0, .string (bs x.name), .int .i64 x.limit, .int .i64 x.within, .slice a1 nC c1, .slice a2 nS c2, .string (bs y.name), .slice (some ⟨q, off, none⟩) nR c3, .string (bs z.tag), .bool z.only, .int .i64 z.n, .slice a4 nE c4] 93 := by rw [hW2]; exact (heap_setCell_self (.slice a4 nE c4) (heap_setCell_self (.int .i64 z.n) (heap_setCell_self (.bool z.only) (heap_setCell_self (.string (bs z.tag)) b1))))
  have o12 : Only (fun k => k = w.heap.size) W1 W2 := by rw [hW2]; exact (((((Only.refl (fun k => k = w.heap.size) W1).setCell (p := ⟨w.heap.size, 8, none⟩) rfl (.string (bs z.tag))).setCell (p := ⟨w.heap.size, 9, none⟩) rfl (.bool z.only)).setCell (p := ⟨w.heap.size, 10, none⟩) rfl (.int .i64 z.n)).setCell (p := ⟨w.heap.size, 11, none⟩) rfl (.slice a4 nE c4))
  have o2 : Only Nil w W2 := o1.then o12 (fun k hk hlt => by omega)
  have b4 : Bx W2 (w.heap.size + 1) [.int .i64 (i : Int)] 3 := (o12.block _ (lt_of_block b2) (by omega)).trans b2
  have HP2 := Lib.hid (hP.keep o2)
  have HX2 := Lib.hid (hX.keep o2)
  have HY2 := Lib.hid (hY.keep o2)
  have HZ2 : Hid (VZ D W2 z a4 nE c4) := Lib.hid ⟨gE.keep o12 (fun b hb hk => by have := hD.out; omega), hnE, hbE, hsz, hwf⟩
  have O2 := Lib.hid o2
  have VB := Lib.hid b3
  have AB := Lib.hid (b4.cell 0 (v := .int .i64 (i : Int)) rfl)
  have CC := Lib.hid (show ∀ w', Only Nil W2 w' → (fun w' : World => w'.cell? ⟨w.heap.size, 0, none⟩ = some (.slice a0 nP c0) ∧ w'.cell? ⟨w.heap.size, 1, none⟩ = some (.string (bs x.name)) ∧ w'.cell? ⟨w.heap.size, 2, none⟩ = some (.int .i64 x.limit) ∧ w'.cell? ⟨w.heap.size, 3, none⟩ = some (.int .i64 x.within) ∧ w'.cell? ⟨w.heap.size, 4, none⟩ = some (.slice a1 nC c1) ∧ w'.cell? ⟨w.heap.size, 5, none⟩ = some (.slice a2 nS c2) ∧ w'.cell? ⟨w.heap.size, 6, none⟩ = some (.string (bs y.name)) ∧ w'.cell? ⟨w.heap.size, 7, none⟩ = some (.slice (some ⟨q, off, none⟩) nR c3) ∧ w'.cell? ⟨w.heap.size, 8, none⟩ = some (.string (bs z.tag)) ∧ w'.cell? ⟨w.heap.size, 9, none⟩ = some (.bool z.only) ∧ w'.cell? ⟨w.heap.size, 10, none⟩ = some (.int .i64 z.n) ∧ w'.cell? ⟨w.heap.size, 11, none⟩ = some (.slice a4 nE c4)) w' from fun w' o => ⟨only_cell0 o (b3.cell 0 rfl), only_cell0 o (b3.cell 1 rfl), only_cell0 o (b3.cell 2 rfl), only_cell0 o (b3.cell 3 rfl), only_cell0 o (b3.cell 4 rfl), only_cell0 o (b3.cell 5 rfl), only_cell0 o (b3.cell 6 rfl), only_cell0 o (b3.cell 7 rfl), only_cell0 o (b3.cell 8 rfl), only_cell0 o (b3.cell 9 rfl), only_cell0 o (b3.cell 10 rfl), only_cell0 o (b3.cell 11 rfl)⟩)
  have T1 : TestOK W2 (.func (.func 176) #[.agg #[.slice a0 nP c0, .string (bs x.name), .int .i64 x.limit, .int .i64 x.within, .slice a1 nC c1, .slice a2 nS c2, .string (bs y.name), .slice (some ⟨q, off, none⟩) nR c3, .string (bs z.tag), .bool z.only, .int .i64 z.n, .slice a4 nE c4]] #[]) (rowIn z) := ⟨_, _, _, rfl, enters_of Tryz.func176 (by kernel_rfl) rfl, fun w' o => rowIn_any hwf.tag⟩
  have U1 : Hid (∀ w', Only Nil W2 w' → Calls Tryz.prog 59 #[.int .i64 43, .func (.func 176) #[.agg #[.slice a0 nP c0, .string (bs x.name), .int .i64 x.limit, .int .i64 x.within, .slice a1 nC c1, .slice a2 nS c2, .string (bs y.name), .slice (some ⟨q, off, none⟩) nR c3, .string (bs z.tag), .bool z.only, .int .i64 z.n, .slice a4 nE c4]] #[]] w' fun e w'' => ∃ g cs cb, e = .returned (.func (.func g) cs cb) ∧ LookOK w'' (.func (.func g) cs cb) (un 43 (rowIn z)) ∧ Only Nil w' w'') := Lib.hid (fun w' o => unless_any 43 (T1.keep o))
  have T2 : TestOK W2 (.func (.func 177) #[] #[.pointer (some ⟨w.heap.size, 0, none⟩), .pointer (some ⟨w.heap.size + 1, 0, none⟩)]) (isNew (y.rows.map headR) i) := ⟨_, _, _, rfl, enters_of Tryz.func177 (by kernel_rfl) rfl, fun w' o => or1_any (HY2.out.keep o) w.heap.size (VB.out.keep o) i (w.heap.size + 1) hi (only_cell0 o AB.out)⟩
  have U2 : Hid (∀ w', Only Nil W2 w' → Calls Tryz.prog 59 #[.int .i64 41, .func (.func 177) #[] #[.pointer (some ⟨w.heap.size, 0, none⟩), .pointer (some ⟨w.heap.size + 1, 0, none⟩)]] w' fun e w'' => ∃ g cs cb, e = .returned (.func (.func g) cs cb) ∧ LookOK w'' (.func (.func g) cs cb) (un 41 (isNew (y.rows.map headR) i)) ∧ Only Nil w' w'') := Lib.hid (fun w' o => unless_any 41 (T2.keep o))
  have T3 : TestOK W2 (.func (.func 180) #[] #[.pointer (some ⟨w.heap.size, 0, none⟩)]) (decide (nE ≤ 8)) := ⟨_, _, _, rfl, enters_of Tryz.func180 (by kernel_rfl) rfl, fun w' o => (or2_any w.heap.size (VB.out.keep o)).mono fun e w'' ⟨h1, h2⟩ => ⟨h1, h2 ▸ Only.refl _ _⟩⟩
  have U3 : Hid (∀ w', Only Nil W2 w' → Calls Tryz.prog 59 #[.int .i64 40, .func (.func 180) #[] #[.pointer (some ⟨w.heap.size, 0, none⟩)]] w' fun e w'' => ∃ g cs cb, e = .returned (.func (.func g) cs cb) ∧ LookOK w'' (.func (.func g) cs cb) (un 40 (decide (nE ≤ 8))) ∧ Only Nil w' w'') := Lib.hid (fun w' o => unless_any 40 (T3.keep o))
  have T4 : TestOK W2 (.func (.func 181) #[.agg #[.slice a0 nP c0, .string (bs x.name), .int .i64 x.limit, .int .i64 x.within, .slice a1 nC c1, .slice a2 nS c2, .string (bs y.name), .slice (some ⟨q, off, none⟩) nR c3, .string (bs z.tag), .bool z.only, .int .i64 z.n, .slice a4 nE c4]] #[]) (alone z.effs) := ⟨_, _, _, rfl, enters_of Tryz.func181 (by kernel_rfl) rfl, fun w' o => alone_any (HZ2.out.keep o)⟩
  have U4 : Hid (∀ w', Only Nil W2 w' → Calls Tryz.prog 59 #[.int .i64 45, .func (.func 181) #[.agg #[.slice a0 nP c0, .string (bs x.name), .int .i64 x.limit, .int .i64 x.within, .slice a1 nC c1, .slice a2 nS c2, .string (bs y.name), .slice (some ⟨q, off, none⟩) nR c3, .string (bs z.tag), .bool z.only, .int .i64 z.n, .slice a4 nE c4]] #[]] w' fun e w'' => ∃ g cs cb, e = .returned (.func (.func g) cs cb) ∧ LookOK w'' (.func (.func g) cs cb) (un 45 (alone z.effs)) ∧ Only Nil w' w'') := Lib.hid (fun w' o => unless_any 45 (T4.keep o))
  have T5 : FindOK W2 (.func (.func 182) #[.agg #[.slice a0 nP c0, .string (bs x.name), .int .i64 x.limit, .int .i64 x.within, .slice a1 nC c1, .slice a2 nS c2, .string (bs y.name), .slice (some ⟨q, off, none⟩) nR c3, .string (bs z.tag), .bool z.only, .int .i64 z.n, .slice a4 nE c4]] #[]) nE (ofEff (P.map Kd.name) (x.states.map Sta.name) z.effs) := ⟨_, _, _, rfl, enters_of Tryz.func182 (by kernel_rfl) rfl, fun i w' hi o => ofEffect_any (HP2.out.keep o) (HX2.out.keep o) (HZ2.out.keep o) i hi⟩
  have U5 := Lib.hid (fun w' (o : Only Nil W2 w') => each_any (T5.keep o) (hbE) (fun i x _ h => eff_short i x h))
  have OO := Lib.hid (show Only Nil W2 W2.drew from (Only.refl Nil W2).drew)
  have HS := Lib.hid o2.size
  have hi' : (i : Int) < (nR : Int) := by omega
  clear hc o1 o2 o12 b1 b2 b3 b4 VB AB hP hX hY gE hwf hsz hil hi hnE hbE HP2 HX2 HY2 HZ2 T1 T2 T3 T4 T5
  go_enter Tryz.func148, Tryz.ntmps148
  go_upto_region 1 with (fail)
  (try simp only [World.size_alloc]); rw [← hW1]; clear hW1
  go_upto_region 2 with (fail)
  rw [← hW2]; clear hW2
  clear e0 e1 e2 e3 f8 f9 f10 f11 c_7 c_8 c_9 c_10 c_11 k0
  generalize hB : w.heap.size = B at *
  have HB := Lib.hid hB
  clear hB
  have hmf : ∀ (fn : Fn) (first cap : Array Value) (w : World), (Instr.makeFunc fn first cap).run Tryz.prog w = .ok (.func fn first cap) w := fun _ _ _ _ => rfl
  refine wp_region_held_drew (S := fun w' => w'.cell? ⟨B, 0, none⟩ = some (.slice a0 nP c0) ∧ w'.cell? ⟨B, 1, none⟩ = some (.string (bs x.name)) ∧ w'.cell? ⟨B, 2, none⟩ = some (.int .i64 x.limit) ∧ w'.cell? ⟨B, 3, none⟩ = some (.int .i64 x.within) ∧ w'.cell? ⟨B, 4, none⟩ = some (.slice a1 nC c1) ∧ w'.cell? ⟨B, 5, none⟩ = some (.slice a2 nS c2) ∧ w'.cell? ⟨B, 6, none⟩ = some (.string (bs y.name)) ∧ w'.cell? ⟨B, 7, none⟩ = some (.slice (some ⟨q, off, none⟩) nR c3) ∧ w'.cell? ⟨B, 8, none⟩ = some (.string (bs z.tag)) ∧ w'.cell? ⟨B, 9, none⟩ = some (.bool z.only) ∧ w'.cell? ⟨B, 10, none⟩ = some (.int .i64 z.n) ∧ w'.cell? ⟨B, 11, none⟩ = some (.slice a4 nE c4)) (by kernel_rfl) (CC.out _ OO.out) (fun hHeld => ?_)
  refine take_dst (some 12) (i := 0) (v := ?vh1) rfl (by kernel_rfl) (by kernel_rfl) (by kernel_rfl) (by kernel_rfl) (fun _ _ _ h => h) (Or.inl ⟨by kernel_rfl, ?hh1⟩) (by assumption) ?rh1
  case hh1 => (intro w hSw; (try dsimp only at hSw); first | (go_simp; done) | (go_simp; with_reducible rfl))
  try simp only [Act.put, List.setIfInBounds_toArray, List.set_cons_zero, List.set_cons_succ]
  refine take_dst (some 13) (i := 1) (v := ?vh2) rfl (by kernel_rfl) (by kernel_rfl) (by kernel_rfl) (by kernel_rfl) (fun _ _ _ h => h) (Or.inl ⟨by kernel_rfl, ?hh2⟩) (by assumption) ?rh2
  case hh2 => (intro w hSw; (try dsimp only at hSw); first | (go_simp; done) | (go_simp; with_reducible rfl))
  try simp only [Act.put, List.setIfInBounds_toArray, List.set_cons_zero, List.set_cons_succ]
  refine take_dst (some 15) (i := 3) (v := ?vh3) rfl (by kernel_rfl) (by kernel_rfl) (by kernel_rfl) (by kernel_rfl) (fun _ _ _ h => h) (Or.inl ⟨by kernel_rfl, ?hh3⟩) (by assumption) ?rh3
  case hh3 => (intro w hSw; (try dsimp only at hSw); first | (go_simp; done) | (go_simp; with_reducible rfl))
  try simp only [Act.put, List.setIfInBounds_toArray, List.set_cons_zero, List.set_cons_succ]
  refine take_dst (some 17) (i := 5) (v := ?vh4) rfl (by kernel_rfl) (by kernel_rfl) (by kernel_rfl) (by kernel_rfl) (fun _ _ _ h => h) (Or.inl ⟨by kernel_rfl, ?hh4⟩) (by assumption) ?rh4
  case hh4 => (intro w hSw; (try dsimp only at hSw); first | (go_simp; done) | (go_simp; with_reducible rfl))
  try simp only [Act.put, List.setIfInBounds_toArray, List.set_cons_zero, List.set_cons_succ]
  refine take_dst (some 19) (i := 7) (v := ?vh5) rfl (by kernel_rfl) (by kernel_rfl) (by kernel_rfl) (by kernel_rfl) (fun _ _ _ h => h) (Or.inl ⟨by kernel_rfl, ?hh5⟩) (by assumption) ?rh5
  case hh5 => (intro w hSw; (try dsimp only at hSw); first | (go_simp; done) | (go_simp; with_reducible rfl))
  try simp only [Act.put, List.setIfInBounds_toArray, List.set_cons_zero, List.set_cons_succ]
  refine take_dst (some 20) (i := 8) (v := ?vh6) rfl (by kernel_rfl) (by kernel_rfl) (by kernel_rfl) (by kernel_rfl) (fun _ _ _ h => h) (Or.inl ⟨by kernel_rfl, ?hh6⟩) (by assumption) ?rh6
  case hh6 => (intro w hSw; (try dsimp only at hSw); first | (go_simp; done) | (go_simp; with_reducible rfl))
  try simp only [Act.put, List.setIfInBounds_toArray, List.set_cons_zero, List.set_cons_succ]
  refine take_dst (some 22) (i := 10) (v := ?vh7) rfl (by kernel_rfl) (by kernel_rfl) (by kernel_rfl) (by kernel_rfl) (fun _ _ _ h => h) (Or.inl ⟨by kernel_rfl, ?hh7⟩) (by assumption) ?rh7
  case hh7 => (intro w hSw; (try dsimp only at hSw); first | (go_simp; done) | (go_simp; with_reducible rfl))
  try simp only [Act.put, List.setIfInBounds_toArray, List.set_cons_zero, List.set_cons_succ]
  refine take_dst (some 23) (i := 11) (v := ?vh8) rfl (by kernel_rfl) (by kernel_rfl) (by kernel_rfl) (by kernel_rfl) (fun _ _ _ h => h) (Or.inl ⟨by kernel_rfl, ?hh8⟩) (by assumption) ?rh8
  case hh8 => (intro w hSw; (try dsimp only at hSw); first | (go_simp; done) | (go_simp; with_reducible rfl))
  try simp only [Act.put, List.setIfInBounds_toArray, List.set_cons_zero, List.set_cons_succ]
  refine take_dst (some 24) (i := 12) (v := ?vh9) rfl (by kernel_rfl) (by kernel_rfl) (by kernel_rfl) (by kernel_rfl) (fun _ _ _ h => h) (Or.inl ⟨by kernel_rfl, ?hh9⟩) (by assumption) ?rh9
  case hh9 => (intro w hSw; (try dsimp only at hSw); first | (go_simp; done) | (go_simp; with_reducible rfl))
  try simp only [Act.put, List.setIfInBounds_toArray, List.set_cons_zero, List.set_cons_succ]
  refine take_dst (some 25) (i := 13) (v := ?vh10) rfl (by kernel_rfl) (by kernel_rfl) (by kernel_rfl) (by kernel_rfl) (fun _ _ _ h => h) (Or.inl ⟨by kernel_rfl, ?hh10⟩) (by assumption) ?rh10
  case hh10 => (intro w hSw; (try dsimp only at hSw); first | (go_simp; done) | (go_simp; with_reducible rfl))
  try simp only [Act.put, List.setIfInBounds_toArray, List.set_cons_zero, List.set_cons_succ]
  refine take_dst (some 26) (i := 14) (v := ?vh11) rfl (by kernel_rfl) (by kernel_rfl) (by kernel_rfl) (by kernel_rfl) (fun _ _ _ h => h) (Or.inl ⟨by kernel_rfl, ?hh11⟩) (by assumption) ?rh11
  case hh11 => (intro w hSw; (try dsimp only at hSw); first | (go_simp; done) | (go_simp; with_reducible rfl))
  try simp only [Act.put, List.setIfInBounds_toArray, List.set_cons_zero, List.set_cons_succ]
  refine take_dst (some 27) (i := 15) (v := ?vh12) rfl (by kernel_rfl) (by kernel_rfl) (by kernel_rfl) (by kernel_rfl) (fun _ _ _ h => h) (Or.inl ⟨by kernel_rfl, ?hh12⟩) (by assumption) ?rh12
  case hh12 => (intro w hSw; (try dsimp only at hSw); first | (go_simp; done) | (go_simp; with_reducible rfl))
  try simp only [Act.put, List.setIfInBounds_toArray, List.set_cons_zero, List.set_cons_succ]
  refine wpAnyH_ready (rs := [2]) (by kernel_rfl) (by simp) ?_
  refine AllReadyH.cons rfl (fun Kh13 hKh13 => ?_) AllReadyH.nil
  (go_simp; go_at_call 59; refine (U1.out _ OO.out).mono ?_; rintro e wn ⟨g1, cs1, cb1, rfl, L1, on⟩; have QL1 := Lib.hid L1; clear L1; have O9 := Lib.hid (OO.out.trans on); clear OO on; have OO := O9; clear O9; go_wp2_with fail)
  refine hKh13.out _ _ ?sh13 (fun hHeldh13 => ?_)
  case sh13 => exact CC.out _ OO.out
  clear hKh13 Kh13
  try simp only [Act.put, List.setIfInBounds_toArray, List.set_cons_zero, List.set_cons_succ]
  refine wpAnyH_ready (rs := [4]) (by kernel_rfl) (by simp) ?_
  refine AllReadyH.cons rfl (fun Kh14 hKh14 => ?_) AllReadyH.nil
  (go_simp; go_at_call 59; refine (U2.out _ OO.out).mono ?_; rintro e wn ⟨g2, cs2, cb2, rfl, L2, on⟩; have QL2 := Lib.hid L2; clear L2; have X1 := Lib.hid (QL1.out.keep on); clear QL1; have QL1 := X1; clear X1; have O9 := Lib.hid (OO.out.trans on); clear OO on; have OO := O9; clear O9; go_wp2_with fail)
  refine hKh14.out _ _ ?sh14 (fun hHeldh14 => ?_)
  case sh14 => exact CC.out _ OO.out
  clear hKh14 Kh14
  try simp only [Act.put, List.setIfInBounds_toArray, List.set_cons_zero, List.set_cons_succ]
  refine wpAnyH_ready (rs := [6]) (by kernel_rfl) (by simp) ?_
  refine AllReadyH.cons rfl (fun Kh15 hKh15 => ?_) AllReadyH.nil
  (go_simp; go_at_call 59; refine (U3.out _ OO.out).mono ?_; rintro e wn ⟨g3, cs3, cb3, rfl, L3, on⟩; have QL3 := Lib.hid L3; clear L3; have X1 := Lib.hid (QL1.out.keep on); clear QL1; have QL1 := X1; clear X1; have X2 := Lib.hid (QL2.out.keep on); clear QL2; have QL2 := X2; clear X2; have O9 := Lib.hid (OO.out.trans on); clear OO on; have OO := O9; clear O9; go_wp2_with fail)
  refine hKh15.out _ _ ?sh15 (fun hHeldh15 => ?_)
  case sh15 => exact CC.out _ OO.out
  clear hKh15 Kh15
  try simp only [Act.put, List.setIfInBounds_toArray, List.set_cons_zero, List.set_cons_succ]
  refine wpAnyH_ready (rs := [9]) (by kernel_rfl) (by simp) ?_
  refine AllReadyH.cons rfl (fun Kh16 hKh16 => ?_) AllReadyH.nil
  (go_simp; go_at_call 59; refine (U4.out _ OO.out).mono ?_; rintro e wn ⟨g4, cs4, cb4, rfl, L4, on⟩; have QL4 := Lib.hid L4; clear L4; have X1 := Lib.hid (QL1.out.keep on); clear QL1; have QL1 := X1; clear X1; have X2 := Lib.hid (QL2.out.keep on); clear QL2; have QL2 := X2; clear X2; have X3 := Lib.hid (QL3.out.keep on); clear QL3; have QL3 := X3; clear X3; have O9 := Lib.hid (OO.out.trans on); clear OO on; have OO := O9; clear O9; go_wp2_with fail)
  refine hKh16.out _ _ ?sh16 (fun hHeldh16 => ?_)
  case sh16 => exact CC.out _ OO.out
  clear hKh16 Kh16
  try simp only [Act.put, List.setIfInBounds_toArray, List.set_cons_zero, List.set_cons_succ]
  refine wpAnyH_ready (rs := [16]) (by kernel_rfl) (by simp) ?_
  refine AllReadyH.cons rfl (fun Kh17 hKh17 => ?_) AllReadyH.nil
  (go_simp; go_at_call 62; refine (U5.out _ OO.out).mono ?_; rintro e wn ⟨g5, cs5, cb5, rfl, L5, on⟩; have QL5 := Lib.hid L5; clear L5; have X1 := Lib.hid (QL1.out.keep on); clear QL1; have QL1 := X1; clear X1; have X2 := Lib.hid (QL2.out.keep on); clear QL2; have QL2 := X2; clear X2; have X3 := Lib.hid (QL3.out.keep on); clear QL3; have QL3 := X3; clear X3; have X4 := Lib.hid (QL4.out.keep on); clear QL4; have QL4 := X4; clear X4; have O9 := Lib.hid (OO.out.trans on); clear OO on; have OO := O9; clear O9; go_wp2_with fail)
  refine hKh17.out _ _ ?sh17 (fun hHeldh17 => ?_)
  case sh17 => exact CC.out _ OO.out
  clear hKh17 Kh17
  try simp only [Act.put, List.setIfInBounds_toArray, List.set_cons_zero, List.set_cons_succ]
  refine wpAnyH_ready (rs := [17]) (by kernel_rfl) (by simp) ?_
  refine AllReadyH.cons rfl (fun Kh18 hKh18 => ?_) AllReadyH.nil
  go_simp
  refine hKh18.out _ _ ?sh18 (fun hHeldh18 => ?_)
  case sh18 => exact CC.out _ (OO.out.alloc _)
  clear hKh18 Kh18
  try simp only [Act.put, List.setIfInBounds_toArray, List.set_cons_zero, List.set_cons_succ]
  refine wpAnyH_ready (rs := [18]) (by kernel_rfl) (by simp) ?_
  refine AllReadyH.cons rfl (fun Kh19 hKh19 => ?_) AllReadyH.nil
  (go_simp; go_at_call 58; refine (first_box [(.func (.func g1) cs1 cb1, un 43 (rowIn z)), (.func (.func g2) cs2 cb2, un 41 (isNew (y.rows.map headR) i)), (.func (.func g3) cs3 cb3, un 40 (decide (nE ≤ 8))), (.func (.func g4) cs4 cb4, un 45 (alone z.effs)), (.func (.func g5) cs5 cb5, eachO nE (ofEff (P.map Kd.name) (x.states.map Sta.name) z.effs))] (List.forall_mem_cons.2 ⟨QL1.out, List.forall_mem_cons.2 ⟨QL2.out, List.forall_mem_cons.2 ⟨QL3.out, List.forall_mem_cons.2 ⟨QL4.out, List.forall_mem_cons.2 ⟨QL5.out, fun _ h => absurd h List.not_mem_nil⟩⟩⟩⟩⟩) (by simp)).mono ?_; rintro e wn ⟨p, rfl, hQ, on⟩; have HQ := Lib.hid (hQ.lower (Nat.le_trans HS.out OO.out.size)); clear hQ; have O9 := Lib.hid (OO.out.trans on); clear OO on; have OO := O9; clear O9; go_wp2_with fail)
  refine hKh19.out _ _ ?sh19 (fun hHeldh19 => ?_)
  case sh19 => exact CC.out _ OO.out
  clear hKh19 Kh19
  try simp only [Act.put, List.setIfInBounds_toArray, List.set_cons_zero, List.set_cons_succ]
  refine take_dst (some 4) (i := 19) (v := ?vh20) rfl (by kernel_rfl) (by kernel_rfl) (by kernel_rfl) (by kernel_rfl) (fun _ _ _ h => h) (Or.inl ⟨by kernel_rfl, ?hh20⟩) (by assumption) ?rh20
  case hh20 => (intro w hSw; (try dsimp only at hSw); first | (go_simp; done) | (go_simp; with_reducible rfl))
  try simp only [Act.put, List.setIfInBounds_toArray, List.set_cons_zero, List.set_cons_succ]
  refine wpAnyH_done (by kernel_rfl) ?_ _
  go_wp2
  go_ret
  exact ⟨by rw [HB.out]; exact HQ.out.ret, O2.out.trans OO.out⟩
end Go.Proofs.YthanclicnkjmiaaGreatDoor.Ch
