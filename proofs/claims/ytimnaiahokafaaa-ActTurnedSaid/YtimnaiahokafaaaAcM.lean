/- act: ActPlans. -/
import Derived.Test.YtimnaiahokafaaaAcL
import Derived.Test.YtimnaiahokafaaaAcR
set_option linter.unusedVariables false
set_option linter.unusedSimpArgs false
namespace Go.Proofs.Ytimnaiahokafaaa.Ac
open Go Go.RowKit Go.Proofs.Ytimnaiahokafaaa Lx Ps Ch

set_option maxHeartbeats 8000000 in
set_option maxRecDepth 100000 in
theorem plans_all {w : World} (k : Kd) {v1 : Value} {a2 : Option Addr} {n2 c2 : Nat} (hS : SIn w.heap.size w a2 n2 c2 k.states) (s t : Wd) (n : Int) (hn : inW n) :
    Calls Try.prog 3 #[.agg #[.string (bs k.name), .int .i64 k.limit, .int .i64 k.within, v1, .slice a2 n2 c2], .string (bs s), .string (bs t), .int .i64 n] w fun e w' => e = .returned (.bool true) ∧ Below w.heap.size w w' := by
  obtain ⟨W1, hW1⟩ : ∃ W, W = w.alloc (.cells #[.string (bs k.name), .int .i64 k.limit, .int .i64 k.within, v1, .slice a2 n2 c2] 25) := ⟨_, rfl⟩
  have s1 : W1.heap.size = w.heap.size + 1 := by rw [hW1]; simp
  have o1 : Only Nil w W1 := hW1 ▸ (Only.refl Nil w).alloc _
  have b1 : Bx W1 (w.heap.size) [.string (bs k.name), .int .i64 k.limit, .int .i64 k.within, v1, .slice a2 n2 c2] 25 := hW1 ▸ bx_new w _ _
  have X1 := Lib.hid b1
  have O := Lib.hid o1
  have SZ := Lib.hid s1
  have HA := Lib.hid (fun w' => alive_any w')
  have hsz : (planOf k.states s t n).effs.length ≤ 140737488355328 := by
    have h1 := doE_len n (rowOf k.states s t n).effs s
    have h2 := row_bz hS.bz s t n
    unfold planOf; omega
  have HD0 := Lib.hid (fun w' (o : Only Nil W1 w') => do_any (nm := k.name) (lim := k.limit) (wi := k.within) (v1 := v1) ((hS.keep O.out).keep o) s t n hn)
  have HR0 := Lib.hid (fun w' (o : Only Nil W1 w') => rdo_any (nm := k.name) (lim := k.limit) (wi := k.within) (v1 := v1) ((hS.keep O.out).keep o) s t n hn)
  generalize planOf k.states s t n = p at *
  have HD : Hid (∀ w', Only Nil W1 w' → Calls Try.prog 13 #[.agg #[.string (bs k.name), .int .i64 k.limit, .int .i64 k.within, v1, .slice a2 n2 c2], .string (bs s), .string (bs t), .int .i64 n] w' fun e w'' => (∃ va vc, e = .returned (.agg #[.bool p.stash, .slice va p.effs.length vc, .string (bs p.state), .bool p.stop, .string (bs p.fail)]) ∧ MEff w'' (.slice va p.effs.length vc) p.effs) ∧ Only Nil w' w'') := Lib.hid fun w' o => (HD0.out w' o).mono fun e w'' hh => by
    obtain ⟨v, h1, h2, _⟩ := hh.1.out
    obtain ⟨va, vc, rfl⟩ := own_slice_n h2
    exact ⟨⟨va, vc, h1, h2⟩, hh.2⟩
  have HR : Hid (∀ w', Only Nil W1 w' → Calls Try.prog 14 #[.agg #[.string (bs k.name), .int .i64 k.limit, .int .i64 k.within, v1, .slice a2 n2 c2], .string (bs s), .string (bs t), .int .i64 n] w' fun e w'' => (∃ va vc, e = .returned (.agg #[.bool p.stash, .slice va p.effs.length vc, .string (bs p.state), .bool p.stop, .string (bs p.fail)]) ∧ MEff w'' (.slice va p.effs.length vc) p.effs) ∧ Only Nil w' w'') := Lib.hid fun w' o => (HR0.out w' o).mono fun e w'' hh => by
    obtain ⟨v, h1, h2, _⟩ := hh.1.out
    obtain ⟨va, vc, rfl⟩ := own_slice_n h2
    exact ⟨⟨va, vc, h1, h2⟩, hh.2⟩
  have HZ := Lib.hid hsz
  clear hS hn hsz HD0 HR0
  go_enter Try.func3, Try.ntmps3
  go_upto_region 1 with (fail)
  (try simp only [World.size_alloc])
  rw [← hW1]
  clear hW1 s1 o1 b1
  generalize hB1 : w.heap.size = B1 at *
  have HB1 := Lib.hid hB1
  clear hB1
  have CC := Lib.hid (show ∀ w', Only Nil W1 w' → (fun w' : World => w'.cell? ⟨B1, 0, none⟩ = some (.string (bs k.name)) ∧ w'.cell? ⟨B1, 1, none⟩ = some (.int .i64 k.limit) ∧ w'.cell? ⟨B1, 2, none⟩ = some (.int .i64 k.within) ∧ w'.cell? ⟨B1, 3, none⟩ = some (v1) ∧ w'.cell? ⟨B1, 4, none⟩ = some (.slice a2 n2 c2)) w' from fun w' o => by
    have hh := X1.out.keep o
    exact ⟨hh.cell 0 rfl, hh.cell 1 rfl, hh.cell 2 rfl, hh.cell 3 rfl, hh.cell 4 rfl⟩)
  have OO := Lib.hid (show Only Nil W1 W1.drew from (Only.refl Nil W1).drew)
  refine wp_region_held_drew (S := fun w' => w'.cell? ⟨B1, 0, none⟩ = some (.string (bs k.name)) ∧ w'.cell? ⟨B1, 1, none⟩ = some (.int .i64 k.limit) ∧ w'.cell? ⟨B1, 2, none⟩ = some (.int .i64 k.within) ∧ w'.cell? ⟨B1, 3, none⟩ = some (v1) ∧ w'.cell? ⟨B1, 4, none⟩ = some (.slice a2 n2 c2)) (by kernel_rfl) (CC.out _ OO.out) (fun hHeld => ?_)
  refine wpAnyH_ready (rs := [0]) (by kernel_rfl) (by simp) ?_
  refine AllReadyH.cons rfl (fun Kpl1 hKpl1 => ?_) AllReadyH.nil
  (go_simp; go_at_call 11; refine (HA.out _).mono ?_; rintro e wn ⟨rfl, on⟩; have X := Lib.hid (OO.out.trans on); clear OO; have OO := X; clear X; clear on; go_wp2_with fail)
  refine hKpl1.out _ _ ?spl1 (fun hHeldpl1 => ?_)
  case spl1 => exact CC.out _ OO.out
  clear hKpl1 Kpl1
  try simp only [Act.put, List.setIfInBounds_toArray, List.set_cons_zero, List.set_cons_succ]
  refine take_dst (some 10) (i := 1) (v := ?vpl2) rfl (by kernel_rfl) (by kernel_rfl) (by kernel_rfl) (by kernel_rfl) (fun _ _ _ h => h) (Or.inl ⟨by kernel_rfl, ?hpl2⟩) (by assumption) ?rpl2
  case hpl2 => (intro w hSw; (try dsimp only at hSw); first | (go_simp; done) | (go_simp; with_reducible rfl))
  try simp only [Act.put, List.setIfInBounds_toArray, List.set_cons_zero, List.set_cons_succ]
  refine take_dst (some 11) (i := 2) (v := ?vpl3) rfl (by kernel_rfl) (by kernel_rfl) (by kernel_rfl) (by kernel_rfl) (fun _ _ _ h => h) (Or.inl ⟨by kernel_rfl, ?hpl3⟩) (by assumption) ?rpl3
  case hpl3 => (intro w hSw; (try dsimp only at hSw); first | (go_simp; done) | (go_simp; with_reducible rfl))
  try simp only [Act.put, List.setIfInBounds_toArray, List.set_cons_zero, List.set_cons_succ]
  refine take_dst (some 12) (i := 3) (v := ?vpl4) rfl (by kernel_rfl) (by kernel_rfl) (by kernel_rfl) (by kernel_rfl) (fun _ _ _ h => h) (Or.inl ⟨by kernel_rfl, ?hpl4⟩) (by assumption) ?rpl4
  case hpl4 => (intro w hSw; (try dsimp only at hSw); first | (go_simp; done) | (go_simp; with_reducible rfl))
  try simp only [Act.put, List.setIfInBounds_toArray, List.set_cons_zero, List.set_cons_succ]
  refine take_dst (some 13) (i := 4) (v := ?vpl5) rfl (by kernel_rfl) (by kernel_rfl) (by kernel_rfl) (by kernel_rfl) (fun _ _ _ h => h) (Or.inl ⟨by kernel_rfl, ?hpl5⟩) (by assumption) ?rpl5
  case hpl5 => (intro w hSw; (try dsimp only at hSw); first | (go_simp; done) | (go_simp; with_reducible rfl))
  try simp only [Act.put, List.setIfInBounds_toArray, List.set_cons_zero, List.set_cons_succ]
  refine take_dst (some 14) (i := 5) (v := ?vpl6) rfl (by kernel_rfl) (by kernel_rfl) (by kernel_rfl) (by kernel_rfl) (fun _ _ _ h => h) (Or.inl ⟨by kernel_rfl, ?hpl6⟩) (by assumption) ?rpl6
  case hpl6 => (intro w hSw; (try dsimp only at hSw); first | (go_simp; done) | (go_simp; with_reducible rfl))
  try simp only [Act.put, List.setIfInBounds_toArray, List.set_cons_zero, List.set_cons_succ]
  refine take_dst (some 16) (i := 7) (v := ?vpl7) rfl (by kernel_rfl) (by kernel_rfl) (by kernel_rfl) (by kernel_rfl) (fun _ _ _ h => h) (Or.inl ⟨by kernel_rfl, ?hpl7⟩) (by assumption) ?rpl7
  case hpl7 => (intro w hSw; (try dsimp only at hSw); first | (go_simp; done) | (go_simp; with_reducible rfl))
  try simp only [Act.put, List.setIfInBounds_toArray, List.set_cons_zero, List.set_cons_succ]
  refine take_dst (some 17) (i := 8) (v := ?vpl8) rfl (by kernel_rfl) (by kernel_rfl) (by kernel_rfl) (by kernel_rfl) (fun _ _ _ h => h) (Or.inl ⟨by kernel_rfl, ?hpl8⟩) (by assumption) ?rpl8
  case hpl8 => (intro w hSw; (try dsimp only at hSw); first | (go_simp; done) | (go_simp; with_reducible rfl))
  try simp only [Act.put, List.setIfInBounds_toArray, List.set_cons_zero, List.set_cons_succ]
  refine take_dst (some 18) (i := 9) (v := ?vpl9) rfl (by kernel_rfl) (by kernel_rfl) (by kernel_rfl) (by kernel_rfl) (fun _ _ _ h => h) (Or.inl ⟨by kernel_rfl, ?hpl9⟩) (by assumption) ?rpl9
  case hpl9 => (intro w hSw; (try dsimp only at hSw); first | (go_simp; done) | (go_simp; with_reducible rfl))
  try simp only [Act.put, List.setIfInBounds_toArray, List.set_cons_zero, List.set_cons_succ]
  refine take_dst (some 19) (i := 10) (v := ?vpl10) rfl (by kernel_rfl) (by kernel_rfl) (by kernel_rfl) (by kernel_rfl) (fun _ _ _ h => h) (Or.inl ⟨by kernel_rfl, ?hpl10⟩) (by assumption) ?rpl10
  case hpl10 => (intro w hSw; (try dsimp only at hSw); first | (go_simp; done) | (go_simp; with_reducible rfl))
  try simp only [Act.put, List.setIfInBounds_toArray, List.set_cons_zero, List.set_cons_succ]
  refine wpAnyH_ready (rs := [6]) (by kernel_rfl) (by simp) ?_
  refine AllReadyH.cons rfl (fun Kpl11 hKpl11 => ?_) AllReadyH.nil
  (go_simp; go_at_call 13; refine (HD.out _ OO.out).mono ?_; rintro e wn ⟨⟨va, vc, rfl, hv⟩, on⟩; have M1 := Lib.hid hv; have X := Lib.hid (OO.out.trans on); clear OO; have OO := X; clear X; clear hv on; go_wp2_with fail)
  refine hKpl11.out _ _ ?spl11 (fun hHeldpl11 => ?_)
  case spl11 => exact CC.out _ OO.out
  clear hKpl11 Kpl11
  try simp only [Act.put, List.setIfInBounds_toArray, List.set_cons_zero, List.set_cons_succ]
  refine wpAnyH_ready (rs := [11]) (by kernel_rfl) (by simp) ?_
  refine AllReadyH.cons rfl (fun Kpl12 hKpl12 => ?_) AllReadyH.nil
  (go_simp; go_at_call 14; refine (HR.out _ OO.out).mono ?_; rintro e wn ⟨⟨vb, vd, rfl, hv⟩, on⟩; have M2 := Lib.hid hv; have X := Lib.hid (MEff.keep (t := 30) M1.out on (ofT_nil _ _) (by decide)); clear M1; have M1 := X; clear X; have X := Lib.hid (OO.out.trans on); clear OO; have OO := X; clear X; clear hv on; go_wp2_with fail)
  refine hKpl12.out _ _ ?spl12 (fun hHeldpl12 => ?_)
  case spl12 => exact CC.out _ OO.out
  clear hKpl12 Kpl12
  try simp only [Act.put, List.setIfInBounds_toArray, List.set_cons_zero, List.set_cons_succ]
  refine wpAnyH_ready (rs := [12]) (by kernel_rfl) (by simp) ?_
  refine AllReadyH.cons rfl (fun Kpl13 hKpl13 => ?_) AllReadyH.nil
  (go_simp; go_at_call 12; refine (rsame15 p (MEff.x M1.out) (MEff.x M2.out) rfl HZ.out).mono ?_; rintro e wn ⟨rfl, on⟩; have X := Lib.hid (OO.out.trans on); clear OO; have OO := X; clear X; clear on; go_wp2_with fail)
  refine hKpl13.out _ _ ?spl13 (fun hHeldpl13 => ?_)
  case spl13 => exact CC.out _ OO.out
  clear hKpl13 Kpl13
  try simp only [Act.put, List.setIfInBounds_toArray, List.set_cons_zero, List.set_cons_succ]
  refine take_dst (some 22) (i := 13) (v := ?vpl14) rfl (by kernel_rfl) (by kernel_rfl) (by kernel_rfl) (by kernel_rfl) (fun _ _ _ h => h) (Or.inl ⟨by kernel_rfl, ?hpl14⟩) (by assumption) ?rpl14
  case hpl14 => (intro w hSw; (try dsimp only at hSw); first | (go_simp; done) | (go_simp; with_reducible rfl))
  try simp only [Act.put, List.setIfInBounds_toArray, List.set_cons_zero, List.set_cons_succ]
  refine take_dst (some 8) (i := 14) (v := ?vpl15) rfl (by kernel_rfl) (by kernel_rfl) (by kernel_rfl) (by kernel_rfl) (fun _ _ _ h => h) (Or.inl ⟨by kernel_rfl, ?hpl15⟩) (by assumption) ?rpl15
  case hpl15 => (intro w hSw; (try dsimp only at hSw); first | (go_simp; done) | (go_simp; with_reducible rfl))
  try simp only [Act.put, List.setIfInBounds_toArray, List.set_cons_zero, List.set_cons_succ]
  refine wpAnyH_done (by kernel_rfl) ?_ _
  go_wp2
  go_ret
  exact ⟨rfl, below_of (O.out.trans OO.out)⟩
theorem plans_row (k : Kd) (v1 v2 : Value) (w : World) (x : XC w.heap.size w v1 k.cases ∧ XS w.heap.size w v2 k.states) (wk : wfK k) (zk : bzK k) (s t : ByteArray) (n : Int) (hn : inW n) :
    Calls Try.prog 3 #[.agg #[.string (bs k.name), .int .i64 k.limit, .int .i64 k.within, v1, v2], .string s, .string t, .int .i64 n] w fun e w' => e = .returned (.bool true) ∧ Below w.heap.size w w' := by
  obtain ⟨sa, sc, rfl⟩ := x.2.slice
  have h := plans_all k (v1 := v1) (sin_of x.2 wk zk) s.data.toList t.data.toList n hn
  rw [bs_of, bs_of] at h
  exact h
end Go.Proofs.Ytimnaiahokafaaa.Ac
