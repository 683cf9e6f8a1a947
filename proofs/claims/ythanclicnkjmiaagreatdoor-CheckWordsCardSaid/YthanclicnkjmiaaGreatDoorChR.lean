/- check: the document's examples hold. -/
import Derived.Test.YthanclicnkjmiaaGreatDoorChQ
set_option linter.unusedVariables false
namespace Go.Proofs.YthanclicnkjmiaaGreatDoor.Ch
open Go.RowKit Go.Proofs.YthanclicnkjmiaaGreatDoor Lx Ps

def eA : Eff := ⟨3, [], [], [116], 0, 0, 0⟩
def eS : Eff := ⟨4, [], [], [], 0, 0, 0⟩
def eO : Eff := ⟨11, [], [], [], 0, 0, 0⟩
def eU : Eff := ⟨5, [], [], [], 0, 0, 0⟩
theorem ex_none : whole [] = some (40, []) := by decide +kernel
theorem ex_bad : whole (oneP [eA]) = some (42, [1, 1, 1, 1]) := by decide +kernel
theorem ex_alone : whole (oneP [eS, eO]) = some (45, [1, 1, 1]) := by decide +kernel
theorem ex_last : whole (oneP [eO, eU]) = some (44, [1, 1, 1, 1]) := by decide +kernel
theorem ex_ok : whole (oneP [eO]) = none := by decide +kernel
theorem wf_one {E : List Eff} (h : ∀ e ∈ E, wfE e) : wfP (oneP E) := by
  intro k hk
  rw [show k = _ from List.mem_singleton.1 hk]
  have i0 : inW 0 := by unfold inW; decide
  have i1 : inW 1 := by unfold inW; decide
  refine ⟨i0, i1, by simp, (fun c hc => absurd hc List.not_mem_nil), fun s hs => ?_⟩
  rw [show s = _ from List.mem_singleton.1 hs]
  refine ⟨by simp, fun r hr => ?_⟩
  rw [show r = _ from List.mem_singleton.1 hr]
  exact ⟨i0, by simp, h⟩
theorem sz_one {E : List Eff} (h : E.length ≤ 1000) : szP (oneP E) := by
  refine ⟨by simp [oneP], fun k hk => ?_⟩
  rw [show k = _ from List.mem_singleton.1 hk]
  refine ⟨by simp, by simp, fun s hs => ?_⟩
  rw [show s = _ from List.mem_singleton.1 hs]
  refine ⟨by simp, fun r hr => ?_⟩
  rw [show r = _ from List.mem_singleton.1 hr]
  unfold szR; dsimp only; omega
theorem wf_e : wfE eA ∧ wfE eS ∧ wfE eO ∧ wfE eU := by
  refine ⟨?_, ?_, ?_, ?_⟩ <;> (constructor <;> (first | (unfold inW; decide) | decide))
theorem vk_one {w : World} {E : List Eff} {q : Nat} (h : XK w.heap.size w (.slice (some ⟨q, 0, none⟩) 1 1) (oneP E)) (hl : E.length ≤ 1000) (hE : ∀ e ∈ E, wfE e) : VK w.heap.size w (oneP E) (some ⟨q, 0, none⟩) 1 1 :=
  ⟨h, rfl, by decide, sz_one hl, wf_one hE⟩
theorem vk_nil (w : World) (D : Nat) : VK D w [] none 0 0 :=
  ⟨⟨[], rfl, ⟨none, 0, ⟨rfl, Nat.le_refl _⟩, rfl, fun i hi => absurd hi (Nat.not_lt_zero i)⟩, fun x hx => absurd hx List.not_mem_nil⟩, rfl, Nat.zero_le _, ⟨Nat.zero_le _, fun k hk => absurd hk List.not_mem_nil⟩, fun k hk => absurd hk List.not_mem_nil⟩
/-- one, at a row of effects that was just laid. -/
theorem one_new (w : World) (E : List Eff) (n : Nat) (hn : E.length = n) (hl : n ≤ 1000) (hE : ∀ e ∈ E, wfE e) :
    Calls Tryz.prog 33 #[.slice (some ⟨w.heap.size, 0, none⟩) n n] (w.alloc (.cells (E.flatMap effC).toArray 67)) fun e w' => ∃ q, e = .returned (.agg #[.slice (some ⟨q, 0, none⟩) 1 1]) ∧ VK w'.heap.size w' (oneP E) (some ⟨q, 0, none⟩) 1 1 ∧ Only Nil w w' := by
  have o : Only Nil w (w.alloc (.cells (E.flatMap effC).toArray 67)) := (Only.refl Nil w).alloc _
  have hb := bx_new w (E.flatMap effC) 67
  have hx : XE (w.heap.size + 1) (w.alloc (.cells (E.flatMap effC).toArray 67)) (.slice (some ⟨w.heap.size, 0, none⟩) n n) E := by
    unfold XE; rw [hn]
    refine cin_box hb ?_ (by omega)
    rw [← hn]
    clear hn hE hb o hl
    induction E with
    | nil => rfl
    | cons e E ih => rw [List.flatMap_cons, List.length_append, ih, List.length_cons, Nat.add_mul]; simp [effC]; omega
  refine (one_any hx hn (by simp)).mono fun e w' ⟨q, h1, h2, h3⟩ => ⟨q, h1, vk_one h2 (by omega) hE, o.trans h3⟩
/-- What is told of a program's fault. -/
theorem code_at {lo : Nat} {w : World} {b : Nat} {x : Nat × List Nat} (h : BadAt lo w b x) (hE : EnvE w) : Calls Tryz.prog 16 #[.iface 46 (.pointer (some ⟨b, 0, none⟩))] w fun e w' => e = .returned (.int .i64 (x.1 : Int)) ∧ Only Nil w w' :=
  code_any (r := some x) ⟨b, rfl, h⟩ hE
theorem where_at {lo : Nat} {w : World} {b : Nat} {x : Nat × List Nat} (h : BadAt lo w b x) (hE : EnvE w) (hs : x.2.length ≤ 100) (n : Nat) (hn : x.2.length = n) : Calls Tryz.prog 18 #[.iface 46 (.pointer (some ⟨b, 0, none⟩))] w fun e w' => ∃ a c, e = .returned (.slice a n c) ∧ w'.ownsRow w.heap.size 3 1 (.slice a n c) n (intsC x.2) ∧ Only Nil w w' := by
  subst hn
  exact where_any (r := some x) ⟨b, rfl, h⟩ hE hs
set_option maxHeartbeats 4000000 in
set_option maxRecDepth 100000 in
theorem alive_any (w : World) (hE : EnvE w) : Calls Tryz.prog 13 #[] w fun e w' => e = .returned (.bool true) ∧ Only Nil w w' := by
  have KE := Lib.hid (show ∀ w', Only Nil w w' → EnvE w' from fun w' o => hE.keep o)
  have C0 : Hid (Calls Tryz.prog 14 #[.agg #[.slice none 0 0]] w fun e w' => ∃ b, e = .returned (.iface 46 (.pointer (some ⟨b, 0, none⟩))) ∧ BadAt w.heap.size w' b (40, []) ∧ Only Nil w w') := Lib.hid (by
    have := prog_err (vk_nil w 0) (Lib.hid (Nat.zero_le w.heap.size))
    rw [ex_none] at this
    exact this.mono fun e w' ⟨v, h1, ⟨b, h2, h3⟩, h4⟩ => ⟨b, by rw [h1, h2], h3, h4⟩)
  have CB : Hid (∀ w1 E q x, whole (oneP E) = some x → VK w1.heap.size w1 (oneP E) (some ⟨q, 0, none⟩) 1 1 → Calls Tryz.prog 14 #[.agg #[.slice (some ⟨q, 0, none⟩) 1 1]] w1 fun e w' => ∃ b, e = .returned (.iface 46 (.pointer (some ⟨b, 0, none⟩))) ∧ BadAt w1.heap.size w' b x ∧ Only Nil w1 w') := Lib.hid (fun w1 E q x hx hv => by
    have := prog_err hv (Lib.hid (Nat.le_refl _))
    rw [hx] at this
    exact this.mono fun e w' ⟨v, h1, ⟨b, h2, h3⟩, h4⟩ => ⟨b, by rw [h1, h2], h3, h4⟩)
  have CO : Hid (∀ w1 q, VK w1.heap.size w1 (oneP [eO]) (some ⟨q, 0, none⟩) 1 1 → Calls Tryz.prog 14 #[.agg #[.slice (some ⟨q, 0, none⟩) 1 1]] w1 fun e w' => e = .returned .nilIface ∧ Only Nil w1 w') := Lib.hid (fun w1 q hv => by
    have := prog_err hv (Lib.hid (Nat.le_refl _))
    rw [ex_ok] at this
    exact this.mono fun e w' ⟨v, h1, h2, h4⟩ => ⟨by rw [h1, show v = .nilIface from h2], h4⟩)
  clear hE
  go_enter Tryz.func13, Tryz.ntmps13
  go_wp2_with fail
  refine C0.out.mono ?_
  rintro e w1 ⟨b1, rfl, f1, o1⟩
  have O1 := Lib.hid o1; have F1 := Lib.hid f1; clear o1 f1
  go_wp2_with fail
  refine (one_new w1 [eA] 1 rfl (by decide) (fun e he => by rw [List.mem_singleton.1 he]; exact wf_e.1)).mono ?_
  rintro e w2 ⟨q2, rfl, v2, o2⟩
  have O2 := Lib.hid (O1.out.trans o2); have F2 := Lib.hid (F1.out.keep o2); have V2 := Lib.hid v2; clear o2 F1 v2
  go_wp2_with fail
  refine (CB.out w2 _ q2 _ ex_bad V2.out).mono ?_
  rintro e w3 ⟨b2, rfl, f3, o3⟩
  have O3 := Lib.hid (O2.out.trans o3); have F3 := Lib.hid (F2.out.keep o3); have G3 := Lib.hid f3; clear o3 F2 f3 V2
  go_wp2_with fail
  refine (one_new w3 [eS, eO] 2 rfl (by decide) (fun e he => by
    simp only [List.mem_cons, List.not_mem_nil, or_false] at he
    rcases he with rfl | rfl
    · exact wf_e.2.1
    · exact wf_e.2.2.1)).mono ?_
  rintro e w4 ⟨q4, rfl, v4, o4⟩
  have O4 := Lib.hid (O3.out.trans o4); have F4 := Lib.hid (F3.out.keep o4); have G4 := Lib.hid (G3.out.keep o4); have V4 := Lib.hid v4; clear o4 F3 G3 v4
  go_wp2_with fail
  refine (CB.out w4 _ q4 _ ex_alone V4.out).mono ?_
  rintro e w5 ⟨b3, rfl, f5, o5⟩
  have O5 := Lib.hid (O4.out.trans o5); have F5 := Lib.hid (F4.out.keep o5); have G5 := Lib.hid (G4.out.keep o5); have H5 := Lib.hid f5; clear o5 F4 G4 f5 V4
  go_wp2_with fail
  refine (one_new w5 [eO, eU] 2 rfl (by decide) (fun e he => by
    simp only [List.mem_cons, List.not_mem_nil, or_false] at he
    rcases he with rfl | rfl
    · exact wf_e.2.2.1
    · exact wf_e.2.2.2)).mono ?_
  rintro e w6 ⟨q6, rfl, v6, o6⟩
  have O6 := Lib.hid (O5.out.trans o6); have F6 := Lib.hid (F5.out.keep o6); have G6 := Lib.hid (G5.out.keep o6); have H6 := Lib.hid (H5.out.keep o6); have V6 := Lib.hid v6; clear o6 F5 G5 H5 v6
  go_wp2_with fail
  refine (CB.out w6 _ q6 _ ex_last V6.out).mono ?_
  rintro e w7 ⟨b4, rfl, f7, o7⟩
  have O7 := Lib.hid (O6.out.trans o7); have F7 := Lib.hid (F6.out.keep o7); have G7 := Lib.hid (G6.out.keep o7); have H7 := Lib.hid (H6.out.keep o7); have I7 := Lib.hid f7; clear o7 F6 G6 H6 f7 V6
  go_wp2_with fail
  refine (one_new w7 [eO] 1 rfl (by decide) (fun e he => by rw [List.mem_singleton.1 he]; exact wf_e.2.2.1)).mono ?_
  rintro e w8 ⟨q8, rfl, v8, o8⟩
  have O8 := Lib.hid (O7.out.trans o8); have P8 := Lib.hid o8; have V8 := Lib.hid v8; clear o8 v8
  go_wp2_with fail
  refine (CO.out w8 q8 V8.out).mono ?_
  rintro e w9 ⟨rfl, o9⟩
  have Q := Lib.hid (P8.out.trans o9)
  have O9 := Lib.hid (O8.out.trans o9)
  have FF := Lib.hid (F7.out.keep Q.out)
  have GG := Lib.hid (G7.out.keep Q.out)
  have HH := Lib.hid (H7.out.keep Q.out)
  have II := Lib.hid (I7.out.keep Q.out)
  clear o9 P8 O8 V8 F7 G7 H7 I7 Q
  have B1 : Hid (∀ w', Only Nil w9 w' → Calls Tryz.prog 16 #[.iface 46 (.pointer (some ⟨b1, 0, none⟩))] w' fun e w'' => e = .returned (.int .i64 40) ∧ Only Nil w' w'') := Lib.hid fun w' o => code_at (FF.out.keep o) (KE.out _ (O9.out.trans o))
  have B2 : Hid (∀ w', Only Nil w9 w' → Calls Tryz.prog 16 #[.iface 46 (.pointer (some ⟨b2, 0, none⟩))] w' fun e w'' => e = .returned (.int .i64 42) ∧ Only Nil w' w'') := Lib.hid fun w' o => code_at (GG.out.keep o) (KE.out _ (O9.out.trans o))
  have B3 : Hid (∀ w', Only Nil w9 w' → Calls Tryz.prog 16 #[.iface 46 (.pointer (some ⟨b3, 0, none⟩))] w' fun e w'' => e = .returned (.int .i64 45) ∧ Only Nil w' w'') := Lib.hid fun w' o => code_at (HH.out.keep o) (KE.out _ (O9.out.trans o))
  have B4 : Hid (∀ w', Only Nil w9 w' → Calls Tryz.prog 16 #[.iface 46 (.pointer (some ⟨b4, 0, none⟩))] w' fun e w'' => e = .returned (.int .i64 44) ∧ Only Nil w' w'') := Lib.hid fun w' o => code_at (II.out.keep o) (KE.out _ (O9.out.trans o))
  have D1 := Lib.hid (fun w' (o : Only Nil w9 w') => where_at (FF.out.keep o) (KE.out _ (O9.out.trans o)) (by decide) 0 rfl)
  have D2 := Lib.hid (fun w' (o : Only Nil w9 w') => where_at (GG.out.keep o) (KE.out _ (O9.out.trans o)) (by decide) 4 rfl)
  have D3 := Lib.hid (fun w' (o : Only Nil w9 w') => where_at (HH.out.keep o) (KE.out _ (O9.out.trans o)) (by decide) 3 rfl)
  have BN : Hid (∀ w', Calls Tryz.prog 16 #[.nilIface] w' fun e w'' => e = .returned (.int .i64 0) ∧ Only Nil w' w'') := Lib.hid fun w' => by
    go_enter Tryz.func16, Tryz.ntmps16
    go_wp2
    go_ret
    exact ⟨rfl, Only.refl _ _⟩
  clear FF GG HH II CB CO C0 O2 O3 O4 O5 O6 O7
  go_wp2_with fail
  refine (B1.out w9 (Only.refl _ _)).mono ?_
  rintro e x1 ⟨rfl, p1⟩
  have P1 := Lib.hid p1; clear p1
  go_wp2_with fail
  refine (D1.out x1 P1.out).mono ?_
  rintro e x2 ⟨a2, c2, rfl, _, p2⟩
  have P2 := Lib.hid (P1.out.trans p2); clear p2
  go_wp2_with fail
  refine (B2.out x2 P2.out).mono ?_
  rintro e x3 ⟨rfl, p3⟩
  have P3 := Lib.hid (P2.out.trans p3); clear p3
  go_wp2_with fail
  refine (D2.out x3 P3.out).mono ?_
  rintro e x4 ⟨a4, c4, rfl, h4, p4⟩
  have P4 := Lib.hid (P3.out.trans p4); have R4 := Lib.hid h4; clear p4 h4
  go_wp2_with fail
  have oi : Only Nil x4 (x4.alloc (.cells #[.int .i64 1, .int .i64 1, .int .i64 1, .int .i64 1] 3)) := (Only.refl Nil x4).alloc _
  have hi4 := bx_new x4 [.int .i64 1, .int .i64 1, .int .i64 1, .int .i64 1] 3
  refine (ints_any (X := [1, 1, 1, 1]) (Y := [1, 1, 1, 1]) rfl rfl (fun j hj => own_ints (own_keep R4.out oi (fun _ _ q => q.elim)) j hj) (fun j hj => ⟨x4.heap.size, rfl, ?_⟩) (by decide)).mono ?_
  · match j, hj with
    | 0, _ => exact hi4.cell 0 rfl
    | 1, _ => exact hi4.cell 1 rfl
    | 2, _ => exact hi4.cell 2 rfl
    | 3, _ => exact hi4.cell 3 rfl
  rintro e x5 ⟨rfl, p5⟩
  have P5 := Lib.hid ((P4.out.trans oi).trans p5); clear p5 oi hi4 R4
  go_wp2_with fail
  refine (B3.out x5 P5.out).mono ?_
  rintro e x6 ⟨rfl, p6⟩
  have P6 := Lib.hid (P5.out.trans p6); clear p6
  go_wp2_with fail
  refine (D3.out x6 P6.out).mono ?_
  rintro e x7 ⟨a7, c7, rfl, _, p7⟩
  have P7 := Lib.hid (P6.out.trans p7); clear p7
  go_wp2_with fail
  refine (B4.out x7 P7.out).mono ?_
  rintro e x8 ⟨rfl, p8⟩
  have P8 := Lib.hid (P7.out.trans p8); clear p8
  go_wp2_with fail
  refine (BN.out x8).mono ?_
  rintro e x9 ⟨rfl, p9⟩
  have P9 := Lib.hid (P8.out.trans p9); clear p9
  go_wp2
  go_ret
  exact ⟨rfl, O9.out.trans P9.out⟩
end Go.Proofs.YthanclicnkjmiaaGreatDoor.Ch
