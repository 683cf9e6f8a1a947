/- A right program to which one of its own parts is added once more is told as the same twice at that part, or as too many: whatever program comes in, CheckTwice answers true and turns nothing that came in (the premises: the listed variable, sizes of memory). -/
import Derived.Test.YthanclicnkjmiaaGreatDoorChTw1
import Derived.Test.YthanclicnkjmiaaGreatDoorChTw2
import Derived.Test.YthanclicnkjmiaaGreatDoorChV
import Derived.Test.YthanclicnkjmiaaGreatDoorCfCheckTwice
import Derived.Test.YthanclicnkjmiaaGreatDoorCgCheckTwice
import Derived.Test.YthanclicnkjmiaaGreatDoorCards
import Derived.ProofKit
import Derived.OpenShut
import Derived.ShutString
import Derived.ChangeOld
import Derived.SizedLaws
import Derived.ChangeMaps5
import Derived.SevenTiedAt
import Derived.Stop.Joined
set_option linter.unusedVariables false
namespace Go.Proofs.YthanclicnkjmiaaGreatDoor.Ch
open Go Go.RowKit Go.Proofs.YthanclicnkjmiaaGreatDoor Lx Ps

theorem u8_in {n : Int} (h : (Lit.int .u8 n).wf = true) : 0 ≤ n ∧ n ≤ 255 := by
  simp [Lit.wf, IntKind.min, IntKind.max, IntKind.signed, IntKind.bits] at h
  omega
theorem twice_all (P : List Kd) (sl : Value) (wh lv : Int) (w : World) (hx : XK w.heap.size w sl P) (wf : wfP P) (bz : bzP P) (iw : 0 ≤ wh ∧ wh ≤ 255) (il : 0 ≤ lv ∧ lv ≤ 255) (E : EnvE w) :
    Calls Tryz.prog 6 #[.agg #[sl], .int .u8 wh, .int .u8 lv] w fun e w' => e = .returned (.bool true) ∧ Below w.heap.size w w' := by
  have h3 : lv.tmod 3 = 0 ∨ lv.tmod 3 = 1 ∨ lv.tmod 3 = 2 := by
    rw [Int.tmod_eq_emod_of_nonneg il.1]
    omega
  rcases h3 with h | h | h
  · exact twice_0 P sl wh lv w hx wf bz iw h E
  · exact twice_1 P sl wh lv w hx wf bz iw h E
  · exact twice_2 P sl wh lv w hx wf bz iw h E
end Go.Proofs.YthanclicnkjmiaaGreatDoor.Ch
namespace Go.Proofs.YthanclicnkjmiaaGreatDoor.checkTwice
open Go Go.ChangeShapes Go.WideShapes Go.ChangeAt Go.RowKit Go.ChangeMaps Go.Proofs.YthanclicnkjmiaaGreatDoor
set_option linter.unusedVariables false

theorem own : ownKnob Tryz.prog.godebug = none := by kernel_rfl
theorem laidOut : laidOutB Tryz.prog = true := by kernel_rfl

theorem okAgg {P : Program} {W : World} {r : Reach} {b0 : Nat} {t : TypeId} {v : Value} {fs : Array Field} (hs : P.underlying t = some (.struct fs)) (hv : Value.okWide P W r b0 t v) : ∃ cs, v = .agg cs := by
  obtain ⟨cs, h, _⟩ := okWide_struct hs hv
  exact ⟨cs, h⟩

set_option maxRecDepth 100000 in
theorem lifted (os : Os) (started : os.Started) (H : Type) (enc : TypeId × Value → H) :
    ReturnsInHanded {} Tryz.checked os 6 .any (fun w args => (Rows.checkTwiceSpec.pre enc Tryz.prog Tryz.f6 Rows.checkTwiceRow.domain false w args ∧ laidMetH Tryz.prog Ch.laidL w) ∧ sizedMet enc Tryz.prog Tryz.f6 (OpenSpec.ofChange Rows.checkTwiceSpec) false w args)
      (Rows.checkTwiceSpec.post enc Tryz.prog Tryz.f6 false true false false) := by
  refine returnsInHanded_of_change_and (C := Tryz.checked) (X := fun w _ => laidMetH Tryz.prog Ch.laidL w) (fun _ _ _ hh h => h.of_heap hh) own started (by kernel_rfl) Tryz.func6
    (ChangeSpec.witness_shaped (enc := enc) (C := Tryz.checked) (os := os) (X := fun w _ => laidMetH Tryz.prog Ch.laidL w) false (Ch.lw os) #[.agg #[.slice none 0 0], .int .u8 0, .int .u8 0] 8 (Ch.lw_os os) (Ch.lw_shaped os _) (by kernel_rfl) (by kernel_rfl) (by kernel_rfl) (Ch.lw_met os _)) ?_
  intro W base args ds gs before hval0 hW _ hsz0 hL _
  have hsz : (DataW.weightsEach Tryz.prog (Tryz.f6.params.toList ++ Rows.checkTwiceSpec.plain.varTypes Tryz.prog) (ds ++ gs)).all (· ≤ reachBytes) = true := hsz0
  have hval : ∀ (j : Nat) t v, Tryz.f6.params[j]? = some t → args[j]? = some v → Value.okWide Tryz.prog W .any base t v := hval0
  have hW' := hW
  obtain ⟨p, q, hA0, hV, rfl, hfz, hnd⟩ := hW
  have hA : DataW.TrodAll enc Tryz.prog W 0 (fun _ => true) true Tryz.f6.params.toList args.toList ds p := hA0
  rw [Tryz.params6] at hA hval hsz
  obtain ⟨v0, vs0, d0, ds0, p0, q0, hargs, rfl, rfl, h0, r0⟩ := trodAll_cons hA
  obtain ⟨v1, vs1, d1, ds1, p1, q1, rfl, rfl, rfl, h1, r1⟩ := trodAll_cons r0
  obtain ⟨v2, vs2, d2, ds2, p2, q2, rfl, rfl, rfl, h2, r2⟩ := trodAll_cons r1
  obtain ⟨rfl, rfl, rfl⟩ := trodAll_nil r2
  obtain rfl : args = #[v0, v1, v2] := by cases args; simp_all
  obtain ⟨rfl, rfl⟩ := trodVars_none hV
  have k0 := h0
  have lt0 : ∀ x ∈ p0, x.block < W.heap.size := by obtain ⟨m, hm⟩ := k0; exact DataW.trod_lt m _ _ _ hm
  obtain ⟨fu0, hf0⟩ := h0
  obtain ⟨sl0, P0, rfl, x0, wp0, zp0⟩ := Ch.bopen_prog (okAgg Tryz.underlying25 (hval 0 25 v0 rfl rfl)) hf0 (fun k hk => Nat.le_trans (by simpa using List.all_eq_true.1 hsz _ (DataW.weights_mem_each (j := 0) rfl rfl k hk)) (by decide))
  obtain ⟨a1, rfl, rfl, rfl, w1⟩ := open_int Tryz.underlying5 (hval 1 5 v1 rfl rfl) h1
  obtain ⟨a2, rfl, rfl, rfl, w2⟩ := open_int Tryz.underlying5 (hval 2 5 v2 rfl rfl) h2
  clear hA0 hval0 hsz0
  refine (Ch.twice_all P0 sl0 a1 a2 W x0 wp0 zp0 (Ch.u8_in w1) (Ch.u8_in w2) (Ch.env_of_laid hL)).mono fun e W' ⟨he, bel⟩ => ?_
  subst he
  exact ⟨_, rfl, _, _, _, [], _, [], hW', trodAll_mk1 (shut_bool Tryz.underlying4 _), (trodAll_cons_mk (Below.trod laidOut (by kernel_rfl) (of_decide_eq_true (by kernel_rfl)) k0 bel lt0) (trodAll_cons_mk (shut_int Tryz.underlying5 w1) (trodAll_cons_mk (shut_int Tryz.underlying5 w2) trodAll_mk0))), rfl, bel.frame _, fun h => by cases h⟩

theorem over : Rows.checkTwiceRow.holds Tryz.pinned (OpenSpec.ofChange Rows.checkTwiceSpec) :=
  OpenClaim.holds_of_wide 6 Tryz.f6 rfl rfl rfl rfl rfl rfl rfl ⟨rfl, rfl, rfl, rfl, rfl⟩ rfl rfl rfl rfl rfl (by kernel_rfl) Tryz.func6 cfCheckTwice.closed
    (of_decide_eq_true (by kernel_rfl)) (by unfold Func.isWrapper; first | (rw [if_pos (by decide +kernel)]; kernel_rfl) | (rw [if_neg (by decide +kernel)]; exact ⟨rfl, rfl⟩))
    (fun os started H enc _ => lifted os started H enc)

theorem proved : Rows.CheckTwiceCardSaid :=
  Claim7.holds_tied_plain_at .later [] _ true _ true over (fun _ h => by cases h) cgCheckTwice.g1 (fun _ h => by cases h) checkTwice_row_tie rfl ⟨rfl, rfl⟩ cgCheckTwice.g2 rfl
    (fun f fn hf hfn => by
      obtain rfl : f = 6 := Option.some.inj (cgCheckTwice.g3.symm.trans hf) |>.symm
      obtain rfl : fn = Tryz.f6 := (Option.some.inj (Tryz.func6.symm.trans hfn)).symm
      exact ⟨cgCheckTwice.g4, fun j t ht => by
        rw [Tryz.params6] at ht
        have hm : t ∈ [25, 5, 5] := by simpa using Array.mem_of_getElem? ht
        have hall := cgCheckTwice.g5
        exact (show Tryz.prog.wantsStandIn t = false by simpa using List.all_eq_true.1 hall t hm)⟩)
    cgCheckTwice.g6
#print axioms proved
end Go.Proofs.YthanclicnkjmiaaGreatDoor.checkTwice
