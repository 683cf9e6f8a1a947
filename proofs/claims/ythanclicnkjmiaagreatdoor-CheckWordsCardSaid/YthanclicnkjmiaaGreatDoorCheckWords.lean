/- Whatever number and place come in, a fault's words, its wrapped number, what errors.Is, Code and Where tell of it are as chapter 14 says: CheckWords answers true and turns nothing that came in (the premises: the listed variables, sizes of what came in). -/
import Derived.Test.YthanclicnkjmiaaGreatDoorCwW
import Derived.Test.YthanclicnkjmiaaGreatDoorCwV
import Derived.Test.YthanclicnkjmiaaGreatDoorCfCheckWords
import Derived.Test.YthanclicnkjmiaaGreatDoorCgCheckWords
import Derived.Test.YthanclicnkjmiaaGreatDoorCards
import Derived.ProofKit
import Derived.OpenShut
import Derived.ShutString
import Derived.ChangeOld
import Derived.SizedLaws
import Derived.ChangeMaps5
import Derived.SevenTiedAt
import Derived.Stop.Joined
namespace Go.Proofs.YthanclicnkjmiaaGreatDoor.checkWords
open Go Go.ChangeShapes Go.WideShapes Go.ChangeAt Go.RowKit Go.ChangeMaps Go.Proofs.YthanclicnkjmiaaGreatDoor
set_option linter.unusedVariables false

theorem own : ownKnob Tryz.prog.godebug = none := by kernel_rfl
theorem laidOut : laidOutB Tryz.prog = true := by kernel_rfl

set_option maxRecDepth 100000 in
theorem lifted (os : Os) (started : os.Started) (H : Type) (enc : TypeId × Value → H) :
    ReturnsInHanded {} Tryz.checked os 5 .any (fun w args => (Rows.checkWordsSpec.pre enc Tryz.prog Tryz.f5 Rows.checkWordsRow.domain false w args ∧ laidMetH Tryz.prog Cw.laidL w) ∧ sizedMet enc Tryz.prog Tryz.f5 (OpenSpec.ofChange Rows.checkWordsSpec) false w args)
      (Rows.checkWordsSpec.post enc Tryz.prog Tryz.f5 false true false false) := by
  refine returnsInHanded_of_change_and (C := Tryz.checked) (X := fun w _ => laidMetH Tryz.prog Cw.laidL w) (fun _ _ _ hh h => h.of_heap hh) own started (by kernel_rfl) Tryz.func5
    (ChangeSpec.witness_shaped (enc := enc) (C := Tryz.checked) (os := os) (X := fun w _ => laidMetH Tryz.prog Cw.laidL w) false (Cw.lw os) #[.int .i64 0, .slice none 0 0] 8 (Cw.lw_os os) (Cw.lw_shaped os _) (by kernel_rfl) (by kernel_rfl) (by kernel_rfl) (Cw.lw_met os _)) ?_
  intro W base args ds gs before hval0 hW _ hsz0 hL _
  have hsz : (DataW.weightsEach Tryz.prog (Tryz.f5.params.toList ++ Rows.checkWordsSpec.plain.varTypes Tryz.prog) (ds ++ gs)).all (· ≤ reachBytes) = true := hsz0
  have hval : ∀ (j : Nat) t v, Tryz.f5.params[j]? = some t → args[j]? = some v → Value.okWide Tryz.prog W .any base t v := hval0
  have hW' := hW
  obtain ⟨p, q, hA0, hV, rfl, hfz, hnd⟩ := hW
  have hA : DataW.TrodAll enc Tryz.prog W 0 (fun _ => true) true Tryz.f5.params.toList args.toList ds p := hA0
  rw [Tryz.params5] at hA hval hsz
  obtain ⟨v0, vs0, d0, ds0, p0, q0, hargs, rfl, rfl, h0, r0⟩ := trodAll_cons hA
  obtain ⟨v1, vs1, d1, ds1, p1, q1, rfl, rfl, rfl, h1, r1⟩ := trodAll_cons r0
  obtain ⟨rfl, rfl, rfl⟩ := trodAll_nil r1
  obtain rfl : args = #[v0, v1] := by cases args; simp_all
  obtain ⟨rfl, rfl⟩ := trodVars_none hV
  obtain ⟨a0, rfl, rfl, rfl, w0⟩ := open_int Tryz.underlying3 (hval 0 3 v0 rfl rfl) h0
  obtain ⟨a1, len1, c1, rfl⟩ := okWide_slice Tryz.underlying38 (hval 1 38 v1 rfl rfl)
  have k1 := h1
  have lt1 : ∀ x ∈ p1, x.block < W.heap.size := by obtain ⟨m, hm⟩ := k1; exact DataW.trod_lt m _ _ _ hm
  obtain ⟨L1, rfl, row1, wf1, sz1⟩ : ∃ L : List Int, L.length = len1 ∧ RowK .i64 W a1 L ∧ (∀ n ∈ L, (Lit.int .i64 n).wf = true) ∧ L.length * 8 ≤ 140737488351232 := by
    obtain ⟨fuel, hf⟩ := h1
    obtain ⟨L, e1, e2, e3, e4⟩ := open_rowk Tryz.underlying38 Tryz.underlying3 (by kernel_rfl) hf
    have e5 := e4 _ _ 1 hsz rfl rfl
    have e6 : Tryz.prog.bytesOf 3 = 8 := by kernel_rfl
    rw [e6] at e5
    exact ⟨L, e1, e2, e3, e5⟩
  clear hA0 hval0 hsz0
  refine (Ch.words_all a0 (Ch.i64_of_wf w0) row1 sz1 (Cw.env_of_laid hL).1 (Cw.env_of_laid hL).2).mono fun e W' ⟨he, bel⟩ => ?_
  subst he
  exact ⟨_, rfl, _, _, _, [], _, [], hW', trodAll_mk1 (shut_bool Tryz.underlying4 _), (trodAll_cons_mk (shut_int Tryz.underlying3 w0) (trodAll_cons_mk (Below.trod laidOut (by kernel_rfl) (of_decide_eq_true (by kernel_rfl)) k1 bel lt1) trodAll_mk0)), rfl, bel.frame _, fun h => by cases h⟩

theorem over : Rows.checkWordsRow.holds Tryz.pinned (OpenSpec.ofChange Rows.checkWordsSpec) :=
  OpenClaim.holds_of_wide 5 Tryz.f5 rfl rfl rfl rfl rfl rfl rfl ⟨rfl, rfl, rfl, rfl, rfl⟩ rfl rfl rfl rfl rfl (by kernel_rfl) Tryz.func5 cfCheckWords.closed
    (of_decide_eq_true (by kernel_rfl)) (by unfold Func.isWrapper; first | (rw [if_pos (by decide +kernel)]; kernel_rfl) | (rw [if_neg (by decide +kernel)]; exact ⟨rfl, rfl⟩))
    (fun os started H enc _ => lifted os started H enc)

theorem proved : Rows.CheckWordsCardSaid :=
  Claim7.holds_tied_plain_at .later [] _ true _ true over (fun _ h => by cases h) cgCheckWords.g1 (fun _ h => by cases h) checkWords_row_tie rfl ⟨rfl, rfl⟩ cgCheckWords.g2 rfl
    (fun f fn hf hfn => by
      obtain rfl : f = 5 := Option.some.inj (cgCheckWords.g3.symm.trans hf) |>.symm
      obtain rfl : fn = Tryz.f5 := (Option.some.inj (Tryz.func5.symm.trans hfn)).symm
      exact ⟨cgCheckWords.g4, fun j t ht => by
        rw [Tryz.params5] at ht
        have hm : t ∈ [3, 38] := by simpa using Array.mem_of_getElem? ht
        have hall := cgCheckWords.g5
        exact (show Tryz.prog.wantsStandIn t = false by simpa using List.all_eq_true.1 hall t hm)⟩)
    cgCheckWords.g6
#print axioms proved
end Go.Proofs.YthanclicnkjmiaaGreatDoor.checkWords
