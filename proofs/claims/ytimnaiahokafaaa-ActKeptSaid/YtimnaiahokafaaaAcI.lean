/- act: the document's examples. -/
import Derived.Test.YtimnaiahokafaaaAcH
set_option linter.unusedVariables false
set_option linter.unusedSimpArgs false
namespace Go.Proofs.Ytimnaiahokafaaa.Ac
open Go Go.RowKit Go.Proofs.Ytimnaiahokafaaa Lx Ps Ch

def PT (w0 w : World) (t : Value) (p : Pl) : Prop := ∃ v, t = .agg (plC p v).toArray ∧ PlAt w0 w v p
theorem PT.keep {w0 w w' : World} {t : Value} {p : Pl} (h : PT w0 w t p) (o : Only Nil w w') : PT w0 w' t p := by
  obtain ⟨v, h1, h2, h3⟩ := h
  exact ⟨v, h1, own_keep h2 o (fun _ _ h => h), h3⟩
def BQ (w0 w : World) (B : Nat) (p : Pl) : Prop := ∃ v, PlAt w0 w v p ∧ Bx w B [.bool p.stash, v, .string (bs p.state), .bool p.stop, .string (bs p.fail)] 30
structure Slot2 (w0 w : World) (s : Bool) (B : Nat) (t : Value) (p : Pl) : Prop where
  e : t = .pointer (some ⟨B, 0, none⟩)
  new : w0.heap.size ≤ B
  cl : ∃ cs, Bx w B cs 30
  no : s = false → Bx w B [.bool false, .slice none 0 0, .string ⟨#[]⟩, .bool false, .string ⟨#[]⟩] 30
  yes : s = true → BQ w0 w B p
theorem Slot2.keep {w0 w w' : World} {s : Bool} {B : Nat} {t : Value} {p : Pl} (h : Slot2 w0 w s B t p) (o : Only Nil w w') : Slot2 w0 w' s B t p := by
  obtain ⟨e, n, ⟨cs, hc⟩, h1, h2⟩ := h
  refine ⟨e, n, ⟨cs, hc.keep o⟩, fun hs => (h1 hs).keep o, fun hs => ?_⟩
  obtain ⟨v, ⟨g1, g2⟩, g3⟩ := h2 hs
  exact ⟨v, ⟨own_keep g1 o (fun _ _ h => h), g2⟩, g3.keep o⟩
theorem Slot2.at_ {w0 w w' : World} {s : Bool} {B q : Nat} {t : Value} {p : Pl} (h : Slot2 w0 w s B t p) (o : Only (At q) w w') (hq : OfT 30 (At q) w) (hB : B ≠ q) : Slot2 w0 w' s B t p := by
  obtain ⟨e, n, ⟨cs, hc⟩, h1, h2⟩ := h
  refine ⟨e, n, ⟨cs, hc.at_ o hB⟩, fun hs => (h1 hs).at_ o hB, fun hs => ?_⟩
  obtain ⟨v, ⟨g1, g2⟩, g3⟩ := h2 hs
  exact ⟨v, ⟨MEff.keep (t := 30) g1 o hq (by decide), g2⟩, g3.at_ o hB⟩
theorem rowk2 (w : World) : RowK .i64 (w.alloc (.cells #[.int .i64 7, .int .i64 8] 3)) (some ⟨w.heap.size, 0, none⟩) [7, 8] := fun i hi => ⟨w.heap.size, 0, rfl, by simp, fun j hj => by
  rw [Nat.zero_add, cell_of_row _ w.heap.size _ _ _ _ (heap_new w (.cells #[.int .i64 7, .int .i64 8] 3))]
  match j, hj with
  | 0, _ => rfl
  | 1, _ => rfl⟩
theorem PT.at_ {w0 w w' : World} {q : Nat} {t : Value} {p : Pl} (h : PT w0 w t p) (o : Only (At q) w w') (hq : OfT 30 (At q) w) : PT w0 w' t p := by
  obtain ⟨v, h1, h2, h3⟩ := h
  exact ⟨v, h1, MEff.keep (t := 30) h2 o hq (by decide), h3⟩
set_option maxHeartbeats 8000000 in
set_option maxRecDepth 100000 in
theorem alive_any (w : World) : Calls Try.prog 11 #[] w fun e w' => e = .returned (.bool true) ∧ Only Nil w w' := by
  have HX := Lib.hid (fun w => example_any w)
  go_enter Try.func11, Try.ntmps11
  go_wp2_with fail
  refine (HX.out _).mono ?_
  rintro e w1 ⟨⟨q, rfl, hS⟩, o1⟩
  obtain ⟨w2, hw2⟩ : ∃ w2, w2 = w1.alloc (.cells #[.string ⟨#[107]⟩, .int .i64 0, .int .i64 0, .slice none 0 0, .slice (some ⟨q, 0, none⟩) 1 1] 25) := ⟨_, rfl⟩
  have o2 : Only Nil w1 w2 := hw2 ▸ (Only.refl Nil w1).alloc _
  have b : Bx w2 w1.heap.size [.string ⟨#[107]⟩, .int .i64 0, .int .i64 0, .slice none 0 0, .slice (some ⟨q, 0, none⟩) 1 1] 25 := hw2 ▸ bx_new w1 [.string ⟨#[107]⟩, .int .i64 0, .int .i64 0, .slice none 0 0, .slice (some ⟨q, 0, none⟩) 1 1] _
  have BK := Lib.hid b
  have O2 := Lib.hid (o1.trans o2)
  have HSN := Lib.hid (hS.keep o2)
  clear hS o1 o2 HX b
  go_upto_region 2 with (fail)
  rw [← hw2]; clear hw2
  generalize w1.heap.size = Bk at *
  have OD : Only Nil w2 w2.drew := (Only.refl Nil w2).drew
  have CC := Lib.hid (show ∀ w', Only Nil w2 w' → (fun w' : World => w'.cell? ⟨Bk, 0, none⟩ = some (.string ⟨#[107]⟩) ∧ w'.cell? ⟨Bk, 1, none⟩ = some (.int .i64 0) ∧ w'.cell? ⟨Bk, 2, none⟩ = some (.int .i64 0) ∧ w'.cell? ⟨Bk, 3, none⟩ = some (.slice none 0 0) ∧ w'.cell? ⟨Bk, 4, none⟩ = some (.slice (some ⟨q, 0, none⟩) 1 1)) w' from fun w' o => by
    have hh := BK.out.keep o
    exact ⟨hh.cell 0 rfl, hh.cell 1 rfl, hh.cell 2 rfl, hh.cell 3 rfl, hh.cell 4 rfl⟩)
  refine wp_region_held_drew (S := fun w' => w'.cell? ⟨Bk, 0, none⟩ = some (.string ⟨#[107]⟩) ∧ w'.cell? ⟨Bk, 1, none⟩ = some (.int .i64 0) ∧ w'.cell? ⟨Bk, 2, none⟩ = some (.int .i64 0) ∧ w'.cell? ⟨Bk, 3, none⟩ = some (.slice none 0 0) ∧ w'.cell? ⟨Bk, 4, none⟩ = some (.slice (some ⟨q, 0, none⟩) 1 1)) (by kernel_rfl) (CC.out _ OD) (fun hHeld => ?_)
  have HD : Hid (∀ (t : Wd) (n : Int) (p : Pl) (w' : World), inW n → Only Nil w2 w' → planOf exS [115] t n = p → Calls Try.prog 13 #[.agg #[.string ⟨#[107]⟩, .int .i64 0, .int .i64 0, .slice none 0 0, .slice (some ⟨q, 0, none⟩) 1 1], .string (bs [115]), .string (bs t), .int .i64 n] w' fun e w'' => (∃ v, e = .returned (.agg (plC p v).toArray) ∧ PlAt w' w'' v p) ∧ Only Nil w' w'') := Lib.hid fun t n p w' hn o hp =>
    (do_any (nm := [107]) (lim := 0) (wi := 0) (v1 := .slice none 0 0) (HSN.out.keep o) [115] t n hn).mono fun e w'' hh => ⟨hp ▸ hh.1.out, hh.2⟩
  refine take_dst (some 8) (i := 0) (v := ?vk0) rfl (by kernel_rfl) (by kernel_rfl) (by kernel_rfl) (by kernel_rfl) (fun _ _ _ h => h) (Or.inl ⟨by kernel_rfl, ?hk0⟩) (by assumption) ?rk0
  case hk0 => (intro w hSw; (try dsimp only at hSw); first | (go_simp; done) | (go_simp; with_reducible rfl))
  try simp only [Act.put, List.setIfInBounds_toArray, List.set_cons_zero, List.set_cons_succ]
  refine take_dst (some 10) (i := 2) (v := ?vk2) rfl (by kernel_rfl) (by kernel_rfl) (by kernel_rfl) (by kernel_rfl) (fun _ _ _ h => h) (Or.inl ⟨by kernel_rfl, ?hk2⟩) (by assumption) ?rk2
  case hk2 => (intro w hSw; (try dsimp only at hSw); first | (go_simp; done) | (go_simp; with_reducible rfl))
  try simp only [Act.put, List.setIfInBounds_toArray, List.set_cons_zero, List.set_cons_succ]
  refine take_dst (some 12) (i := 4) (v := ?vk4) rfl (by kernel_rfl) (by kernel_rfl) (by kernel_rfl) (by kernel_rfl) (fun _ _ _ h => h) (Or.inl ⟨by kernel_rfl, ?hk4⟩) (by assumption) ?rk4
  case hk4 => (intro w hSw; (try dsimp only at hSw); first | (go_simp; done) | (go_simp; with_reducible rfl))
  try simp only [Act.put, List.setIfInBounds_toArray, List.set_cons_zero, List.set_cons_succ]
  refine wpAnyH_inv (m := 0) (fun k l a w => ∃ (c1 c3 c5 p6 p7 p8 s9 s10 s11 : Bool) (B2 B3 B4 : Nat) (t2 t3 t4 t9 t11 t13 : Value), Hid ((c3 = true → c1 = true) ∧ (c5 = true → c3 = true) ∧ (s9 = true → c5 = true ∧ p6 = true) ∧ (s10 = true → s9 = true ∧ p7 = true) ∧ (s11 = true → s10 = true ∧ p8 = true)) ∧ k = (if c1 then 0 else 1) + (if c3 then 0 else 1) + (if c5 then 0 else 1) + (if p6 then 0 else 1) + (if p7 then 0 else 1) + (if p8 then 0 else 1) + (if s9 then 0 else 1) + (if s10 then 0 else 1) + (if s11 then 0 else 1) ∧ l = #[true, c1, true, c3, true, c5, p6, p7, p8, s9, s10, s11] ∧ a = ⟨#[.bool false, .pointer (some ⟨Bk, 0, none⟩), t2, t3, t4, undef, undef, .agg #[.string ⟨#[107]⟩, .int .i64 0, .int .i64 0, .slice none 0 0, .slice (some ⟨q, 0, none⟩) 1 1], .agg #[.string ⟨#[107]⟩, .int .i64 0, .int .i64 0, .slice none 0 0, .slice (some ⟨q, 0, none⟩) 1 1], t9, .agg #[.string ⟨#[107]⟩, .int .i64 0, .int .i64 0, .slice none 0 0, .slice (some ⟨q, 0, none⟩) 1 1], t11, .agg #[.string ⟨#[107]⟩, .int .i64 0, .int .i64 0, .slice none 0 0, .slice (some ⟨q, 0, none⟩) 1 1], t13, undef, undef, undef, undef, undef, undef, undef, undef, undef, undef, undef, undef, undef, undef, undef, undef, undef, undef, undef, undef, undef, undef, undef, undef, undef, undef, undef, undef, undef, undef, undef, undef, undef, undef, undef, undef, undef, undef, undef, undef, undef, undef, undef, undef, undef, undef, undef, undef, undef, undef, undef, undef, undef, undef, undef], []⟩ ∧ Hid (Only Nil w2 w ∧ (c1 = true → PT w2 w t9 pA) ∧ (c3 = true → PT w2 w t11 pB) ∧ (c5 = true → PT w2 w t13 pC) ∧ (p6 = true → Slot2 w2 w s9 B2 t2 pA) ∧ (p7 = true → Slot2 w2 w s10 B3 t3 pB) ∧ (p8 = true → Slot2 w2 w s11 B4 t4 pC) ∧ (p6 = true → p7 = true → B2 ≠ B3) ∧ (p6 = true → p8 = true → B2 ≠ B4) ∧ (p7 = true → p8 = true → B3 ≠ B4))) ?base ?step 9 _ _ _ ?start
  case start => exact ⟨false, false, false, false, false, false, false, false, false, 0, 0, 0, undef, undef, undef, undef, undef, undef, Lib.hid ⟨(fun h => absurd h (by decide)), (fun h => absurd h (by decide)), (fun h => absurd h (by decide)), (fun h => absurd h (by decide)), (fun h => absurd h (by decide))⟩, rfl, rfl, rfl, Lib.hid ⟨OD, (fun h => absurd h (by decide)), (fun h => absurd h (by decide)), (fun h => absurd h (by decide)), (fun h => absurd h (by decide)), (fun h => absurd h (by decide)), (fun h => absurd h (by decide)), (fun h => absurd h (by decide)), (fun h => absurd h (by decide)), (fun h => absurd h (by decide))⟩⟩
  case step =>
    clear hHeld OD
    rintro k l a w ⟨c1, c3, c5, p6, p7, p8, s9, s10, s11, B2, B3, B4, t2, t3, t4, t9, t11, t13, hch, hk, rfl, rfl, hF⟩
    refine ⟨fun h0 => ?_, fun i hi => ?_⟩
    · have hne : (c1 && c3 && c5 && p6 && p7 && p8 && s9 && s10 && s11) = false := by
        cases hh : (c1 && c3 && c5 && p6 && p7 && p8 && s9 && s10 && s11) with
        | false => rfl
        | true =>
          simp only [Bool.and_eq_true] at hh
          obtain ⟨⟨⟨⟨⟨⟨⟨⟨rfl, rfl⟩, rfl⟩, rfl⟩, rfl⟩, rfl⟩, rfl⟩, rfl⟩, rfl⟩ := hh
          simp at hk
      replace hch := hch.out
      clear hF hk
      cases c1 <;> cases c3 <;> (try (exact absurd (hch.1 rfl) Bool.false_ne_true)) <;> cases c5 <;> (try (exact absurd (hch.2.1 rfl) Bool.false_ne_true)) <;> cases p6 <;> cases s9 <;> (try (exact absurd (hch.2.2.1 rfl).1 Bool.false_ne_true)) <;> (try (exact absurd (hch.2.2.1 rfl).2 Bool.false_ne_true)) <;> cases p7 <;> cases s10 <;> (try (exact absurd (hch.2.2.2.1 rfl).1 Bool.false_ne_true)) <;> (try (exact absurd (hch.2.2.2.1 rfl).2 Bool.false_ne_true)) <;> cases p8 <;> cases s11 <;> (try (exact absurd (hch.2.2.2.2 rfl).1 Bool.false_ne_true)) <;> (try (exact absurd (hch.2.2.2.2 rfl).2 Bool.false_ne_true)) <;> first | (exact absurd h0 (by decide +kernel)) | (exact absurd hne (by decide))
    have key : (i = 1 ∧ c1 = false) ∨ (i = 3 ∧ c3 = false ∧ c1 = true) ∨ (i = 5 ∧ c5 = false ∧ c3 = true) ∨ (i = 6 ∧ p6 = false) ∨ (i = 7 ∧ p7 = false) ∨ (i = 8 ∧ p8 = false) ∨ (i = 9 ∧ s9 = false ∧ c5 = true ∧ p6 = true) ∨ (i = 10 ∧ s10 = false ∧ s9 = true ∧ p7 = true) ∨ (i = 11 ∧ s11 = false ∧ s10 = true ∧ p8 = true) := by
      clear hF hk hch
      have hb : i < 12 := by
        have := (mem_ready.1 hi).1
        rcases Nat.lt_or_ge i 12 with h | h
        · exact h
        · simp [h] at this
      obtain ⟨h1, o, ho, h2⟩ := mem_ready.1 hi
      clear hi
      have hc : i = 0 ∨ i = 1 ∨ i = 2 ∨ i = 3 ∨ i = 4 ∨ i = 5 ∨ i = 6 ∨ i = 7 ∨ i = 8 ∨ i = 9 ∨ i = 10 ∨ i = 11 := by omega
      clear hb
      rcases hc with rfl | rfl | rfl | rfl | rfl | rfl | rfl | rfl | rfl | rfl | rfl | rfl
      · exact absurd (show true = false from h1) (by decide)
      · exact Or.inl ⟨rfl, h1⟩
      · exact absurd (show true = false from h1) (by decide)
      · cases ho; exact Or.inr (Or.inl ⟨rfl, h1, (h2 ⟨1, .chain⟩ (by simp) rfl)⟩)
      · exact absurd (show true = false from h1) (by decide)
      · cases ho; exact Or.inr (Or.inr (Or.inl ⟨rfl, h1, (h2 ⟨3, .chain⟩ (by simp) rfl)⟩))
      · exact Or.inr (Or.inr (Or.inr (Or.inl ⟨rfl, h1⟩)))
      · exact Or.inr (Or.inr (Or.inr (Or.inr (Or.inl ⟨rfl, h1⟩))))
      · exact Or.inr (Or.inr (Or.inr (Or.inr (Or.inr (Or.inl ⟨rfl, h1⟩)))))
      · cases ho; exact Or.inr (Or.inr (Or.inr (Or.inr (Or.inr (Or.inr (Or.inl ⟨rfl, h1, (h2 ⟨5, .chain⟩ (by simp) rfl), (h2 ⟨6, .data⟩ (by simp) rfl)⟩))))))
      · cases ho; exact Or.inr (Or.inr (Or.inr (Or.inr (Or.inr (Or.inr (Or.inr (Or.inl ⟨rfl, h1, (h2 ⟨9, .chain⟩ (by simp) rfl), (h2 ⟨7, .data⟩ (by simp) rfl)⟩)))))))
      · cases ho; exact Or.inr (Or.inr (Or.inr (Or.inr (Or.inr (Or.inr (Or.inr (Or.inr ⟨rfl, h1, (h2 ⟨10, .chain⟩ (by simp) rfl), (h2 ⟨8, .data⟩ (by simp) rfl)⟩)))))))
    clear hi
    replace hch := hch.out
    rcases key with ⟨rfl, rfl⟩ | ⟨rfl, rfl, rfl⟩ | ⟨rfl, rfl, rfl⟩ | ⟨rfl, rfl⟩ | ⟨rfl, rfl⟩ | ⟨rfl, rfl⟩ | ⟨rfl, rfl, rfl, rfl⟩ | ⟨rfl, rfl, rfl, rfl⟩ | ⟨rfl, rfl, rfl, rfl⟩
    · refine wpOp_step (i := 1) rfl (fun K' hK => ?_)
      obtain ⟨hO, f1, f3, f5, f6, f7, f8, d1, d2, d3⟩ := hF.out
      have HC := Lib.hid (HD.out [120] 0 pA w (by unfold inW; decide) hO plan_a)
      go_simp
      go_at_call 13
      refine HC.out.mono ?_
      rintro e wn ⟨⟨v, rfl, hv⟩, on⟩
      refine hK _ _ ⟨CC.out _ (hO.trans on), true, c3, c5, p6, p7, p8, s9, s10, s11, B2, B3, B4, t2, t3, t4, .agg #[.bool pA.stash, v, .string (bs pA.state), .bool pA.stop, .string (bs pA.fail)], t11, t13, Lib.hid ?chc1, ?sumc1, rfl, rfl, Lib.hid ⟨hO.trans on, fun _ => ⟨v, rfl, hv.1, fun g hg => Nat.le_trans hO.size (hv.2 g hg)⟩, fun h => (f3 h).keep on, fun h => (f5 h).keep on, fun h => (f6 h).keep on, fun h => (f7 h).keep on, fun h => (f8 h).keep on, d1, d2, d3⟩⟩
      case chc1 => exact ⟨(fun _ => rfl), hch.2.1, hch.2.2.1, hch.2.2.2.1, hch.2.2.2.2⟩
      case sumc1 => simp at hk ⊢; omega
    · refine wpOp_step (i := 3) rfl (fun K' hK => ?_)
      obtain ⟨hO, f1, f3, f5, f6, f7, f8, d1, d2, d3⟩ := hF.out
      have HC := Lib.hid (HD.out [120] 5 pB w (by unfold inW; decide) hO plan_b)
      go_simp
      go_at_call 13
      refine HC.out.mono ?_
      rintro e wn ⟨⟨v, rfl, hv⟩, on⟩
      refine hK _ _ ⟨CC.out _ (hO.trans on), true, true, c5, p6, p7, p8, s9, s10, s11, B2, B3, B4, t2, t3, t4, t9, .agg #[.bool pB.stash, v, .string (bs pB.state), .bool pB.stop, .string (bs pB.fail)], t13, Lib.hid ?chc3, ?sumc3, rfl, rfl, Lib.hid ⟨hO.trans on, fun h => (f1 h).keep on, fun _ => ⟨v, rfl, hv.1, fun g hg => Nat.le_trans hO.size (hv.2 g hg)⟩, fun h => (f5 h).keep on, fun h => (f6 h).keep on, fun h => (f7 h).keep on, fun h => (f8 h).keep on, d1, d2, d3⟩⟩
      case chc3 => exact ⟨(fun _ => rfl), (fun _ => rfl), hch.2.2.1, hch.2.2.2.1, hch.2.2.2.2⟩
      case sumc3 => simp at hk ⊢; omega
    · refine wpOp_step (i := 5) rfl (fun K' hK => ?_)
      obtain ⟨hO, f1, f3, f5, f6, f7, f8, d1, d2, d3⟩ := hF.out
      have HC := Lib.hid (HD.out [121] 1 pC w (by unfold inW; decide) hO plan_c)
      go_simp
      go_at_call 13
      refine HC.out.mono ?_
      rintro e wn ⟨⟨v, rfl, hv⟩, on⟩
      refine hK _ _ ⟨CC.out _ (hO.trans on), c1, true, true, p6, p7, p8, s9, s10, s11, B2, B3, B4, t2, t3, t4, t9, t11, .agg #[.bool pC.stash, v, .string (bs pC.state), .bool pC.stop, .string (bs pC.fail)], Lib.hid ?chc5, ?sumc5, rfl, rfl, Lib.hid ⟨hO.trans on, fun h => (f1 h).keep on, fun h => (f3 h).keep on, fun _ => ⟨v, rfl, hv.1, fun g hg => Nat.le_trans hO.size (hv.2 g hg)⟩, fun h => (f6 h).keep on, fun h => (f7 h).keep on, fun h => (f8 h).keep on, d1, d2, d3⟩⟩
      case chc5 => exact ⟨hch.1, (fun _ => rfl), (fun h => ⟨rfl, (hch.2.2.1 h).2⟩), hch.2.2.2.1, hch.2.2.2.2⟩
      case sumc5 => simp at hk ⊢; omega
    · refine wpOp_step (i := 6) rfl (fun K' hK => ?_)
      obtain ⟨hO, f1, f3, f5, f6, f7, f8, d1, d2, d3⟩ := hF.out
      have on : Only Nil w (w.alloc (.cells #[.bool false, .slice none 0 0, .string ⟨#[]⟩, .bool false, .string ⟨#[]⟩] 30)) := (Only.refl Nil w).alloc _
      have hb := bx_new w [.bool false, .slice none 0 0, .string ⟨#[]⟩, .bool false, .string ⟨#[]⟩] 30
      have hsn : ¬ s9 = true := fun h => absurd (hch.2.2.1 h).2 (by decide)
      have hlt : ∀ B, (∃ cs, Bx w B cs 30) → B ≠ w.heap.size := fun B h e => by obtain ⟨cs, h⟩ := h; have := lt_of_block h; omega
      go_simp
      refine hK _ _ ⟨CC.out _ (hO.trans on), c1, c3, c5, true, p7, p8, s9, s10, s11, w.heap.size, B3, B4, .pointer (some ⟨w.heap.size, 0, none⟩), t3, t4, t9, t11, t13, Lib.hid ?chp6, ?sump6, rfl, rfl, Lib.hid ⟨hO.trans on, fun h => (f1 h).keep on, fun h => (f3 h).keep on, fun h => (f5 h).keep on, fun _ => ⟨rfl, hO.size, ⟨_, hb⟩, fun _ => hb, fun h => absurd h hsn⟩, fun h => (f7 h).keep on, fun h => (f8 h).keep on, fun _ h e => (hlt _ (f7 h).cl) e.symm, fun _ h e => (hlt _ (f8 h).cl) e.symm, d3⟩⟩
      case chp6 => exact ⟨hch.1, hch.2.1, (fun h => ⟨(hch.2.2.1 h).1, rfl⟩), hch.2.2.2.1, hch.2.2.2.2⟩
      case sump6 => simp at hk ⊢; omega
    · refine wpOp_step (i := 7) rfl (fun K' hK => ?_)
      obtain ⟨hO, f1, f3, f5, f6, f7, f8, d1, d2, d3⟩ := hF.out
      have on : Only Nil w (w.alloc (.cells #[.bool false, .slice none 0 0, .string ⟨#[]⟩, .bool false, .string ⟨#[]⟩] 30)) := (Only.refl Nil w).alloc _
      have hb := bx_new w [.bool false, .slice none 0 0, .string ⟨#[]⟩, .bool false, .string ⟨#[]⟩] 30
      have hsn : ¬ s10 = true := fun h => absurd (hch.2.2.2.1 h).2 (by decide)
      have hlt : ∀ B, (∃ cs, Bx w B cs 30) → B ≠ w.heap.size := fun B h e => by obtain ⟨cs, h⟩ := h; have := lt_of_block h; omega
      go_simp
      refine hK _ _ ⟨CC.out _ (hO.trans on), c1, c3, c5, p6, true, p8, s9, s10, s11, B2, w.heap.size, B4, t2, .pointer (some ⟨w.heap.size, 0, none⟩), t4, t9, t11, t13, Lib.hid ?chp7, ?sump7, rfl, rfl, Lib.hid ⟨hO.trans on, fun h => (f1 h).keep on, fun h => (f3 h).keep on, fun h => (f5 h).keep on, fun h => (f6 h).keep on, fun _ => ⟨rfl, hO.size, ⟨_, hb⟩, fun _ => hb, fun h => absurd h hsn⟩, fun h => (f8 h).keep on, fun h _ e => (hlt _ (f6 h).cl) e, d2, fun _ h e => (hlt _ (f8 h).cl) e.symm⟩⟩
      case chp7 => exact ⟨hch.1, hch.2.1, hch.2.2.1, (fun h => ⟨(hch.2.2.2.1 h).1, rfl⟩), hch.2.2.2.2⟩
      case sump7 => simp at hk ⊢; omega
    · refine wpOp_step (i := 8) rfl (fun K' hK => ?_)
      obtain ⟨hO, f1, f3, f5, f6, f7, f8, d1, d2, d3⟩ := hF.out
      have on : Only Nil w (w.alloc (.cells #[.bool false, .slice none 0 0, .string ⟨#[]⟩, .bool false, .string ⟨#[]⟩] 30)) := (Only.refl Nil w).alloc _
      have hb := bx_new w [.bool false, .slice none 0 0, .string ⟨#[]⟩, .bool false, .string ⟨#[]⟩] 30
      have hsn : ¬ s11 = true := fun h => absurd (hch.2.2.2.2 h).2 (by decide)
      have hlt : ∀ B, (∃ cs, Bx w B cs 30) → B ≠ w.heap.size := fun B h e => by obtain ⟨cs, h⟩ := h; have := lt_of_block h; omega
      go_simp
      refine hK _ _ ⟨CC.out _ (hO.trans on), c1, c3, c5, p6, p7, true, s9, s10, s11, B2, B3, w.heap.size, t2, t3, .pointer (some ⟨w.heap.size, 0, none⟩), t9, t11, t13, Lib.hid ?chp8, ?sump8, rfl, rfl, Lib.hid ⟨hO.trans on, fun h => (f1 h).keep on, fun h => (f3 h).keep on, fun h => (f5 h).keep on, fun h => (f6 h).keep on, fun h => (f7 h).keep on, fun _ => ⟨rfl, hO.size, ⟨_, hb⟩, fun _ => hb, fun h => absurd h hsn⟩, d1, fun h _ e => (hlt _ (f6 h).cl) e, fun h _ e => (hlt _ (f7 h).cl) e⟩⟩
      case chp8 => exact ⟨hch.1, hch.2.1, hch.2.2.1, hch.2.2.2.1, (fun h => ⟨(hch.2.2.2.2 h).1, rfl⟩)⟩
      case sump8 => simp at hk ⊢; omega
    · refine wpOp_step (i := 9) rfl (fun K' hK => ?_)
      obtain ⟨hO, f1, f3, f5, f6, f7, f8, d1, d2, d3⟩ := hF.out
      obtain ⟨v, rfl, hM, hNw⟩ := f1 (hch.1 (hch.2.1 rfl))
      obtain ⟨va, vc, rfl⟩ := own_slice_n hM
      obtain ⟨rfl, hnew, _, hno, _⟩ := f6 rfl
      have hz := hno rfl
      have oB := ((((((Only.refl (At B2) w).setCell (p := ⟨B2, 0, none⟩) rfl (.bool pA.stash)).setCell (p := ⟨B2, 1, none⟩) rfl (.slice va pA.effs.length vc)).setCell (p := ⟨B2, 2, none⟩) rfl (.string (bs pA.state))).setCell (p := ⟨B2, 3, none⟩) rfl (.bool pA.stop)).setCell (p := ⟨B2, 4, none⟩) rfl (.string (bs pA.fail)))
      have hT : OfT 30 (At B2) w := ofT_at (show w.heap[B2]? = _ from hz)
      have u1 := bx_set (hz) 0 (.bool pA.stash)
      have u2 := bx_set (u1) 1 (.slice va pA.effs.length vc)
      have u3 := bx_set (u2) 2 (.string (bs pA.state))
      have u4 := bx_set (u3) 3 (.bool pA.stop)
      have u5 := bx_set (u4) 4 (.string (bs pA.fail))
      simp only [List.set_cons_zero, List.set_cons_succ] at u5
      have hOB : Only Nil w2 _ := hO.then oB (fun k hk hlt => by have e1 : k = B2 := hk; omega)
      have z0 := hz.cell 0 (v := .bool false) rfl
      have z1 := hz.cell 1 (v := .slice none 0 0) rfl
      have z2 := hz.cell 2 (v := .string ⟨#[]⟩) rfl
      have z3 := hz.cell 3 (v := .bool false) rfl
      have z4 := hz.cell 4 (v := .string ⟨#[]⟩) rfl
      have g0 := hz.free 0
      have g1 := hz.free 1
      have g2 := hz.free 2
      have g3 := hz.free 3
      have g4 := hz.free 4
      simp only [plC]
      go_simp
      refine hK _ _ ⟨CC.out _ (hOB), c1, c3, true, true, p7, p8, true, s10, s11, B2, B3, B4, .pointer (some ⟨B2, 0, none⟩), t3, t4, .agg #[.bool pA.stash, .slice va pA.effs.length vc, .string (bs pA.state), .bool pA.stop, .string (bs pA.fail)], t11, t13, Lib.hid ?chs9, ?sums9, rfl, rfl, Lib.hid ⟨hOB, fun h => ⟨_, rfl, MEff.keep (t := 30) hM oB hT (by decide), hNw⟩, fun h => (f3 h).at_ oB hT, fun h => (f5 h).at_ oB hT, fun _ => ⟨rfl, hnew, ⟨_, u5⟩, fun h => absurd h (by decide), fun _ => ⟨_, ⟨MEff.keep (t := 30) hM oB hT (by decide), hNw⟩, u5⟩⟩, fun h => (f7 h).at_ oB hT ((d1 rfl h).symm), fun h => (f8 h).at_ oB hT ((d2 rfl h).symm), d1, d2, d3⟩⟩
      case chs9 => exact ⟨hch.1, hch.2.1, (fun _ => ⟨rfl, rfl⟩), (fun h => ⟨rfl, (hch.2.2.2.1 h).2⟩), hch.2.2.2.2⟩
      case sums9 => simp at hk ⊢; omega
    · refine wpOp_step (i := 10) rfl (fun K' hK => ?_)
      obtain ⟨hO, f1, f3, f5, f6, f7, f8, d1, d2, d3⟩ := hF.out
      obtain ⟨v, rfl, hM, hNw⟩ := f3 (hch.2.1 (hch.2.2.1 rfl).1)
      obtain ⟨va, vc, rfl⟩ := own_slice_n hM
      obtain ⟨rfl, hnew, _, hno, _⟩ := f7 rfl
      have hz := hno rfl
      have oB := ((((((Only.refl (At B3) w).setCell (p := ⟨B3, 0, none⟩) rfl (.bool pB.stash)).setCell (p := ⟨B3, 1, none⟩) rfl (.slice va pB.effs.length vc)).setCell (p := ⟨B3, 2, none⟩) rfl (.string (bs pB.state))).setCell (p := ⟨B3, 3, none⟩) rfl (.bool pB.stop)).setCell (p := ⟨B3, 4, none⟩) rfl (.string (bs pB.fail)))
      have hT : OfT 30 (At B3) w := ofT_at (show w.heap[B3]? = _ from hz)
      have u1 := bx_set (hz) 0 (.bool pB.stash)
      have u2 := bx_set (u1) 1 (.slice va pB.effs.length vc)
      have u3 := bx_set (u2) 2 (.string (bs pB.state))
      have u4 := bx_set (u3) 3 (.bool pB.stop)
      have u5 := bx_set (u4) 4 (.string (bs pB.fail))
      simp only [List.set_cons_zero, List.set_cons_succ] at u5
      have hOB : Only Nil w2 _ := hO.then oB (fun k hk hlt => by have e1 : k = B3 := hk; omega)
      have z0 := hz.cell 0 (v := .bool false) rfl
      have z1 := hz.cell 1 (v := .slice none 0 0) rfl
      have z2 := hz.cell 2 (v := .string ⟨#[]⟩) rfl
      have z3 := hz.cell 3 (v := .bool false) rfl
      have z4 := hz.cell 4 (v := .string ⟨#[]⟩) rfl
      have g0 := hz.free 0
      have g1 := hz.free 1
      have g2 := hz.free 2
      have g3 := hz.free 3
      have g4 := hz.free 4
      simp only [plC]
      go_simp
      refine hK _ _ ⟨CC.out _ (hOB), c1, c3, c5, p6, true, p8, true, true, s11, B2, B3, B4, t2, .pointer (some ⟨B3, 0, none⟩), t4, t9, .agg #[.bool pB.stash, .slice va pB.effs.length vc, .string (bs pB.state), .bool pB.stop, .string (bs pB.fail)], t13, Lib.hid ?chs10, ?sums10, rfl, rfl, Lib.hid ⟨hOB, fun h => (f1 h).at_ oB hT, fun h => ⟨_, rfl, MEff.keep (t := 30) hM oB hT (by decide), hNw⟩, fun h => (f5 h).at_ oB hT, fun h => (f6 h).at_ oB hT (d1 h rfl), fun _ => ⟨rfl, hnew, ⟨_, u5⟩, fun h => absurd h (by decide), fun _ => ⟨_, ⟨MEff.keep (t := 30) hM oB hT (by decide), hNw⟩, u5⟩⟩, fun h => (f8 h).at_ oB hT ((d3 rfl h).symm), d1, d2, d3⟩⟩
      case chs10 => exact ⟨hch.1, hch.2.1, hch.2.2.1, (fun _ => ⟨rfl, rfl⟩), (fun h => ⟨rfl, (hch.2.2.2.2 h).2⟩)⟩
      case sums10 => simp at hk ⊢; omega
    · refine wpOp_step (i := 11) rfl (fun K' hK => ?_)
      obtain ⟨hO, f1, f3, f5, f6, f7, f8, d1, d2, d3⟩ := hF.out
      obtain ⟨v, rfl, hM, hNw⟩ := f5 (hch.2.2.1 (hch.2.2.2.1 rfl).1).1
      obtain ⟨va, vc, rfl⟩ := own_slice_n hM
      obtain ⟨rfl, hnew, _, hno, _⟩ := f8 rfl
      have hz := hno rfl
      have oB := ((((((Only.refl (At B4) w).setCell (p := ⟨B4, 0, none⟩) rfl (.bool pC.stash)).setCell (p := ⟨B4, 1, none⟩) rfl (.slice va pC.effs.length vc)).setCell (p := ⟨B4, 2, none⟩) rfl (.string (bs pC.state))).setCell (p := ⟨B4, 3, none⟩) rfl (.bool pC.stop)).setCell (p := ⟨B4, 4, none⟩) rfl (.string (bs pC.fail)))
      have hT : OfT 30 (At B4) w := ofT_at (show w.heap[B4]? = _ from hz)
      have u1 := bx_set (hz) 0 (.bool pC.stash)
      have u2 := bx_set (u1) 1 (.slice va pC.effs.length vc)
      have u3 := bx_set (u2) 2 (.string (bs pC.state))
      have u4 := bx_set (u3) 3 (.bool pC.stop)
      have u5 := bx_set (u4) 4 (.string (bs pC.fail))
      simp only [List.set_cons_zero, List.set_cons_succ] at u5
      have hOB : Only Nil w2 _ := hO.then oB (fun k hk hlt => by have e1 : k = B4 := hk; omega)
      have z0 := hz.cell 0 (v := .bool false) rfl
      have z1 := hz.cell 1 (v := .slice none 0 0) rfl
      have z2 := hz.cell 2 (v := .string ⟨#[]⟩) rfl
      have z3 := hz.cell 3 (v := .bool false) rfl
      have z4 := hz.cell 4 (v := .string ⟨#[]⟩) rfl
      have g0 := hz.free 0
      have g1 := hz.free 1
      have g2 := hz.free 2
      have g3 := hz.free 3
      have g4 := hz.free 4
      simp only [plC]
      go_simp
      refine hK _ _ ⟨CC.out _ (hOB), c1, c3, c5, p6, p7, true, s9, true, true, B2, B3, B4, t2, t3, .pointer (some ⟨B4, 0, none⟩), t9, t11, .agg #[.bool pC.stash, .slice va pC.effs.length vc, .string (bs pC.state), .bool pC.stop, .string (bs pC.fail)], Lib.hid ?chs11, ?sums11, rfl, rfl, Lib.hid ⟨hOB, fun h => (f1 h).at_ oB hT, fun h => (f3 h).at_ oB hT, fun h => ⟨_, rfl, MEff.keep (t := 30) hM oB hT (by decide), hNw⟩, fun h => (f6 h).at_ oB hT (d2 h rfl), fun h => (f7 h).at_ oB hT (d3 h rfl), fun _ => ⟨rfl, hnew, ⟨_, u5⟩, fun h => absurd h (by decide), fun _ => ⟨_, ⟨MEff.keep (t := 30) hM oB hT (by decide), hNw⟩, u5⟩⟩, d1, d2, d3⟩⟩
      case chs11 => exact ⟨hch.1, hch.2.1, hch.2.2.1, hch.2.2.2.1, (fun _ => ⟨rfl, rfl⟩)⟩
      case sums11 => simp at hk ⊢; omega
  case base =>
    clear hHeld OD
    rintro l a w ⟨c1, c3, c5, p6, p7, p8, s9, s10, s11, B2, B3, B4, t2, t3, t4, t9, t11, t13, hch, hk, rfl, rfl, hF⟩
    have hall : c1 = true ∧ c3 = true ∧ c5 = true ∧ p6 = true ∧ p7 = true ∧ p8 = true ∧ s9 = true ∧ s10 = true ∧ s11 = true := by
      clear hF hch
      revert hk
      cases c1 <;> cases c3 <;> cases c5 <;> cases p6 <;> cases p7 <;> cases p8 <;> cases s9 <;> cases s10 <;> cases s11 <;> decide
    obtain ⟨rfl, rfl, rfl, rfl, rfl, rfl, rfl, rfl, rfl⟩ := hall
    obtain ⟨hO, f1, f3, f5, f6, f7, f8, d1, d2, d3⟩ := hF.out
    obtain ⟨v9, rfl, _, _⟩ := f1 rfl
    obtain ⟨v11, rfl, _, _⟩ := f3 rfl
    obtain ⟨v13, rfl, _, _⟩ := f5 rfl
    obtain ⟨rfl, _, _, _, h6⟩ := f6 rfl
    obtain ⟨rfl, _, _, _, h7⟩ := f7 rfl
    obtain ⟨rfl, _, _, _, h8⟩ := f8 rfl
    have H6 := Lib.hid (h6 rfl)
    have H7 := Lib.hid (h7 rfl)
    have H8 := Lib.hid (h8 rfl)
    have O3 := Lib.hid (O2.out.trans hO)
    clear hF hch hk hO f1 f3 f5 f6 f7 f8 d1 d2 d3 h6 h7 h8 CC HD
    obtain ⟨u6, ⟨m6, _⟩, q6⟩ := H6.out
    obtain ⟨a6, r6, rfl⟩ := own_slice_n m6
    obtain ⟨u7, ⟨m7, _⟩, q7⟩ := H7.out
    obtain ⟨a7, r7, rfl⟩ := own_slice_n m7
    obtain ⟨u8, ⟨m8, _⟩, q8⟩ := H8.out
    obtain ⟨a8, r8, rfl⟩ := own_slice_n m8
    have Q6 := Lib.hid (show Bx w B2 [.bool false, .slice a6 0 r6, .string (bs [115]), .bool true, .string (bs [])] 30 from q6)
    have Q7 := Lib.hid (show Bx w B3 [.bool false, .slice a7 1 r7, .string (bs [116]), .bool false, .string (bs [])] 30 from q7)
    have Q8 := Lib.hid (show Bx w B4 [.bool true, .slice a8 0 r8, .string (bs [115]), .bool false, .string (bs [])] 30 from q8)
    obtain ⟨b, off, rfl, hlt, hc⟩ := XE.at_ (a := a7) (n := 1) (c := r7) (show XE w.heap.size w (.slice a7 1 r7) [exF] from own_cin m7) rfl 0 (by decide)
    have HC7 := Lib.hid (show ∀ k, k < 7 → w.cell? ⟨b, off + k, none⟩ = (effC exF)[k]? from fun k hk => by have := hc k hk; simpa using this)
    clear q6 q7 q8 m6 m7 m8 H6 H7 H8 hc
    refine wpAnyH_done (by kernel_rfl) ?_ _
    go_wp2_with fail
    refine (slot_any [99] w).mono ?_
    rintro e w3 ⟨he, rfl⟩
    have he1 : e = .returned (.tuple #[.int .i64 2, .bool true]) := by
      have h1 : slotI [99] = 2 := by decide
      have := he.out
      rw [h1] at this
      exact this
    subst he1
    clear he
    have k3 := Q6.out.cell 3 (v := .bool true) rfl
    have k2 := Q6.out.cell 2 (v := .string (bs [115])) rfl
    have l1 := Q7.out.cell 1 (v := .slice (some ⟨b, off, none⟩) 1 r7) rfl
    have l2 := Q7.out.cell 2 (v := .string (bs [116])) rfl
    have m0 := Q8.out.cell 0 (v := .bool true) rfl
    have c0 : w.cell? ⟨b, off, none⟩ = some (.int .i64 1) := HC7.out 0 (by decide)
    have c1 : w.cell? ⟨b, off + 1, none⟩ = some (.string (bs [97])) := HC7.out 1 (by decide)
    have c2 : w.cell? ⟨b, off + 2, none⟩ = some (.string (bs [])) := HC7.out 2 (by decide)
    have c3 : w.cell? ⟨b, off + 3, none⟩ = some (.string (bs [120])) := HC7.out 3 (by decide)
    have c4 : w.cell? ⟨b, off + 4, none⟩ = some (.int .i64 2) := HC7.out 4 (by decide)
    have c5 : w.cell? ⟨b, off + 5, none⟩ = some (.int .i64 4) := HC7.out 5 (by decide)
    have c6 : w.cell? ⟨b, off + 6, none⟩ = some (.int .i64 0) := HC7.out 6 (by decide)
    have e1 := lit_eq (a := [115]) (b := [115]) rfl
    have e2 := lit_eq (a := [116]) (b := [116]) rfl
    have hg := guard_eql
    have hq : ∀ w, (binOp .eql 50 (.agg #[.int .i64 1, .string (bs [97]), .string (bs []), .string (bs [120]), .int .i64 2, .int .i64 4, .int .i64 0]) (.agg #[.int .i64 1, .string ⟨#[97]⟩, .string ⟨#[]⟩, .string ⟨#[120]⟩, .int .i64 2, .int .i64 4, .int .i64 0])).run Try.prog w = .ok (.bool true) w := fun w => (eql_eff exF exF w).trans (by rw [decide_eq_true rfl])
    go_wp2_with fail
    have oa : Only Nil w (w.alloc (.cells #[.int .i64 7, .int .i64 8] 3)) := (Only.refl Nil w).alloc _
    refine (who_any [98] 1 2 3 (L := [7, 8]) (rowk2 w) rfl (by decide)).mono ?_
    rintro e w4 ⟨he, o4⟩
    have he1 : e = .returned (.int .i64 8) := by rw [he.out, show whoI [98] 1 2 3 [7, 8] = 8 from by decide]
    subst he1
    have O4 := Lib.hid (O3.out.trans (oa.trans o4))
    clear he oa o4 k3 k2 l1 l2 m0 c0 c1 c2 c3 c4 c5 c6
    go_wp2_with fail
    have oa : Only Nil w4 (w4.alloc (.cells #[.int .i64 7, .int .i64 8] 3)) := (Only.refl Nil w4).alloc _
    refine (who_any [99] 1 2 3 (L := [7, 8]) (rowk2 w4) rfl (by decide)).mono ?_
    rintro e w5 ⟨he, o4⟩
    have he1 : e = .returned (.int .i64 0) := by rw [he.out, show whoI [99] 1 2 3 [7, 8] = 0 from by decide]
    subst he1
    have O5 := Lib.hid (O4.out.trans (oa.trans o4))
    clear he oa o4
    go_wp2_with fail
    refine (who_any [115, 101, 110, 100, 101, 114] 1 2 3 (a := none) (c := 0) (L := []) (fun i hi => absurd hi (Nat.not_lt_zero i)) rfl (by decide)).mono ?_
    rintro e w6 ⟨he, o4⟩
    have he1 : e = .returned (.int .i64 2) := by rw [he.out, show whoI [115, 101, 110, 100, 101, 114] 1 2 3 [] = 2 from by decide]
    subst he1
    have O6 := Lib.hid (O5.out.trans o4)
    clear he o4
    go_wp2
    go_ret
    exact ⟨rfl, O6.out⟩
end Go.Proofs.Ytimnaiahokafaaa.Ac
