/- lex: contracts: number, first. -/
import Derived.Test.YtbicanlipgpioaaGreatDoorLxF
namespace Go.Proofs.YtbicanlipgpioaaGreatDoor.Lx
open Go.RowKit Go.Proofs.YtbicanlipgpioaaGreatDoor Go.Shelf

set_option maxHeartbeats 1000000 in
theorem number_ok (l : List UInt8) (hne : l ≠ []) (w : World) (h : l.all isDi = true ∧ vl 0 l ≤ 65535) (hl : l.length ≤ 16384) : Calls Tryz.prog 24 #[.string (bs l)] w fun e w' => e = .returned (.tuple #[.agg #[.int .i64 2, .string (bs l), .int .i64 (vl 0 l : Nat), .int .i64 0], .int .i64 0]) ∧ Only Nil w w' := by
  have HB := Lib.hid (box_new w)
  obtain ⟨wB, hwB⟩ : ∃ wB, wB = w.alloc (.cells #[.int .i64 0, .string ⟨#[]⟩, .int .i64 0, .int .i64 0] 36) := ⟨_, rfl⟩
  rw [← hwB] at HB
  generalize hO : w.heap.size = O at HB
  have HO := Lib.hid hO
  have hv := h.2
  have HH := Lib.hid (And.intro hne h)
  clear hO hne h
  have P : Hid (∀ w, Calls Tryz.prog 36 #[.string (bs l), .int .i64 10, .int .i64 16] w fun e w' => e = .returned (.tuple #[.int .u64 (vl 0 l : Nat), .nilIface]) ∧ Only Nil w w') := Lib.hid fun w => pu_any l HH.out.1 w HH.out.2 hl
  have T : Hid (∀ w, Calls Tryz.prog 25 #[.int .i64 2, .string (bs l), .int .i64 (vl 0 l : Nat)] w fun e w' => e = .returned (.agg #[.int .i64 2, .string (bs l), .int .i64 (vl 0 l : Nat), .int .i64 0]) ∧ Only Nil w w') := Lib.hid fun w => token_any 2 _ l w hl
  generalize vl 0 l = v at *
  go_enter Tryz.func24, Tryz.ntmps24
  go_upto_region 1 with (fail)
  rw [HO.out, ← hwB]; clear hwB
  go_wp2_with (first
    | (go_at_call 36; refine (P.out _).mono ?_; rintro e w1 ⟨rfl, o1⟩)
    | (go_at_call 25; refine (T.out _).mono ?_; rintro e w2 ⟨rfl, o2⟩; have B1 := Lib.hid ((HB.out.keep o1).keep o2); obtain ⟨c0, c1, c2, c3, f0, f1, f2, f3⟩ := four_cells B1.out.heap))
  refine bodyPost_ret (results_ag1 rfl _ _ O [.int .i64 2, .string (bs l), .int .i64 (v : Nat), .int .i64 0] (.int .i64 0) Tryz.isAgg36 Tryz.sizeOf36 rfl rfl (set4_heap B1.out.heap _ _ _ _)) rfl ?_
  exact ⟨rfl, B1.out.set _ _ _ _⟩
set_option maxHeartbeats 1000000 in
theorem number_bad (l : List UInt8) (hne : l ≠ []) (w : World) (h : ¬ (l.all isDi = true ∧ vl 0 l ≤ 65535)) (hl : l.length ≤ 16384) (E : Env w) : Calls Tryz.prog 24 #[.string (bs l)] w fun e w' => e = .returned (.tuple #[.agg #[.int .i64 0, .string (bs []), .int .i64 0, .int .i64 0], .int .i64 21]) ∧ Only Nil w w' := by
  have HB := Lib.hid (box_new w)
  obtain ⟨wB, hwB⟩ : ∃ wB, wB = w.alloc (.cells #[.int .i64 0, .string ⟨#[]⟩, .int .i64 0, .int .i64 0] 36) := ⟨_, rfl⟩
  rw [← hwB] at HB
  have EB := Lib.hid (E.keep HB.out.only)
  generalize hO : w.heap.size = O at HB
  have HO := Lib.hid hO
  have HH := Lib.hid (And.intro hne h)
  clear hO hne h
  go_enter Tryz.func24, Tryz.ntmps24
  go_upto_region 1 with (fail)
  rw [HO.out, ← hwB]; clear hwB
  go_wp2_with (go_at_call 36; refine (pu_err l HH.out.1 _ HH.out.2 hl EB.out).mono ?_; rintro e w1 ⟨he, o1⟩; obtain ⟨u, t, p, rfl⟩ := he.out; have B1 := Lib.hid (HB.out.keep o1); obtain ⟨c0, c1, c2, c3, f0, f1, f2, f3⟩ := four_cells B1.out.heap)
  refine bodyPost_ret (results_ag1 rfl _ _ O [.int .i64 0, .string ⟨#[]⟩, .int .i64 0, .int .i64 0] (.int .i64 21) Tryz.isAgg36 Tryz.sizeOf36 rfl rfl (set4_heap B1.out.heap _ _ _ _)) rfl ?_
  exact ⟨rfl, B1.out.set _ _ _ _⟩

def tv (t : Tok) (q : Nat) : Value := .agg #[.int .i64 t.k, .string (bs t.w), .int .i64 t.n, .int .i64 q]

theorem isLetter_c (c : UInt8) (w : World) : Calls Tryz.prog 17 #[.int .i32 (c.toNat : Int)] w fun e w' => e = .returned (.bool (isLe c)) ∧ w = w' := by
  have h1 : decide ((97 : Int) ≤ (c.toNat : Int)) = decide (97 ≤ c.toNat) := by simp only [decide_eq_decide]; omega
  have h2 : decide ((c.toNat : Int) ≤ 122) = decide (c.toNat ≤ 122) := by simp only [decide_eq_decide]; omega
  have := isLetter_any (c.toNat : Int) w
  rw [h1, h2] at this
  exact this
theorem isDigit_c (c : UInt8) (w : World) : Calls Tryz.prog 23 #[.int .i32 (c.toNat : Int)] w fun e w' => e = .returned (.bool (isDi c)) ∧ w = w' := by
  have h1 : decide ((48 : Int) ≤ (c.toNat : Int)) = decide (48 ≤ c.toNat) := by simp only [decide_eq_decide]; omega
  have h2 : decide ((c.toNat : Int) ≤ 57) = decide (c.toNat ≤ 57) := by simp only [decide_eq_decide]; omega
  have := isDigit_any (c.toNat : Int) w
  rw [h1, h2] at this
  exact this
theorem bs_zero (c : UInt8) (r : List UInt8) (h : 0 < (bs (c :: r)).size) : (bs (c :: r))[0]'h = c := by rw [bs_get]; rfl

theorem first_byte (c : UInt8) (r : List UInt8) (h : 0 < (bs (c :: r)).size) : wrap32 (((bs (c :: r))[0]'h).toNat : Int) = (c.toNat : Int) := by
  rw [bs_zero]
  have := c.toNat_lt
  unfold wrap32
  omega
/-- What first answers. -/
def Firsts (w : World) (l : List UInt8) (e : Ending) (w' : World) : Prop := e = .returned (.tuple #[tv (tok l).2 0, .int .i64 (tok l).1]) ∧ Only Nil w w'

set_option maxRecDepth 100000 in
set_option maxHeartbeats 1000000 in
theorem first_letter (c : UInt8) (r : List UInt8) (w : World) (h1 : isLe c = true) (k n z : Int) (s : ByteArray)
    (N : ∀ w, Calls Tryz.prog 22 #[.string (bs ((c :: r).takeWhile isWd))] w fun e w' => e = .returned (.tuple #[.agg #[.int .i64 k, .string s, .int .i64 n, .int .i64 0], .int .i64 z]) ∧ Only Nil w w') :
    Calls Tryz.prog 14 #[.string (bs (c :: r))] w fun e w' => e = .returned (.tuple #[.agg #[.int .i64 k, .string s, .int .i64 n, .int .i64 0], .int .i64 z]) ∧ Only Nil w w' := by
  have hz : 0 < (bs (c :: r)).size := by rw [bs_size]; simp
  have NN := Lib.hid N
  clear N
  have HB := Lib.hid (box_new w)
  obtain ⟨wB, hwB⟩ : ∃ wB, wB = w.alloc (.cells #[.int .i64 0, .string ⟨#[]⟩, .int .i64 0, .int .i64 0] 36) := ⟨_, rfl⟩
  rw [← hwB] at HB
  generalize hO : w.heap.size = O at HB
  have HO := Lib.hid hO
  clear hO
  have H1 := Lib.hid h1
  clear h1
  go_enter Tryz.func14, Tryz.ntmps14
  go_upto_region 1 with (fail)
  rw [HO.out, ← hwB]; clear hwB
  go_wp2_with fail
  simp only [first_byte]
  go_wp2_with (first
    | (go_at_call 17; refine (isLetter_c c _).mono ?_; rintro e w1 ⟨rfl, rfl⟩; rw [H1.out])
    | (go_at_call 18; refine (word_any (c :: r) _).mono ?_; rintro e w2 ⟨rfl, o2⟩)
    | (go_at_call 22; refine (NN.out _).mono ?_; rintro e w3 ⟨rfl, o3⟩; have B1 := Lib.hid ((HB.out.keep o2).keep o3); obtain ⟨c0, c1, c2, c3, f0, f1, f2, f3⟩ := four_cells B1.out.heap))
  refine bodyPost_ret (results_ag1 rfl _ _ O [.int .i64 k, .string s, .int .i64 n, .int .i64 0] (.int .i64 z) Tryz.isAgg36 Tryz.sizeOf36 rfl rfl (set4_heap B1.out.heap _ _ _ _)) rfl ?_
  exact ⟨rfl, B1.out.set _ _ _ _⟩
set_option maxRecDepth 100000 in
set_option maxHeartbeats 1000000 in
theorem first_digit (c : UInt8) (r : List UInt8) (w : World) (h1 : isLe c = false) (h2 : isDi c = true) (k n z : Int) (s : ByteArray)
    (E : Env w) (N : ∀ w, Env w → Calls Tryz.prog 24 #[.string (bs ((c :: r).takeWhile isWd))] w fun e w' => e = .returned (.tuple #[.agg #[.int .i64 k, .string s, .int .i64 n, .int .i64 0], .int .i64 z]) ∧ Only Nil w w') :
    Calls Tryz.prog 14 #[.string (bs (c :: r))] w fun e w' => e = .returned (.tuple #[.agg #[.int .i64 k, .string s, .int .i64 n, .int .i64 0], .int .i64 z]) ∧ Only Nil w w' := by
  have hz : 0 < (bs (c :: r)).size := by rw [bs_size]; simp
  have NN := Lib.hid N
  have HE := Lib.hid E
  clear N E
  have HB := Lib.hid (box_new w)
  obtain ⟨wB, hwB⟩ : ∃ wB, wB = w.alloc (.cells #[.int .i64 0, .string ⟨#[]⟩, .int .i64 0, .int .i64 0] 36) := ⟨_, rfl⟩
  rw [← hwB] at HB
  generalize hO : w.heap.size = O at HB
  have HO := Lib.hid hO
  clear hO
  have H1 := Lib.hid h1
  have H2 := Lib.hid h2
  clear h1 h2
  go_enter Tryz.func14, Tryz.ntmps14
  go_upto_region 1 with (fail)
  rw [HO.out, ← hwB]; clear hwB
  go_wp2_with fail
  simp only [first_byte]
  go_wp2_with (first
    | (go_at_call 17; refine (isLetter_c c _).mono ?_; rintro e w1 ⟨rfl, rfl⟩; rw [H1.out])
    | (go_at_call 23; refine (isDigit_c c _).mono ?_; rintro e w1 ⟨rfl, rfl⟩; rw [H2.out])
    | (go_at_call 18; refine (word_any (c :: r) _).mono ?_; rintro e w2 ⟨rfl, o2⟩)
    | (go_at_call 24; refine (NN.out _ ((HE.out.keep HB.out.only).keep o2)).mono ?_; rintro e w3 ⟨rfl, o3⟩; have B1 := Lib.hid ((HB.out.keep o2).keep o3); obtain ⟨c0, c1, c2, c3, f0, f1, f2, f3⟩ := four_cells B1.out.heap))
  refine bodyPost_ret (results_ag1 rfl _ _ O [.int .i64 k, .string s, .int .i64 n, .int .i64 0] (.int .i64 z) Tryz.isAgg36 Tryz.sizeOf36 rfl rfl (set4_heap B1.out.heap _ _ _ _)) rfl ?_
  exact ⟨rfl, B1.out.set _ _ _ _⟩
theorem sg_facts (c : UInt8) : (((c.toNat : Int) == 123) = (c == 123)) ∧ (((c.toNat : Int) == 125) = (c == 125)) ∧ (((c.toNat : Int) == 59) = (c == 59)) := by
  have h : ∀ (d : UInt8) (n : Nat), d.toNat = n → ((c.toNat : Int) == (n : Int)) = (c == d) := by
    intro d n hd
    rw [Bool.eq_iff_iff]
    have : c = d ↔ c.toNat = d.toNat := ⟨fun h => by rw [h], fun h => UInt8.toNat_inj.1 h⟩
    simp [this, hd]
    omega
  exact ⟨h 123 123 rfl, h 125 125 rfl, h 59 59 rfl⟩
set_option maxRecDepth 100000 in
set_option maxHeartbeats 1000000 in
theorem first_sign (c : UInt8) (r : List UInt8) (w : World) (h1 : isLe c = false) (h2 : isDi c = false) (h3 : isSg c = true) :
    Calls Tryz.prog 14 #[.string (bs (c :: r))] w fun e w' => e = .returned (.tuple #[.agg #[.int .i64 3, .string (bs [c]), .int .i64 0, .int .i64 0], .int .i64 0]) ∧ Only Nil w w' := by
  have hz : 0 < (bs (c :: r)).size := by rw [bs_size]; simp
  have HB := Lib.hid (box_new w)
  obtain ⟨wB, hwB⟩ : ∃ wB, wB = w.alloc (.cells #[.int .i64 0, .string ⟨#[]⟩, .int .i64 0, .int .i64 0] 36) := ⟨_, rfl⟩
  rw [← hwB] at HB
  generalize hO : w.heap.size = O at HB
  have HO := Lib.hid hO
  clear hO
  have H1 := Lib.hid h1
  have H2 := Lib.hid h2
  clear h1 h2
  obtain ⟨g1, g2, g3⟩ := sg_facts c
  have hs1 : (bs (c :: r)).size = (c :: r).length := bs_size _
  have hx : (bs (c :: r)).extract 0 1 = bs [c] := by rw [bs_extract]; rfl
  have hsl : ∀ w, (Instr.slice 9 (.string (bs (c :: r))) none (some (.int .i64 1)) none).run Tryz.prog w = .ok (.string (bs [c])) w := by
    intro w
    rw [← hx]
    simp [go_sem, Tryz.underlying9]
    intro h; omega
  clear hs1 hx
  have h3' : (((c.toNat : Int) == 123) = true ∨ ((c.toNat : Int) == 123) = false ∧ ((c.toNat : Int) == 125) = true ∨ ((c.toNat : Int) == 123) = false ∧ ((c.toNat : Int) == 125) = false ∧ ((c.toNat : Int) == 59) = true) := by
    rw [g1, g2, g3]
    unfold isSg at h3
    cases h : (c == 123) <;> cases h' : (c == 125) <;> cases h'' : (c == 59) <;> simp_all
  clear g1 g2 g3 h3
  generalize hcn : (c.toNat : Int) = z at h3'
  have HCN := Lib.hid hcn
  clear hcn
  rcases h3' with k1 | ⟨k1, k2⟩ | ⟨k1, k2, k3⟩
  all_goals
    go_enter Tryz.func14, Tryz.ntmps14
    go_upto_region 1 with (fail)
    rw [HO.out, ← hwB]; clear hwB
    go_wp2_with fail
    simp only [first_byte]
    go_wp2_with (first
      | (go_at_call 17; refine (isLetter_c c _).mono ?_; rintro e w1 ⟨rfl, rfl⟩; rw [H1.out])
      | (go_at_call 23; refine (isDigit_c c _).mono ?_; rintro e w1 ⟨rfl, rfl⟩; rw [H2.out]; rw [HCN.out])
      | (go_at_call 25; refine (token_any 3 0 [c] _ (by simp)).mono ?_; rintro e w3 ⟨rfl, o3⟩; have B1 := Lib.hid (HB.out.keep o3); obtain ⟨c0, c1, c2, c3, f0, f1, f2, f3⟩ := four_cells B1.out.heap))
    refine bodyPost_ret (results_ag1 rfl _ _ O [.int .i64 3, .string (bs [c]), .int .i64 0, .int .i64 0] (.int .i64 0) Tryz.isAgg36 Tryz.sizeOf36 rfl rfl (set4_heap B1.out.heap _ _ _ _)) rfl ?_
    exact ⟨rfl, B1.out.set _ _ _ _⟩
set_option maxRecDepth 100000 in
set_option maxHeartbeats 1000000 in
theorem first_other (c : UInt8) (r : List UInt8) (w : World) (h1 : isLe c = false) (h2 : isDi c = false) (h3 : isSg c = false) :
    Calls Tryz.prog 14 #[.string (bs (c :: r))] w fun e w' => e = .returned (.tuple #[.agg #[.int .i64 0, .string (bs []), .int .i64 0, .int .i64 0], .int .i64 20]) ∧ Only Nil w w' := by
  have hz : 0 < (bs (c :: r)).size := by rw [bs_size]; simp
  have HB := Lib.hid (box_new w)
  obtain ⟨wB, hwB⟩ : ∃ wB, wB = w.alloc (.cells #[.int .i64 0, .string ⟨#[]⟩, .int .i64 0, .int .i64 0] 36) := ⟨_, rfl⟩
  rw [← hwB] at HB
  generalize hO : w.heap.size = O at HB
  have HO := Lib.hid hO
  clear hO
  have H1 := Lib.hid h1
  have H2 := Lib.hid h2
  clear h1 h2
  obtain ⟨g1, g2, g3⟩ := sg_facts c
  have h3' : ((c.toNat : Int) == 123) = false ∧ ((c.toNat : Int) == 125) = false ∧ ((c.toNat : Int) == 59) = false := by
    rw [g1, g2, g3]
    unfold isSg at h3
    cases h : (c == 123) <;> cases h' : (c == 125) <;> cases h'' : (c == 59) <;> simp_all
  clear g1 g2 g3 h3
  generalize hcn : (c.toNat : Int) = z at h3'
  have HCN := Lib.hid hcn
  clear hcn
  obtain ⟨k1, k2, k3⟩ := h3'
  obtain ⟨c0, c1, c2, c3, f0, f1, f2, f3⟩ := four_cells HB.out.heap
  go_enter Tryz.func14, Tryz.ntmps14
  go_upto_region 1 with (fail)
  rw [HO.out, ← hwB]; clear hwB
  go_wp2_with fail
  simp only [first_byte]
  go_wp2_with (first
    | (go_at_call 17; refine (isLetter_c c _).mono ?_; rintro e w1 ⟨rfl, rfl⟩; rw [H1.out])
    | (go_at_call 23; refine (isDigit_c c _).mono ?_; rintro e w1 ⟨rfl, rfl⟩; rw [H2.out]; rw [HCN.out]))
  refine bodyPost_ret (results_ag1 rfl _ _ O [.int .i64 0, .string ⟨#[]⟩, .int .i64 0, .int .i64 0] (.int .i64 20) Tryz.isAgg36 Tryz.sizeOf36 rfl rfl (set4_heap HB.out.heap _ _ _ _)) rfl ?_
  exact ⟨rfl, HB.out.set _ _ _ _⟩
theorem take_pos {c : UInt8} {r : List UInt8} (h : isWd c = true) : (c :: r).takeWhile isWd ≠ [] := by simp [h]
theorem first_any (c : UInt8) (r : List UInt8) (w : World) (hl : (c :: r).length ≤ 16384) (E : Env w) : Calls Tryz.prog 14 #[.string (bs (c :: r))] w (Firsts w (c :: r)) := by
  have hp := (List.takeWhile_prefix (l := c :: r) isWd).length_le
  unfold Firsts
  rw [tok_c]
  cases h1 : isLe c with
  | true =>
    by_cases h16 : 16 < ((c :: r).takeWhile isWd).length
    · rw [if_pos rfl, if_pos h16]
      exact first_letter c r w h1 0 0 22 _ (fun w => name_long _ w h16 (by omega))
    · rw [if_pos rfl, if_neg h16]
      exact first_letter c r w h1 1 0 0 _ (fun w => name_short _ w (by omega))
  | false =>
    rw [if_neg (show ¬ (false = true) by simp)]
    cases h2 : isDi c with
    | true =>
      rw [if_pos rfl]
      have hne := take_pos (r := r) (isWd_of_di h2)
      by_cases h3 : ((c :: r).takeWhile isWd).all isDi = true ∧ vl 0 ((c :: r).takeWhile isWd) ≤ 65535
      · rw [if_pos (by rw [h3.1]; simpa using h3.2)]
        exact first_digit c r w h1 h2 2 _ 0 _ E (fun w _ => number_ok _ hne w h3 (by omega))
      · rw [if_neg (by simpa using h3)]
        exact first_digit c r w h1 h2 0 0 21 _ E (fun w E => number_bad _ hne w h3 (by omega) E)
    | false =>
      rw [if_neg (show ¬ (false = true) by simp)]
      cases h3 : isSg c with
      | true => rw [if_pos rfl]; exact first_sign c r w h1 h2 h3
      | false => rw [if_neg (show ¬ (false = true) by simp)]; exact first_other c r w h1 h2 h3
end Go.Proofs.YtbicanlipgpioaaGreatDoor.Lx
