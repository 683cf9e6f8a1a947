/- act: slots and references. -/
import Derived.Test.YtimnaiahokafaaaAcD
import Derived.Test.YtimnaiahokafaaaRowA
import Derived.Laws.BytesArg
import Derived.Laws.IdiomStrings
import Derived.Laws.Concat
set_option linter.unusedVariables false
namespace Go.Proofs.Ytimnaiahokafaaa.Ac
open Go Go.RowKit Go.Proofs.Ytimnaiahokafaaa Lx Ps Ch

def slotI (s : Wd) : Int := if s = [97] then 0 else if s = [98] then 1 else if s = [99] then 2 else if s = [100] then 3 else -1
def w_self : Wd := [115, 101, 108, 102]
def w_sender : Wd := [115, 101, 110, 100, 101, 114]
def w_parent : Wd := [112, 97, 114, 101, 110, 116]
def whoI (r : Wd) (a b c : Int) (L : List Int) : Int := if r = w_self then a else if r = w_sender then b else if r = w_parent then c else if slotI r < 0 ∨ (L.length : Int) ≤ slotI r then 0 else L.getD (slotI r).toNat 0
theorem lit_ne {a : Wd} (b : Wd) (h : ¬ a = b) : ((bs a).toList == b) = false := by rw [toList_bs]; simpa using h
theorem lit_eq {a b : Wd} (h : a = b) : ((bs a).toList == b) = true := by rw [toList_bs]; simpa using h
theorem lit_eb {a b : Wd} (h : a = b) : ((bs a).toList == (bs b).toList) = true := by rw [h]; exact str_eq b
theorem add_lit1 (g o j : Nat) : (⟨g, o, none⟩ : Addr).add j = ⟨g, o + j, none⟩ := by unfold Addr.add; split <;> simp_all
theorem conv_one (c : UInt8) (k : Int) (hk : (c.toNat : Int) = k) (w : World) : (convert 73 9 (.slice (some ⟨w.heap.size, 0, none⟩) 1 1)).run Try.prog (w.alloc (.cells #[.int .u8 k] 5)) = .ok (.string (bs [c])) (w.alloc (.cells #[.int .u8 k] 5)) := by
  have h := run_convert_bytes_back (P := Try.prog) (w.alloc (.cells #[.int .u8 k] 5)) 73 9 5 ⟨w.heap.size, 0, none⟩ 1 [c] Try.underlying73 Try.underlying5 Try.underlying9 (fun j hj => by
    have h0 : j = 0 := by simpa using hj
    subst h0
    have hb := heap_new w (.cells #[.int .u8 k] 5)
    rw [add_lit1]
    simp only [World.cell?, hb]
    have e : (([c] : List UInt8)[0].toNat : Int) = k := hk
    rw [e]; rfl)
  exact h
theorem lit_nb {a : Wd} (b : Wd) (h : ¬ a = b) : ((bs a).toList == (bs b).toList) = false := str_ne h
theorem slot_cases (s : Wd) : s = [97] ∨ s = [98] ∨ s = [99] ∨ s = [100] ∨ (slotI s = -1 ∧ ¬ s = [97] ∧ ¬ s = [98] ∧ ¬ s = [99] ∧ ¬ s = [100]) := by
  by_cases h0 : s = [97]; · exact Or.inl h0
  by_cases h1 : s = [98]; · exact Or.inr (Or.inl h1)
  by_cases h2 : s = [99]; · exact Or.inr (Or.inr (Or.inl h2))
  by_cases h3 : s = [100]; · exact Or.inr (Or.inr (Or.inr (Or.inl h3)))
  exact Or.inr (Or.inr (Or.inr (Or.inr ⟨by unfold slotI; simp [h0, h1, h2, h3], h0, h1, h2, h3⟩)))

set_option maxHeartbeats 1000000 in
theorem slot_any (s : Wd) (w : World) : Calls Try.prog 20 #[.string (bs s)] w fun e w' => Hid (e = .returned (.tuple #[.int .i64 (max (slotI s) 0), .bool (decide (0 ≤ slotI s))])) ∧ w = w' := by
  rcases slot_cases s with h | h | h | h | ⟨hz, h0, h1, h2, h3⟩
  · have a0 := lit_eq h; have a1 := lit_ne [98] (show ¬ s = [98] from by rw [h]; decide); have a2 := lit_ne [99] (show ¬ s = [99] from by rw [h]; decide); have a3 := lit_ne [100] (show ¬ s = [100] from by rw [h]; decide)
    have HZ := Lib.hid (show slotI s = 0 from by rw [h]; rfl)
    clear h
    go_enter Try.func20, Try.ntmps20
    go_wp2
    go_ret2
    exact ⟨Lib.hid (by rw [HZ.out]; rfl), rfl⟩
  · have a0 := lit_ne [97] (show ¬ s = [97] from by rw [h]; decide); have a1 := lit_eq h; have a2 := lit_ne [99] (show ¬ s = [99] from by rw [h]; decide); have a3 := lit_ne [100] (show ¬ s = [100] from by rw [h]; decide)
    have HZ := Lib.hid (show slotI s = 1 from by rw [h]; rfl)
    clear h
    go_enter Try.func20, Try.ntmps20
    go_wp2
    go_ret2
    exact ⟨Lib.hid (by rw [HZ.out]; rfl), rfl⟩
  · have a0 := lit_ne [97] (show ¬ s = [97] from by rw [h]; decide); have a1 := lit_ne [98] (show ¬ s = [98] from by rw [h]; decide); have a2 := lit_eq h; have a3 := lit_ne [100] (show ¬ s = [100] from by rw [h]; decide)
    have HZ := Lib.hid (show slotI s = 2 from by rw [h]; rfl)
    clear h
    go_enter Try.func20, Try.ntmps20
    go_wp2
    go_ret2
    exact ⟨Lib.hid (by rw [HZ.out]; rfl), rfl⟩
  · have a0 := lit_ne [97] (show ¬ s = [97] from by rw [h]; decide); have a1 := lit_ne [98] (show ¬ s = [98] from by rw [h]; decide); have a2 := lit_ne [99] (show ¬ s = [99] from by rw [h]; decide); have a3 := lit_eq h
    have HZ := Lib.hid (show slotI s = 3 from by rw [h]; rfl)
    clear h
    go_enter Try.func20, Try.ntmps20
    go_wp2
    go_ret2
    exact ⟨Lib.hid (by rw [HZ.out]; rfl), rfl⟩
  · have a0 := lit_ne _ h0; have a1 := lit_ne _ h1; have a2 := lit_ne _ h2; have a3 := lit_ne _ h3
    have b0 := lit_nb _ h0; have b1 := lit_nb _ h1; have b2 := lit_nb _ h2; have b3 := lit_nb _ h3
    have HZ := Lib.hid hz
    clear h0 h1 h2 h3 hz
    go_enter Try.func20, Try.ntmps20
    go_wp2
    go_ret2
    exact ⟨Lib.hid (by rw [HZ.out]; rfl), rfl⟩

set_option maxHeartbeats 4000000 in
theorem rslot_any (s : Wd) (w : World) : Calls Try.prog 21 #[.string (bs s)] w fun e w' => Hid (e = .returned (.int .i64 (slotI s))) ∧ Only Nil w w' := by
  go_enter Try.func21, Try.ntmps21
  go_wp2
  go_loopw [3] (fun s3 wr => ∃ i : Nat, i ≤ 4 ∧ s3 = .int .i64 (i : Int) ∧ Hid (∀ j : Nat, j < i → ¬ s = [(97 + j).toUInt8]) ∧ Hid (Only Nil w wr)) (fun s3 _ => 4 - (intOf s3).toNat)
  case atStart => exact ⟨0, by omega, rfl, Lib.hid (fun j hj => absurd hj (Nat.not_lt_zero j)), Lib.hid (Only.refl _ _)⟩
  case round =>
    obtain ⟨i, hi, rfl, hE, hO⟩ := hrel
    have hc : i = 0 ∨ i = 1 ∨ i = 2 ∨ i = 3 ∨ i = 4 := by omega
    clear hi
    rcases hc with rfl | rfl | rfl | rfl | rfl
    · have cv := conv_one 97 97 rfl wr
      by_cases h0 : s = [97]
      · have a0 := lit_eq h0
        have b0 := lit_eb h0
        have HZ := Lib.hid (show slotI s = 0 from by rw [h0]; rfl)
        have oo := Lib.hid (hO.out.alloc (.cells #[.int .u8 97] 5))
        clear h0
        go_wp2
        go_ret
        exact ⟨Lib.hid (by rw [HZ.out]; rfl), oo.out⟩
      · have a0 := lit_ne _ h0
        have b0 := lit_nb _ h0
        have HX := Lib.hid (show ∀ j : Nat, j < 1 → ¬ s = [(97 + j).toUInt8] from fun j hj => by
          rcases Nat.lt_or_ge j 0 with h | h
          · exact hE.out j h
          · obtain rfl : j = 0 := by omega
            exact h0)
        have oo := Lib.hid (hO.out.alloc (.cells #[.int .u8 97] 5))
        clear h0
        go_wp2
        go_roundw
        case rel => exact ⟨1, by omega, rfl, HX, oo⟩
        case measure => simp [intOf]
    · have cv := conv_one 98 98 rfl wr
      by_cases h0 : s = [98]
      · have a0 := lit_eq h0
        have b0 := lit_eb h0
        have HZ := Lib.hid (show slotI s = 1 from by rw [h0]; rfl)
        have oo := Lib.hid (hO.out.alloc (.cells #[.int .u8 98] 5))
        clear h0
        go_wp2
        go_ret
        exact ⟨Lib.hid (by rw [HZ.out]; rfl), oo.out⟩
      · have a0 := lit_ne _ h0
        have b0 := lit_nb _ h0
        have HX := Lib.hid (show ∀ j : Nat, j < 2 → ¬ s = [(97 + j).toUInt8] from fun j hj => by
          rcases Nat.lt_or_ge j 1 with h | h
          · exact hE.out j h
          · obtain rfl : j = 1 := by omega
            exact h0)
        have oo := Lib.hid (hO.out.alloc (.cells #[.int .u8 98] 5))
        clear h0
        go_wp2
        go_roundw
        case rel => exact ⟨2, by omega, rfl, HX, oo⟩
        case measure => simp [intOf]
    · have cv := conv_one 99 99 rfl wr
      by_cases h0 : s = [99]
      · have a0 := lit_eq h0
        have b0 := lit_eb h0
        have HZ := Lib.hid (show slotI s = 2 from by rw [h0]; rfl)
        have oo := Lib.hid (hO.out.alloc (.cells #[.int .u8 99] 5))
        clear h0
        go_wp2
        go_ret
        exact ⟨Lib.hid (by rw [HZ.out]; rfl), oo.out⟩
      · have a0 := lit_ne _ h0
        have b0 := lit_nb _ h0
        have HX := Lib.hid (show ∀ j : Nat, j < 3 → ¬ s = [(97 + j).toUInt8] from fun j hj => by
          rcases Nat.lt_or_ge j 2 with h | h
          · exact hE.out j h
          · obtain rfl : j = 2 := by omega
            exact h0)
        have oo := Lib.hid (hO.out.alloc (.cells #[.int .u8 99] 5))
        clear h0
        go_wp2
        go_roundw
        case rel => exact ⟨3, by omega, rfl, HX, oo⟩
        case measure => simp [intOf]
    · have cv := conv_one 100 100 rfl wr
      by_cases h0 : s = [100]
      · have a0 := lit_eq h0
        have b0 := lit_eb h0
        have HZ := Lib.hid (show slotI s = 3 from by rw [h0]; rfl)
        have oo := Lib.hid (hO.out.alloc (.cells #[.int .u8 100] 5))
        clear h0
        go_wp2
        go_ret
        exact ⟨Lib.hid (by rw [HZ.out]; rfl), oo.out⟩
      · have a0 := lit_ne _ h0
        have b0 := lit_nb _ h0
        have HX := Lib.hid (show ∀ j : Nat, j < 4 → ¬ s = [(97 + j).toUInt8] from fun j hj => by
          rcases Nat.lt_or_ge j 3 with h | h
          · exact hE.out j h
          · obtain rfl : j = 3 := by omega
            exact h0)
        have oo := Lib.hid (hO.out.alloc (.cells #[.int .u8 100] 5))
        clear h0
        go_wp2
        go_roundw
        case rel => exact ⟨4, by omega, rfl, HX, oo⟩
        case measure => simp [intOf]
    · have hz : slotI s = -1 := by
        have h0 := hE.out 0 (by omega); have h1 := hE.out 1 (by omega); have h2 := hE.out 2 (by omega); have h3 := hE.out 3 (by omega)
        have h0 : ¬ s = [97] := h0; have h1 : ¬ s = [98] := h1; have h2 : ¬ s = [99] := h2; have h3 : ¬ s = [100] := h3
        unfold slotI; rw [if_neg h0, if_neg h1, if_neg h2, if_neg h3]
      have HZ := Lib.hid hz
      clear hz
      go_wp2
      go_ret
      exact ⟨Lib.hid (by first | (rw [HZ.out]; done) | (rw [HZ.out]; rfl)), hO.out⟩

theorem rnumber_any (e : Eff) (n : Int) (hn : inW n) (w : World) : Calls Try.prog 25 #[.agg #[.int .i64 e.act, .string (bs e.ref), .string (bs e.slot), .string (bs e.name), .int .i64 e.val, .int .i64 e.n, .int .i64 e.delay], .int .i64 n] w fun r w' => r = .returned (.int .i64 (numOf e n)) ∧ Only Nil w w' := by
  obtain ⟨ac, rf, sl, nm, va, en, de⟩ := e
  have O1 := Lib.hid ((Only.refl Nil w).alloc (.cells #[.int .i64 ac, .string (bs rf), .string (bs sl), .string (bs nm), .int .i64 va, .int .i64 en, .int .i64 de] 50))
  dsimp only
  by_cases h0 : va = 0
  · subst h0
    rw [show numOf ⟨ac, rf, sl, nm, 0, en, de⟩ n = n from rfl]
    go_enter Try.func25, Try.ntmps25
    go_wp2
    go_ret
    exact ⟨rfl, O1.out⟩
  by_cases h1 : va = 1
  · subst h1
    by_cases h2 : n < 1
    · rw [show numOf ⟨ac, rf, sl, nm, 1, en, de⟩ n = 0 from by simp [numOf, h2]]
      go_enter Try.func25, Try.ntmps25
      go_wp2
      go_ret
      exact ⟨rfl, O1.out⟩
    · rw [show numOf ⟨ac, rf, sl, nm, 1, en, de⟩ n = n - 1 from by simp [numOf, h2]]
      have hw : IntKind.i64.wrap (n - 1) = n - 1 := by unfold inW at hn; exact IntWalk.i64_in _ (by omega)
      go_enter Try.func25, Try.ntmps25
      go_wp2
      go_ret
      exact ⟨rfl, O1.out⟩
  rw [show numOf ⟨ac, rf, sl, nm, va, en, de⟩ n = en from by simp [numOf, h0, h1]]
  have g0 : (va == 0) = false := by simpa using h0
  have g1 : (va == 1) = false := by simpa using h1
  clear h0 h1
  go_enter Try.func25, Try.ntmps25
  go_wp2
  go_ret
  exact ⟨rfl, O1.out⟩

set_option maxHeartbeats 4000000 in
theorem who_any (r : Wd) (x y z : Int) {w : World} {a : Option Addr} {c m : Nat} {L : List Int} (hr : RowK .i64 w a L) (hm : L.length = m) (hb : m ≤ 140737488355328) : Calls Try.prog 22 #[.string (bs r), .int .i64 x, .int .i64 y, .int .i64 z, .slice a m c] w fun e w' => Hid (e = .returned (.int .i64 (whoI r x y z L))) ∧ Only Nil w w' := by
  subst hm
  by_cases h0 : r = w_self
  · have HW := Lib.hid (show whoI r x y z L = x from by rw [h0]; rfl)
    have a0 := lit_eq h0; simp only [w_self] at a0;
    clear hr hb h0
    go_enter Try.func22, Try.ntmps22
    go_wp2
    go_ret
    exact ⟨Lib.hid (by first | (rw [HW.out]; done) | (rw [HW.out]; rfl)), Only.refl _ _⟩
  by_cases h1 : r = w_sender
  · have HW := Lib.hid (show whoI r x y z L = y from by rw [h1]; rfl)
    have a0 := lit_ne _ h0; simp only [w_self] at a0; have a1 := lit_eq h1; simp only [w_sender] at a1;
    clear hr hb h0 h1
    go_enter Try.func22, Try.ntmps22
    go_wp2
    go_ret
    exact ⟨Lib.hid (by first | (rw [HW.out]; done) | (rw [HW.out]; rfl)), Only.refl _ _⟩
  by_cases h2 : r = w_parent
  · have HW := Lib.hid (show whoI r x y z L = z from by rw [h2]; rfl)
    have a0 := lit_ne _ h0; simp only [w_self] at a0; have a1 := lit_ne _ h1; simp only [w_sender] at a1; have a2 := lit_eq h2; simp only [w_parent] at a2;
    clear hr hb h0 h1 h2
    go_enter Try.func22, Try.ntmps22
    go_wp2
    go_ret
    exact ⟨Lib.hid (by first | (rw [HW.out]; done) | (rw [HW.out]; rfl)), Only.refl _ _⟩
  have HS := Lib.hid (fun w' => slot_any r w')
  have hwho : whoI r x y z L = if slotI r < 0 ∨ (L.length : Int) ≤ slotI r then 0 else L.getD (slotI r).toNat 0 := by unfold whoI; rw [if_neg h0, if_neg h1, if_neg h2]
  have HW := Lib.hid hwho
  have a0 := lit_ne _ h0; have a1 := lit_ne _ h1; have a2 := lit_ne _ h2
  simp only [w_self] at a0
  simp only [w_sender] at a1
  simp only [w_parent] at a2
  clear h0 h1 h2 hwho
  by_cases hz : slotI r < 0
  · rw [if_pos (Or.inl hz)] at HW
    have hz2 : slotI r = -1 := by
      rcases slot_cases r with rfl | rfl | rfl | rfl | h
      · exact absurd hz (by decide)
      · exact absurd hz (by decide)
      · exact absurd hz (by decide)
      · exact absurd hz (by decide)
      · exact h.1
    rw [hz2] at HS
    clear hr hb hz hz2
    go_enter Try.func22, Try.ntmps22
    go_wp2_with fail
    refine (HS.out _).mono ?_
    rintro e w1 ⟨he, o1⟩
    obtain rfl := o1
    have he := he.out
    subst he
    go_wp2
    go_ret
    exact ⟨Lib.hid (by first | (rw [HW.out]; done) | (rw [HW.out]; rfl)), Only.refl _ _⟩
  · obtain ⟨i, hi⟩ : ∃ i : Nat, slotI r = (i : Int) := ⟨(slotI r).toNat, by omega⟩
    rw [hi] at HS HW
    by_cases hl : i < L.length
    · rw [if_neg (by omega), Int.toNat_natCast] at HW
      obtain ⟨b, off, rfl, hb2, hc⟩ := hr i hl
      have k := hc i hl
      generalize L.getD i 0 = v at *
      have hil : (i : Int) < (L.length : Int) := by omega
      have h0i : (0 : Int) ≤ (i : Int) := Int.natCast_nonneg i
      have hmx : max (i : Int) 0 = (i : Int) := by omega
      have hd : decide ((0 : Int) ≤ (i : Int)) = true := decide_eq_true h0i
      have hneg : ¬ (i : Int) < 0 := by omega
      rw [hmx, hd] at HS
      have HC := Lib.hid k
      clear hr hc hz hi hmx hd k
      go_enter Try.func22, Try.ntmps22
      go_wp2_with fail
      refine (HS.out _).mono ?_
      rintro e w1 ⟨he, o1⟩
      obtain rfl := o1; have k := HC.out
      have he := he.out
      subst he
      go_wp2
      go_ret
      exact ⟨Lib.hid (by first | (rw [HW.out]; done) | (rw [HW.out]; rfl)), Only.refl _ _⟩
    · rw [if_pos (by omega)] at HW
      have hil : ¬ (i : Int) < (L.length : Int) := by omega
      have hge : (L.length : Int) ≤ (i : Int) := by omega
      have h0i : (0 : Int) ≤ (i : Int) := Int.natCast_nonneg i
      have hmx : max (i : Int) 0 = (i : Int) := by omega
      have hd : decide ((0 : Int) ≤ (i : Int)) = true := decide_eq_true h0i
      have hneg : ¬ (i : Int) < 0 := by omega
      rw [hmx, hd] at HS
      clear hr hz hi hmx hd
      go_enter Try.func22, Try.ntmps22
      go_wp2_with fail
      refine (HS.out _).mono ?_
      rintro e w1 ⟨he, o1⟩
      obtain rfl := o1
      have he := he.out
      subst he
      go_wp2
      go_ret
      exact ⟨Lib.hid (by first | (rw [HW.out]; done) | (rw [HW.out]; rfl)), Only.refl _ _⟩

set_option maxHeartbeats 4000000 in
theorem rwho_any (r : Wd) (x y z : Int) {w : World} {a : Option Addr} {c m : Nat} {L : List Int} (hr : RowK .i64 w a L) (hm : L.length = m) (hb : m ≤ 140737488355328) : Calls Try.prog 23 #[.string (bs r), .int .i64 x, .int .i64 y, .int .i64 z, .slice a m c] w fun e w' => Hid (e = .returned (.int .i64 (whoI r x y z L))) ∧ Only Nil w w' := by
  subst hm
  by_cases h0 : r = w_self
  · have HW := Lib.hid (show whoI r x y z L = x from by rw [h0]; rfl)
    have a0 := lit_eq h0; simp only [w_self] at a0;
    clear hr hb h0
    go_enter Try.func23, Try.ntmps23
    go_wp2
    go_ret
    exact ⟨Lib.hid (by first | (rw [HW.out]; done) | (rw [HW.out]; rfl)), Only.refl _ _⟩
  by_cases h1 : r = w_sender
  · have HW := Lib.hid (show whoI r x y z L = y from by rw [h1]; rfl)
    have a0 := lit_ne _ h0; simp only [w_self] at a0; have a1 := lit_eq h1; simp only [w_sender] at a1;
    clear hr hb h0 h1
    go_enter Try.func23, Try.ntmps23
    go_wp2
    go_ret
    exact ⟨Lib.hid (by first | (rw [HW.out]; done) | (rw [HW.out]; rfl)), Only.refl _ _⟩
  by_cases h2 : r = w_parent
  · have HW := Lib.hid (show whoI r x y z L = z from by rw [h2]; rfl)
    have a0 := lit_ne _ h0; simp only [w_self] at a0; have a1 := lit_ne _ h1; simp only [w_sender] at a1; have a2 := lit_eq h2; simp only [w_parent] at a2;
    clear hr hb h0 h1 h2
    go_enter Try.func23, Try.ntmps23
    go_wp2
    go_ret
    exact ⟨Lib.hid (by first | (rw [HW.out]; done) | (rw [HW.out]; rfl)), Only.refl _ _⟩
  have HS := Lib.hid (fun w' => rslot_any r w')
  have hwho : whoI r x y z L = if slotI r < 0 ∨ (L.length : Int) ≤ slotI r then 0 else L.getD (slotI r).toNat 0 := by unfold whoI; rw [if_neg h0, if_neg h1, if_neg h2]
  have HW := Lib.hid hwho
  have a0 := lit_ne _ h0; have a1 := lit_ne _ h1; have a2 := lit_ne _ h2
  simp only [w_self] at a0
  simp only [w_sender] at a1
  simp only [w_parent] at a2
  clear h0 h1 h2 hwho
  by_cases hz : slotI r < 0
  · rw [if_pos (Or.inl hz)] at HW
    have hz2 : slotI r = -1 := by
      rcases slot_cases r with rfl | rfl | rfl | rfl | h
      · exact absurd hz (by decide)
      · exact absurd hz (by decide)
      · exact absurd hz (by decide)
      · exact absurd hz (by decide)
      · exact h.1
    rw [hz2] at HS
    clear hr hb hz hz2
    go_enter Try.func23, Try.ntmps23
    go_wp2_with fail
    refine (HS.out _).mono ?_
    rintro e w1 ⟨he, o1⟩
    have O1 := Lib.hid o1; clear o1
    have he := he.out
    subst he
    go_wp2
    go_ret
    exact ⟨Lib.hid (by first | (rw [HW.out]; done) | (rw [HW.out]; rfl)), O1.out⟩
  · obtain ⟨i, hi⟩ : ∃ i : Nat, slotI r = (i : Int) := ⟨(slotI r).toNat, by omega⟩
    rw [hi] at HS HW
    by_cases hl : i < L.length
    · rw [if_neg (by omega), Int.toNat_natCast] at HW
      obtain ⟨b, off, rfl, hb2, hc⟩ := hr i hl
      have k := hc i hl
      generalize L.getD i 0 = v at *
      have hil : (i : Int) < (L.length : Int) := by omega
      have h0i : (0 : Int) ≤ (i : Int) := Int.natCast_nonneg i
      have hmx : max (i : Int) 0 = (i : Int) := by omega
      have hd : decide ((0 : Int) ≤ (i : Int)) = true := decide_eq_true h0i
      have hneg : ¬ (i : Int) < 0 := by omega
      
      have HC := Lib.hid k
      clear hr hc hz hi hmx hd k
      go_enter Try.func23, Try.ntmps23
      go_wp2_with fail
      refine (HS.out _).mono ?_
      rintro e w1 ⟨he, o1⟩
      have O1 := Lib.hid o1; have k := only_cell0 o1 HC.out; clear o1
      have he := he.out
      subst he
      go_wp2
      go_ret
      exact ⟨Lib.hid (by first | (rw [HW.out]; done) | (rw [HW.out]; rfl)), O1.out⟩
    · rw [if_pos (by omega)] at HW
      have hil : ¬ (i : Int) < (L.length : Int) := by omega
      have hge : (L.length : Int) ≤ (i : Int) := by omega
      have h0i : (0 : Int) ≤ (i : Int) := Int.natCast_nonneg i
      have hmx : max (i : Int) 0 = (i : Int) := by omega
      have hd : decide ((0 : Int) ≤ (i : Int)) = true := decide_eq_true h0i
      have hneg : ¬ (i : Int) < 0 := by omega
      
      clear hr hz hi hmx hd
      go_enter Try.func23, Try.ntmps23
      go_wp2_with fail
      refine (HS.out _).mono ?_
      rintro e w1 ⟨he, o1⟩
      have O1 := Lib.hid o1; clear o1
      have he := he.out
      subst he
      go_wp2
      go_ret
      exact ⟨Lib.hid (by first | (rw [HW.out]; done) | (rw [HW.out]; rfl)), O1.out⟩
end Go.Proofs.Ytimnaiahokafaaa.Ac
