/- The calls of package cells, further: Load, Store, Swap, Add, Touched, Peek, Len, each by a contract. -/
import Derived.Test.YtcbmnnpanclclaaCellsA
namespace Go.Proofs.Ytcbmnnpanclclaa
open Go.RowKit

/-- What a call may turn that makes an access of the memory at hb and rb. -/
def Blk (hb rb : Nat) (k : Nat) : Prop := k = hb ∨ k = rb
theorem Blk.l (hb rb : Nat) : Blk hb rb hb := .inl rfl
theorem Blk.r (hb rb : Nat) : Blk hb rb rb := .inr rfl

/-- A number of 64 bits. -/
def U64 (v : Int) : Prop := 0 ≤ v ∧ v < 18446744073709551616

theorem getD_set_self (L : List Int) (i : Nat) (v : Int) (hi : i < L.length) : (L.set i v).getD i 0 = v := by simp [hi]

set_option maxHeartbeats 400000 in
theorem load_yes {w : World} {hb rb : Nat} {L : List Int} {t : Int} (h : MemAt w hb rb L t) (i : Nat) (hi : i < L.length) (t0 : 0 ≤ t) (t1 : t < 4611686018427387904) :
    Calls Try.prog 14 #[.pointer (some ⟨hb, 0, none⟩), .int .i64 i] w fun e w' =>
      e = .returned (.tuple #[.int .u64 (L.getD i 0), .int .i64 0]) ∧ MemAt w' hb rb L (t + 1) ∧ Only (Blk hb rb) w w' := by
  have ci := (h.touch (t + 1)).ci i hi
  have fin := And.intro (h.touch (t + 1)) ((Only.refl (Blk hb rb) w).setCell (p := ⟨hb, 1, none⟩) (Blk.l hb rb) (.int .i64 (t + 1)))
  have fin' := Lib.hid fin
  clear fin
  generalize L.getD i 0 = x at ci ⊢
  go_enter Try.func14, Try.ntmps14
  go_wp2_with (go_at_call 27; refine (access_yes h i hi t0 t1).mono ?_; rintro e w' ⟨rfl, rfl⟩)
  go_ret2
  exact ⟨rfl, fin'.out.1, fin'.out.2⟩

theorem load_no {w : World} {hb rb : Nat} {L : List Int} {t : Int} (h : MemAt w hb rb L t) (i : Int) (hi : i < 0 ∨ (L.length : Int) ≤ i) :
    Calls Try.prog 14 #[.pointer (some ⟨hb, 0, none⟩), .int .i64 i] w fun e w' => e = .returned (.tuple #[.int .u64 0, .int .i64 1]) ∧ w = w' := by
  have hi' := Lib.hid hi
  clear hi
  go_enter Try.func14, Try.ntmps14
  go_wp2_with (go_at_call 27; refine (access_no h i hi'.out).mono ?_; rintro e w' ⟨rfl, rfl⟩)
  go_ret2
  exact ⟨rfl, rfl⟩

set_option maxHeartbeats 400000 in
theorem store_yes {w : World} {hb rb : Nat} {L : List Int} {t : Int} (h : MemAt w hb rb L t) (i : Nat) (v : Int) (hi : i < L.length) (t0 : 0 ≤ t) (t1 : t < 4611686018427387904) :
    Calls Try.prog 15 #[.pointer (some ⟨hb, 0, none⟩), .int .i64 i, .int .u64 v] w fun e w' =>
      e = .returned (.int .i64 0) ∧ MemAt w' hb rb (L.set i v) (t + 1) ∧ Only (Blk hb rb) w w' := by
  have ci := (h.touch (t + 1)).ci i hi
  have fi := (h.touch (t + 1)).fi i
  have fin := And.intro ((h.touch (t + 1)).store i v) (((Only.refl (Blk hb rb) w).setCell (p := ⟨hb, 1, none⟩) (Blk.l hb rb) (.int .i64 (t + 1))).setCell (p := ⟨rb, i, none⟩) (Blk.r hb rb) (.int .u64 v))
  have fin' := Lib.hid fin
  clear fin
  go_enter Try.func15, Try.ntmps15
  go_wp2_with (go_at_call 27; refine (access_yes h i hi t0 t1).mono ?_; rintro e w' ⟨rfl, rfl⟩)
  go_ret
  exact ⟨rfl, fin'.out.1, fin'.out.2⟩

theorem store_no {w : World} {hb rb : Nat} {L : List Int} {t : Int} (h : MemAt w hb rb L t) (i : Int) (v : Int) (hi : i < 0 ∨ (L.length : Int) ≤ i) :
    Calls Try.prog 15 #[.pointer (some ⟨hb, 0, none⟩), .int .i64 i, .int .u64 v] w fun e w' => e = .returned (.int .i64 1) ∧ w = w' := by
  have hi' := Lib.hid hi
  clear hi
  go_enter Try.func15, Try.ntmps15
  go_wp2_with (go_at_call 27; refine (access_no h i hi'.out).mono ?_; rintro e w' ⟨rfl, rfl⟩)
  go_ret
  exact ⟨rfl, rfl⟩

set_option maxHeartbeats 400000 in
theorem swap_done {w : World} {hb rb : Nat} {L : List Int} {t : Int} (h : MemAt w hb rb L t) (i : Nat) (o v : Int) (hi : i < L.length) (ho : L.getD i 0 = o) (t0 : 0 ≤ t) (t1 : t < 4611686018427387904) :
    Calls Try.prog 16 #[.pointer (some ⟨hb, 0, none⟩), .int .i64 i, .int .u64 o, .int .u64 v] w fun e w' =>
      e = .returned (.tuple #[.bool true, .int .i64 0]) ∧ MemAt w' hb rb (L.set i v) (t + 1) ∧ Only (Blk hb rb) w w' := by
  have ci := (h.touch (t + 1)).ci i hi
  rw [ho] at ci
  clear ho
  have fi := (h.touch (t + 1)).fi i
  have fin := And.intro ((h.touch (t + 1)).store i v) (((Only.refl (Blk hb rb) w).setCell (p := ⟨hb, 1, none⟩) (Blk.l hb rb) (.int .i64 (t + 1))).setCell (p := ⟨rb, i, none⟩) (Blk.r hb rb) (.int .u64 v))
  have fin' := Lib.hid fin
  clear fin
  go_enter Try.func16, Try.ntmps16
  go_wp2_with (go_at_call 27; refine (access_yes h i hi t0 t1).mono ?_; rintro e w' ⟨rfl, rfl⟩)
  go_ret2
  exact ⟨rfl, fin'.out.1, fin'.out.2⟩

set_option maxHeartbeats 400000 in
theorem swap_not {w : World} {hb rb : Nat} {L : List Int} {t : Int} (h : MemAt w hb rb L t) (i : Nat) (o v : Int) (hi : i < L.length) (ho : (L.getD i 0 != o) = true) (t0 : 0 ≤ t) (t1 : t < 4611686018427387904) :
    Calls Try.prog 16 #[.pointer (some ⟨hb, 0, none⟩), .int .i64 i, .int .u64 o, .int .u64 v] w fun e w' =>
      e = .returned (.tuple #[.bool false, .int .i64 0]) ∧ MemAt w' hb rb L (t + 1) ∧ Only (Blk hb rb) w w' := by
  have ci := (h.touch (t + 1)).ci i hi
  generalize L.getD i 0 = x at ho ci
  have fin := And.intro (h.touch (t + 1)) ((Only.refl (Blk hb rb) w).setCell (p := ⟨hb, 1, none⟩) (Blk.l hb rb) (.int .i64 (t + 1)))
  have fin' := Lib.hid fin
  clear fin
  go_enter Try.func16, Try.ntmps16
  go_wp2_with (go_at_call 27; refine (access_yes h i hi t0 t1).mono ?_; rintro e w' ⟨rfl, rfl⟩)
  go_ret2
  exact ⟨rfl, fin'.out.1, fin'.out.2⟩

theorem swap_no {w : World} {hb rb : Nat} {L : List Int} {t : Int} (h : MemAt w hb rb L t) (i : Int) (o v : Int) (hi : i < 0 ∨ (L.length : Int) ≤ i) :
    Calls Try.prog 16 #[.pointer (some ⟨hb, 0, none⟩), .int .i64 i, .int .u64 o, .int .u64 v] w fun e w' => e = .returned (.tuple #[.bool false, .int .i64 1]) ∧ w = w' := by
  have hi' := Lib.hid hi
  clear hi
  go_enter Try.func16, Try.ntmps16
  go_wp2_with (go_at_call 27; refine (access_no h i hi'.out).mono ?_; rintro e w' ⟨rfl, rfl⟩)
  go_ret2
  exact ⟨rfl, rfl⟩

/-- The sum of two numbers of 64 bits, as Go has it. -/
def sum64 (a b : Int) : Int := IntKind.u64.wrap (a + b)

set_option maxHeartbeats 400000 in
theorem add_yes {w : World} {hb rb : Nat} {L : List Int} {t : Int} (h : MemAt w hb rb L t) (i : Nat) (v : Int) (hi : i < L.length) (t0 : 0 ≤ t) (t1 : t < 4611686018427387904) :
    Calls Try.prog 17 #[.pointer (some ⟨hb, 0, none⟩), .int .i64 i, .int .u64 v] w fun e w' =>
      e = .returned (.tuple #[.int .u64 (sum64 (L.getD i 0) v), .int .i64 0]) ∧ MemAt w' hb rb (L.set i (sum64 (L.getD i 0) v)) (t + 1) ∧ Only (Blk hb rb) w w' := by
  have ci := (h.touch (t + 1)).ci i hi
  have fi := (h.touch (t + 1)).fi i
  have fin := fun x => And.intro ((h.touch (t + 1)).store i x) (((Only.refl (Blk hb rb) w).setCell (p := ⟨hb, 1, none⟩) (Blk.l hb rb) (.int .i64 (t + 1))).setCell (p := ⟨rb, i, none⟩) (Blk.r hb rb) (.int .u64 x))
  have fin' := Lib.hid fin
  clear fin
  generalize L.getD i 0 = x at ci
  go_enter Try.func17, Try.ntmps17
  go_wp2_with (go_at_call 27; refine (access_yes h i hi t0 t1).mono ?_; rintro e w' ⟨rfl, rfl⟩)
  go_ret2
  exact ⟨rfl, (fin'.out _).1, (fin'.out _).2⟩

theorem add_no {w : World} {hb rb : Nat} {L : List Int} {t : Int} (h : MemAt w hb rb L t) (i : Int) (v : Int) (hi : i < 0 ∨ (L.length : Int) ≤ i) :
    Calls Try.prog 17 #[.pointer (some ⟨hb, 0, none⟩), .int .i64 i, .int .u64 v] w fun e w' => e = .returned (.tuple #[.int .u64 0, .int .i64 1]) ∧ w = w' := by
  have hi' := Lib.hid hi
  clear hi
  go_enter Try.func17, Try.ntmps17
  go_wp2_with (go_at_call 27; refine (access_no h i hi'.out).mono ?_; rintro e w' ⟨rfl, rfl⟩)
  go_ret2
  exact ⟨rfl, rfl⟩

theorem touched_any {w : World} {hb rb : Nat} {L : List Int} {t : Int} (h : MemAt w hb rb L t) :
    Calls Try.prog 23 #[.pointer (some ⟨hb, 0, none⟩)] w fun e w' => e = .returned (.int .i64 t) ∧ w = w' := by
  have c1 := h.c1
  clear h
  go_enter Try.func23, Try.ntmps23
  go_wp2
  go_ret
  exact ⟨rfl, rfl⟩

theorem len_any {w : World} {hb rb : Nat} {L : List Int} {t : Int} (h : MemAt w hb rb L t) :
    Calls Try.prog 12 #[.pointer (some ⟨hb, 0, none⟩)] w fun e w' => e = .returned (.int .i64 L.length) ∧ w = w' := by
  have c0 := h.c0
  clear h
  go_enter Try.func12, Try.ntmps12
  go_wp2
  go_ret
  exact ⟨rfl, rfl⟩

theorem peek_yes {w : World} {hb rb : Nat} {L : List Int} {t : Int} (h : MemAt w hb rb L t) (i : Nat) (hi : i < L.length) :
    Calls Try.prog 18 #[.pointer (some ⟨hb, 0, none⟩), .int .i64 i] w fun e w' => e = .returned (.int .u64 (L.getD i 0)) ∧ w = w' := by
  have c0 := h.c0
  have ci := h.ci i hi
  have h0 : (0 : Int) ≤ (i : Int) := by omega
  have h1 : (i : Int) < (L.length : Int) := by omega
  generalize L.getD i 0 = x at ci ⊢
  go_enter Try.func18, Try.ntmps18
  go_wp2_with (go_at_call 28; refine (has_yes h i hi).mono ?_; rintro e w' ⟨rfl, rfl⟩)
  go_ret
  exact ⟨rfl, rfl⟩

theorem peek_no {w : World} {hb rb : Nat} {L : List Int} {t : Int} (h : MemAt w hb rb L t) (i : Int) (hi : i < 0 ∨ (L.length : Int) ≤ i) :
    Calls Try.prog 18 #[.pointer (some ⟨hb, 0, none⟩), .int .i64 i] w fun e w' => e = .returned (.int .u64 0) ∧ w = w' := by
  have hi' := Lib.hid hi
  clear hi
  go_enter Try.func18, Try.ntmps18
  go_wp2_with (go_at_call 28; refine (has_no h i hi'.out).mono ?_; rintro e w' ⟨rfl, rfl⟩)
  go_ret
  exact ⟨rfl, rfl⟩
end Go.Proofs.Ytcbmnnpanclclaa
