/- An area behind a script (play); the numbers' own small functions (Count, Mod). -/
import Derived.Test.YtgpagfgedimjeaaAreaL
namespace Go.Proofs.Ytgpagfgedimjeaa
open Go.RowKit

/-- An operation of a script. -/
structure OpN where
  give : Bool
  k : Int

/-- The slice at a, of the operations S. -/
def OpsIn (w : World) (a : Option Addr) (S : List OpN) : Prop :=
  ∀ i, i < S.length → ∃ b off, a = some ⟨b, off, none⟩ ∧ b < w.heap.size ∧ ∀ j, (h : j < S.length) →
    w.cell? ⟨b, off + j * 2, none⟩ = some (.bool S[j].give) ∧ w.cell? ⟨b, off + j * 2 + 1, none⟩ = some (.int .i64 S[j].k)
theorem OpsIn.later {w w' : World} {a : Option Addr} {S : List OpN} (h : OpsIn w a S) (hb : Below w.heap.size w w') : OpsIn w' a S := by
  intro i hi
  obtain ⟨b, off, ha, hlt, hc⟩ := h i hi
  exact ⟨b, off, ha, Nat.lt_of_lt_of_le hlt hb.size, fun j hj => ⟨(hb.cell (p := ⟨b, off + j * 2, none⟩) hlt).trans (hc j hj).1, (hb.cell (p := ⟨b, off + j * 2 + 1, none⟩) hlt).trans (hc j hj).2⟩⟩

/-- Fits of what is no number of cells. -/
theorem fits_big {L : List Reg} {n : Nat} {k : Int} {i : Nat} (h : Fits L n k i) : k ≤ (bnd L n i : Int) := by unfold Fits at h; omega

section
variable {B : Nat} {w : World} {hb : Nat} {a : Option Addr} {cap n : Nat} {L : List Reg}
/-- Take, whatever it is asked. -/
theorem m_take_any (h : Mine B w hb a cap n L) (k : Int) :
    Calls Try.prog 13 #[.pointer (some ⟨hb, 0, none⟩), .int .i64 k] w fun e w' =>
      ∃ v a' cap' L', e = .returned v ∧ Mine B w' hb a' cap' n L' ∧ Below B w w' := by
  by_cases hk : k < 1
  · refine (take_arg h.at_ k hk).mono ?_
    rintro e w' ⟨rfl, rfl⟩
    exact ⟨_, a, cap, L, rfl, h, Below.refl _ _⟩
  · rcases first_fit L n k with ⟨i, hi, hf, hno⟩ | hno
    · obtain ⟨q, rfl⟩ : ∃ q : Nat, k = (q : Int) := ⟨k.toNat, by omega⟩
      refine (m_take h q (by omega) i hi hf hno).mono ?_
      rintro e w' ⟨a', cap', rfl, h', b⟩
      exact ⟨_, _, _, _, rfl, h', b⟩
    · refine (m_full h k (by omega) hno).mono ?_
      rintro e w' ⟨rfl, h', b⟩
      exact ⟨_, _, _, _, rfl, h', b⟩
/-- Give, whatever it is asked. -/
theorem m_give_any (h : Mine B w hb a cap n L) (x : Int) :
    Calls Try.prog 11 #[.pointer (some ⟨hb, 0, none⟩), .int .i64 x] w fun e w' =>
      ∃ v a' cap' L', e = .returned v ∧ Mine B w' hb a' cap' n L' ∧ Below B w w' := by
  rcases has_base L x with ⟨i, hi, rfl⟩ | hno
  · refine (m_give h i hi).mono ?_
    rintro e w' ⟨rfl, h', b⟩
    exact ⟨_, _, _, _, rfl, h', b⟩
  · refine (m_gone h x hno).mono ?_
    rintro e w' ⟨rfl, h', b⟩
    exact ⟨_, _, _, _, rfl, h', b⟩
end

set_option maxHeartbeats 1000000 in
theorem play_any (n : Int) (a : Option Addr) (cap : Nat) (S : List OpN) (w : World) (hS : OpsIn w a S) (hr : S.length * 16 ≤ 140737488351232) :
    Calls Try.prog 20 #[.int .i64 n, .slice a S.length cap] w fun e w' =>
      e = .returned (.pointer (some ⟨w.heap.size, 0, none⟩)) ∧ Hid (∃ a' cap' L, Mine w.heap.size w' w.heap.size a' cap' (count n) L) ∧ Below w.heap.size w w' := by
  have hS' := Lib.hid hS
  clear hS
  generalize hlen : S.length = len at hr ⊢
  have hlen' := Lib.hid hlen
  clear hlen
  have hr' : (len : Int) * 16 ≤ 140737488351232 := by omega
  go_enter Try.func20, Try.ntmps20
  go_wp2_with (go_at_call 9; (with_reducible refine (m_new n _).mono ?_); rintro e w1 ⟨rfl, h1, b1⟩)
  go_loopw [6] (fun i wr => ∃ (k : Nat) (a' : Option Addr) (cap' : Nat) (L : List Reg), k ≤ len ∧ i = .int .i64 (k : Int) ∧ Mine w.heap.size wr w.heap.size a' cap' (count n) L ∧ Below w.heap.size w wr)
    (fun i _ => len - (intOf i).toNat)
  case atStart => exact ⟨0, none, 0, [], Nat.zero_le _, rfl, h1, b1⟩
  case round =>
    obtain ⟨k, a', cap', L, hk, rfl, hm, hb⟩ := hrel
    have hm' := Lib.hid hm
    have hb' := Lib.hid hb
    clear h1 b1 hm hb
    by_cases hlt : k < len
    · obtain ⟨b, off, rfl, hb1, hb2⟩ := hS'.out k (by rw [hlen'.out]; exact hlt)
      obtain ⟨x0, x1⟩ := hb2 k (by rw [hlen'.out]; exact hlt)
      clear hb2
      generalize S[k]'(by rw [hlen'.out]; exact hlt) = o at x0 x1
      obtain ⟨gv, K⟩ := o
      simp only at x0 x1
      have y0 := (hb'.out.cell (p := ⟨b, off + k * 2, none⟩) hb1).trans x0
      have y1 := (hb'.out.cell (p := ⟨b, off + k * 2 + 1, none⟩) hb1).trans x1
      clear x0 x1 hb1
      cases gv
      · go_wp2_with (go_at_call 13; (with_reducible refine (m_take_any hm'.out K).mono ?_); rintro e w2 ⟨v, a2, c2, L2, rfl, h2, b2⟩)
        go_roundw
        case rel => exact ⟨k + 1, a2, c2, L2, by omega, by go_num, h2, hb'.out.trans b2⟩
        case measure => simp [intOf]; omega
      · go_wp2_with (go_at_call 11; (with_reducible refine (m_give_any hm'.out K).mono ?_); rintro e w2 ⟨v, a2, c2, L2, rfl, h2, b2⟩)
        go_roundw
        case rel => exact ⟨k + 1, a2, c2, L2, by omega, by go_num, h2, hb'.out.trans b2⟩
        case measure => simp [intOf]; omega
    · obtain rfl : k = len := by omega
      have hk0 : ¬ (k : Int) < (k : Int) := by omega
      go_wp2
      go_ret
      exact ⟨rfl, Lib.hid ⟨a', cap', L, hm'.out⟩, hb'.out⟩

theorem count_any (n : Int) (w : World) : Calls Try.prog 22 #[.int .i64 n] w fun e w' => e = .returned (.int .i64 (count n)) ∧ w = w' := by
  by_cases h1 : n < 0
  · have e : (count n : Int) = 0 := by unfold count; omega
    rw [e]
    go_enter Try.func22, Try.ntmps22
    go_wp2
    go_ret
    exact ⟨rfl, rfl⟩
  by_cases h2 : 65536 < n
  · have e : (count n : Int) = 65536 := by unfold count; omega
    rw [e]
    go_enter Try.func22, Try.ntmps22
    go_wp2
    go_ret
    exact ⟨rfl, rfl⟩
  · have e : (count n : Int) = n := by unfold count; omega
    rw [e]
    clear e
    go_enter Try.func22, Try.ntmps22
    go_wp2
    go_ret
    exact ⟨rfl, rfl⟩
end Go.Proofs.Ytgpagfgedimjeaa
