/- wheel: what the laws need besides: Mod; ticks ahead. -/
import Derived.Test.YtpmgmdlfnlmieaaWhN
import Derived.Test.YtpmgmdlfnlmieaaRowA
namespace Go.Proofs.Ytpmgmdlfnlmieaa.Wh
open Go.RowKit Go.Proofs.Ytpmgmdlfnlmieaa

/-- Mod, as a number below len. -/
theorem mod_any (x : Int) (len : Nat) (h0 : 0 < len) (h1 : len ≤ 65536) :
    ∃ s : Nat, s < len ∧ ∀ w, Calls Try.prog 15 #[.int .i64 x, .int .i64 (len : Int)] w fun e w' => e = .returned (.int .i64 (s : Int)) ∧ w = w' := by
  have hb := Int.tmod_lt_of_pos x (show (0 : Int) < (len : Int) by omega)
  have hb2 : -(len : Int) < Int.tmod x len := by
    rcases Int.le_total 0 x with h | h
    · have := Int.tmod_nonneg (len : Int) h; omega
    · have h3 := Int.tmod_lt_of_pos (-x) (show (0 : Int) < (len : Int) by omega)
      rw [Int.neg_tmod] at h3
      omega
  have hne : ¬ ((len : Int) = 0) := by omega
  by_cases hk : Int.tmod x len < 0
  · refine ⟨(Int.tmod x len + len).toNat, by omega, fun w => ?_⟩
    rw [show (((Int.tmod x len + len).toNat : Nat) : Int) = Int.tmod x len + len by omega]
    generalize hm : Int.tmod x len = m at hb hb2 hk ⊢
    have l1 : (len : Int) ≤ 65536 := by omega
    go_enter Try.func15, Try.ntmps15
    go_wp2
    go_ret
    exact ⟨rfl, rfl⟩
  · refine ⟨(Int.tmod x len).toNat, by omega, fun w => ?_⟩
    rw [show (((Int.tmod x len).toNat : Nat) : Int) = Int.tmod x len by omega]
    generalize hm : Int.tmod x len = m at hb hb2 hk ⊢
    have l1 : (len : Int) ≤ 65536 := by omega
    go_enter Try.func15, Try.ntmps15
    go_wp2
    go_ret
    exact ⟨rfl, rfl⟩

theorem own_block {w : World} {base : Nat} {e : TypeId} {n : Nat} {v : Value} {g : Nat → Value} (h : w.ownsRow base e 1 v n ((List.range n).map g)) (hn : 0 < n) :
    ∃ b cap cur, v = .slice (some ⟨b, 0, none⟩) n cap ∧ base ≤ b ∧ w.heap[b]? = some (.cells cur e (0, 0)) ∧ ∀ j, j < n → w.cell? ⟨b, j, none⟩ = some (g j) := by
  rcases h.2 with ⟨_, h0⟩ | ⟨b, cap, cur, rfl, h2, h3, _, _, _, _⟩
  · omega
  · refine ⟨b, cap, cur, rfl, h2, h3, fun j hj => ?_⟩
    rw [h.cellAt j (by omega)]
    simp [hj]
/-- A tick of a wheel without timers. -/
theorem mine_tick0 {w0 w : World} {hb now added : Nat} (h : Mine w0 w hb now added []) (hn : now + 1 < 1000000000) : Calls Try.prog 18 #[.pointer (some ⟨hb, 0, none⟩)] w fun e w' =>
    ∃ v, e = .returned v ∧ Hid (w'.ownsRow w.heap.size 30 1 v 0 []) ∧ Mine w0 w' hb (now + 1) added [] := mine_tick h hn
end Go.Proofs.Ytpmgmdlfnlmieaa.Wh
