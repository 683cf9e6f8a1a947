/- DequeBound answers true for every number, every list of picks, and every number of pushes: the walk. -/
import Derived.Test.YtokopocldicnmaaDqCj
import Derived.Test.YtokopocldicnmaaDqOnA
import Derived.BigQuiet
import Derived.Deep.QuietTactic
namespace Go.Proofs.Ytokopocldicnmaa.Dq
open Go.RowKit

/-- A deque at rest of which k are in, whose owner pushes one more. -/
structure Lay (c : Nat) (L : List Int) (T k : Nat) : Prop where
  len : L.length = 2 + c
  top : L.getD 0 0 = T
  bot : L.getD 1 0 = ((T + k : Nat) : Int)
  kc : k ≤ c
  hx : T + k ≤ 1000000000
theorem push_yes {c : Nat} {L : List Int} {T k : Nat} (h : Lay c L T k) (hc : k < c) (hx : T + k < 1000000000) (v : Int) : ∃ L', Runs 0 c 4 L (.push0 v) L' (.over 1 0) ∧ Lay c L' T (k + 1) := by
  have e1 : stepS 0 c L (.push0 v) = .push1 v ((T + k : Nat) : Int) := by show OS.push1 v (L.getD (0 + 1) 0) = _; rw [Nat.zero_add, h.bot]
  have e2 : stepS 0 c L (.push1 v ((T + k : Nat) : Int)) = .push2 v ((T + k : Nat) : Int) := by
    show (if (c : Int) ≤ dif ((T + k : Nat) : Int) (L.getD 0 0) then OS.over 2 0 else .push2 v ((T + k : Nat) : Int)) = _
    rw [h.top, dif_nat _ _ (by omega) (by omega), if_neg (by omega)]
  have hl := h.len
  have hm := Nat.mod_lt (T + k) (show 0 < c by omega)
  have r4 : Runs 0 c 1 (L.set (0 + (2 + ((T + k : Nat) : Int).toNat % c)) v) (.push3 ((T + k : Nat) : Int)) ((L.set (0 + (2 + ((T + k : Nat) : Int).toNat % c)) v).set (0 + 1) (up ((T + k : Nat) : Int))) (.over 1 0) := Runs.step rfl (Runs.over rfl)
  have r3 : Runs 0 c 2 L (.push2 v ((T + k : Nat) : Int)) _ _ := Runs.step rfl r4
  have r2 : Runs 0 c 3 L (.push1 v ((T + k : Nat) : Int)) _ _ := Runs.step rfl (by rw [e2]; exact r3)
  refine ⟨_, Runs.step rfl (by rw [e1]; exact r2), ?_⟩
  show Lay c ((L.set (0 + (2 + ((T + k : Nat) : Int).toNat % c)) v).set (0 + 1) (up ((T + k : Nat) : Int))) T (k + 1)
  rw [up_nat _ (by omega), Int.toNat_natCast, Nat.zero_add, Nat.zero_add]
  exact ⟨by rw [List.length_set, List.length_set]; exact hl, by rw [getD_set_ne _ _ (by omega), getD_set_ne _ _ (by omega)]; exact h.top, getD_set_eq _ _ (by rw [List.length_set]; omega), hc, by omega⟩
theorem push_no {c : Nat} {L : List Int} {T : Nat} (h : Lay c L T c) (v : Int) : Runs 0 c 2 L (.push0 v) L (.over 2 0) := by
  have e1 : stepS 0 c L (.push0 v) = .push1 v ((T + c : Nat) : Int) := by show OS.push1 v (L.getD (0 + 1) 0) = _; rw [Nat.zero_add, h.bot]
  have e2 : stepS 0 c L (.push1 v ((T + c : Nat) : Int)) = .over 2 0 := by
    have := h.hx
    show (if (c : Int) ≤ dif ((T + c : Nat) : Int) (L.getD 0 0) then OS.over 2 0 else .push2 v ((T + c : Nat) : Int)) = _
    rw [h.top, dif_nat _ _ (by omega) (by omega), if_pos (by omega)]
  have r2 : Runs 0 c 1 L (.push1 v ((T + c : Nat) : Int)) L (.over 2 0) := Runs.step rfl (by rw [e2]; exact Runs.over rfl)
  exact Runs.step rfl (by rw [e1]; exact r2)
/-- So many were pushed: the deque, and the law's own struct. -/
def Po (w1 w : World) (rg B c gb i : Nat) : Prop :=
  ∃ L T t, Lw w1 w rg (B + 1) B 0 c L t ∧ t ≤ 200000 + 4 * (i : Int) ∧ Lay c L T (min i c) ∧ T ≤ 200000 ∧ w.cell? ⟨gb, 0, none⟩ = some (.pointer (some ⟨rg, 0, none⟩)) ∧ gb < w.heap.size ∧ gb ≠ rg ∧ gb ≠ B ∧ gb ≠ B + 1
theorem Mend.po {w1 w : World} {rg B base c gb tb K : Nat} (h : Mend w1 w rg B base c gb tb K) : Po w1 w rg B c gb 0 := by
  obtain ⟨T, th, ⟨L, t, f, ob, psh, nx, iv, ins, lost, most, h⟩, _⟩ := h
  have hd := h.di
  obtain ⟨_, a2, a3, a4, _⟩ := h.gw.apg
  have kb := h.kb
  have xb := h.xb
  exact ⟨L, T, t, h.gw.core.lw, by have := h.tm; omega, ⟨hd.len, hd.top, by rw [Nat.zero_min]; exact hd.own, by omega, by rw [Nat.zero_min]; omega⟩, by omega, (h.gw.cell 0 (by decide)).1, lt_of_block h.gw.gbh, a2, a3, a4⟩
/-- One more push, done. -/
theorem Po.step {w1 w : World} {rg B c gb i : Nat} (h : Po w1 w rg B c gb i) (hi : i < 10) (hc : c ≤ 8) (v : Int) (hv : In64 v) :
    Calls Try.prog 18 #[.pointer (some ⟨rg, 0, none⟩), .int .u64 v] w fun e w' => e = .returned (.pointer (some ⟨w.heap.size, 0, none⟩)) ∧
      Hid (Calls Try.prog 17 #[.pointer (some ⟨w.heap.size, 0, none⟩)] w' fun e w'' => ∃ x n, e = .returned (.tuple #[.int .i64 (if i < c then 1 else 2), .int .u64 x, .int .i64 n]) ∧ Hid (Po w1 w'' rg B c gb (i + 1))) := by
  obtain ⟨L, T, t, l, ht, lay, hT, c0, lg, n1, n2, n3⟩ := h
  refine (l.push v hv).mono ?_
  rintro e w' ⟨rfl, l2, q2, o2, z2⟩
  refine ⟨rfl, Lib.hid ?_⟩
  have keepc : ∀ w'', Only (OB (B + 1) B w.heap.size) w' w'' → w''.cell? ⟨gb, 0, none⟩ = some (.pointer (some ⟨rg, 0, none⟩)) ∧ gb < w''.heap.size := fun w'' o => by
    have g1 : gb < w'.heap.size := by omega
    refine ⟨?_, Nat.lt_of_lt_of_le g1 o.size⟩
    rw [World.cell?_of_block (a := ⟨gb, 0, none⟩) (o.block gb g1 (fun z => by rcases z with (z | z) | z <;> omega)), World.cell?_of_block (a := ⟨gb, 0, none⟩) (o2.block gb lg (fun z => z))]
    exact c0
  by_cases g : i < c
  · rw [Nat.min_eq_left (by omega)] at lay
    obtain ⟨L', hr, lay'⟩ := push_yes lay g (by omega) v
    refine (l2.done q2 hr (by decide) (by omega)).mono ?_
    rintro e w'' ⟨rfl, l3, _, o3⟩
    obtain ⟨k1, k2⟩ := keepc w'' o3
    refine ⟨0, 4, by rw [if_pos g]; rfl, Lib.hid ⟨L', T, _, l3, by omega, by rw [Nat.min_eq_left (by omega)]; exact lay', hT, k1, k2, n1, n2, n3⟩⟩
  · rw [Nat.min_eq_right (by omega)] at lay
    refine (l2.done q2 (push_no lay v) (by decide) (by omega)).mono ?_
    rintro e w'' ⟨rfl, l3, _, o3⟩
    obtain ⟨k1, k2⟩ := keepc w'' o3
    refine ⟨0, 2, by rw [if_neg g]; rfl, Lib.hid ⟨L, T, _, l3, by omega, by rw [Nat.min_eq_right (by omega)]; exact lay, hT, k1, k2, n1, n2, n3⟩⟩
theorem Po.only {w1 w : World} {rg B c gb i : Nat} (h : Po w1 w rg B c gb i) : Only Nil w1 w := by
  obtain ⟨L, T, t, l, _⟩ := h
  exact l.only
theorem Po.c0 {w1 w : World} {rg B c gb i : Nat} (h : Po w1 w rg B c gb i) : w.cell? ⟨gb, 0, none⟩ = some (.pointer (some ⟨rg, 0, none⟩)) := by
  obtain ⟨L, T, t, _, _, _, _, h, _⟩ := h
  exact h

set_option maxRecDepth 100000 in
set_option maxHeartbeats 8000000 in
theorem bound_walk (k : Int) (a : Option Addr) (cap : Nat) (V : List Int) (fl : Int) (c m : Nat) (w : World) (hc : 1 ≤ c ∧ c ≤ 8) (e1 : 1 + k % 6 = (c : Int)) (hk : 0 ≤ k ∧ k < 256) (hfl : 0 ≤ fl ∧ fl < 256) (e2 : fl % 10 = (m : Int)) (hm : m < 10) (hV : RowK .u8 w a V) (hu : ∀ j, 0 ≤ V.getD j 0 ∧ V.getD j 0 < 256) (hr : V.length * 1 ≤ 140737488351232) :
    Calls Try.prog 5 #[.int .u8 k, .slice a V.length cap, .int .u8 fl] w fun e w' => e = .returned (.bool true) ∧ Below w.heap.size w w' := by
  have rn := Lib.hid (fun w1 (o : Only Nil w w1) => run_walk c (by omega) hc.2 a cap V w1 (hV.keep o) hu hr)
  obtain ⟨x1, x2⟩ := hk
  obtain ⟨x3, x4⟩ := hfl
  have hc' := Lib.hid hc
  have hc8 : (c : Int) ≤ 8 := by omega
  have hm' := Lib.hid hm
  have hmi : (m : Int) ≤ 9 := by omega
  clear hc hV hu hm
  generalize V.length = len at hr rn ⊢
  go_enter Try.func5, Try.ntmps5
  go_wp2_with (first
    | (go_at_call 15; (with_reducible refine (alive_any _).mono ?_); rintro e w1 ⟨rfl, o1⟩)
    | (go_at_call 16
       (with_reducible refine (rn.out _ o1).mono ?_)
       rintro e w2 ⟨gb, rfl, k2⟩
       obtain ⟨rg, B, base, tb, K, h3⟩ := k2.out
       obtain ⟨nx, iv, ins, most, D2, F, hmost⟩ := h3.rd
       have c9 := D2.c9
       have p2 := Lib.hid h3.po
       have nm : decide ((c : Int) < most) = false := decide_eq_false (by omega)
       clear F D2 h3 k2))
  have hm10 := hm'.out
  clear c9 nm hmost
  go_loopw [9] (fun s9 wr => ∃ i : Nat, i ≤ m ∧ s9 = .int .i64 (i : Int) ∧ Hid (Po w1 wr rg B c gb i))
    (fun s9 _ => m - (intOf s9).toNat)
  case atStart => exact ⟨0, Nat.zero_le _, rfl, p2⟩
  case round =>
    obtain ⟨i, hi, rfl, hp⟩ := hrel
    by_cases him : i < m
    · have him' : (i : Int) < (m : Int) := by omega
      have hg := Lib.hid him
      have c0 := hp.out.c0
      have pp := Lib.hid (hp.out.step (by omega) hc'.out.2 (i : Int) (by unfold In64; omega))
      by_cases g : i < c
      · rw [if_pos g] at pp
        have g' : decide (c ≤ i) = false := decide_eq_false (by omega)
        clear hi him hm10 hp
        go_wp2_with (first
          | (go_at_call 18; (with_reducible refine (pp.out).mono ?_); rintro e w5 ⟨rfl, k5⟩)
          | (go_at_call 17; (with_reducible refine (k5.out).mono ?_); rintro e w6 ⟨x, n, rfl, k6⟩))
        go_roundw
        case rel => exact ⟨i + 1, by have := hg.out; omega, by go_num, k6⟩
        case measure => have := hg.out; simp [intOf]; omega
      · rw [if_neg g] at pp
        clear hi him hm10 hp
        go_wp2_with (first
          | (go_at_call 18; (with_reducible refine (pp.out).mono ?_); rintro e w5 ⟨rfl, k5⟩)
          | (go_at_call 17; (with_reducible refine (k5.out).mono ?_); rintro e w6 ⟨x, n, rfl, k6⟩))
        go_roundw
        case rel => exact ⟨i + 1, by have := hg.out; omega, by go_num, k6⟩
        case measure => have := hg.out; simp [intOf]; omega
    · have him' : ¬ ((i : Int) < (m : Int)) := by omega
      clear hi him
      go_wp2
      go_ret
      exact ⟨rfl, (o1.trans hp.out.only).below (Nat.le_refl _) (fun _ h => h.elim)⟩

theorem bound_all (k : Int) (a : Option Addr) (cap : Nat) (V : List Int) (fl : Int) (w : World) (hk : 0 ≤ k ∧ k < 256) (hfl : 0 ≤ fl ∧ fl < 256) (hV : RowK .u8 w a V) (hu : ∀ n ∈ V, (Lit.int .u8 n).wf = true) (hr : V.length * 1 ≤ 140737488351232) :
    Calls Try.prog 5 #[.int .u8 k, .slice a V.length cap, .int .u8 fl] w fun e w' => e = .returned (.bool true) ∧ Below w.heap.size w w' :=
  bound_walk k a cap V fl (1 + k % 6).toNat (fl % 10).toNat w (by omega) (by omega) hk hfl (by omega) (by omega) hV (u8s_of_wf hu) hr
end Go.Proofs.Ytokopocldicnmaa.Dq
