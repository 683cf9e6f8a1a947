/- A gang at a deque: run: all that the picks say, all to its end, and what is left is popped. -/
import Derived.Test.YtokopocldicnmaaDqCm
import Derived.Test.YtokopocldicnmaaRowA
import Derived.Deep.RegionHeld3
import Derived.Deep.DeepCutAuto
namespace Go.Proofs.Ytokopocldicnmaa.Dq
open Go.RowKit

theorem alloc_keep {w : World} {b : Nat} {x o : Obj} (h : w.heap[b]? = some x) : (w.alloc o).heap[b]? = some x := (Below.heap_alloc _ _ _ (lt_of_block h)).trans h
theorem alloc_at {w : World} {b : Nat} {o : Obj} (h : b = w.heap.size) : (w.alloc o).heap[b]? = some o := by subst h; exact heap_new w o
theorem only_keep {w w' : World} {b : Nat} {x : Obj} (o : Only Nil w w') (h : w.heap[b]? = some x) : w'.heap[b]? = some x := (o.block b (lt_of_block h) (fun z => z)).trans h
theorem Lw.from {w0 wm w : World} {rg hb rb b c : Nat} {L : List Int} {t : Int} (h : Lw wm w rg hb rb b c L t) (o : Only Nil w0 wm) : Lw w0 w rg hb rb b c L t :=
  { h with only := o.trans h.only, g1 := Nat.le_trans o.size h.g1, g2 := Nat.le_trans o.size h.g2, g3 := Nat.le_trans o.size h.g3 }
theorem M1.ptr {w1 w : World} {rg B base c gb tb K : Nat} (h : M1 w1 w rg B base c gb tb K) : w.cell? ⟨gb, 0, none⟩ = some (.pointer (some ⟨rg, 0, none⟩)) ∧ Only Nil w1 w := by
  obtain ⟨T, X, ow, th, h⟩ := h
  exact ⟨h.c0, h.only⟩
theorem M1.more {w1 w : World} {rg B base c gb tb K : Nat} (h : M1 w1 w rg B base c gb tb K) {K' : Nat} (h1 : K ≤ K') (h2 : K' ≤ 100000) : M1 w1 w rg B base c gb tb K' := by
  obtain ⟨T, X, ow, th, h⟩ := h
  exact ⟨T, X, ow, th, h.more h1 h2⟩
theorem M2E.conv {w1 w : World} {rg B base c gb tb K a i k : Nat} (h : M2E w1 w rg B base c gb tb K a (if k = 0 then (if 1 ≤ k then i + 1 else i) + 1 else (if 1 ≤ k then i + 1 else i)) (if k = 1 then (if 2 ≤ k then i + 1 else i) + 1 else (if 2 ≤ k then i + 1 else i))) (hk : k < 2) : M2E w1 w rg B base c gb tb K a (if 1 ≤ k + 1 then i + 1 else i) (if 2 ≤ k + 1 then i + 1 else i) := by
  have hk' : k = 0 ∨ k = 1 := by omega
  rcases hk' with e | e <;> subst e
  · simpa using h
  · simpa using h
theorem Try.infoOpD : (Try.prog.info? 27).map (fun i => (i.zero, i.size, i.bytes)) = some (some (.pointer none), 1, 8) := by kernel_rfl
def GgN (w1 w : World) (c : Nat) (gb : Nat) : Prop := ∃ rg B tb base, M1 w1 w rg B base c gb tb 0

set_option linter.unusedSimpArgs false in
set_option maxRecDepth 100000 in
set_option maxHeartbeats 16000000 in
theorem run_walk (c : Nat) (hc : 0 < c) (hc2 : c ≤ 8) (a : Option Addr) (cap : Nat) (V : List Int) (w : World) (hV : RowK .u8 w a V) (hu : ∀ j, 0 ≤ V.getD j 0 ∧ V.getD j 0 < 256) (hr : V.length * 1 ≤ 140737488351232) :
    Calls Try.prog 16 #[.int .i64 (c : Int), .slice a V.length cap] w fun e w' => ∃ gb, e = .returned (.pointer (some ⟨gb, 0, none⟩)) ∧
      Hid (∃ rg B base tb K, Mend w w' rg B base c gb tb K) := by
  have md := Lib.hid (fun w => made_any c w hc (by omega))
  have m1 := fun (w : World) => run_make_row' (P := Try.prog) 30 27 (.pointer none) 8 Try.underlying30 Try.infoOpD rfl .i64 .i64 2 (by omega) (by omega) w
  simp only [made_row, show ((2 : Nat) : Int) = 2 from rfl] at m1
  have hc' := Lib.hid hc
  have hc2' := Lib.hid hc2
  have hcc : (c : Int) ≤ 8 := by omega
  have hV' := Lib.hid hV
  have hu' := Lib.hid hu
  clear hc hc2 hV hu
  generalize hlen : V.length = len at hr ⊢
  have hlen' := Lib.hid hlen
  clear hlen
  have len8 : (len : Int) ≤ 140737488351232 := by omega
  go_enter Try.func16, Try.ntmps16
  go_wp2
  go_cut [5] (fun s5 wx => ∃ gb, s5 = .pointer (some ⟨gb, 0, none⟩) ∧ Hid (GgN w wx c gb))
  case first =>
    clear len8 hr hlen' hV' hu'
    refine wp_region_held_drew (S := fun _ => True) (by kernel_rfl) trivial (fun hHeld => ?_)
    refine wpAnyH_take (i := 0) (v := ?v0) rfl (by kernel_rfl) (by kernel_rfl) (by kernel_rfl) (fun _ _ _ h => h) (Or.inl ⟨by rfl, ?h0⟩) (by assumption) ?r0
    case h0 => (intro w hSw; (try dsimp only at hSw); first | (go_simp; done) | (go_simp; with_reducible rfl))
    try simp only [Act.put, List.setIfInBounds_toArray, List.set_cons_zero, List.set_cons_succ]
    refine wpAnyH_ready (rs := [1, 2]) (by kernel_rfl) (by simp) ?_
    refine (AllReadyH.cons rfl (fun K1 hK1 => ?_) (AllReadyH.cons rfl (fun K2 hK2 => ?_) AllReadyH.nil))
    · skip
      (go_simp; go_at_call 49; refine (md.out _).mono ?_; rintro e w5 ⟨rg, rfl, l5⟩; go_wp2_with fail)
      refine hK1.out _ _ trivial (fun hHeld1 => ?_)
      clear hK1 K1
      try simp only [Act.put, List.setIfInBounds_toArray, List.set_cons_zero, List.set_cons_succ]
      refine wpAnyH_ready (rs := [2]) (by kernel_rfl) (by simp) ?_
      refine (AllReadyH.cons rfl (fun K3 hK3 => ?_) AllReadyH.nil)
      · skip
        go_simp
        refine hK3.out _ _ trivial (fun hHeld3 => ?_)
        clear hK3 K3
        try simp only [Act.put, List.setIfInBounds_toArray, List.set_cons_zero, List.set_cons_succ]
        refine wpAnyH_ready (rs := [3]) (by kernel_rfl) (by simp) ?_
        refine AllReadyH.cons rfl (fun K4 hK4 => ?_) AllReadyH.nil
        go_simp
        refine hK4.out _ _ trivial (fun hHeld4 => ?_)
        clear hK4 K4
        try simp only [Act.put, List.setIfInBounds_toArray, List.set_cons_zero, List.set_cons_succ]
        refine wpAnyH_ready (rs := [4]) (by kernel_rfl) (by simp) ?_
        refine AllReadyH.cons rfl (fun K5 hK5 => ?_) AllReadyH.nil
        go_simp
        refine hK5.out _ _ trivial (fun hHeld5 => ?_)
        clear hK5 K5
        try simp only [Act.put, List.setIfInBounds_toArray, List.set_cons_zero, List.set_cons_succ]
        refine wpAnyH_ready (rs := [5]) (by kernel_rfl) (by simp) ?_
        refine AllReadyH.cons rfl (fun K6 hK6 => ?_) AllReadyH.nil
        go_simp
        refine hK6.out _ _ trivial (fun hHeld6 => ?_)
        clear hK6 K6
        try simp only [Act.put, List.setIfInBounds_toArray, List.set_cons_zero, List.set_cons_succ]
        refine wpAnyH_done (by kernel_rfl) ?_ _
        go_wp2_with fail
        go_meet
        have z1 := l5.only.size
        have z2 := l5.rng.mem.lt_hb
        have z3 := l5.rng.ring.lt
        simp at z1
        exact ⟨_, rfl, Lib.hid ⟨rg, _, _, fresh_gang (w1 := w) hc'.out hc2'.out (alloc_at (by simp)) (Lw.from (Lw.nil l5 (by repeat (first | exact Only.refl _ _ | refine Only.alloc ?_ _ | refine Only.drew ?_))) (by repeat (first | exact Only.refl _ _ | refine Only.alloc ?_ _ | refine Only.drew ?_))) (by repeat (first | exact alloc_at (by simp) | refine alloc_keep ?_ | refine only_keep l5.only ?_)) (by first | (simp; done) | (simp; omega) | omega) (by first | (simp; done) | (simp; omega) | omega)⟩⟩
    · skip
      go_simp
      refine hK2.out _ _ trivial (fun hHeld2 => ?_)
      clear hK2 K2
      try simp only [Act.put, List.setIfInBounds_toArray, List.set_cons_zero, List.set_cons_succ]
      refine wpAnyH_ready (rs := [1]) (by kernel_rfl) (by simp) ?_
      refine (AllReadyH.cons rfl (fun K7 hK7 => ?_) AllReadyH.nil)
      · skip
        (go_simp; go_at_call 49; refine (md.out _).mono ?_; rintro e w5 ⟨rg, rfl, l5⟩; go_wp2_with fail)
        refine hK7.out _ _ trivial (fun hHeld7 => ?_)
        clear hK7 K7
        try simp only [Act.put, List.setIfInBounds_toArray, List.set_cons_zero, List.set_cons_succ]
        refine wpAnyH_ready (rs := [3]) (by kernel_rfl) (by simp) ?_
        refine AllReadyH.cons rfl (fun K8 hK8 => ?_) AllReadyH.nil
        go_simp
        refine hK8.out _ _ trivial (fun hHeld8 => ?_)
        clear hK8 K8
        try simp only [Act.put, List.setIfInBounds_toArray, List.set_cons_zero, List.set_cons_succ]
        refine wpAnyH_ready (rs := [4]) (by kernel_rfl) (by simp) ?_
        refine AllReadyH.cons rfl (fun K9 hK9 => ?_) AllReadyH.nil
        go_simp
        refine hK9.out _ _ trivial (fun hHeld9 => ?_)
        clear hK9 K9
        try simp only [Act.put, List.setIfInBounds_toArray, List.set_cons_zero, List.set_cons_succ]
        refine wpAnyH_ready (rs := [5]) (by kernel_rfl) (by simp) ?_
        refine AllReadyH.cons rfl (fun K10 hK10 => ?_) AllReadyH.nil
        go_simp
        refine hK10.out _ _ trivial (fun hHeld10 => ?_)
        clear hK10 K10
        try simp only [Act.put, List.setIfInBounds_toArray, List.set_cons_zero, List.set_cons_succ]
        refine wpAnyH_done (by kernel_rfl) ?_ _
        go_wp2_with fail
        go_meet
        have z1 := l5.only.size
        have z2 := l5.rng.mem.lt_hb
        have z3 := l5.rng.ring.lt
        simp at z1
        exact ⟨_, rfl, Lib.hid ⟨rg, _, _, fresh_gang (w1 := w) hc'.out hc2'.out (alloc_at (by simp)) (Lw.from (Lw.nil l5 (by repeat (first | exact Only.refl _ _ | refine Only.alloc ?_ _ | refine Only.drew ?_))) (by repeat (first | exact Only.refl _ _ | refine Only.alloc ?_ _ | refine Only.drew ?_))) (by repeat (first | exact alloc_at (by simp) | refine alloc_keep ?_ | refine only_keep l5.only ?_)) (by first | (simp; done) | (simp; omega) | omega) (by first | (simp; done) | (simp; omega) | omega)⟩⟩
  case rest =>
    obtain ⟨gb, rfl, hq⟩ := hcut
    obtain ⟨rg, B, tb, base, C0⟩ := hq.out
    have C0' := Lib.hid C0
    have c0 := C0.ptr.1
    clear hq C0 md m1
    generalize wc = W0 at C0' c0 ⊢
    go_wp2
    go_loopw [6] (fun s6 wr => ∃ i : Nat, i ≤ len ∧ i ≤ 600 ∧ s6 = .int .i64 (i : Int) ∧ Hid (M1 w wr rg B base c gb tb (2 * i)))
      (fun s6 _ => len - (intOf s6).toNat)
    case atStart => exact ⟨0, Nat.zero_le _, Nat.zero_le _, rfl, C0'⟩
    case round =>
      obtain ⟨i, hi, hi6, rfl, hh⟩ := hrel
      have C1 := hh.out
      by_cases hgo : i < len ∧ i < 600
      · obtain ⟨g1, g2⟩ := hgo
        have g1' : (i : Int) < (len : Int) := by omega
        have g2' : (i : Int) < 600 := by omega
        obtain ⟨b, off, rfl, hb1, hb2⟩ := (hV'.out.keep C1.ptr.2) i (by rw [hlen'.out]; exact g1)
        have hx : wr.cell? ⟨b, off + i, none⟩ = some (.int .u8 (V.getD i 0)) := hb2 i (by rw [hlen'.out]; exact g1)
        obtain ⟨y0, y1⟩ := hu'.out i
        clear hb2
        generalize V.getD i 0 = x at hx y0 y1
        have wx : IntKind.i64.wrap x = x := IntWalk.i64_in _ (by omega)
        obtain ⟨y, rfl⟩ := Int.eq_ofNat_of_zero_le y0
        have hp : y % 4 < 4 := Nat.mod_lt _ (by omega)
        have mt : Int.tmod (y : Int) 4 = ((y % 4 : Nat) : Int) := rfl
        have me : (y : Int) % 4 = ((y % 4 : Nat) : Int) := rfl
        generalize y % 4 = p at mt me hp
        have hg := Lib.hid (And.intro g1 g2)
        have pc := Lib.hid (C1.step hp (by omega))
        clear C1 hh hi hi6 g1 g2 hp c0
        go_wp2_with (go_at_call 50; (with_reducible refine (pc.out).mono ?_); rintro e w3 ⟨rfl, k3⟩)
        have k3' := Lib.hid k3.out
        clear k3
        go_roundw
        case rel => exact ⟨i + 1, by have := hg.out; omega, by have := hg.out; omega, by go_num, k3'⟩
        case measure => have := hg.out; simp [intOf]; omega
      · have C2 : Hid (M1 w wr rg B base c gb tb 1200) := Lib.hid (C1.more (by omega) (by omega))
        have hex : (¬ i < len) ∨ (i < len ∧ ¬ i < 600) := by omega
        clear C1 hh C0' c0 hi hi6 hgo
        rcases hex with f1 | ⟨f1, f2⟩
        · have f1' : ¬ ((i : Int) < (len : Int)) := by omega
          clear f1
          have C2' := Lib.hid (C2.out.start)
          generalize wr = Wb at *
          clear C2
          go_wp2
          go_loopw [7] (fun s7 wr => ∃ i : Nat, i ≤ 20 ∧ s7 = .int .i64 (i : Int) ∧ Hid (M2E w wr rg B base c gb tb (1200 + 4 * i) i i i))
            (fun s7 _ => 20 - (intOf s7).toNat)
          case atStart => exact ⟨0, Nat.zero_le _, rfl, C2'⟩
          case round =>
            obtain ⟨i, hi, rfl, hh2⟩ := hrel
            by_cases hi2 : i < 20
            · have hi2' : (i : Int) < 20 := by omega
              have hg := Lib.hid hi2
              obtain ⟨ow1, th1, h2⟩ := hh2.out
              rcases e1 : ow1 with _ | s1
              · have c1 : wr.cell? ⟨gb, 1, none⟩ = some (.pointer none) := by obtain ⟨_, _, z, _⟩ := h2; exact z.c1n e1
                have h3 : Hid (M2E w wr rg B base c gb tb (1200 + 4 * i + 2) (i + 1) i i) := Lib.hid (h2.idle e1 (by omega))
                clear hi hi2 hh2 C2' h2 e1
                go_wp2
                clear c1 hi2'
                generalize wr = Wi at *
                have hi19 : (i : Int) ≤ 19 := by have := hg.out; omega
                go_loopw [8] (fun s8 wr => ∃ k : Nat, k ≤ 2 ∧ s8 = .int .i64 (k : Int) ∧ Hid (M2E w wr rg B base c gb tb (1200 + 4 * i + 2 + k) (i + 1) (if 1 ≤ k then i + 1 else i) (if 2 ≤ k then i + 1 else i)))
                  (fun s8 _ => 2 - (intOf s8).toNat)
                case atStart => exact ⟨0, Nat.zero_le _, rfl, h3⟩
                case round =>
                  obtain ⟨k, hk, rfl, hq⟩ := hrel
                  by_cases hk2 : k < 2
                  · have hk2' : (k : Int) < 2 := by omega
                    obtain ⟨ow2, th2, h4⟩ := hq.out
                    have c6 : wr.cell? ⟨gb, 6, none⟩ = some (.slice (some ⟨tb, 0, none⟩) 2 2) := by obtain ⟨_, _, z, _⟩ := h4; exact z.c6
                    have hkh := Lib.hid hk2
                    rcases e4 : th2 k with _ | s4
                    · have t4 : wr.cell? ⟨tb, k, none⟩ = some (.pointer none) := by obtain ⟨_, _, z, _⟩ := h4; exact z.tcn hk2 e4
                      have h5 := Lib.hid ((h4.rest hk2 e4 (by omega)).conv hk2)
                      clear h4 hq hk hk2 e4 h3
                      go_wp2
                      go_roundw
                      case rel => exact ⟨k + 1, by have := hkh.out; omega, by go_num, h5⟩
                      case measure => have := hkh.out; simp [intOf]; omega
                    · obtain ⟨b4, t4⟩ : ∃ b, wr.cell? ⟨tb, k, none⟩ = some (.pointer (some ⟨b, 0, none⟩)) := by obtain ⟨_, _, z, _⟩ := h4; exact z.tcs hk2 e4
                      have sc := Lib.hid (h4.steal hk2 e4 (by omega))
                      clear h4 hq hk hk2 e4 h3
                      go_wp2_with (go_at_call 51; (with_reducible refine (sc.out).mono ?_); rintro e w5 ⟨rfl, k5⟩)
                      have h5 := Lib.hid (k5.out.conv hkh.out)
                      clear k5 sc
                      go_roundw
                      case rel => exact ⟨k + 1, by have := hkh.out; omega, by go_num, h5⟩
                      case measure => have := hkh.out; simp [intOf]; omega
                  · have hk2' : ¬ ((k : Int) < 2) := by omega
                    have hke : k = 2 := by omega
                    subst hke
                    clear hk hk2 h3
                    go_wp2
                    go_roundw
                    case rel => exact ⟨i + 1, by have := hg.out; omega, by go_num, hq⟩
                    case measure => have := hg.out; simp [intOf]; omega
              · obtain ⟨b1, c1⟩ : ∃ b, wr.cell? ⟨gb, 1, none⟩ = some (.pointer (some ⟨b, 0, none⟩)) := by obtain ⟨_, _, z, _⟩ := h2; exact z.c1 e1
                have sc := Lib.hid (h2.own e1 (by omega))
                clear hi hi2 hh2 C2' h2 e1
                go_wp2_with (go_at_call 50; (with_reducible refine (sc.out).mono ?_); rintro e w3 ⟨rfl, k3⟩)
                have h3 : Hid (M2E w w3 rg B base c gb tb (1200 + 4 * i + 2) (i + 1) i i) := Lib.hid k3.out
                clear k3 sc c1 hi2'
                generalize w3 = Wi at *
                have hi19 : (i : Int) ≤ 19 := by have := hg.out; omega
                go_loopw [8] (fun s8 wr => ∃ k : Nat, k ≤ 2 ∧ s8 = .int .i64 (k : Int) ∧ Hid (M2E w wr rg B base c gb tb (1200 + 4 * i + 2 + k) (i + 1) (if 1 ≤ k then i + 1 else i) (if 2 ≤ k then i + 1 else i)))
                  (fun s8 _ => 2 - (intOf s8).toNat)
                case atStart => exact ⟨0, Nat.zero_le _, rfl, h3⟩
                case round =>
                  obtain ⟨k, hk, rfl, hq⟩ := hrel
                  by_cases hk2 : k < 2
                  · have hk2' : (k : Int) < 2 := by omega
                    obtain ⟨ow2, th2, h4⟩ := hq.out
                    have c6 : wr.cell? ⟨gb, 6, none⟩ = some (.slice (some ⟨tb, 0, none⟩) 2 2) := by obtain ⟨_, _, z, _⟩ := h4; exact z.c6
                    have hkh := Lib.hid hk2
                    rcases e4 : th2 k with _ | s4
                    · have t4 : wr.cell? ⟨tb, k, none⟩ = some (.pointer none) := by obtain ⟨_, _, z, _⟩ := h4; exact z.tcn hk2 e4
                      have h5 := Lib.hid ((h4.rest hk2 e4 (by omega)).conv hk2)
                      clear h4 hq hk hk2 e4 h3
                      go_wp2
                      go_roundw
                      case rel => exact ⟨k + 1, by have := hkh.out; omega, by go_num, h5⟩
                      case measure => have := hkh.out; simp [intOf]; omega
                    · obtain ⟨b4, t4⟩ : ∃ b, wr.cell? ⟨tb, k, none⟩ = some (.pointer (some ⟨b, 0, none⟩)) := by obtain ⟨_, _, z, _⟩ := h4; exact z.tcs hk2 e4
                      have sc := Lib.hid (h4.steal hk2 e4 (by omega))
                      clear h4 hq hk hk2 e4 h3
                      go_wp2_with (go_at_call 51; (with_reducible refine (sc.out).mono ?_); rintro e w5 ⟨rfl, k5⟩)
                      have h5 := Lib.hid (k5.out.conv hkh.out)
                      clear k5 sc
                      go_roundw
                      case rel => exact ⟨k + 1, by have := hkh.out; omega, by go_num, h5⟩
                      case measure => have := hkh.out; simp [intOf]; omega
                  · have hk2' : ¬ ((k : Int) < 2) := by omega
                    have hke : k = 2 := by omega
                    subst hke
                    clear hk hk2 h3
                    go_wp2
                    go_roundw
                    case rel => exact ⟨i + 1, by have := hg.out; omega, by go_num, hq⟩
                    case measure => have := hg.out; simp [intOf]; omega
            · have hi2' : ¬ ((i : Int) < 20) := by omega
              have hie : i = 20 := by omega
              subst hie
              have C3 : Hid (M3E w wr rg B base c gb tb 1280 0 0) := Lib.hid (hh2.out.start (by omega) (by omega) (by omega))
              clear hi hi2 hh2 C2'
              go_wp2
              clear hi2'
              generalize wr = Wd at *
              go_loopw [9] (fun s9 wr => ∃ j : Nat, j ≤ 20 * c + 20 ∧ s9 = .int .i64 (j : Int) ∧ Hid (M3E w wr rg B base c gb tb (1280 + 2 * j) j 0))
                (fun s9 _ => 20 * c + 20 - (intOf s9).toNat)
              case atStart => exact ⟨0, Nat.zero_le _, rfl, C3⟩
              case round =>
                obtain ⟨j, hj, rfl, hh3⟩ := hrel
                by_cases hj2 : j < 20 * c + 20
                · have hj2' : (j : Int) < 20 * (c : Int) + 20 := by omega
                  have hgj := Lib.hid hj2
                  obtain ⟨ow3, hh4⟩ := hh3.out
                  have sc := Lib.hid (hh4.step (by have := hc2'.out; omega))
                  clear hj hj2 hh3 hh4 C3
                  go_wp2_with (go_at_call 50; (with_reducible refine (sc.out).mono ?_); rintro e w3 ⟨rfl, k3⟩)
                  have k3' : Hid (M3E w w3 rg B base c gb tb (1280 + 2 * (j + 1)) (j + 1) 0) := Lib.hid (by obtain ⟨ow', z, _⟩ := k3.out; exact ⟨ow', z⟩)
                  clear k3 sc
                  go_roundw
                  case rel => exact ⟨j + 1, by have := hgj.out; omega, by go_num, k3'⟩
                  case measure => have := hgj.out; simp [intOf]; omega
                · have hj2' : ¬ ((j : Int) < 20 * (c : Int) + 20) := by omega
                  have hje : j = 20 * c + 20 := by omega
                  subst hje
                  have D3 := Lib.hid hh3.out
                  clear hj hj2 C3 hh3
                  go_wp2
                  generalize wr = We at *
                  clear hj2'
                  go_loopw [10] (fun s10 wr => ∃ i : Nat, s10 = .int .i64 (i : Int) ∧ i ≤ 6 ∧ Hid (∃ ow, M3 w wr rg B base c gb tb (1280 + 2 * (20 * c + 20) + 2 * i) ow (20 * c + 20 + i) i))
                    (fun s10 _ => 6 - (intOf s10).toNat)
                  case atStart => exact ⟨0, rfl, by omega, D3⟩
                  case round =>
                    obtain ⟨i, rfl, hi6, hh5⟩ := hrel
                    obtain ⟨ow5, h5⟩ := hh5.out
                    have i10 : (i : Int) < 10 := by omega
                    rcases e5 : ow5 with _ | s5
                    · subst e5
                      have c5 : wr.cell? ⟨gb, 1, none⟩ = some (.pointer none) := by obtain ⟨_, _, _, z, _⟩ := h5; exact z.c1n rfl
                      have fin := Lib.hid (h5.fin (by omega))
                      clear h5 hh5 D3 hi6
                      go_wp2
                      go_ret
                      exact ⟨gb, rfl, Lib.hid ⟨rg, B, base, tb, _, fin.out⟩⟩
                    · obtain ⟨b5, c5⟩ : ∃ b, wr.cell? ⟨gb, 1, none⟩ = some (.pointer (some ⟨b, 0, none⟩)) := by obtain ⟨_, _, _, z, _⟩ := h5; exact z.c1 e5
                      have hr5 := Lib.hid (show rk s5 + i ≤ 6 ∧ 1 ≤ rk s5 by obtain ⟨_, _, _, z, _, _, _, q⟩ := h5; exact ⟨q s5 e5, rk_pos (z.on0 s5 e5)⟩)
                      have sc := Lib.hid (h5.step (by have := hc2'.out; omega))
                      have e5' := Lib.hid e5
                      clear h5 hh5 D3 hi6 e5
                      go_wp2_with (go_at_call 50; (with_reducible refine (sc.out).mono ?_); rintro e w3 ⟨rfl, k3⟩)
                      have k3' : Hid (∃ ow, M3 w w3 rg B base c gb tb (1280 + 2 * (20 * c + 20) + 2 * (i + 1)) ow (20 * c + 20 + (i + 1)) (i + 1)) := Lib.hid (by obtain ⟨ow', _, z⟩ := k3.out; exact ⟨ow', z s5 e5'.out⟩)
                      clear k3 sc
                      go_roundw
                      case rel => exact ⟨i + 1, by go_num, by have := hr5.out; omega, k3'⟩
                      case measure => have := hr5.out; simp [intOf]; omega
        · have f1' : (i : Int) < (len : Int) := by omega
          have f2' : ¬ ((i : Int) < 600) := by omega
          clear f1 f2
          have C2' := Lib.hid (C2.out.start)
          generalize wr = Wb at *
          clear C2
          go_wp2
          go_loopw [7] (fun s7 wr => ∃ i : Nat, i ≤ 20 ∧ s7 = .int .i64 (i : Int) ∧ Hid (M2E w wr rg B base c gb tb (1200 + 4 * i) i i i))
            (fun s7 _ => 20 - (intOf s7).toNat)
          case atStart => exact ⟨0, Nat.zero_le _, rfl, C2'⟩
          case round =>
            obtain ⟨i, hi, rfl, hh2⟩ := hrel
            by_cases hi2 : i < 20
            · have hi2' : (i : Int) < 20 := by omega
              have hg := Lib.hid hi2
              obtain ⟨ow1, th1, h2⟩ := hh2.out
              rcases e1 : ow1 with _ | s1
              · have c1 : wr.cell? ⟨gb, 1, none⟩ = some (.pointer none) := by obtain ⟨_, _, z, _⟩ := h2; exact z.c1n e1
                have h3 : Hid (M2E w wr rg B base c gb tb (1200 + 4 * i + 2) (i + 1) i i) := Lib.hid (h2.idle e1 (by omega))
                clear hi hi2 hh2 C2' h2 e1
                go_wp2
                clear c1 hi2'
                generalize wr = Wi at *
                have hi19 : (i : Int) ≤ 19 := by have := hg.out; omega
                go_loopw [8] (fun s8 wr => ∃ k : Nat, k ≤ 2 ∧ s8 = .int .i64 (k : Int) ∧ Hid (M2E w wr rg B base c gb tb (1200 + 4 * i + 2 + k) (i + 1) (if 1 ≤ k then i + 1 else i) (if 2 ≤ k then i + 1 else i)))
                  (fun s8 _ => 2 - (intOf s8).toNat)
                case atStart => exact ⟨0, Nat.zero_le _, rfl, h3⟩
                case round =>
                  obtain ⟨k, hk, rfl, hq⟩ := hrel
                  by_cases hk2 : k < 2
                  · have hk2' : (k : Int) < 2 := by omega
                    obtain ⟨ow2, th2, h4⟩ := hq.out
                    have c6 : wr.cell? ⟨gb, 6, none⟩ = some (.slice (some ⟨tb, 0, none⟩) 2 2) := by obtain ⟨_, _, z, _⟩ := h4; exact z.c6
                    have hkh := Lib.hid hk2
                    rcases e4 : th2 k with _ | s4
                    · have t4 : wr.cell? ⟨tb, k, none⟩ = some (.pointer none) := by obtain ⟨_, _, z, _⟩ := h4; exact z.tcn hk2 e4
                      have h5 := Lib.hid ((h4.rest hk2 e4 (by omega)).conv hk2)
                      clear h4 hq hk hk2 e4 h3
                      go_wp2
                      go_roundw
                      case rel => exact ⟨k + 1, by have := hkh.out; omega, by go_num, h5⟩
                      case measure => have := hkh.out; simp [intOf]; omega
                    · obtain ⟨b4, t4⟩ : ∃ b, wr.cell? ⟨tb, k, none⟩ = some (.pointer (some ⟨b, 0, none⟩)) := by obtain ⟨_, _, z, _⟩ := h4; exact z.tcs hk2 e4
                      have sc := Lib.hid (h4.steal hk2 e4 (by omega))
                      clear h4 hq hk hk2 e4 h3
                      go_wp2_with (go_at_call 51; (with_reducible refine (sc.out).mono ?_); rintro e w5 ⟨rfl, k5⟩)
                      have h5 := Lib.hid (k5.out.conv hkh.out)
                      clear k5 sc
                      go_roundw
                      case rel => exact ⟨k + 1, by have := hkh.out; omega, by go_num, h5⟩
                      case measure => have := hkh.out; simp [intOf]; omega
                  · have hk2' : ¬ ((k : Int) < 2) := by omega
                    have hke : k = 2 := by omega
                    subst hke
                    clear hk hk2 h3
                    go_wp2
                    go_roundw
                    case rel => exact ⟨i + 1, by have := hg.out; omega, by go_num, hq⟩
                    case measure => have := hg.out; simp [intOf]; omega
              · obtain ⟨b1, c1⟩ : ∃ b, wr.cell? ⟨gb, 1, none⟩ = some (.pointer (some ⟨b, 0, none⟩)) := by obtain ⟨_, _, z, _⟩ := h2; exact z.c1 e1
                have sc := Lib.hid (h2.own e1 (by omega))
                clear hi hi2 hh2 C2' h2 e1
                go_wp2_with (go_at_call 50; (with_reducible refine (sc.out).mono ?_); rintro e w3 ⟨rfl, k3⟩)
                have h3 : Hid (M2E w w3 rg B base c gb tb (1200 + 4 * i + 2) (i + 1) i i) := Lib.hid k3.out
                clear k3 sc c1 hi2'
                generalize w3 = Wi at *
                have hi19 : (i : Int) ≤ 19 := by have := hg.out; omega
                go_loopw [8] (fun s8 wr => ∃ k : Nat, k ≤ 2 ∧ s8 = .int .i64 (k : Int) ∧ Hid (M2E w wr rg B base c gb tb (1200 + 4 * i + 2 + k) (i + 1) (if 1 ≤ k then i + 1 else i) (if 2 ≤ k then i + 1 else i)))
                  (fun s8 _ => 2 - (intOf s8).toNat)
                case atStart => exact ⟨0, Nat.zero_le _, rfl, h3⟩
                case round =>
                  obtain ⟨k, hk, rfl, hq⟩ := hrel
                  by_cases hk2 : k < 2
                  · have hk2' : (k : Int) < 2 := by omega
                    obtain ⟨ow2, th2, h4⟩ := hq.out
                    have c6 : wr.cell? ⟨gb, 6, none⟩ = some (.slice (some ⟨tb, 0, none⟩) 2 2) := by obtain ⟨_, _, z, _⟩ := h4; exact z.c6
                    have hkh := Lib.hid hk2
                    rcases e4 : th2 k with _ | s4
                    · have t4 : wr.cell? ⟨tb, k, none⟩ = some (.pointer none) := by obtain ⟨_, _, z, _⟩ := h4; exact z.tcn hk2 e4
                      have h5 := Lib.hid ((h4.rest hk2 e4 (by omega)).conv hk2)
                      clear h4 hq hk hk2 e4 h3
                      go_wp2
                      go_roundw
                      case rel => exact ⟨k + 1, by have := hkh.out; omega, by go_num, h5⟩
                      case measure => have := hkh.out; simp [intOf]; omega
                    · obtain ⟨b4, t4⟩ : ∃ b, wr.cell? ⟨tb, k, none⟩ = some (.pointer (some ⟨b, 0, none⟩)) := by obtain ⟨_, _, z, _⟩ := h4; exact z.tcs hk2 e4
                      have sc := Lib.hid (h4.steal hk2 e4 (by omega))
                      clear h4 hq hk hk2 e4 h3
                      go_wp2_with (go_at_call 51; (with_reducible refine (sc.out).mono ?_); rintro e w5 ⟨rfl, k5⟩)
                      have h5 := Lib.hid (k5.out.conv hkh.out)
                      clear k5 sc
                      go_roundw
                      case rel => exact ⟨k + 1, by have := hkh.out; omega, by go_num, h5⟩
                      case measure => have := hkh.out; simp [intOf]; omega
                  · have hk2' : ¬ ((k : Int) < 2) := by omega
                    have hke : k = 2 := by omega
                    subst hke
                    clear hk hk2 h3
                    go_wp2
                    go_roundw
                    case rel => exact ⟨i + 1, by have := hg.out; omega, by go_num, hq⟩
                    case measure => have := hg.out; simp [intOf]; omega
            · have hi2' : ¬ ((i : Int) < 20) := by omega
              have hie : i = 20 := by omega
              subst hie
              have C3 : Hid (M3E w wr rg B base c gb tb 1280 0 0) := Lib.hid (hh2.out.start (by omega) (by omega) (by omega))
              clear hi hi2 hh2 C2'
              go_wp2
              clear hi2'
              generalize wr = Wd at *
              go_loopw [9] (fun s9 wr => ∃ j : Nat, j ≤ 20 * c + 20 ∧ s9 = .int .i64 (j : Int) ∧ Hid (M3E w wr rg B base c gb tb (1280 + 2 * j) j 0))
                (fun s9 _ => 20 * c + 20 - (intOf s9).toNat)
              case atStart => exact ⟨0, Nat.zero_le _, rfl, C3⟩
              case round =>
                obtain ⟨j, hj, rfl, hh3⟩ := hrel
                by_cases hj2 : j < 20 * c + 20
                · have hj2' : (j : Int) < 20 * (c : Int) + 20 := by omega
                  have hgj := Lib.hid hj2
                  obtain ⟨ow3, hh4⟩ := hh3.out
                  have sc := Lib.hid (hh4.step (by have := hc2'.out; omega))
                  clear hj hj2 hh3 hh4 C3
                  go_wp2_with (go_at_call 50; (with_reducible refine (sc.out).mono ?_); rintro e w3 ⟨rfl, k3⟩)
                  have k3' : Hid (M3E w w3 rg B base c gb tb (1280 + 2 * (j + 1)) (j + 1) 0) := Lib.hid (by obtain ⟨ow', z, _⟩ := k3.out; exact ⟨ow', z⟩)
                  clear k3 sc
                  go_roundw
                  case rel => exact ⟨j + 1, by have := hgj.out; omega, by go_num, k3'⟩
                  case measure => have := hgj.out; simp [intOf]; omega
                · have hj2' : ¬ ((j : Int) < 20 * (c : Int) + 20) := by omega
                  have hje : j = 20 * c + 20 := by omega
                  subst hje
                  have D3 := Lib.hid hh3.out
                  clear hj hj2 C3 hh3
                  go_wp2
                  generalize wr = We at *
                  clear hj2'
                  go_loopw [10] (fun s10 wr => ∃ i : Nat, s10 = .int .i64 (i : Int) ∧ i ≤ 6 ∧ Hid (∃ ow, M3 w wr rg B base c gb tb (1280 + 2 * (20 * c + 20) + 2 * i) ow (20 * c + 20 + i) i))
                    (fun s10 _ => 6 - (intOf s10).toNat)
                  case atStart => exact ⟨0, rfl, by omega, D3⟩
                  case round =>
                    obtain ⟨i, rfl, hi6, hh5⟩ := hrel
                    obtain ⟨ow5, h5⟩ := hh5.out
                    have i10 : (i : Int) < 10 := by omega
                    rcases e5 : ow5 with _ | s5
                    · subst e5
                      have c5 : wr.cell? ⟨gb, 1, none⟩ = some (.pointer none) := by obtain ⟨_, _, _, z, _⟩ := h5; exact z.c1n rfl
                      have fin := Lib.hid (h5.fin (by omega))
                      clear h5 hh5 D3 hi6
                      go_wp2
                      go_ret
                      exact ⟨gb, rfl, Lib.hid ⟨rg, B, base, tb, _, fin.out⟩⟩
                    · obtain ⟨b5, c5⟩ : ∃ b, wr.cell? ⟨gb, 1, none⟩ = some (.pointer (some ⟨b, 0, none⟩)) := by obtain ⟨_, _, _, z, _⟩ := h5; exact z.c1 e5
                      have hr5 := Lib.hid (show rk s5 + i ≤ 6 ∧ 1 ≤ rk s5 by obtain ⟨_, _, _, z, _, _, _, q⟩ := h5; exact ⟨q s5 e5, rk_pos (z.on0 s5 e5)⟩)
                      have sc := Lib.hid (h5.step (by have := hc2'.out; omega))
                      have e5' := Lib.hid e5
                      clear h5 hh5 D3 hi6 e5
                      go_wp2_with (go_at_call 50; (with_reducible refine (sc.out).mono ?_); rintro e w3 ⟨rfl, k3⟩)
                      have k3' : Hid (∃ ow, M3 w w3 rg B base c gb tb (1280 + 2 * (20 * c + 20) + 2 * (i + 1)) ow (20 * c + 20 + (i + 1)) (i + 1)) := Lib.hid (by obtain ⟨ow', _, z⟩ := k3.out; exact ⟨ow', z s5 e5'.out⟩)
                      clear k3 sc
                      go_roundw
                      case rel => exact ⟨i + 1, by go_num, by have := hr5.out; omega, k3'⟩
                      case measure => have := hr5.out; simp [intOf]; omega
end Go.Proofs.Ytokopocldicnmaa.Dq
