/- A crowd: run: all that the picks say, and then all to its end. -/
import Derived.Test.YtpnpbgcndlfobaaCrowdH
import Derived.Deep.RegionHeld3
import Derived.Deep.DeepCutAuto
namespace Go.Proofs.Ytpnpbgcndlfobaa
open Go.RowKit

theorem alloc_keep {w : World} {b : Nat} {x o : Obj} (h : w.heap[b]? = some x) : (w.alloc o).heap[b]? = some x := (Below.heap_alloc _ _ _ (lt_of_block h)).trans h
theorem alloc_at {w : World} {b : Nat} {o : Obj} (h : b = w.heap.size) : (w.alloc o).heap[b]? = some o := by subst h; exact heap_new w o
theorem only_keep {w w' : World} {b : Nat} {x : Obj} (o : Only Nil w w') (h : w.heap[b]? = some x) : w'.heap[b]? = some x := (o.block b (lt_of_block h) (fun z => z)).trans h
theorem Lw.from {w0 wm w : World} {rg hb rb b c : Nat} {L : List Int} {t : Int} (h : Lw wm w rg hb rb b c L t) (o : Only Nil w0 wm) : Lw w0 w rg hb rb b c L t :=
  { h with only := o.trans h.only, g1 := Nat.le_trans o.size h.g1, g2 := Nat.le_trans o.size h.g2, g3 := Nat.le_trans o.size h.g3 }

/-- A crowd that is there, and has done nothing. -/
theorem fresh_crowd {w1 w : World} {rg B c cb pb nb ib : Nat} (hc : 0 < c) (hc2 : c ≤ 8) (cbh : w.heap[cb]? = some (.cells (cbv rg pb nb ib (.pointer none) 0 (.slice none 0 0) 0 0) 65 (0, 0)))
    (l : Lw w1 w rg (B + 1) B 0 c (zeros (2 + 2 * c)) (2 + 2 * (c : Int)))
    (pbh : w.heap[pb]? = some (.cells (rowC 3 fun _ => .pointer none) 40 (0, 0))) (nbh : w.heap[nb]? = some (.cells (rowC 3 fun _ => .int .u64 0) 37 (0, 0))) (ibh : w.heap[ib]? = some (.cells (rowC 3 fun _ => .slice none 0 0) 42 (0, 0)))
    (g1 : w1.heap.size ≤ cb) (g2 : w1.heap.size ≤ pb) (g3 : w1.heap.size ≤ nb) (g4 : w1.heap.size ≤ ib) (nbB : nb ≠ B) :
    ∃ base, CrE w1 w rg B base c cb pb nb ib 0 ⟨0, 0, fun _ => 0, fun _ => 0⟩ (fun _ => none) none 0 0 (fun _ => []) [] := by
  refine ⟨w.heap.size, zeros (2 + 2 * c), 2 + 2 * (c : Int), fun _ => 0, 0, fun _ => 0, fun _ => .slice none 0 0, 0, .slice none 0 0, ?_⟩
  refine ⟨⟨⟨l, fun p ob s _ e => ?_, fun p q ob ob' s s' _ _ _ e => ?_, fun ob s e => ?_, fun p ob ob' s s' _ e => ?_, fun p _ => World.ownsRow_nil _ _ _ _, World.ownsRow_nil _ _ _ _, fun p q k _ _ _ e => ?_, fun p k _ e => ?_, l.rng.mem.lt_rb, Nat.le_refl _, l.only.size⟩, cbh, pbh, nbh, ibh, nbB, lt_of_block nbh, g1, g2, g3, g4⟩, RgL.fresh c, SysO.start hc, Nat.le_refl _, by omega, fun p _ => by omega, fun p s v e => by simp at e, fun s e => by simp at e, by omega, by omega, hc, hc2, by omega, by omega, by omega⟩
  · simp [poOf] at e
  · simp [poOf] at e
  · simp [toOf] at e
  · simp [poOf] at e
  · simp [Value.ownBlock] at e
  · simp [Value.ownBlock] at e

theorem CrE.ptr {w1 w : World} {rg B base c cb pb nb ib K : Nat} {R : Rg} {P : Nat → Option (PS × Int)} {T : Option TS} {mo : Int} {cnt : Nat} {ins : Nat → List Int} {taken : List Int} (h : CrE w1 w rg B base c cb pb nb ib K R P T mo cnt ins taken) :
    w.cell? ⟨cb, 0, none⟩ = some (.pointer (some ⟨rg, 0, none⟩)) ∧ w.cell? ⟨cb, 1, none⟩ = some (.slice (some ⟨pb, 0, none⟩) 3 3) ∧ Only Nil w1 w ∧ 0 < c ∧ c ≤ 8 ∧ rankT R T ≤ 5 * (c + 1) + 2 := by
  obtain ⟨L, t, ob, tb, nx, iv, st, ta, h⟩ := h
  exact ⟨h.cw.cells.1, h.cw.cells.2.1, h.cw.core.lw.only, h.hc, h.hc2, h.sys.rankT_le⟩
theorem CrE.pcell {w1 w : World} {rg B base c cb pb nb ib K : Nat} {R : Rg} {P : Nat → Option (PS × Int)} {T : Option TS} {mo : Int} {cnt : Nat} {ins : Nat → List Int} {taken : List Int} (h : CrE w1 w rg B base c cb pb nb ib K R P T mo cnt ins taken) (p : Nat) (hp : p < 3) :
    (P p = none ∧ w.cell? ⟨pb, p, none⟩ = some (.pointer none)) ∨ (∃ s v x, P p = some (s, v) ∧ w.cell? ⟨pb, p, none⟩ = some (.pointer (some ⟨x, 0, none⟩))) := by
  obtain ⟨L, t, ob, tb, nx, iv, st, ta, h⟩ := h
  rcases e : P p with _ | ⟨s, v⟩
  · exact .inl ⟨rfl, h.pnone hp e⟩
  · exact .inr ⟨s, v, _, rfl, h.pcell hp e⟩

theorem Try.infoU64s : (Try.prog.info? 42).map (fun i => (i.zero, i.size, i.bytes)) = some (some (.slice none 0 0), 1, 24) := by kernel_rfl

/-- The crowd's row, whichever world. -/
def CrN (w1 w : World) (c : Nat) (cb : Nat) : Prop := ∃ rg B pb nb ib base, CrE w1 w rg B base c cb pb nb ib 0 ⟨0, 0, fun _ => 0, fun _ => 0⟩ (fun _ => none) none 0 0 (fun _ => []) []

set_option linter.unusedSimpArgs false in
set_option maxRecDepth 100000 in
set_option maxHeartbeats 16000000 in
theorem run_walk (c : Nat) (hc : 0 < c) (hc2 : c ≤ 8) (a : Option Addr) (cap : Nat) (V : List Int) (w : World) (hV : RowK .u8 w a V) (hu : ∀ j, 0 ≤ V.getD j 0 ∧ V.getD j 0 < 256) (hr : V.length * 1 ≤ 140737488351232) :
    Calls Try.prog 27 #[.int .i64 (c : Int), .slice a V.length cap] w fun e w' => ∃ cb, e = .returned (.pointer (some ⟨cb, 0, none⟩)) ∧
      Hid (∃ rg B base pb nb ib R P mo ins taken, CrE w w' rg B base c cb pb nb ib 3000 R P none mo 0 ins taken ∧ (∀ q, P q = none) ∧ ∀ q, ins q = taken.filter fun x => decide (pidc x = q)) := by
  have md := Lib.hid (fun w => made_any c w hc (by omega))
  have m1 := fun (w : World) => run_make_row' (P := Try.prog) 35 40 (.pointer none) 8 Try.underlying35 Try.infoOpP rfl .i64 .i64 3 (by omega) (by omega) w
  have m2 := fun (w : World) => run_make_row' (P := Try.prog) 42 37 (.int .u64 0) 8 Try.underlying42 Try.infoU64 rfl .i64 .i64 3 (by omega) (by omega) w
  have m3 := fun (w : World) => run_make_row' (P := Try.prog) 63 42 (.slice none 0 0) 24 Try.underlying63 Try.infoU64s rfl .i64 .i64 3 (by omega) (by omega) w
  simp only [made_row, show ((3 : Nat) : Int) = 3 from rfl] at m1 m2 m3
  have hc' := Lib.hid hc
  have hc2' := Lib.hid hc2
  have hV' := Lib.hid hV
  have hu' := Lib.hid hu
  clear hc hc2 hV hu
  generalize hlen : V.length = len at hr ⊢
  have hlen' := Lib.hid hlen
  clear hlen
  have len8 : (len : Int) ≤ 140737488351232 := by omega
  go_enter Try.func27, Try.ntmps27
  go_wp2
  go_cut [5] (fun s5 wx => ∃ cb, s5 = .pointer (some ⟨cb, 0, none⟩) ∧ Hid (CrN w wx c cb))
  case first =>
    clear len8 hr hlen' hV' hu'
    refine wp_region_held_drew (S := fun _ => True) (by kernel_rfl) trivial (fun hHeld => ?_)
    refine wpAnyH_take (i := 0) (v := ?v0) rfl (by kernel_rfl) (by kernel_rfl) (by kernel_rfl) (fun _ _ _ h => h) (Or.inl ⟨by rfl, ?h0⟩) (by assumption) ?r0
    case h0 => (intro w hSw; (try dsimp only at hSw); first | (go_simp; done) | (go_simp; with_reducible rfl))
    try simp only [Act.put, List.setIfInBounds_toArray, List.set_cons_zero, List.set_cons_succ]
    refine wpAnyH_ready (rs := [1, 2, 3, 4]) (by kernel_rfl) (by simp) ?_
    refine (AllReadyH.cons rfl (fun K1 hK1 => ?_) (AllReadyH.cons rfl (fun K2 hK2 => ?_) (AllReadyH.cons rfl (fun K3 hK3 => ?_) (AllReadyH.cons rfl (fun K4 hK4 => ?_) AllReadyH.nil))))
    · skip
      (go_simp; go_at_call 30; refine (md.out _).mono ?_; rintro e w5 ⟨rg, rfl, l5⟩; go_wp2_with fail)
      refine hK1.out _ _ trivial (fun hHeld1 => ?_)
      clear hK1 K1
      try simp only [Act.put, List.setIfInBounds_toArray, List.set_cons_zero, List.set_cons_succ]
      refine wpAnyH_ready (rs := [2, 3, 4]) (by kernel_rfl) (by simp) ?_
      refine (AllReadyH.cons rfl (fun K5 hK5 => ?_) (AllReadyH.cons rfl (fun K6 hK6 => ?_) (AllReadyH.cons rfl (fun K7 hK7 => ?_) AllReadyH.nil)))
      · skip
        go_simp
        refine hK5.out _ _ trivial (fun hHeld5 => ?_)
        clear hK5 K5
        try simp only [Act.put, List.setIfInBounds_toArray, List.set_cons_zero, List.set_cons_succ]
        refine wpAnyH_ready (rs := [3, 4]) (by kernel_rfl) (by simp) ?_
        refine (AllReadyH.cons rfl (fun K8 hK8 => ?_) (AllReadyH.cons rfl (fun K9 hK9 => ?_) AllReadyH.nil))
        · skip
          go_simp
          refine hK8.out _ _ trivial (fun hHeld8 => ?_)
          clear hK8 K8
          try simp only [Act.put, List.setIfInBounds_toArray, List.set_cons_zero, List.set_cons_succ]
          refine wpAnyH_ready (rs := [4]) (by kernel_rfl) (by simp) ?_
          refine (AllReadyH.cons rfl (fun K10 hK10 => ?_) AllReadyH.nil)
          · skip
            go_simp
            refine hK10.out _ _ trivial (fun hHeld10 => ?_)
            clear hK10 K10
            try simp only [Act.put, List.setIfInBounds_toArray, List.set_cons_zero, List.set_cons_succ]
            refine wpAnyH_ready (rs := [5]) (by kernel_rfl) (by simp) ?_
            refine AllReadyH.cons rfl (fun K11 hK11 => ?_) AllReadyH.nil
            go_simp
            refine hK11.out _ _ trivial (fun hHeld11 => ?_)
            clear hK11 K11
            try simp only [Act.put, List.setIfInBounds_toArray, List.set_cons_zero, List.set_cons_succ]
            refine wpAnyH_ready (rs := [6]) (by kernel_rfl) (by simp) ?_
            refine AllReadyH.cons rfl (fun K12 hK12 => ?_) AllReadyH.nil
            go_simp
            refine hK12.out _ _ trivial (fun hHeld12 => ?_)
            clear hK12 K12
            try simp only [Act.put, List.setIfInBounds_toArray, List.set_cons_zero, List.set_cons_succ]
            refine wpAnyH_ready (rs := [7]) (by kernel_rfl) (by simp) ?_
            refine AllReadyH.cons rfl (fun K13 hK13 => ?_) AllReadyH.nil
            go_simp
            refine hK13.out _ _ trivial (fun hHeld13 => ?_)
            clear hK13 K13
            try simp only [Act.put, List.setIfInBounds_toArray, List.set_cons_zero, List.set_cons_succ]
            refine wpAnyH_done (by kernel_rfl) ?_ _
            go_wp2_with fail
            go_meet
            have z1 := l5.only.size
            have z2 := l5.rng.mem.lt_hb
            have z3 := l5.rng.ring.lt
            simp at z1
            exact ⟨_, rfl, Lib.hid ⟨rg, _, _, _, _, fresh_crowd (w1 := w) hc'.out hc2'.out (alloc_at (by simp)) (Lw.from (Lw.nil l5 (by repeat (first | exact Only.refl _ _ | refine Only.alloc ?_ _ | refine Only.drew ?_))) (by repeat (first | exact Only.refl _ _ | refine Only.alloc ?_ _ | refine Only.drew ?_))) (by repeat (first | exact alloc_at (by simp) | refine alloc_keep ?_ | refine only_keep l5.only ?_)) (by repeat (first | exact alloc_at (by simp) | refine alloc_keep ?_ | refine only_keep l5.only ?_)) (by repeat (first | exact alloc_at (by simp) | refine alloc_keep ?_ | refine only_keep l5.only ?_)) (by first | (simp; done) | (simp; omega) | omega) (by first | (simp; done) | (simp; omega) | omega) (by first | (simp; done) | (simp; omega) | omega) (by first | (simp; done) | (simp; omega) | omega) (by first | (simp; done) | (simp; omega) | omega)⟩⟩
        · skip
          go_simp
          refine hK9.out _ _ trivial (fun hHeld9 => ?_)
          clear hK9 K9
          try simp only [Act.put, List.setIfInBounds_toArray, List.set_cons_zero, List.set_cons_succ]
          refine wpAnyH_ready (rs := [3]) (by kernel_rfl) (by simp) ?_
          refine (AllReadyH.cons rfl (fun K14 hK14 => ?_) AllReadyH.nil)
          · skip
            go_simp
            refine hK14.out _ _ trivial (fun hHeld14 => ?_)
            clear hK14 K14
            try simp only [Act.put, List.setIfInBounds_toArray, List.set_cons_zero, List.set_cons_succ]
            refine wpAnyH_ready (rs := [5]) (by kernel_rfl) (by simp) ?_
            refine AllReadyH.cons rfl (fun K15 hK15 => ?_) AllReadyH.nil
            go_simp
            refine hK15.out _ _ trivial (fun hHeld15 => ?_)
            clear hK15 K15
            try simp only [Act.put, List.setIfInBounds_toArray, List.set_cons_zero, List.set_cons_succ]
            refine wpAnyH_ready (rs := [6]) (by kernel_rfl) (by simp) ?_
            refine AllReadyH.cons rfl (fun K16 hK16 => ?_) AllReadyH.nil
            go_simp
            refine hK16.out _ _ trivial (fun hHeld16 => ?_)
            clear hK16 K16
            try simp only [Act.put, List.setIfInBounds_toArray, List.set_cons_zero, List.set_cons_succ]
            refine wpAnyH_ready (rs := [7]) (by kernel_rfl) (by simp) ?_
            refine AllReadyH.cons rfl (fun K17 hK17 => ?_) AllReadyH.nil
            go_simp
            refine hK17.out _ _ trivial (fun hHeld17 => ?_)
            clear hK17 K17
            try simp only [Act.put, List.setIfInBounds_toArray, List.set_cons_zero, List.set_cons_succ]
            refine wpAnyH_done (by kernel_rfl) ?_ _
            go_wp2_with fail
            go_meet
            have z1 := l5.only.size
            have z2 := l5.rng.mem.lt_hb
            have z3 := l5.rng.ring.lt
            simp at z1
            exact ⟨_, rfl, Lib.hid ⟨rg, _, _, _, _, fresh_crowd (w1 := w) hc'.out hc2'.out (alloc_at (by simp)) (Lw.from (Lw.nil l5 (by repeat (first | exact Only.refl _ _ | refine Only.alloc ?_ _ | refine Only.drew ?_))) (by repeat (first | exact Only.refl _ _ | refine Only.alloc ?_ _ | refine Only.drew ?_))) (by repeat (first | exact alloc_at (by simp) | refine alloc_keep ?_ | refine only_keep l5.only ?_)) (by repeat (first | exact alloc_at (by simp) | refine alloc_keep ?_ | refine only_keep l5.only ?_)) (by repeat (first | exact alloc_at (by simp) | refine alloc_keep ?_ | refine only_keep l5.only ?_)) (by first | (simp; done) | (simp; omega) | omega) (by first | (simp; done) | (simp; omega) | omega) (by first | (simp; done) | (simp; omega) | omega) (by first | (simp; done) | (simp; omega) | omega) (by first | (simp; done) | (simp; omega) | omega)⟩⟩
      · skip
        go_simp
        refine hK6.out _ _ trivial (fun hHeld6 => ?_)
        clear hK6 K6
        try simp only [Act.put, List.setIfInBounds_toArray, List.set_cons_zero, List.set_cons_succ]
        refine wpAnyH_ready (rs := [2, 4]) (by kernel_rfl) (by simp) ?_
        refine (AllReadyH.cons rfl (fun K18 hK18 => ?_) (AllReadyH.cons rfl (fun K19 hK19 => ?_) AllReadyH.nil))
        · skip
          go_simp
          refine hK18.out _ _ trivial (fun hHeld18 => ?_)
          clear hK18 K18
          try simp only [Act.put, List.setIfInBounds_toArray, List.set_cons_zero, List.set_cons_succ]
          refine wpAnyH_ready (rs := [4]) (by kernel_rfl) (by simp) ?_
          refine (AllReadyH.cons rfl (fun K20 hK20 => ?_) AllReadyH.nil)
          · skip
            go_simp
            refine hK20.out _ _ trivial (fun hHeld20 => ?_)
            clear hK20 K20
            try simp only [Act.put, List.setIfInBounds_toArray, List.set_cons_zero, List.set_cons_succ]
            refine wpAnyH_ready (rs := [5]) (by kernel_rfl) (by simp) ?_
            refine AllReadyH.cons rfl (fun K21 hK21 => ?_) AllReadyH.nil
            go_simp
            refine hK21.out _ _ trivial (fun hHeld21 => ?_)
            clear hK21 K21
            try simp only [Act.put, List.setIfInBounds_toArray, List.set_cons_zero, List.set_cons_succ]
            refine wpAnyH_ready (rs := [6]) (by kernel_rfl) (by simp) ?_
            refine AllReadyH.cons rfl (fun K22 hK22 => ?_) AllReadyH.nil
            go_simp
            refine hK22.out _ _ trivial (fun hHeld22 => ?_)
            clear hK22 K22
            try simp only [Act.put, List.setIfInBounds_toArray, List.set_cons_zero, List.set_cons_succ]
            refine wpAnyH_ready (rs := [7]) (by kernel_rfl) (by simp) ?_
            refine AllReadyH.cons rfl (fun K23 hK23 => ?_) AllReadyH.nil
            go_simp
            refine hK23.out _ _ trivial (fun hHeld23 => ?_)
            clear hK23 K23
            try simp only [Act.put, List.setIfInBounds_toArray, List.set_cons_zero, List.set_cons_succ]
            refine wpAnyH_done (by kernel_rfl) ?_ _
            go_wp2_with fail
            go_meet
            have z1 := l5.only.size
            have z2 := l5.rng.mem.lt_hb
            have z3 := l5.rng.ring.lt
            simp at z1
            exact ⟨_, rfl, Lib.hid ⟨rg, _, _, _, _, fresh_crowd (w1 := w) hc'.out hc2'.out (alloc_at (by simp)) (Lw.from (Lw.nil l5 (by repeat (first | exact Only.refl _ _ | refine Only.alloc ?_ _ | refine Only.drew ?_))) (by repeat (first | exact Only.refl _ _ | refine Only.alloc ?_ _ | refine Only.drew ?_))) (by repeat (first | exact alloc_at (by simp) | refine alloc_keep ?_ | refine only_keep l5.only ?_)) (by repeat (first | exact alloc_at (by simp) | refine alloc_keep ?_ | refine only_keep l5.only ?_)) (by repeat (first | exact alloc_at (by simp) | refine alloc_keep ?_ | refine only_keep l5.only ?_)) (by first | (simp; done) | (simp; omega) | omega) (by first | (simp; done) | (simp; omega) | omega) (by first | (simp; done) | (simp; omega) | omega) (by first | (simp; done) | (simp; omega) | omega) (by first | (simp; done) | (simp; omega) | omega)⟩⟩
        · skip
          go_simp
          refine hK19.out _ _ trivial (fun hHeld19 => ?_)
          clear hK19 K19
          try simp only [Act.put, List.setIfInBounds_toArray, List.set_cons_zero, List.set_cons_succ]
          refine wpAnyH_ready (rs := [2]) (by kernel_rfl) (by simp) ?_
          refine (AllReadyH.cons rfl (fun K24 hK24 => ?_) AllReadyH.nil)
          · skip
            go_simp
            refine hK24.out _ _ trivial (fun hHeld24 => ?_)
            clear hK24 K24
            try simp only [Act.put, List.setIfInBounds_toArray, List.set_cons_zero, List.set_cons_succ]
            refine wpAnyH_ready (rs := [5]) (by kernel_rfl) (by simp) ?_
            refine AllReadyH.cons rfl (fun K25 hK25 => ?_) AllReadyH.nil
            go_simp
            refine hK25.out _ _ trivial (fun hHeld25 => ?_)
            clear hK25 K25
            try simp only [Act.put, List.setIfInBounds_toArray, List.set_cons_zero, List.set_cons_succ]
            refine wpAnyH_ready (rs := [6]) (by kernel_rfl) (by simp) ?_
            refine AllReadyH.cons rfl (fun K26 hK26 => ?_) AllReadyH.nil
            go_simp
            refine hK26.out _ _ trivial (fun hHeld26 => ?_)
            clear hK26 K26
            try simp only [Act.put, List.setIfInBounds_toArray, List.set_cons_zero, List.set_cons_succ]
            refine wpAnyH_ready (rs := [7]) (by kernel_rfl) (by simp) ?_
            refine AllReadyH.cons rfl (fun K27 hK27 => ?_) AllReadyH.nil
            go_simp
            refine hK27.out _ _ trivial (fun hHeld27 => ?_)
            clear hK27 K27
            try simp only [Act.put, List.setIfInBounds_toArray, List.set_cons_zero, List.set_cons_succ]
            refine wpAnyH_done (by kernel_rfl) ?_ _
            go_wp2_with fail
            go_meet
            have z1 := l5.only.size
            have z2 := l5.rng.mem.lt_hb
            have z3 := l5.rng.ring.lt
            simp at z1
            exact ⟨_, rfl, Lib.hid ⟨rg, _, _, _, _, fresh_crowd (w1 := w) hc'.out hc2'.out (alloc_at (by simp)) (Lw.from (Lw.nil l5 (by repeat (first | exact Only.refl _ _ | refine Only.alloc ?_ _ | refine Only.drew ?_))) (by repeat (first | exact Only.refl _ _ | refine Only.alloc ?_ _ | refine Only.drew ?_))) (by repeat (first | exact alloc_at (by simp) | refine alloc_keep ?_ | refine only_keep l5.only ?_)) (by repeat (first | exact alloc_at (by simp) | refine alloc_keep ?_ | refine only_keep l5.only ?_)) (by repeat (first | exact alloc_at (by simp) | refine alloc_keep ?_ | refine only_keep l5.only ?_)) (by first | (simp; done) | (simp; omega) | omega) (by first | (simp; done) | (simp; omega) | omega) (by first | (simp; done) | (simp; omega) | omega) (by first | (simp; done) | (simp; omega) | omega) (by first | (simp; done) | (simp; omega) | omega)⟩⟩
      · skip
        go_simp
        refine hK7.out _ _ trivial (fun hHeld7 => ?_)
        clear hK7 K7
        try simp only [Act.put, List.setIfInBounds_toArray, List.set_cons_zero, List.set_cons_succ]
        refine wpAnyH_ready (rs := [2, 3]) (by kernel_rfl) (by simp) ?_
        refine (AllReadyH.cons rfl (fun K28 hK28 => ?_) (AllReadyH.cons rfl (fun K29 hK29 => ?_) AllReadyH.nil))
        · skip
          go_simp
          refine hK28.out _ _ trivial (fun hHeld28 => ?_)
          clear hK28 K28
          try simp only [Act.put, List.setIfInBounds_toArray, List.set_cons_zero, List.set_cons_succ]
          refine wpAnyH_ready (rs := [3]) (by kernel_rfl) (by simp) ?_
          refine (AllReadyH.cons rfl (fun K30 hK30 => ?_) AllReadyH.nil)
          · skip
            go_simp
            refine hK30.out _ _ trivial (fun hHeld30 => ?_)
            clear hK30 K30
            try simp only [Act.put, List.setIfInBounds_toArray, List.set_cons_zero, List.set_cons_succ]
            refine wpAnyH_ready (rs := [5]) (by kernel_rfl) (by simp) ?_
            refine AllReadyH.cons rfl (fun K31 hK31 => ?_) AllReadyH.nil
            go_simp
            refine hK31.out _ _ trivial (fun hHeld31 => ?_)
            clear hK31 K31
            try simp only [Act.put, List.setIfInBounds_toArray, List.set_cons_zero, List.set_cons_succ]
            refine wpAnyH_ready (rs := [6]) (by kernel_rfl) (by simp) ?_
            refine AllReadyH.cons rfl (fun K32 hK32 => ?_) AllReadyH.nil
            go_simp
            refine hK32.out _ _ trivial (fun hHeld32 => ?_)
            clear hK32 K32
            try simp only [Act.put, List.setIfInBounds_toArray, List.set_cons_zero, List.set_cons_succ]
            refine wpAnyH_ready (rs := [7]) (by kernel_rfl) (by simp) ?_
            refine AllReadyH.cons rfl (fun K33 hK33 => ?_) AllReadyH.nil
            go_simp
            refine hK33.out _ _ trivial (fun hHeld33 => ?_)
            clear hK33 K33
            try simp only [Act.put, List.setIfInBounds_toArray, List.set_cons_zero, List.set_cons_succ]
            refine wpAnyH_done (by kernel_rfl) ?_ _
            go_wp2_with fail
            go_meet
            have z1 := l5.only.size
            have z2 := l5.rng.mem.lt_hb
            have z3 := l5.rng.ring.lt
            simp at z1
            exact ⟨_, rfl, Lib.hid ⟨rg, _, _, _, _, fresh_crowd (w1 := w) hc'.out hc2'.out (alloc_at (by simp)) (Lw.from (Lw.nil l5 (by repeat (first | exact Only.refl _ _ | refine Only.alloc ?_ _ | refine Only.drew ?_))) (by repeat (first | exact Only.refl _ _ | refine Only.alloc ?_ _ | refine Only.drew ?_))) (by repeat (first | exact alloc_at (by simp) | refine alloc_keep ?_ | refine only_keep l5.only ?_)) (by repeat (first | exact alloc_at (by simp) | refine alloc_keep ?_ | refine only_keep l5.only ?_)) (by repeat (first | exact alloc_at (by simp) | refine alloc_keep ?_ | refine only_keep l5.only ?_)) (by first | (simp; done) | (simp; omega) | omega) (by first | (simp; done) | (simp; omega) | omega) (by first | (simp; done) | (simp; omega) | omega) (by first | (simp; done) | (simp; omega) | omega) (by first | (simp; done) | (simp; omega) | omega)⟩⟩
        · skip
          go_simp
          refine hK29.out _ _ trivial (fun hHeld29 => ?_)
          clear hK29 K29
          try simp only [Act.put, List.setIfInBounds_toArray, List.set_cons_zero, List.set_cons_succ]
          refine wpAnyH_ready (rs := [2]) (by kernel_rfl) (by simp) ?_
          refine (AllReadyH.cons rfl (fun K34 hK34 => ?_) AllReadyH.nil)
          · skip
            go_simp
            refine hK34.out _ _ trivial (fun hHeld34 => ?_)
            clear hK34 K34
            try simp only [Act.put, List.setIfInBounds_toArray, List.set_cons_zero, List.set_cons_succ]
            refine wpAnyH_ready (rs := [5]) (by kernel_rfl) (by simp) ?_
            refine AllReadyH.cons rfl (fun K35 hK35 => ?_) AllReadyH.nil
            go_simp
            refine hK35.out _ _ trivial (fun hHeld35 => ?_)
            clear hK35 K35
            try simp only [Act.put, List.setIfInBounds_toArray, List.set_cons_zero, List.set_cons_succ]
            refine wpAnyH_ready (rs := [6]) (by kernel_rfl) (by simp) ?_
            refine AllReadyH.cons rfl (fun K36 hK36 => ?_) AllReadyH.nil
            go_simp
            refine hK36.out _ _ trivial (fun hHeld36 => ?_)
            clear hK36 K36
            try simp only [Act.put, List.setIfInBounds_toArray, List.set_cons_zero, List.set_cons_succ]
            refine wpAnyH_ready (rs := [7]) (by kernel_rfl) (by simp) ?_
            refine AllReadyH.cons rfl (fun K37 hK37 => ?_) AllReadyH.nil
            go_simp
            refine hK37.out _ _ trivial (fun hHeld37 => ?_)
            clear hK37 K37
            try simp only [Act.put, List.setIfInBounds_toArray, List.set_cons_zero, List.set_cons_succ]
            refine wpAnyH_done (by kernel_rfl) ?_ _
            go_wp2_with fail
            go_meet
            have z1 := l5.only.size
            have z2 := l5.rng.mem.lt_hb
            have z3 := l5.rng.ring.lt
            simp at z1
            exact ⟨_, rfl, Lib.hid ⟨rg, _, _, _, _, fresh_crowd (w1 := w) hc'.out hc2'.out (alloc_at (by simp)) (Lw.from (Lw.nil l5 (by repeat (first | exact Only.refl _ _ | refine Only.alloc ?_ _ | refine Only.drew ?_))) (by repeat (first | exact Only.refl _ _ | refine Only.alloc ?_ _ | refine Only.drew ?_))) (by repeat (first | exact alloc_at (by simp) | refine alloc_keep ?_ | refine only_keep l5.only ?_)) (by repeat (first | exact alloc_at (by simp) | refine alloc_keep ?_ | refine only_keep l5.only ?_)) (by repeat (first | exact alloc_at (by simp) | refine alloc_keep ?_ | refine only_keep l5.only ?_)) (by first | (simp; done) | (simp; omega) | omega) (by first | (simp; done) | (simp; omega) | omega) (by first | (simp; done) | (simp; omega) | omega) (by first | (simp; done) | (simp; omega) | omega) (by first | (simp; done) | (simp; omega) | omega)⟩⟩
    · skip
      go_simp
      refine hK2.out _ _ trivial (fun hHeld2 => ?_)
      clear hK2 K2
      try simp only [Act.put, List.setIfInBounds_toArray, List.set_cons_zero, List.set_cons_succ]
      refine wpAnyH_ready (rs := [1, 3, 4]) (by kernel_rfl) (by simp) ?_
      refine (AllReadyH.cons rfl (fun K38 hK38 => ?_) (AllReadyH.cons rfl (fun K39 hK39 => ?_) (AllReadyH.cons rfl (fun K40 hK40 => ?_) AllReadyH.nil)))
      · skip
        (go_simp; go_at_call 30; refine (md.out _).mono ?_; rintro e w5 ⟨rg, rfl, l5⟩; go_wp2_with fail)
        refine hK38.out _ _ trivial (fun hHeld38 => ?_)
        clear hK38 K38
        try simp only [Act.put, List.setIfInBounds_toArray, List.set_cons_zero, List.set_cons_succ]
        refine wpAnyH_ready (rs := [3, 4]) (by kernel_rfl) (by simp) ?_
        refine (AllReadyH.cons rfl (fun K41 hK41 => ?_) (AllReadyH.cons rfl (fun K42 hK42 => ?_) AllReadyH.nil))
        · skip
          go_simp
          refine hK41.out _ _ trivial (fun hHeld41 => ?_)
          clear hK41 K41
          try simp only [Act.put, List.setIfInBounds_toArray, List.set_cons_zero, List.set_cons_succ]
          refine wpAnyH_ready (rs := [4]) (by kernel_rfl) (by simp) ?_
          refine (AllReadyH.cons rfl (fun K43 hK43 => ?_) AllReadyH.nil)
          · skip
            go_simp
            refine hK43.out _ _ trivial (fun hHeld43 => ?_)
            clear hK43 K43
            try simp only [Act.put, List.setIfInBounds_toArray, List.set_cons_zero, List.set_cons_succ]
            refine wpAnyH_ready (rs := [5]) (by kernel_rfl) (by simp) ?_
            refine AllReadyH.cons rfl (fun K44 hK44 => ?_) AllReadyH.nil
            go_simp
            refine hK44.out _ _ trivial (fun hHeld44 => ?_)
            clear hK44 K44
            try simp only [Act.put, List.setIfInBounds_toArray, List.set_cons_zero, List.set_cons_succ]
            refine wpAnyH_ready (rs := [6]) (by kernel_rfl) (by simp) ?_
            refine AllReadyH.cons rfl (fun K45 hK45 => ?_) AllReadyH.nil
            go_simp
            refine hK45.out _ _ trivial (fun hHeld45 => ?_)
            clear hK45 K45
            try simp only [Act.put, List.setIfInBounds_toArray, List.set_cons_zero, List.set_cons_succ]
            refine wpAnyH_ready (rs := [7]) (by kernel_rfl) (by simp) ?_
            refine AllReadyH.cons rfl (fun K46 hK46 => ?_) AllReadyH.nil
            go_simp
            refine hK46.out _ _ trivial (fun hHeld46 => ?_)
            clear hK46 K46
            try simp only [Act.put, List.setIfInBounds_toArray, List.set_cons_zero, List.set_cons_succ]
            refine wpAnyH_done (by kernel_rfl) ?_ _
            go_wp2_with fail
            go_meet
            have z1 := l5.only.size
            have z2 := l5.rng.mem.lt_hb
            have z3 := l5.rng.ring.lt
            simp at z1
            exact ⟨_, rfl, Lib.hid ⟨rg, _, _, _, _, fresh_crowd (w1 := w) hc'.out hc2'.out (alloc_at (by simp)) (Lw.from (Lw.nil l5 (by repeat (first | exact Only.refl _ _ | refine Only.alloc ?_ _ | refine Only.drew ?_))) (by repeat (first | exact Only.refl _ _ | refine Only.alloc ?_ _ | refine Only.drew ?_))) (by repeat (first | exact alloc_at (by simp) | refine alloc_keep ?_ | refine only_keep l5.only ?_)) (by repeat (first | exact alloc_at (by simp) | refine alloc_keep ?_ | refine only_keep l5.only ?_)) (by repeat (first | exact alloc_at (by simp) | refine alloc_keep ?_ | refine only_keep l5.only ?_)) (by first | (simp; done) | (simp; omega) | omega) (by first | (simp; done) | (simp; omega) | omega) (by first | (simp; done) | (simp; omega) | omega) (by first | (simp; done) | (simp; omega) | omega) (by first | (simp; done) | (simp; omega) | omega)⟩⟩
        · skip
          go_simp
          refine hK42.out _ _ trivial (fun hHeld42 => ?_)
          clear hK42 K42
          try simp only [Act.put, List.setIfInBounds_toArray, List.set_cons_zero, List.set_cons_succ]
          refine wpAnyH_ready (rs := [3]) (by kernel_rfl) (by simp) ?_
          refine (AllReadyH.cons rfl (fun K47 hK47 => ?_) AllReadyH.nil)
          · skip
            go_simp
            refine hK47.out _ _ trivial (fun hHeld47 => ?_)
            clear hK47 K47
            try simp only [Act.put, List.setIfInBounds_toArray, List.set_cons_zero, List.set_cons_succ]
            refine wpAnyH_ready (rs := [5]) (by kernel_rfl) (by simp) ?_
            refine AllReadyH.cons rfl (fun K48 hK48 => ?_) AllReadyH.nil
            go_simp
            refine hK48.out _ _ trivial (fun hHeld48 => ?_)
            clear hK48 K48
            try simp only [Act.put, List.setIfInBounds_toArray, List.set_cons_zero, List.set_cons_succ]
            refine wpAnyH_ready (rs := [6]) (by kernel_rfl) (by simp) ?_
            refine AllReadyH.cons rfl (fun K49 hK49 => ?_) AllReadyH.nil
            go_simp
            refine hK49.out _ _ trivial (fun hHeld49 => ?_)
            clear hK49 K49
            try simp only [Act.put, List.setIfInBounds_toArray, List.set_cons_zero, List.set_cons_succ]
            refine wpAnyH_ready (rs := [7]) (by kernel_rfl) (by simp) ?_
            refine AllReadyH.cons rfl (fun K50 hK50 => ?_) AllReadyH.nil
            go_simp
            refine hK50.out _ _ trivial (fun hHeld50 => ?_)
            clear hK50 K50
            try simp only [Act.put, List.setIfInBounds_toArray, List.set_cons_zero, List.set_cons_succ]
            refine wpAnyH_done (by kernel_rfl) ?_ _
            go_wp2_with fail
            go_meet
            have z1 := l5.only.size
            have z2 := l5.rng.mem.lt_hb
            have z3 := l5.rng.ring.lt
            simp at z1
            exact ⟨_, rfl, Lib.hid ⟨rg, _, _, _, _, fresh_crowd (w1 := w) hc'.out hc2'.out (alloc_at (by simp)) (Lw.from (Lw.nil l5 (by repeat (first | exact Only.refl _ _ | refine Only.alloc ?_ _ | refine Only.drew ?_))) (by repeat (first | exact Only.refl _ _ | refine Only.alloc ?_ _ | refine Only.drew ?_))) (by repeat (first | exact alloc_at (by simp) | refine alloc_keep ?_ | refine only_keep l5.only ?_)) (by repeat (first | exact alloc_at (by simp) | refine alloc_keep ?_ | refine only_keep l5.only ?_)) (by repeat (first | exact alloc_at (by simp) | refine alloc_keep ?_ | refine only_keep l5.only ?_)) (by first | (simp; done) | (simp; omega) | omega) (by first | (simp; done) | (simp; omega) | omega) (by first | (simp; done) | (simp; omega) | omega) (by first | (simp; done) | (simp; omega) | omega) (by first | (simp; done) | (simp; omega) | omega)⟩⟩
      · skip
        go_simp
        refine hK39.out _ _ trivial (fun hHeld39 => ?_)
        clear hK39 K39
        try simp only [Act.put, List.setIfInBounds_toArray, List.set_cons_zero, List.set_cons_succ]
        refine wpAnyH_ready (rs := [1, 4]) (by kernel_rfl) (by simp) ?_
        refine (AllReadyH.cons rfl (fun K51 hK51 => ?_) (AllReadyH.cons rfl (fun K52 hK52 => ?_) AllReadyH.nil))
        · skip
          (go_simp; go_at_call 30; refine (md.out _).mono ?_; rintro e w5 ⟨rg, rfl, l5⟩; go_wp2_with fail)
          refine hK51.out _ _ trivial (fun hHeld51 => ?_)
          clear hK51 K51
          try simp only [Act.put, List.setIfInBounds_toArray, List.set_cons_zero, List.set_cons_succ]
          refine wpAnyH_ready (rs := [4]) (by kernel_rfl) (by simp) ?_
          refine (AllReadyH.cons rfl (fun K53 hK53 => ?_) AllReadyH.nil)
          · skip
            go_simp
            refine hK53.out _ _ trivial (fun hHeld53 => ?_)
            clear hK53 K53
            try simp only [Act.put, List.setIfInBounds_toArray, List.set_cons_zero, List.set_cons_succ]
            refine wpAnyH_ready (rs := [5]) (by kernel_rfl) (by simp) ?_
            refine AllReadyH.cons rfl (fun K54 hK54 => ?_) AllReadyH.nil
            go_simp
            refine hK54.out _ _ trivial (fun hHeld54 => ?_)
            clear hK54 K54
            try simp only [Act.put, List.setIfInBounds_toArray, List.set_cons_zero, List.set_cons_succ]
            refine wpAnyH_ready (rs := [6]) (by kernel_rfl) (by simp) ?_
            refine AllReadyH.cons rfl (fun K55 hK55 => ?_) AllReadyH.nil
            go_simp
            refine hK55.out _ _ trivial (fun hHeld55 => ?_)
            clear hK55 K55
            try simp only [Act.put, List.setIfInBounds_toArray, List.set_cons_zero, List.set_cons_succ]
            refine wpAnyH_ready (rs := [7]) (by kernel_rfl) (by simp) ?_
            refine AllReadyH.cons rfl (fun K56 hK56 => ?_) AllReadyH.nil
            go_simp
            refine hK56.out _ _ trivial (fun hHeld56 => ?_)
            clear hK56 K56
            try simp only [Act.put, List.setIfInBounds_toArray, List.set_cons_zero, List.set_cons_succ]
            refine wpAnyH_done (by kernel_rfl) ?_ _
            go_wp2_with fail
            go_meet
            have z1 := l5.only.size
            have z2 := l5.rng.mem.lt_hb
            have z3 := l5.rng.ring.lt
            simp at z1
            exact ⟨_, rfl, Lib.hid ⟨rg, _, _, _, _, fresh_crowd (w1 := w) hc'.out hc2'.out (alloc_at (by simp)) (Lw.from (Lw.nil l5 (by repeat (first | exact Only.refl _ _ | refine Only.alloc ?_ _ | refine Only.drew ?_))) (by repeat (first | exact Only.refl _ _ | refine Only.alloc ?_ _ | refine Only.drew ?_))) (by repeat (first | exact alloc_at (by simp) | refine alloc_keep ?_ | refine only_keep l5.only ?_)) (by repeat (first | exact alloc_at (by simp) | refine alloc_keep ?_ | refine only_keep l5.only ?_)) (by repeat (first | exact alloc_at (by simp) | refine alloc_keep ?_ | refine only_keep l5.only ?_)) (by first | (simp; done) | (simp; omega) | omega) (by first | (simp; done) | (simp; omega) | omega) (by first | (simp; done) | (simp; omega) | omega) (by first | (simp; done) | (simp; omega) | omega) (by first | (simp; done) | (simp; omega) | omega)⟩⟩
        · skip
          go_simp
          refine hK52.out _ _ trivial (fun hHeld52 => ?_)
          clear hK52 K52
          try simp only [Act.put, List.setIfInBounds_toArray, List.set_cons_zero, List.set_cons_succ]
          refine wpAnyH_ready (rs := [1]) (by kernel_rfl) (by simp) ?_
          refine (AllReadyH.cons rfl (fun K57 hK57 => ?_) AllReadyH.nil)
          · skip
            (go_simp; go_at_call 30; refine (md.out _).mono ?_; rintro e w5 ⟨rg, rfl, l5⟩; go_wp2_with fail)
            refine hK57.out _ _ trivial (fun hHeld57 => ?_)
            clear hK57 K57
            try simp only [Act.put, List.setIfInBounds_toArray, List.set_cons_zero, List.set_cons_succ]
            refine wpAnyH_ready (rs := [5]) (by kernel_rfl) (by simp) ?_
            refine AllReadyH.cons rfl (fun K58 hK58 => ?_) AllReadyH.nil
            go_simp
            refine hK58.out _ _ trivial (fun hHeld58 => ?_)
            clear hK58 K58
            try simp only [Act.put, List.setIfInBounds_toArray, List.set_cons_zero, List.set_cons_succ]
            refine wpAnyH_ready (rs := [6]) (by kernel_rfl) (by simp) ?_
            refine AllReadyH.cons rfl (fun K59 hK59 => ?_) AllReadyH.nil
            go_simp
            refine hK59.out _ _ trivial (fun hHeld59 => ?_)
            clear hK59 K59
            try simp only [Act.put, List.setIfInBounds_toArray, List.set_cons_zero, List.set_cons_succ]
            refine wpAnyH_ready (rs := [7]) (by kernel_rfl) (by simp) ?_
            refine AllReadyH.cons rfl (fun K60 hK60 => ?_) AllReadyH.nil
            go_simp
            refine hK60.out _ _ trivial (fun hHeld60 => ?_)
            clear hK60 K60
            try simp only [Act.put, List.setIfInBounds_toArray, List.set_cons_zero, List.set_cons_succ]
            refine wpAnyH_done (by kernel_rfl) ?_ _
            go_wp2_with fail
            go_meet
            have z1 := l5.only.size
            have z2 := l5.rng.mem.lt_hb
            have z3 := l5.rng.ring.lt
            simp at z1
            exact ⟨_, rfl, Lib.hid ⟨rg, _, _, _, _, fresh_crowd (w1 := w) hc'.out hc2'.out (alloc_at (by simp)) (Lw.from (Lw.nil l5 (by repeat (first | exact Only.refl _ _ | refine Only.alloc ?_ _ | refine Only.drew ?_))) (by repeat (first | exact Only.refl _ _ | refine Only.alloc ?_ _ | refine Only.drew ?_))) (by repeat (first | exact alloc_at (by simp) | refine alloc_keep ?_ | refine only_keep l5.only ?_)) (by repeat (first | exact alloc_at (by simp) | refine alloc_keep ?_ | refine only_keep l5.only ?_)) (by repeat (first | exact alloc_at (by simp) | refine alloc_keep ?_ | refine only_keep l5.only ?_)) (by first | (simp; done) | (simp; omega) | omega) (by first | (simp; done) | (simp; omega) | omega) (by first | (simp; done) | (simp; omega) | omega) (by first | (simp; done) | (simp; omega) | omega) (by first | (simp; done) | (simp; omega) | omega)⟩⟩
      · skip
        go_simp
        refine hK40.out _ _ trivial (fun hHeld40 => ?_)
        clear hK40 K40
        try simp only [Act.put, List.setIfInBounds_toArray, List.set_cons_zero, List.set_cons_succ]
        refine wpAnyH_ready (rs := [1, 3]) (by kernel_rfl) (by simp) ?_
        refine (AllReadyH.cons rfl (fun K61 hK61 => ?_) (AllReadyH.cons rfl (fun K62 hK62 => ?_) AllReadyH.nil))
        · skip
          (go_simp; go_at_call 30; refine (md.out _).mono ?_; rintro e w5 ⟨rg, rfl, l5⟩; go_wp2_with fail)
          refine hK61.out _ _ trivial (fun hHeld61 => ?_)
          clear hK61 K61
          try simp only [Act.put, List.setIfInBounds_toArray, List.set_cons_zero, List.set_cons_succ]
          refine wpAnyH_ready (rs := [3]) (by kernel_rfl) (by simp) ?_
          refine (AllReadyH.cons rfl (fun K63 hK63 => ?_) AllReadyH.nil)
          · skip
            go_simp
            refine hK63.out _ _ trivial (fun hHeld63 => ?_)
            clear hK63 K63
            try simp only [Act.put, List.setIfInBounds_toArray, List.set_cons_zero, List.set_cons_succ]
            refine wpAnyH_ready (rs := [5]) (by kernel_rfl) (by simp) ?_
            refine AllReadyH.cons rfl (fun K64 hK64 => ?_) AllReadyH.nil
            go_simp
            refine hK64.out _ _ trivial (fun hHeld64 => ?_)
            clear hK64 K64
            try simp only [Act.put, List.setIfInBounds_toArray, List.set_cons_zero, List.set_cons_succ]
            refine wpAnyH_ready (rs := [6]) (by kernel_rfl) (by simp) ?_
            refine AllReadyH.cons rfl (fun K65 hK65 => ?_) AllReadyH.nil
            go_simp
            refine hK65.out _ _ trivial (fun hHeld65 => ?_)
            clear hK65 K65
            try simp only [Act.put, List.setIfInBounds_toArray, List.set_cons_zero, List.set_cons_succ]
            refine wpAnyH_ready (rs := [7]) (by kernel_rfl) (by simp) ?_
            refine AllReadyH.cons rfl (fun K66 hK66 => ?_) AllReadyH.nil
            go_simp
            refine hK66.out _ _ trivial (fun hHeld66 => ?_)
            clear hK66 K66
            try simp only [Act.put, List.setIfInBounds_toArray, List.set_cons_zero, List.set_cons_succ]
            refine wpAnyH_done (by kernel_rfl) ?_ _
            go_wp2_with fail
            go_meet
            have z1 := l5.only.size
            have z2 := l5.rng.mem.lt_hb
            have z3 := l5.rng.ring.lt
            simp at z1
            exact ⟨_, rfl, Lib.hid ⟨rg, _, _, _, _, fresh_crowd (w1 := w) hc'.out hc2'.out (alloc_at (by simp)) (Lw.from (Lw.nil l5 (by repeat (first | exact Only.refl _ _ | refine Only.alloc ?_ _ | refine Only.drew ?_))) (by repeat (first | exact Only.refl _ _ | refine Only.alloc ?_ _ | refine Only.drew ?_))) (by repeat (first | exact alloc_at (by simp) | refine alloc_keep ?_ | refine only_keep l5.only ?_)) (by repeat (first | exact alloc_at (by simp) | refine alloc_keep ?_ | refine only_keep l5.only ?_)) (by repeat (first | exact alloc_at (by simp) | refine alloc_keep ?_ | refine only_keep l5.only ?_)) (by first | (simp; done) | (simp; omega) | omega) (by first | (simp; done) | (simp; omega) | omega) (by first | (simp; done) | (simp; omega) | omega) (by first | (simp; done) | (simp; omega) | omega) (by first | (simp; done) | (simp; omega) | omega)⟩⟩
        · skip
          go_simp
          refine hK62.out _ _ trivial (fun hHeld62 => ?_)
          clear hK62 K62
          try simp only [Act.put, List.setIfInBounds_toArray, List.set_cons_zero, List.set_cons_succ]
          refine wpAnyH_ready (rs := [1]) (by kernel_rfl) (by simp) ?_
          refine (AllReadyH.cons rfl (fun K67 hK67 => ?_) AllReadyH.nil)
          · skip
            (go_simp; go_at_call 30; refine (md.out _).mono ?_; rintro e w5 ⟨rg, rfl, l5⟩; go_wp2_with fail)
            refine hK67.out _ _ trivial (fun hHeld67 => ?_)
            clear hK67 K67
            try simp only [Act.put, List.setIfInBounds_toArray, List.set_cons_zero, List.set_cons_succ]
            refine wpAnyH_ready (rs := [5]) (by kernel_rfl) (by simp) ?_
            refine AllReadyH.cons rfl (fun K68 hK68 => ?_) AllReadyH.nil
            go_simp
            refine hK68.out _ _ trivial (fun hHeld68 => ?_)
            clear hK68 K68
            try simp only [Act.put, List.setIfInBounds_toArray, List.set_cons_zero, List.set_cons_succ]
            refine wpAnyH_ready (rs := [6]) (by kernel_rfl) (by simp) ?_
            refine AllReadyH.cons rfl (fun K69 hK69 => ?_) AllReadyH.nil
            go_simp
            refine hK69.out _ _ trivial (fun hHeld69 => ?_)
            clear hK69 K69
            try simp only [Act.put, List.setIfInBounds_toArray, List.set_cons_zero, List.set_cons_succ]
            refine wpAnyH_ready (rs := [7]) (by kernel_rfl) (by simp) ?_
            refine AllReadyH.cons rfl (fun K70 hK70 => ?_) AllReadyH.nil
            go_simp
            refine hK70.out _ _ trivial (fun hHeld70 => ?_)
            clear hK70 K70
            try simp only [Act.put, List.setIfInBounds_toArray, List.set_cons_zero, List.set_cons_succ]
            refine wpAnyH_done (by kernel_rfl) ?_ _
            go_wp2_with fail
            go_meet
            have z1 := l5.only.size
            have z2 := l5.rng.mem.lt_hb
            have z3 := l5.rng.ring.lt
            simp at z1
            exact ⟨_, rfl, Lib.hid ⟨rg, _, _, _, _, fresh_crowd (w1 := w) hc'.out hc2'.out (alloc_at (by simp)) (Lw.from (Lw.nil l5 (by repeat (first | exact Only.refl _ _ | refine Only.alloc ?_ _ | refine Only.drew ?_))) (by repeat (first | exact Only.refl _ _ | refine Only.alloc ?_ _ | refine Only.drew ?_))) (by repeat (first | exact alloc_at (by simp) | refine alloc_keep ?_ | refine only_keep l5.only ?_)) (by repeat (first | exact alloc_at (by simp) | refine alloc_keep ?_ | refine only_keep l5.only ?_)) (by repeat (first | exact alloc_at (by simp) | refine alloc_keep ?_ | refine only_keep l5.only ?_)) (by first | (simp; done) | (simp; omega) | omega) (by first | (simp; done) | (simp; omega) | omega) (by first | (simp; done) | (simp; omega) | omega) (by first | (simp; done) | (simp; omega) | omega) (by first | (simp; done) | (simp; omega) | omega)⟩⟩
    · skip
      go_simp
      refine hK3.out _ _ trivial (fun hHeld3 => ?_)
      clear hK3 K3
      try simp only [Act.put, List.setIfInBounds_toArray, List.set_cons_zero, List.set_cons_succ]
      refine wpAnyH_ready (rs := [1, 2, 4]) (by kernel_rfl) (by simp) ?_
      refine (AllReadyH.cons rfl (fun K71 hK71 => ?_) (AllReadyH.cons rfl (fun K72 hK72 => ?_) (AllReadyH.cons rfl (fun K73 hK73 => ?_) AllReadyH.nil)))
      · skip
        (go_simp; go_at_call 30; refine (md.out _).mono ?_; rintro e w5 ⟨rg, rfl, l5⟩; go_wp2_with fail)
        refine hK71.out _ _ trivial (fun hHeld71 => ?_)
        clear hK71 K71
        try simp only [Act.put, List.setIfInBounds_toArray, List.set_cons_zero, List.set_cons_succ]
        refine wpAnyH_ready (rs := [2, 4]) (by kernel_rfl) (by simp) ?_
        refine (AllReadyH.cons rfl (fun K74 hK74 => ?_) (AllReadyH.cons rfl (fun K75 hK75 => ?_) AllReadyH.nil))
        · skip
          go_simp
          refine hK74.out _ _ trivial (fun hHeld74 => ?_)
          clear hK74 K74
          try simp only [Act.put, List.setIfInBounds_toArray, List.set_cons_zero, List.set_cons_succ]
          refine wpAnyH_ready (rs := [4]) (by kernel_rfl) (by simp) ?_
          refine (AllReadyH.cons rfl (fun K76 hK76 => ?_) AllReadyH.nil)
          · skip
            go_simp
            refine hK76.out _ _ trivial (fun hHeld76 => ?_)
            clear hK76 K76
            try simp only [Act.put, List.setIfInBounds_toArray, List.set_cons_zero, List.set_cons_succ]
            refine wpAnyH_ready (rs := [5]) (by kernel_rfl) (by simp) ?_
            refine AllReadyH.cons rfl (fun K77 hK77 => ?_) AllReadyH.nil
            go_simp
            refine hK77.out _ _ trivial (fun hHeld77 => ?_)
            clear hK77 K77
            try simp only [Act.put, List.setIfInBounds_toArray, List.set_cons_zero, List.set_cons_succ]
            refine wpAnyH_ready (rs := [6]) (by kernel_rfl) (by simp) ?_
            refine AllReadyH.cons rfl (fun K78 hK78 => ?_) AllReadyH.nil
            go_simp
            refine hK78.out _ _ trivial (fun hHeld78 => ?_)
            clear hK78 K78
            try simp only [Act.put, List.setIfInBounds_toArray, List.set_cons_zero, List.set_cons_succ]
            refine wpAnyH_ready (rs := [7]) (by kernel_rfl) (by simp) ?_
            refine AllReadyH.cons rfl (fun K79 hK79 => ?_) AllReadyH.nil
            go_simp
            refine hK79.out _ _ trivial (fun hHeld79 => ?_)
            clear hK79 K79
            try simp only [Act.put, List.setIfInBounds_toArray, List.set_cons_zero, List.set_cons_succ]
            refine wpAnyH_done (by kernel_rfl) ?_ _
            go_wp2_with fail
            go_meet
            have z1 := l5.only.size
            have z2 := l5.rng.mem.lt_hb
            have z3 := l5.rng.ring.lt
            simp at z1
            exact ⟨_, rfl, Lib.hid ⟨rg, _, _, _, _, fresh_crowd (w1 := w) hc'.out hc2'.out (alloc_at (by simp)) (Lw.from (Lw.nil l5 (by repeat (first | exact Only.refl _ _ | refine Only.alloc ?_ _ | refine Only.drew ?_))) (by repeat (first | exact Only.refl _ _ | refine Only.alloc ?_ _ | refine Only.drew ?_))) (by repeat (first | exact alloc_at (by simp) | refine alloc_keep ?_ | refine only_keep l5.only ?_)) (by repeat (first | exact alloc_at (by simp) | refine alloc_keep ?_ | refine only_keep l5.only ?_)) (by repeat (first | exact alloc_at (by simp) | refine alloc_keep ?_ | refine only_keep l5.only ?_)) (by first | (simp; done) | (simp; omega) | omega) (by first | (simp; done) | (simp; omega) | omega) (by first | (simp; done) | (simp; omega) | omega) (by first | (simp; done) | (simp; omega) | omega) (by first | (simp; done) | (simp; omega) | omega)⟩⟩
        · skip
          go_simp
          refine hK75.out _ _ trivial (fun hHeld75 => ?_)
          clear hK75 K75
          try simp only [Act.put, List.setIfInBounds_toArray, List.set_cons_zero, List.set_cons_succ]
          refine wpAnyH_ready (rs := [2]) (by kernel_rfl) (by simp) ?_
          refine (AllReadyH.cons rfl (fun K80 hK80 => ?_) AllReadyH.nil)
          · skip
            go_simp
            refine hK80.out _ _ trivial (fun hHeld80 => ?_)
            clear hK80 K80
            try simp only [Act.put, List.setIfInBounds_toArray, List.set_cons_zero, List.set_cons_succ]
            refine wpAnyH_ready (rs := [5]) (by kernel_rfl) (by simp) ?_
            refine AllReadyH.cons rfl (fun K81 hK81 => ?_) AllReadyH.nil
            go_simp
            refine hK81.out _ _ trivial (fun hHeld81 => ?_)
            clear hK81 K81
            try simp only [Act.put, List.setIfInBounds_toArray, List.set_cons_zero, List.set_cons_succ]
            refine wpAnyH_ready (rs := [6]) (by kernel_rfl) (by simp) ?_
            refine AllReadyH.cons rfl (fun K82 hK82 => ?_) AllReadyH.nil
            go_simp
            refine hK82.out _ _ trivial (fun hHeld82 => ?_)
            clear hK82 K82
            try simp only [Act.put, List.setIfInBounds_toArray, List.set_cons_zero, List.set_cons_succ]
            refine wpAnyH_ready (rs := [7]) (by kernel_rfl) (by simp) ?_
            refine AllReadyH.cons rfl (fun K83 hK83 => ?_) AllReadyH.nil
            go_simp
            refine hK83.out _ _ trivial (fun hHeld83 => ?_)
            clear hK83 K83
            try simp only [Act.put, List.setIfInBounds_toArray, List.set_cons_zero, List.set_cons_succ]
            refine wpAnyH_done (by kernel_rfl) ?_ _
            go_wp2_with fail
            go_meet
            have z1 := l5.only.size
            have z2 := l5.rng.mem.lt_hb
            have z3 := l5.rng.ring.lt
            simp at z1
            exact ⟨_, rfl, Lib.hid ⟨rg, _, _, _, _, fresh_crowd (w1 := w) hc'.out hc2'.out (alloc_at (by simp)) (Lw.from (Lw.nil l5 (by repeat (first | exact Only.refl _ _ | refine Only.alloc ?_ _ | refine Only.drew ?_))) (by repeat (first | exact Only.refl _ _ | refine Only.alloc ?_ _ | refine Only.drew ?_))) (by repeat (first | exact alloc_at (by simp) | refine alloc_keep ?_ | refine only_keep l5.only ?_)) (by repeat (first | exact alloc_at (by simp) | refine alloc_keep ?_ | refine only_keep l5.only ?_)) (by repeat (first | exact alloc_at (by simp) | refine alloc_keep ?_ | refine only_keep l5.only ?_)) (by first | (simp; done) | (simp; omega) | omega) (by first | (simp; done) | (simp; omega) | omega) (by first | (simp; done) | (simp; omega) | omega) (by first | (simp; done) | (simp; omega) | omega) (by first | (simp; done) | (simp; omega) | omega)⟩⟩
      · skip
        go_simp
        refine hK72.out _ _ trivial (fun hHeld72 => ?_)
        clear hK72 K72
        try simp only [Act.put, List.setIfInBounds_toArray, List.set_cons_zero, List.set_cons_succ]
        refine wpAnyH_ready (rs := [1, 4]) (by kernel_rfl) (by simp) ?_
        refine (AllReadyH.cons rfl (fun K84 hK84 => ?_) (AllReadyH.cons rfl (fun K85 hK85 => ?_) AllReadyH.nil))
        · skip
          (go_simp; go_at_call 30; refine (md.out _).mono ?_; rintro e w5 ⟨rg, rfl, l5⟩; go_wp2_with fail)
          refine hK84.out _ _ trivial (fun hHeld84 => ?_)
          clear hK84 K84
          try simp only [Act.put, List.setIfInBounds_toArray, List.set_cons_zero, List.set_cons_succ]
          refine wpAnyH_ready (rs := [4]) (by kernel_rfl) (by simp) ?_
          refine (AllReadyH.cons rfl (fun K86 hK86 => ?_) AllReadyH.nil)
          · skip
            go_simp
            refine hK86.out _ _ trivial (fun hHeld86 => ?_)
            clear hK86 K86
            try simp only [Act.put, List.setIfInBounds_toArray, List.set_cons_zero, List.set_cons_succ]
            refine wpAnyH_ready (rs := [5]) (by kernel_rfl) (by simp) ?_
            refine AllReadyH.cons rfl (fun K87 hK87 => ?_) AllReadyH.nil
            go_simp
            refine hK87.out _ _ trivial (fun hHeld87 => ?_)
            clear hK87 K87
            try simp only [Act.put, List.setIfInBounds_toArray, List.set_cons_zero, List.set_cons_succ]
            refine wpAnyH_ready (rs := [6]) (by kernel_rfl) (by simp) ?_
            refine AllReadyH.cons rfl (fun K88 hK88 => ?_) AllReadyH.nil
            go_simp
            refine hK88.out _ _ trivial (fun hHeld88 => ?_)
            clear hK88 K88
            try simp only [Act.put, List.setIfInBounds_toArray, List.set_cons_zero, List.set_cons_succ]
            refine wpAnyH_ready (rs := [7]) (by kernel_rfl) (by simp) ?_
            refine AllReadyH.cons rfl (fun K89 hK89 => ?_) AllReadyH.nil
            go_simp
            refine hK89.out _ _ trivial (fun hHeld89 => ?_)
            clear hK89 K89
            try simp only [Act.put, List.setIfInBounds_toArray, List.set_cons_zero, List.set_cons_succ]
            refine wpAnyH_done (by kernel_rfl) ?_ _
            go_wp2_with fail
            go_meet
            have z1 := l5.only.size
            have z2 := l5.rng.mem.lt_hb
            have z3 := l5.rng.ring.lt
            simp at z1
            exact ⟨_, rfl, Lib.hid ⟨rg, _, _, _, _, fresh_crowd (w1 := w) hc'.out hc2'.out (alloc_at (by simp)) (Lw.from (Lw.nil l5 (by repeat (first | exact Only.refl _ _ | refine Only.alloc ?_ _ | refine Only.drew ?_))) (by repeat (first | exact Only.refl _ _ | refine Only.alloc ?_ _ | refine Only.drew ?_))) (by repeat (first | exact alloc_at (by simp) | refine alloc_keep ?_ | refine only_keep l5.only ?_)) (by repeat (first | exact alloc_at (by simp) | refine alloc_keep ?_ | refine only_keep l5.only ?_)) (by repeat (first | exact alloc_at (by simp) | refine alloc_keep ?_ | refine only_keep l5.only ?_)) (by first | (simp; done) | (simp; omega) | omega) (by first | (simp; done) | (simp; omega) | omega) (by first | (simp; done) | (simp; omega) | omega) (by first | (simp; done) | (simp; omega) | omega) (by first | (simp; done) | (simp; omega) | omega)⟩⟩
        · skip
          go_simp
          refine hK85.out _ _ trivial (fun hHeld85 => ?_)
          clear hK85 K85
          try simp only [Act.put, List.setIfInBounds_toArray, List.set_cons_zero, List.set_cons_succ]
          refine wpAnyH_ready (rs := [1]) (by kernel_rfl) (by simp) ?_
          refine (AllReadyH.cons rfl (fun K90 hK90 => ?_) AllReadyH.nil)
          · skip
            (go_simp; go_at_call 30; refine (md.out _).mono ?_; rintro e w5 ⟨rg, rfl, l5⟩; go_wp2_with fail)
            refine hK90.out _ _ trivial (fun hHeld90 => ?_)
            clear hK90 K90
            try simp only [Act.put, List.setIfInBounds_toArray, List.set_cons_zero, List.set_cons_succ]
            refine wpAnyH_ready (rs := [5]) (by kernel_rfl) (by simp) ?_
            refine AllReadyH.cons rfl (fun K91 hK91 => ?_) AllReadyH.nil
            go_simp
            refine hK91.out _ _ trivial (fun hHeld91 => ?_)
            clear hK91 K91
            try simp only [Act.put, List.setIfInBounds_toArray, List.set_cons_zero, List.set_cons_succ]
            refine wpAnyH_ready (rs := [6]) (by kernel_rfl) (by simp) ?_
            refine AllReadyH.cons rfl (fun K92 hK92 => ?_) AllReadyH.nil
            go_simp
            refine hK92.out _ _ trivial (fun hHeld92 => ?_)
            clear hK92 K92
            try simp only [Act.put, List.setIfInBounds_toArray, List.set_cons_zero, List.set_cons_succ]
            refine wpAnyH_ready (rs := [7]) (by kernel_rfl) (by simp) ?_
            refine AllReadyH.cons rfl (fun K93 hK93 => ?_) AllReadyH.nil
            go_simp
            refine hK93.out _ _ trivial (fun hHeld93 => ?_)
            clear hK93 K93
            try simp only [Act.put, List.setIfInBounds_toArray, List.set_cons_zero, List.set_cons_succ]
            refine wpAnyH_done (by kernel_rfl) ?_ _
            go_wp2_with fail
            go_meet
            have z1 := l5.only.size
            have z2 := l5.rng.mem.lt_hb
            have z3 := l5.rng.ring.lt
            simp at z1
            exact ⟨_, rfl, Lib.hid ⟨rg, _, _, _, _, fresh_crowd (w1 := w) hc'.out hc2'.out (alloc_at (by simp)) (Lw.from (Lw.nil l5 (by repeat (first | exact Only.refl _ _ | refine Only.alloc ?_ _ | refine Only.drew ?_))) (by repeat (first | exact Only.refl _ _ | refine Only.alloc ?_ _ | refine Only.drew ?_))) (by repeat (first | exact alloc_at (by simp) | refine alloc_keep ?_ | refine only_keep l5.only ?_)) (by repeat (first | exact alloc_at (by simp) | refine alloc_keep ?_ | refine only_keep l5.only ?_)) (by repeat (first | exact alloc_at (by simp) | refine alloc_keep ?_ | refine only_keep l5.only ?_)) (by first | (simp; done) | (simp; omega) | omega) (by first | (simp; done) | (simp; omega) | omega) (by first | (simp; done) | (simp; omega) | omega) (by first | (simp; done) | (simp; omega) | omega) (by first | (simp; done) | (simp; omega) | omega)⟩⟩
      · skip
        go_simp
        refine hK73.out _ _ trivial (fun hHeld73 => ?_)
        clear hK73 K73
        try simp only [Act.put, List.setIfInBounds_toArray, List.set_cons_zero, List.set_cons_succ]
        refine wpAnyH_ready (rs := [1, 2]) (by kernel_rfl) (by simp) ?_
        refine (AllReadyH.cons rfl (fun K94 hK94 => ?_) (AllReadyH.cons rfl (fun K95 hK95 => ?_) AllReadyH.nil))
        · skip
          (go_simp; go_at_call 30; refine (md.out _).mono ?_; rintro e w5 ⟨rg, rfl, l5⟩; go_wp2_with fail)
          refine hK94.out _ _ trivial (fun hHeld94 => ?_)
          clear hK94 K94
          try simp only [Act.put, List.setIfInBounds_toArray, List.set_cons_zero, List.set_cons_succ]
          refine wpAnyH_ready (rs := [2]) (by kernel_rfl) (by simp) ?_
          refine (AllReadyH.cons rfl (fun K96 hK96 => ?_) AllReadyH.nil)
          · skip
            go_simp
            refine hK96.out _ _ trivial (fun hHeld96 => ?_)
            clear hK96 K96
            try simp only [Act.put, List.setIfInBounds_toArray, List.set_cons_zero, List.set_cons_succ]
            refine wpAnyH_ready (rs := [5]) (by kernel_rfl) (by simp) ?_
            refine AllReadyH.cons rfl (fun K97 hK97 => ?_) AllReadyH.nil
            go_simp
            refine hK97.out _ _ trivial (fun hHeld97 => ?_)
            clear hK97 K97
            try simp only [Act.put, List.setIfInBounds_toArray, List.set_cons_zero, List.set_cons_succ]
            refine wpAnyH_ready (rs := [6]) (by kernel_rfl) (by simp) ?_
            refine AllReadyH.cons rfl (fun K98 hK98 => ?_) AllReadyH.nil
            go_simp
            refine hK98.out _ _ trivial (fun hHeld98 => ?_)
            clear hK98 K98
            try simp only [Act.put, List.setIfInBounds_toArray, List.set_cons_zero, List.set_cons_succ]
            refine wpAnyH_ready (rs := [7]) (by kernel_rfl) (by simp) ?_
            refine AllReadyH.cons rfl (fun K99 hK99 => ?_) AllReadyH.nil
            go_simp
            refine hK99.out _ _ trivial (fun hHeld99 => ?_)
            clear hK99 K99
            try simp only [Act.put, List.setIfInBounds_toArray, List.set_cons_zero, List.set_cons_succ]
            refine wpAnyH_done (by kernel_rfl) ?_ _
            go_wp2_with fail
            go_meet
            have z1 := l5.only.size
            have z2 := l5.rng.mem.lt_hb
            have z3 := l5.rng.ring.lt
            simp at z1
            exact ⟨_, rfl, Lib.hid ⟨rg, _, _, _, _, fresh_crowd (w1 := w) hc'.out hc2'.out (alloc_at (by simp)) (Lw.from (Lw.nil l5 (by repeat (first | exact Only.refl _ _ | refine Only.alloc ?_ _ | refine Only.drew ?_))) (by repeat (first | exact Only.refl _ _ | refine Only.alloc ?_ _ | refine Only.drew ?_))) (by repeat (first | exact alloc_at (by simp) | refine alloc_keep ?_ | refine only_keep l5.only ?_)) (by repeat (first | exact alloc_at (by simp) | refine alloc_keep ?_ | refine only_keep l5.only ?_)) (by repeat (first | exact alloc_at (by simp) | refine alloc_keep ?_ | refine only_keep l5.only ?_)) (by first | (simp; done) | (simp; omega) | omega) (by first | (simp; done) | (simp; omega) | omega) (by first | (simp; done) | (simp; omega) | omega) (by first | (simp; done) | (simp; omega) | omega) (by first | (simp; done) | (simp; omega) | omega)⟩⟩
        · skip
          go_simp
          refine hK95.out _ _ trivial (fun hHeld95 => ?_)
          clear hK95 K95
          try simp only [Act.put, List.setIfInBounds_toArray, List.set_cons_zero, List.set_cons_succ]
          refine wpAnyH_ready (rs := [1]) (by kernel_rfl) (by simp) ?_
          refine (AllReadyH.cons rfl (fun K100 hK100 => ?_) AllReadyH.nil)
          · skip
            (go_simp; go_at_call 30; refine (md.out _).mono ?_; rintro e w5 ⟨rg, rfl, l5⟩; go_wp2_with fail)
            refine hK100.out _ _ trivial (fun hHeld100 => ?_)
            clear hK100 K100
            try simp only [Act.put, List.setIfInBounds_toArray, List.set_cons_zero, List.set_cons_succ]
            refine wpAnyH_ready (rs := [5]) (by kernel_rfl) (by simp) ?_
            refine AllReadyH.cons rfl (fun K101 hK101 => ?_) AllReadyH.nil
            go_simp
            refine hK101.out _ _ trivial (fun hHeld101 => ?_)
            clear hK101 K101
            try simp only [Act.put, List.setIfInBounds_toArray, List.set_cons_zero, List.set_cons_succ]
            refine wpAnyH_ready (rs := [6]) (by kernel_rfl) (by simp) ?_
            refine AllReadyH.cons rfl (fun K102 hK102 => ?_) AllReadyH.nil
            go_simp
            refine hK102.out _ _ trivial (fun hHeld102 => ?_)
            clear hK102 K102
            try simp only [Act.put, List.setIfInBounds_toArray, List.set_cons_zero, List.set_cons_succ]
            refine wpAnyH_ready (rs := [7]) (by kernel_rfl) (by simp) ?_
            refine AllReadyH.cons rfl (fun K103 hK103 => ?_) AllReadyH.nil
            go_simp
            refine hK103.out _ _ trivial (fun hHeld103 => ?_)
            clear hK103 K103
            try simp only [Act.put, List.setIfInBounds_toArray, List.set_cons_zero, List.set_cons_succ]
            refine wpAnyH_done (by kernel_rfl) ?_ _
            go_wp2_with fail
            go_meet
            have z1 := l5.only.size
            have z2 := l5.rng.mem.lt_hb
            have z3 := l5.rng.ring.lt
            simp at z1
            exact ⟨_, rfl, Lib.hid ⟨rg, _, _, _, _, fresh_crowd (w1 := w) hc'.out hc2'.out (alloc_at (by simp)) (Lw.from (Lw.nil l5 (by repeat (first | exact Only.refl _ _ | refine Only.alloc ?_ _ | refine Only.drew ?_))) (by repeat (first | exact Only.refl _ _ | refine Only.alloc ?_ _ | refine Only.drew ?_))) (by repeat (first | exact alloc_at (by simp) | refine alloc_keep ?_ | refine only_keep l5.only ?_)) (by repeat (first | exact alloc_at (by simp) | refine alloc_keep ?_ | refine only_keep l5.only ?_)) (by repeat (first | exact alloc_at (by simp) | refine alloc_keep ?_ | refine only_keep l5.only ?_)) (by first | (simp; done) | (simp; omega) | omega) (by first | (simp; done) | (simp; omega) | omega) (by first | (simp; done) | (simp; omega) | omega) (by first | (simp; done) | (simp; omega) | omega) (by first | (simp; done) | (simp; omega) | omega)⟩⟩
    · skip
      go_simp
      refine hK4.out _ _ trivial (fun hHeld4 => ?_)
      clear hK4 K4
      try simp only [Act.put, List.setIfInBounds_toArray, List.set_cons_zero, List.set_cons_succ]
      refine wpAnyH_ready (rs := [1, 2, 3]) (by kernel_rfl) (by simp) ?_
      refine (AllReadyH.cons rfl (fun K104 hK104 => ?_) (AllReadyH.cons rfl (fun K105 hK105 => ?_) (AllReadyH.cons rfl (fun K106 hK106 => ?_) AllReadyH.nil)))
      · skip
        (go_simp; go_at_call 30; refine (md.out _).mono ?_; rintro e w5 ⟨rg, rfl, l5⟩; go_wp2_with fail)
        refine hK104.out _ _ trivial (fun hHeld104 => ?_)
        clear hK104 K104
        try simp only [Act.put, List.setIfInBounds_toArray, List.set_cons_zero, List.set_cons_succ]
        refine wpAnyH_ready (rs := [2, 3]) (by kernel_rfl) (by simp) ?_
        refine (AllReadyH.cons rfl (fun K107 hK107 => ?_) (AllReadyH.cons rfl (fun K108 hK108 => ?_) AllReadyH.nil))
        · skip
          go_simp
          refine hK107.out _ _ trivial (fun hHeld107 => ?_)
          clear hK107 K107
          try simp only [Act.put, List.setIfInBounds_toArray, List.set_cons_zero, List.set_cons_succ]
          refine wpAnyH_ready (rs := [3]) (by kernel_rfl) (by simp) ?_
          refine (AllReadyH.cons rfl (fun K109 hK109 => ?_) AllReadyH.nil)
          · skip
            go_simp
            refine hK109.out _ _ trivial (fun hHeld109 => ?_)
            clear hK109 K109
            try simp only [Act.put, List.setIfInBounds_toArray, List.set_cons_zero, List.set_cons_succ]
            refine wpAnyH_ready (rs := [5]) (by kernel_rfl) (by simp) ?_
            refine AllReadyH.cons rfl (fun K110 hK110 => ?_) AllReadyH.nil
            go_simp
            refine hK110.out _ _ trivial (fun hHeld110 => ?_)
            clear hK110 K110
            try simp only [Act.put, List.setIfInBounds_toArray, List.set_cons_zero, List.set_cons_succ]
            refine wpAnyH_ready (rs := [6]) (by kernel_rfl) (by simp) ?_
            refine AllReadyH.cons rfl (fun K111 hK111 => ?_) AllReadyH.nil
            go_simp
            refine hK111.out _ _ trivial (fun hHeld111 => ?_)
            clear hK111 K111
            try simp only [Act.put, List.setIfInBounds_toArray, List.set_cons_zero, List.set_cons_succ]
            refine wpAnyH_ready (rs := [7]) (by kernel_rfl) (by simp) ?_
            refine AllReadyH.cons rfl (fun K112 hK112 => ?_) AllReadyH.nil
            go_simp
            refine hK112.out _ _ trivial (fun hHeld112 => ?_)
            clear hK112 K112
            try simp only [Act.put, List.setIfInBounds_toArray, List.set_cons_zero, List.set_cons_succ]
            refine wpAnyH_done (by kernel_rfl) ?_ _
            go_wp2_with fail
            go_meet
            have z1 := l5.only.size
            have z2 := l5.rng.mem.lt_hb
            have z3 := l5.rng.ring.lt
            simp at z1
            exact ⟨_, rfl, Lib.hid ⟨rg, _, _, _, _, fresh_crowd (w1 := w) hc'.out hc2'.out (alloc_at (by simp)) (Lw.from (Lw.nil l5 (by repeat (first | exact Only.refl _ _ | refine Only.alloc ?_ _ | refine Only.drew ?_))) (by repeat (first | exact Only.refl _ _ | refine Only.alloc ?_ _ | refine Only.drew ?_))) (by repeat (first | exact alloc_at (by simp) | refine alloc_keep ?_ | refine only_keep l5.only ?_)) (by repeat (first | exact alloc_at (by simp) | refine alloc_keep ?_ | refine only_keep l5.only ?_)) (by repeat (first | exact alloc_at (by simp) | refine alloc_keep ?_ | refine only_keep l5.only ?_)) (by first | (simp; done) | (simp; omega) | omega) (by first | (simp; done) | (simp; omega) | omega) (by first | (simp; done) | (simp; omega) | omega) (by first | (simp; done) | (simp; omega) | omega) (by first | (simp; done) | (simp; omega) | omega)⟩⟩
        · skip
          go_simp
          refine hK108.out _ _ trivial (fun hHeld108 => ?_)
          clear hK108 K108
          try simp only [Act.put, List.setIfInBounds_toArray, List.set_cons_zero, List.set_cons_succ]
          refine wpAnyH_ready (rs := [2]) (by kernel_rfl) (by simp) ?_
          refine (AllReadyH.cons rfl (fun K113 hK113 => ?_) AllReadyH.nil)
          · skip
            go_simp
            refine hK113.out _ _ trivial (fun hHeld113 => ?_)
            clear hK113 K113
            try simp only [Act.put, List.setIfInBounds_toArray, List.set_cons_zero, List.set_cons_succ]
            refine wpAnyH_ready (rs := [5]) (by kernel_rfl) (by simp) ?_
            refine AllReadyH.cons rfl (fun K114 hK114 => ?_) AllReadyH.nil
            go_simp
            refine hK114.out _ _ trivial (fun hHeld114 => ?_)
            clear hK114 K114
            try simp only [Act.put, List.setIfInBounds_toArray, List.set_cons_zero, List.set_cons_succ]
            refine wpAnyH_ready (rs := [6]) (by kernel_rfl) (by simp) ?_
            refine AllReadyH.cons rfl (fun K115 hK115 => ?_) AllReadyH.nil
            go_simp
            refine hK115.out _ _ trivial (fun hHeld115 => ?_)
            clear hK115 K115
            try simp only [Act.put, List.setIfInBounds_toArray, List.set_cons_zero, List.set_cons_succ]
            refine wpAnyH_ready (rs := [7]) (by kernel_rfl) (by simp) ?_
            refine AllReadyH.cons rfl (fun K116 hK116 => ?_) AllReadyH.nil
            go_simp
            refine hK116.out _ _ trivial (fun hHeld116 => ?_)
            clear hK116 K116
            try simp only [Act.put, List.setIfInBounds_toArray, List.set_cons_zero, List.set_cons_succ]
            refine wpAnyH_done (by kernel_rfl) ?_ _
            go_wp2_with fail
            go_meet
            have z1 := l5.only.size
            have z2 := l5.rng.mem.lt_hb
            have z3 := l5.rng.ring.lt
            simp at z1
            exact ⟨_, rfl, Lib.hid ⟨rg, _, _, _, _, fresh_crowd (w1 := w) hc'.out hc2'.out (alloc_at (by simp)) (Lw.from (Lw.nil l5 (by repeat (first | exact Only.refl _ _ | refine Only.alloc ?_ _ | refine Only.drew ?_))) (by repeat (first | exact Only.refl _ _ | refine Only.alloc ?_ _ | refine Only.drew ?_))) (by repeat (first | exact alloc_at (by simp) | refine alloc_keep ?_ | refine only_keep l5.only ?_)) (by repeat (first | exact alloc_at (by simp) | refine alloc_keep ?_ | refine only_keep l5.only ?_)) (by repeat (first | exact alloc_at (by simp) | refine alloc_keep ?_ | refine only_keep l5.only ?_)) (by first | (simp; done) | (simp; omega) | omega) (by first | (simp; done) | (simp; omega) | omega) (by first | (simp; done) | (simp; omega) | omega) (by first | (simp; done) | (simp; omega) | omega) (by first | (simp; done) | (simp; omega) | omega)⟩⟩
      · skip
        go_simp
        refine hK105.out _ _ trivial (fun hHeld105 => ?_)
        clear hK105 K105
        try simp only [Act.put, List.setIfInBounds_toArray, List.set_cons_zero, List.set_cons_succ]
        refine wpAnyH_ready (rs := [1, 3]) (by kernel_rfl) (by simp) ?_
        refine (AllReadyH.cons rfl (fun K117 hK117 => ?_) (AllReadyH.cons rfl (fun K118 hK118 => ?_) AllReadyH.nil))
        · skip
          (go_simp; go_at_call 30; refine (md.out _).mono ?_; rintro e w5 ⟨rg, rfl, l5⟩; go_wp2_with fail)
          refine hK117.out _ _ trivial (fun hHeld117 => ?_)
          clear hK117 K117
          try simp only [Act.put, List.setIfInBounds_toArray, List.set_cons_zero, List.set_cons_succ]
          refine wpAnyH_ready (rs := [3]) (by kernel_rfl) (by simp) ?_
          refine (AllReadyH.cons rfl (fun K119 hK119 => ?_) AllReadyH.nil)
          · skip
            go_simp
            refine hK119.out _ _ trivial (fun hHeld119 => ?_)
            clear hK119 K119
            try simp only [Act.put, List.setIfInBounds_toArray, List.set_cons_zero, List.set_cons_succ]
            refine wpAnyH_ready (rs := [5]) (by kernel_rfl) (by simp) ?_
            refine AllReadyH.cons rfl (fun K120 hK120 => ?_) AllReadyH.nil
            go_simp
            refine hK120.out _ _ trivial (fun hHeld120 => ?_)
            clear hK120 K120
            try simp only [Act.put, List.setIfInBounds_toArray, List.set_cons_zero, List.set_cons_succ]
            refine wpAnyH_ready (rs := [6]) (by kernel_rfl) (by simp) ?_
            refine AllReadyH.cons rfl (fun K121 hK121 => ?_) AllReadyH.nil
            go_simp
            refine hK121.out _ _ trivial (fun hHeld121 => ?_)
            clear hK121 K121
            try simp only [Act.put, List.setIfInBounds_toArray, List.set_cons_zero, List.set_cons_succ]
            refine wpAnyH_ready (rs := [7]) (by kernel_rfl) (by simp) ?_
            refine AllReadyH.cons rfl (fun K122 hK122 => ?_) AllReadyH.nil
            go_simp
            refine hK122.out _ _ trivial (fun hHeld122 => ?_)
            clear hK122 K122
            try simp only [Act.put, List.setIfInBounds_toArray, List.set_cons_zero, List.set_cons_succ]
            refine wpAnyH_done (by kernel_rfl) ?_ _
            go_wp2_with fail
            go_meet
            have z1 := l5.only.size
            have z2 := l5.rng.mem.lt_hb
            have z3 := l5.rng.ring.lt
            simp at z1
            exact ⟨_, rfl, Lib.hid ⟨rg, _, _, _, _, fresh_crowd (w1 := w) hc'.out hc2'.out (alloc_at (by simp)) (Lw.from (Lw.nil l5 (by repeat (first | exact Only.refl _ _ | refine Only.alloc ?_ _ | refine Only.drew ?_))) (by repeat (first | exact Only.refl _ _ | refine Only.alloc ?_ _ | refine Only.drew ?_))) (by repeat (first | exact alloc_at (by simp) | refine alloc_keep ?_ | refine only_keep l5.only ?_)) (by repeat (first | exact alloc_at (by simp) | refine alloc_keep ?_ | refine only_keep l5.only ?_)) (by repeat (first | exact alloc_at (by simp) | refine alloc_keep ?_ | refine only_keep l5.only ?_)) (by first | (simp; done) | (simp; omega) | omega) (by first | (simp; done) | (simp; omega) | omega) (by first | (simp; done) | (simp; omega) | omega) (by first | (simp; done) | (simp; omega) | omega) (by first | (simp; done) | (simp; omega) | omega)⟩⟩
        · skip
          go_simp
          refine hK118.out _ _ trivial (fun hHeld118 => ?_)
          clear hK118 K118
          try simp only [Act.put, List.setIfInBounds_toArray, List.set_cons_zero, List.set_cons_succ]
          refine wpAnyH_ready (rs := [1]) (by kernel_rfl) (by simp) ?_
          refine (AllReadyH.cons rfl (fun K123 hK123 => ?_) AllReadyH.nil)
          · skip
            (go_simp; go_at_call 30; refine (md.out _).mono ?_; rintro e w5 ⟨rg, rfl, l5⟩; go_wp2_with fail)
            refine hK123.out _ _ trivial (fun hHeld123 => ?_)
            clear hK123 K123
            try simp only [Act.put, List.setIfInBounds_toArray, List.set_cons_zero, List.set_cons_succ]
            refine wpAnyH_ready (rs := [5]) (by kernel_rfl) (by simp) ?_
            refine AllReadyH.cons rfl (fun K124 hK124 => ?_) AllReadyH.nil
            go_simp
            refine hK124.out _ _ trivial (fun hHeld124 => ?_)
            clear hK124 K124
            try simp only [Act.put, List.setIfInBounds_toArray, List.set_cons_zero, List.set_cons_succ]
            refine wpAnyH_ready (rs := [6]) (by kernel_rfl) (by simp) ?_
            refine AllReadyH.cons rfl (fun K125 hK125 => ?_) AllReadyH.nil
            go_simp
            refine hK125.out _ _ trivial (fun hHeld125 => ?_)
            clear hK125 K125
            try simp only [Act.put, List.setIfInBounds_toArray, List.set_cons_zero, List.set_cons_succ]
            refine wpAnyH_ready (rs := [7]) (by kernel_rfl) (by simp) ?_
            refine AllReadyH.cons rfl (fun K126 hK126 => ?_) AllReadyH.nil
            go_simp
            refine hK126.out _ _ trivial (fun hHeld126 => ?_)
            clear hK126 K126
            try simp only [Act.put, List.setIfInBounds_toArray, List.set_cons_zero, List.set_cons_succ]
            refine wpAnyH_done (by kernel_rfl) ?_ _
            go_wp2_with fail
            go_meet
            have z1 := l5.only.size
            have z2 := l5.rng.mem.lt_hb
            have z3 := l5.rng.ring.lt
            simp at z1
            exact ⟨_, rfl, Lib.hid ⟨rg, _, _, _, _, fresh_crowd (w1 := w) hc'.out hc2'.out (alloc_at (by simp)) (Lw.from (Lw.nil l5 (by repeat (first | exact Only.refl _ _ | refine Only.alloc ?_ _ | refine Only.drew ?_))) (by repeat (first | exact Only.refl _ _ | refine Only.alloc ?_ _ | refine Only.drew ?_))) (by repeat (first | exact alloc_at (by simp) | refine alloc_keep ?_ | refine only_keep l5.only ?_)) (by repeat (first | exact alloc_at (by simp) | refine alloc_keep ?_ | refine only_keep l5.only ?_)) (by repeat (first | exact alloc_at (by simp) | refine alloc_keep ?_ | refine only_keep l5.only ?_)) (by first | (simp; done) | (simp; omega) | omega) (by first | (simp; done) | (simp; omega) | omega) (by first | (simp; done) | (simp; omega) | omega) (by first | (simp; done) | (simp; omega) | omega) (by first | (simp; done) | (simp; omega) | omega)⟩⟩
      · skip
        go_simp
        refine hK106.out _ _ trivial (fun hHeld106 => ?_)
        clear hK106 K106
        try simp only [Act.put, List.setIfInBounds_toArray, List.set_cons_zero, List.set_cons_succ]
        refine wpAnyH_ready (rs := [1, 2]) (by kernel_rfl) (by simp) ?_
        refine (AllReadyH.cons rfl (fun K127 hK127 => ?_) (AllReadyH.cons rfl (fun K128 hK128 => ?_) AllReadyH.nil))
        · skip
          (go_simp; go_at_call 30; refine (md.out _).mono ?_; rintro e w5 ⟨rg, rfl, l5⟩; go_wp2_with fail)
          refine hK127.out _ _ trivial (fun hHeld127 => ?_)
          clear hK127 K127
          try simp only [Act.put, List.setIfInBounds_toArray, List.set_cons_zero, List.set_cons_succ]
          refine wpAnyH_ready (rs := [2]) (by kernel_rfl) (by simp) ?_
          refine (AllReadyH.cons rfl (fun K129 hK129 => ?_) AllReadyH.nil)
          · skip
            go_simp
            refine hK129.out _ _ trivial (fun hHeld129 => ?_)
            clear hK129 K129
            try simp only [Act.put, List.setIfInBounds_toArray, List.set_cons_zero, List.set_cons_succ]
            refine wpAnyH_ready (rs := [5]) (by kernel_rfl) (by simp) ?_
            refine AllReadyH.cons rfl (fun K130 hK130 => ?_) AllReadyH.nil
            go_simp
            refine hK130.out _ _ trivial (fun hHeld130 => ?_)
            clear hK130 K130
            try simp only [Act.put, List.setIfInBounds_toArray, List.set_cons_zero, List.set_cons_succ]
            refine wpAnyH_ready (rs := [6]) (by kernel_rfl) (by simp) ?_
            refine AllReadyH.cons rfl (fun K131 hK131 => ?_) AllReadyH.nil
            go_simp
            refine hK131.out _ _ trivial (fun hHeld131 => ?_)
            clear hK131 K131
            try simp only [Act.put, List.setIfInBounds_toArray, List.set_cons_zero, List.set_cons_succ]
            refine wpAnyH_ready (rs := [7]) (by kernel_rfl) (by simp) ?_
            refine AllReadyH.cons rfl (fun K132 hK132 => ?_) AllReadyH.nil
            go_simp
            refine hK132.out _ _ trivial (fun hHeld132 => ?_)
            clear hK132 K132
            try simp only [Act.put, List.setIfInBounds_toArray, List.set_cons_zero, List.set_cons_succ]
            refine wpAnyH_done (by kernel_rfl) ?_ _
            go_wp2_with fail
            go_meet
            have z1 := l5.only.size
            have z2 := l5.rng.mem.lt_hb
            have z3 := l5.rng.ring.lt
            simp at z1
            exact ⟨_, rfl, Lib.hid ⟨rg, _, _, _, _, fresh_crowd (w1 := w) hc'.out hc2'.out (alloc_at (by simp)) (Lw.from (Lw.nil l5 (by repeat (first | exact Only.refl _ _ | refine Only.alloc ?_ _ | refine Only.drew ?_))) (by repeat (first | exact Only.refl _ _ | refine Only.alloc ?_ _ | refine Only.drew ?_))) (by repeat (first | exact alloc_at (by simp) | refine alloc_keep ?_ | refine only_keep l5.only ?_)) (by repeat (first | exact alloc_at (by simp) | refine alloc_keep ?_ | refine only_keep l5.only ?_)) (by repeat (first | exact alloc_at (by simp) | refine alloc_keep ?_ | refine only_keep l5.only ?_)) (by first | (simp; done) | (simp; omega) | omega) (by first | (simp; done) | (simp; omega) | omega) (by first | (simp; done) | (simp; omega) | omega) (by first | (simp; done) | (simp; omega) | omega) (by first | (simp; done) | (simp; omega) | omega)⟩⟩
        · skip
          go_simp
          refine hK128.out _ _ trivial (fun hHeld128 => ?_)
          clear hK128 K128
          try simp only [Act.put, List.setIfInBounds_toArray, List.set_cons_zero, List.set_cons_succ]
          refine wpAnyH_ready (rs := [1]) (by kernel_rfl) (by simp) ?_
          refine (AllReadyH.cons rfl (fun K133 hK133 => ?_) AllReadyH.nil)
          · skip
            (go_simp; go_at_call 30; refine (md.out _).mono ?_; rintro e w5 ⟨rg, rfl, l5⟩; go_wp2_with fail)
            refine hK133.out _ _ trivial (fun hHeld133 => ?_)
            clear hK133 K133
            try simp only [Act.put, List.setIfInBounds_toArray, List.set_cons_zero, List.set_cons_succ]
            refine wpAnyH_ready (rs := [5]) (by kernel_rfl) (by simp) ?_
            refine AllReadyH.cons rfl (fun K134 hK134 => ?_) AllReadyH.nil
            go_simp
            refine hK134.out _ _ trivial (fun hHeld134 => ?_)
            clear hK134 K134
            try simp only [Act.put, List.setIfInBounds_toArray, List.set_cons_zero, List.set_cons_succ]
            refine wpAnyH_ready (rs := [6]) (by kernel_rfl) (by simp) ?_
            refine AllReadyH.cons rfl (fun K135 hK135 => ?_) AllReadyH.nil
            go_simp
            refine hK135.out _ _ trivial (fun hHeld135 => ?_)
            clear hK135 K135
            try simp only [Act.put, List.setIfInBounds_toArray, List.set_cons_zero, List.set_cons_succ]
            refine wpAnyH_ready (rs := [7]) (by kernel_rfl) (by simp) ?_
            refine AllReadyH.cons rfl (fun K136 hK136 => ?_) AllReadyH.nil
            go_simp
            refine hK136.out _ _ trivial (fun hHeld136 => ?_)
            clear hK136 K136
            try simp only [Act.put, List.setIfInBounds_toArray, List.set_cons_zero, List.set_cons_succ]
            refine wpAnyH_done (by kernel_rfl) ?_ _
            go_wp2_with fail
            go_meet
            have z1 := l5.only.size
            have z2 := l5.rng.mem.lt_hb
            have z3 := l5.rng.ring.lt
            simp at z1
            exact ⟨_, rfl, Lib.hid ⟨rg, _, _, _, _, fresh_crowd (w1 := w) hc'.out hc2'.out (alloc_at (by simp)) (Lw.from (Lw.nil l5 (by repeat (first | exact Only.refl _ _ | refine Only.alloc ?_ _ | refine Only.drew ?_))) (by repeat (first | exact Only.refl _ _ | refine Only.alloc ?_ _ | refine Only.drew ?_))) (by repeat (first | exact alloc_at (by simp) | refine alloc_keep ?_ | refine only_keep l5.only ?_)) (by repeat (first | exact alloc_at (by simp) | refine alloc_keep ?_ | refine only_keep l5.only ?_)) (by repeat (first | exact alloc_at (by simp) | refine alloc_keep ?_ | refine only_keep l5.only ?_)) (by first | (simp; done) | (simp; omega) | omega) (by first | (simp; done) | (simp; omega) | omega) (by first | (simp; done) | (simp; omega) | omega) (by first | (simp; done) | (simp; omega) | omega) (by first | (simp; done) | (simp; omega) | omega)⟩⟩
  case rest =>
    obtain ⟨cb, rfl, hq⟩ := hcut
    obtain ⟨rg, B, pb, nb, ib, base, C0⟩ := hq.out
    have C0' := Lib.hid C0
    have c0 := C0.ptr.1
    clear hq C0 md m1 m2 m3
    generalize wc = W0 at C0' c0 ⊢
    go_wp2
    go_loopw [6] (fun s6 wr => ∃ i : Nat, i ≤ len ∧ i ≤ 600 ∧ s6 = .int .i64 (i : Int) ∧ Hid (∃ R P T mo cnt ins taken, CrE w wr rg B base c cb pb nb ib (2 * i) R P T mo cnt ins taken))
      (fun s6 _ => len - (intOf s6).toNat)
    case atStart => exact ⟨0, Nat.zero_le _, Nat.zero_le _, rfl, Lib.hid ⟨_, _, _, _, _, _, _, C0'.out⟩⟩
    case round =>
      obtain ⟨i, hi, hi6, rfl, hh⟩ := hrel
      obtain ⟨R, P, T, mo, cnt, ins, taken, C1⟩ := hh.out
      by_cases hgo : i < len ∧ i < 600
      · obtain ⟨g1, g2⟩ := hgo
        have g1' : (i : Int) < (len : Int) := by omega
        have g2' : (i : Int) < 600 := by omega
        obtain ⟨b, off, rfl, hb1, hb2⟩ := (hV'.out.keep C1.ptr.2.2.1) i (by rw [hlen'.out]; exact g1)
        have hx : wr.cell? ⟨b, off + i, none⟩ = some (.int .u8 (V.getD i 0)) := hb2 i (by rw [hlen'.out]; exact g1)
        obtain ⟨y0, y1⟩ := hu'.out i
        clear hb2
        generalize V.getD i 0 = x at hx y0 y1
        have wx : IntKind.i64.wrap x = x := IntWalk.i64_in _ (by omega)
        obtain ⟨y, rfl⟩ := Int.eq_ofNat_of_zero_le y0
        have mt : Int.tmod (y : Int) 5 = ((y % 5 : Nat) : Int) := rfl
        have me : (y : Int) % 5 = ((y % 5 : Nat) : Int) := rfl
        generalize y % 5 = p at mt me
        have hg := Lib.hid (And.intro g1 g2)
        by_cases hp : p < 3
        · have hp3 : (p : Int) < 3 := by omega
          have pc := Lib.hid (put_any C1 p hp true (.inr rfl) (by omega))
          clear C1 hh hi hi6 g1 g2 hp c0
          go_wp2_with (go_at_call 49; (with_reducible refine (pc.out).mono ?_); rintro e w3 ⟨rfl, k3⟩)
          go_roundw
          case rel =>
            refine ⟨i + 1, by have := hg.out; omega, by have := hg.out; omega, by go_num, Lib.hid ?_⟩
            obtain ⟨R', P', mo', cnt', ins', k, _⟩ := k3.out
            exact ⟨R', P', T, mo', cnt', ins', taken, k⟩
          case measure => have := hg.out; simp [intOf]; omega
        · have hp3 : ¬ ((p : Int) < 3) := by omega
          have oc := Lib.hid (out_any C1 (by omega))
          clear C1 hh hi hi6 g1 g2 hp c0
          go_wp2_with (go_at_call 50; (with_reducible refine (oc.out).mono ?_); rintro e w3 ⟨bb, rfl, k3⟩)
          go_roundw
          case rel =>
            refine ⟨i + 1, by have := hg.out; omega, by have := hg.out; omega, by go_num, Lib.hid ?_⟩
            obtain ⟨R', T', cnt', taken', k, _⟩ := k3.out
            exact ⟨R', P, T', mo, cnt', ins, taken', k.more (by omega) (by have := hg.out; omega)⟩
          case measure => have := hg.out; simp [intOf]; omega
      · have C2 : Hid (∃ R P T mo cnt ins taken, CrE w wr rg B base c cb pb nb ib 1200 R P T mo cnt ins taken) := Lib.hid ⟨_, _, _, _, _, _, _, C1.more (by omega) (by omega)⟩
        have hex : (¬ i < len) ∨ (i < len ∧ ¬ i < 600) := by omega
        clear C1 hh C0' c0
        rcases hex with f1 | ⟨f1, f2⟩
        · have f1' : ¬ ((i : Int) < (len : Int)) := by omega
          clear f1
          have C2' := Lib.hid C2.out
          generalize wr = Wb at C2 C2' ⊢
          clear hi hi6 hgo
          go_wp2
          go_loopw [8] (fun s8 wr => ∃ p : Nat, p ≤ 3 ∧ s8 = .int .i64 (p : Int) ∧ Hid (∃ R P T mo cnt ins taken, CrE w wr rg B base c cb pb nb ib (1200 + 20 * p) R P T mo cnt ins taken ∧ ∀ q, q < p → P q = none))
            (fun s8 _ => 3 - (intOf s8).toNat)
          case atStart =>
            obtain ⟨R, P, T, mo, cnt, ins, taken, k⟩ := C2.out
            exact ⟨0, Nat.zero_le _, rfl, Lib.hid ⟨R, P, T, mo, cnt, ins, taken, k, fun q hq => by omega⟩⟩
          case round =>
            obtain ⟨p, hp, rfl, hh2⟩ := hrel
            by_cases hp3 : p < 3
            · have hp3' : (p : Int) < 3 := by omega
              have hpp := Lib.hid hp3
              clear hp hp3 C2 C2'
              generalize wr = Wc at hh2 ⊢
              go_wp2
              go_loopw [9] (fun s9 wr => ∃ j : Nat, j ≤ 8 ∧ s9 = .int .i64 (j : Int) ∧ Hid (∃ R P T mo cnt ins taken, CrE w wr rg B base c cb pb nb ib (1200 + 20 * p + 2 * j) R P T mo cnt ins taken ∧ (∀ q, q < p → P q = none) ∧ (∀ s v, P p = some (s, v) → rankP R s + j ≤ 7)))
                (fun s9 _ => 8 - (intOf s9).toNat)
              case atStart =>
                obtain ⟨R, P, T, mo, cnt, ins, taken, k, kq⟩ := hh2.out
                exact ⟨0, Nat.zero_le _, rfl, Lib.hid ⟨R, P, T, mo, cnt, ins, taken, k, kq, fun s v _ => by have := rankP_le R s; omega⟩⟩
              case round =>
                obtain ⟨j, hj, rfl, hh3⟩ := hrel
                obtain ⟨R, P, T, mo, cnt, ins, taken, k, kq, kr⟩ := hh3.out
                have c1 := k.ptr.2.1
                have j200 : (j : Int) < 200 := by omega
                rcases k.pcell p hpp.out with ⟨e, pc⟩ | ⟨s, v, x, e, pc⟩
                · have fin : Hid (∃ R P T mo cnt ins taken, CrE w wr rg B base c cb pb nb ib (1200 + 20 * (p + 1)) R P T mo cnt ins taken ∧ ∀ q, q < p + 1 → P q = none) := Lib.hid ⟨R, P, T, mo, cnt, ins, taken, k.more (by omega) (by have := hpp.out; omega), fun q hq => by
                    rcases Nat.lt_or_ge q p with g | g
                    · exact kq q g
                    · have : q = p := by omega
                      subst this; exact e⟩
                  clear k kq kr hh3 e hj
                  go_wp2
                  go_roundw
                  case rel => exact ⟨p + 1, by have := hpp.out; omega, by go_num, fin⟩
                  case measure => have := hpp.out; simp [intOf]; omega
                · have hj7 := Lib.hid (show j + 1 ≤ 8 by have := kr s v e; omega)
                  have pcn := Lib.hid (put_any k p hpp.out false (.inl (by rw [e]; simp)) (by have := hpp.out; omega))
                  have kq' := Lib.hid kq
                  have kr' := Lib.hid (kr s v e)
                  have e' := Lib.hid e
                  clear k kq kr hh3 e hj
                  go_wp2_with (go_at_call 49; (with_reducible refine (pcn.out).mono ?_); rintro e w3 ⟨rfl, k3⟩)
                  go_roundw
                  case rel =>
                    refine ⟨j + 1, hj7.out, by go_num, Lib.hid ?_⟩
                    obtain ⟨R', P', mo', cnt', ins', k, ko, kl⟩ := k3.out
                    refine ⟨R', P', T, mo', cnt', ins', taken, k, fun q hq => by rw [ko q (by omega)]; exact kq'.out q hq, fun s' v' e2 => ?_⟩
                    have := kl s v e'.out s' v' e2
                    have := kr'.out
                    omega
                  case measure => have := hj7.out; simp [intOf]; omega
            · have hp3' : ¬ ((p : Int) < 3) := by omega
              have hpe : p = 3 := by omega
              subst hpe
              have E0 : Hid (∃ R P T mo cnt ins taken, CrE w wr rg B base c cb pb nb ib 1300 R P T mo cnt ins taken ∧ ∀ q, P q = none) := by
                obtain ⟨R, P, T, mo, cnt, ins, taken, k, kq⟩ := hh2.out
                exact Lib.hid ⟨R, P, T, mo, cnt, ins, taken, k.more (by omega) (by omega), fun q => by
                  rcases Nat.lt_or_ge q 3 with g | g
                  · exact kq q g
                  · exact k.P3 q g⟩
              clear hp hp3 hh2 C2 C2'
              generalize wr = Wd at E0 ⊢
              go_wp2
              go_loopw [10] (fun s10 wr => ∃ j : Nat, j ≤ 60 ∧ s10 = .int .i64 (j : Int) ∧ Hid (∃ R P T mo cnt ins taken, CrE w wr rg B base c cb pb nb ib (1300 + j) R P T mo cnt ins taken ∧ (∀ q, P q = none) ∧ rankT R T + j ≤ 50))
                (fun s10 _ => 60 - (intOf s10).toNat)
              case atStart =>
                obtain ⟨R, P, T, mo, cnt, ins, taken, k, kq⟩ := E0.out
                exact ⟨0, Nat.zero_le _, rfl, Lib.hid ⟨R, P, T, mo, cnt, ins, taken, k, kq, by have := k.ptr.2.2.2.2.2; have := hc2'.out; omega⟩⟩
              case round =>
                obtain ⟨j, hj, rfl, hh4⟩ := hrel
                obtain ⟨R, P, T, mo, cnt, ins, taken, k, kq, kr⟩ := hh4.out
                have j2000 : (j : Int) < 2000 := by omega
                have oc := Lib.hid (out_any k (by omega))
                have kq' := Lib.hid kq
                have kr' := Lib.hid kr
                clear k kq kr hh4 hj
                go_wp2_with (go_at_call 50; (with_reducible refine (oc.out).mono ?_); rintro e w3 ⟨bb, rfl, k3⟩; cases bb)
                · go_roundw
                  case rel =>
                    obtain ⟨R', T', cnt', taken', k, _, kl⟩ := k3.out
                    have := kl (by trivial)
                    have := kr'.out
                    exact ⟨j + 1, by omega, by go_num, Lib.hid ⟨R', P, T', mo, cnt', ins, taken', k, kq'.out, by omega⟩⟩
                  case measure => have := kr'.out; simp [intOf]; omega
                · skip
                  have E1 : Hid (∃ R P T mo cnt ins taken, CrE w w3 rg B base c cb pb nb ib 1400 R P T mo cnt ins taken ∧ ∀ q, P q = none) := by
                    obtain ⟨R', T', cnt', taken', k, _, _⟩ := k3.out
                    exact Lib.hid ⟨R', P, T', mo, cnt', ins, taken', k.more (by have := kr'.out; omega) (by omega), kq'.out⟩
                  clear k3 oc kq' kr' E0 j2000
                  generalize w3 = We at E1 ⊢
                  go_wp2
                  go_loopw [11] (fun s11 wr => ∃ j : Nat, j ≤ 60 ∧ s11 = .int .i64 (j : Int) ∧ Hid (∃ R P T mo cnt ins taken, CrE w wr rg B base c cb pb nb ib (1400 + j) R P T mo cnt ins taken ∧ (∀ q, P q = none) ∧ rankT R T + j ≤ 50))
                    (fun s11 _ => 60 - (intOf s11).toNat)
                  case atStart =>
                    obtain ⟨R, P, T, mo, cnt, ins, taken, k, kq⟩ := E1.out
                    exact ⟨0, Nat.zero_le _, rfl, Lib.hid ⟨R, P, T, mo, cnt, ins, taken, k, kq, by have := k.ptr.2.2.2.2.2; have := hc2'.out; omega⟩⟩
                  case round =>
                    obtain ⟨j, hj, rfl, hh4⟩ := hrel
                    obtain ⟨R, P, T, mo, cnt, ins, taken, k, kq, kr⟩ := hh4.out
                    have j2000 : (j : Int) < 2000 := by omega
                    have oc := Lib.hid (out_any k (by omega))
                    have kq' := Lib.hid kq
                    have kr' := Lib.hid kr
                    clear k kq kr hh4 hj
                    go_wp2_with (go_at_call 50; (with_reducible refine (oc.out).mono ?_); rintro e w3 ⟨bb, rfl, k3⟩; cases bb)
                    · go_roundw
                      case rel =>
                        obtain ⟨R', T', cnt', taken', k, _, kl⟩ := k3.out
                        have := kl (by trivial)
                        have := kr'.out
                        exact ⟨j + 1, by omega, by go_num, Lib.hid ⟨R', P, T', mo, cnt', ins, taken', k, kq'.out, by omega⟩⟩
                      case measure => have := kr'.out; simp [intOf]; omega
                    · skip
                      obtain ⟨R', T', cnt', taken', k, kb, _⟩ := k3.out
                      obtain ⟨rfl, hfin⟩ := kb (by trivial)
                      obtain ⟨rfl, hf2⟩ := hfin kq'.out
                      have kk := Lib.hid (k.more (show _ ≤ 3000 by have := kr'.out; omega) (by omega))
                      have hf3 := Lib.hid hf2
                      clear k kb hfin hf2 k3 oc
                      go_wp2
                      go_ret
                      exact ⟨cb, rfl, Lib.hid ⟨rg, B, base, pb, nb, ib, R', P, mo, ins, taken', kk.out, kq'.out, hf3.out⟩⟩
        · have f1' : (i : Int) < (len : Int) := by omega
          have f2' : ¬ ((i : Int) < 600) := by omega
          clear f1 f2
          have C2' := Lib.hid C2.out
          generalize wr = Wb at C2 C2' ⊢
          clear hi hi6 hgo
          go_wp2
          go_loopw [8] (fun s8 wr => ∃ p : Nat, p ≤ 3 ∧ s8 = .int .i64 (p : Int) ∧ Hid (∃ R P T mo cnt ins taken, CrE w wr rg B base c cb pb nb ib (1200 + 20 * p) R P T mo cnt ins taken ∧ ∀ q, q < p → P q = none))
            (fun s8 _ => 3 - (intOf s8).toNat)
          case atStart =>
            obtain ⟨R, P, T, mo, cnt, ins, taken, k⟩ := C2.out
            exact ⟨0, Nat.zero_le _, rfl, Lib.hid ⟨R, P, T, mo, cnt, ins, taken, k, fun q hq => by omega⟩⟩
          case round =>
            obtain ⟨p, hp, rfl, hh2⟩ := hrel
            by_cases hp3 : p < 3
            · have hp3' : (p : Int) < 3 := by omega
              have hpp := Lib.hid hp3
              clear hp hp3 C2 C2'
              generalize wr = Wc at hh2 ⊢
              go_wp2
              go_loopw [9] (fun s9 wr => ∃ j : Nat, j ≤ 8 ∧ s9 = .int .i64 (j : Int) ∧ Hid (∃ R P T mo cnt ins taken, CrE w wr rg B base c cb pb nb ib (1200 + 20 * p + 2 * j) R P T mo cnt ins taken ∧ (∀ q, q < p → P q = none) ∧ (∀ s v, P p = some (s, v) → rankP R s + j ≤ 7)))
                (fun s9 _ => 8 - (intOf s9).toNat)
              case atStart =>
                obtain ⟨R, P, T, mo, cnt, ins, taken, k, kq⟩ := hh2.out
                exact ⟨0, Nat.zero_le _, rfl, Lib.hid ⟨R, P, T, mo, cnt, ins, taken, k, kq, fun s v _ => by have := rankP_le R s; omega⟩⟩
              case round =>
                obtain ⟨j, hj, rfl, hh3⟩ := hrel
                obtain ⟨R, P, T, mo, cnt, ins, taken, k, kq, kr⟩ := hh3.out
                have c1 := k.ptr.2.1
                have j200 : (j : Int) < 200 := by omega
                rcases k.pcell p hpp.out with ⟨e, pc⟩ | ⟨s, v, x, e, pc⟩
                · have fin : Hid (∃ R P T mo cnt ins taken, CrE w wr rg B base c cb pb nb ib (1200 + 20 * (p + 1)) R P T mo cnt ins taken ∧ ∀ q, q < p + 1 → P q = none) := Lib.hid ⟨R, P, T, mo, cnt, ins, taken, k.more (by omega) (by have := hpp.out; omega), fun q hq => by
                    rcases Nat.lt_or_ge q p with g | g
                    · exact kq q g
                    · have : q = p := by omega
                      subst this; exact e⟩
                  clear k kq kr hh3 e hj
                  go_wp2
                  go_roundw
                  case rel => exact ⟨p + 1, by have := hpp.out; omega, by go_num, fin⟩
                  case measure => have := hpp.out; simp [intOf]; omega
                · have hj7 := Lib.hid (show j + 1 ≤ 8 by have := kr s v e; omega)
                  have pcn := Lib.hid (put_any k p hpp.out false (.inl (by rw [e]; simp)) (by have := hpp.out; omega))
                  have kq' := Lib.hid kq
                  have kr' := Lib.hid (kr s v e)
                  have e' := Lib.hid e
                  clear k kq kr hh3 e hj
                  go_wp2_with (go_at_call 49; (with_reducible refine (pcn.out).mono ?_); rintro e w3 ⟨rfl, k3⟩)
                  go_roundw
                  case rel =>
                    refine ⟨j + 1, hj7.out, by go_num, Lib.hid ?_⟩
                    obtain ⟨R', P', mo', cnt', ins', k, ko, kl⟩ := k3.out
                    refine ⟨R', P', T, mo', cnt', ins', taken, k, fun q hq => by rw [ko q (by omega)]; exact kq'.out q hq, fun s' v' e2 => ?_⟩
                    have := kl s v e'.out s' v' e2
                    have := kr'.out
                    omega
                  case measure => have := hj7.out; simp [intOf]; omega
            · have hp3' : ¬ ((p : Int) < 3) := by omega
              have hpe : p = 3 := by omega
              subst hpe
              have E0 : Hid (∃ R P T mo cnt ins taken, CrE w wr rg B base c cb pb nb ib 1300 R P T mo cnt ins taken ∧ ∀ q, P q = none) := by
                obtain ⟨R, P, T, mo, cnt, ins, taken, k, kq⟩ := hh2.out
                exact Lib.hid ⟨R, P, T, mo, cnt, ins, taken, k.more (by omega) (by omega), fun q => by
                  rcases Nat.lt_or_ge q 3 with g | g
                  · exact kq q g
                  · exact k.P3 q g⟩
              clear hp hp3 hh2 C2 C2'
              generalize wr = Wd at E0 ⊢
              go_wp2
              go_loopw [10] (fun s10 wr => ∃ j : Nat, j ≤ 60 ∧ s10 = .int .i64 (j : Int) ∧ Hid (∃ R P T mo cnt ins taken, CrE w wr rg B base c cb pb nb ib (1300 + j) R P T mo cnt ins taken ∧ (∀ q, P q = none) ∧ rankT R T + j ≤ 50))
                (fun s10 _ => 60 - (intOf s10).toNat)
              case atStart =>
                obtain ⟨R, P, T, mo, cnt, ins, taken, k, kq⟩ := E0.out
                exact ⟨0, Nat.zero_le _, rfl, Lib.hid ⟨R, P, T, mo, cnt, ins, taken, k, kq, by have := k.ptr.2.2.2.2.2; have := hc2'.out; omega⟩⟩
              case round =>
                obtain ⟨j, hj, rfl, hh4⟩ := hrel
                obtain ⟨R, P, T, mo, cnt, ins, taken, k, kq, kr⟩ := hh4.out
                have j2000 : (j : Int) < 2000 := by omega
                have oc := Lib.hid (out_any k (by omega))
                have kq' := Lib.hid kq
                have kr' := Lib.hid kr
                clear k kq kr hh4 hj
                go_wp2_with (go_at_call 50; (with_reducible refine (oc.out).mono ?_); rintro e w3 ⟨bb, rfl, k3⟩; cases bb)
                · go_roundw
                  case rel =>
                    obtain ⟨R', T', cnt', taken', k, _, kl⟩ := k3.out
                    have := kl (by trivial)
                    have := kr'.out
                    exact ⟨j + 1, by omega, by go_num, Lib.hid ⟨R', P, T', mo, cnt', ins, taken', k, kq'.out, by omega⟩⟩
                  case measure => have := kr'.out; simp [intOf]; omega
                · skip
                  have E1 : Hid (∃ R P T mo cnt ins taken, CrE w w3 rg B base c cb pb nb ib 1400 R P T mo cnt ins taken ∧ ∀ q, P q = none) := by
                    obtain ⟨R', T', cnt', taken', k, _, _⟩ := k3.out
                    exact Lib.hid ⟨R', P, T', mo, cnt', ins, taken', k.more (by have := kr'.out; omega) (by omega), kq'.out⟩
                  clear k3 oc kq' kr' E0 j2000
                  generalize w3 = We at E1 ⊢
                  go_wp2
                  go_loopw [11] (fun s11 wr => ∃ j : Nat, j ≤ 60 ∧ s11 = .int .i64 (j : Int) ∧ Hid (∃ R P T mo cnt ins taken, CrE w wr rg B base c cb pb nb ib (1400 + j) R P T mo cnt ins taken ∧ (∀ q, P q = none) ∧ rankT R T + j ≤ 50))
                    (fun s11 _ => 60 - (intOf s11).toNat)
                  case atStart =>
                    obtain ⟨R, P, T, mo, cnt, ins, taken, k, kq⟩ := E1.out
                    exact ⟨0, Nat.zero_le _, rfl, Lib.hid ⟨R, P, T, mo, cnt, ins, taken, k, kq, by have := k.ptr.2.2.2.2.2; have := hc2'.out; omega⟩⟩
                  case round =>
                    obtain ⟨j, hj, rfl, hh4⟩ := hrel
                    obtain ⟨R, P, T, mo, cnt, ins, taken, k, kq, kr⟩ := hh4.out
                    have j2000 : (j : Int) < 2000 := by omega
                    have oc := Lib.hid (out_any k (by omega))
                    have kq' := Lib.hid kq
                    have kr' := Lib.hid kr
                    clear k kq kr hh4 hj
                    go_wp2_with (go_at_call 50; (with_reducible refine (oc.out).mono ?_); rintro e w3 ⟨bb, rfl, k3⟩; cases bb)
                    · go_roundw
                      case rel =>
                        obtain ⟨R', T', cnt', taken', k, _, kl⟩ := k3.out
                        have := kl (by trivial)
                        have := kr'.out
                        exact ⟨j + 1, by omega, by go_num, Lib.hid ⟨R', P, T', mo, cnt', ins, taken', k, kq'.out, by omega⟩⟩
                      case measure => have := kr'.out; simp [intOf]; omega
                    · skip
                      obtain ⟨R', T', cnt', taken', k, kb, _⟩ := k3.out
                      obtain ⟨rfl, hfin⟩ := kb (by trivial)
                      obtain ⟨rfl, hf2⟩ := hfin kq'.out
                      have kk := Lib.hid (k.more (show _ ≤ 3000 by have := kr'.out; omega) (by omega))
                      have hf3 := Lib.hid hf2
                      clear k kb hfin hf2 k3 oc
                      go_wp2
                      go_ret
                      exact ⟨cb, rfl, Lib.hid ⟨rg, B, base, pb, nb, ib, R', P, mo, ins, taken', kk.out, kq'.out, hf3.out⟩⟩
end Go.Proofs.Ytpnpbgcndlfobaa
