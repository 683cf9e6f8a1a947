/- A crowd at a gate: a step that puts, and is done. -/
import Derived.Test.YtfhbgabblegecaaGtCc
namespace Go.Proofs.Ytfhbgabblegecaa.Gt
open Go.RowKit
section
variable {w1 w w4 : World} {rg B base c cb pb nb ib K : Nat} {L : List Int} {t : Int} {R : Rg} {P : Nat → Option (Dir × GS)} {vo : Nat → Int} {ob : Nat → Nat} {nx : Nat → Nat} {it : List Nat} {tk : Nat → List Nat} {iv : Nat → Value} {ins : Nat → List Int}

theorem Cw.grownS {po : Nat → Option (Nat × OS)} {nx : Nat → Int} {w' : World} (h : Cw w1 w rg B base c cb pb nb ib L t po nx iv ins) {p q : Nat} (hq : q < 2) (hp : p < 3) (gr : w.grownBy w' (iv p).ownBlock) :
    w'.cell? ⟨cb, 2, none⟩ = some (.slice (some ⟨nb, 0, none⟩) 2 2) ∧ w'.cell? ⟨cb, 4, none⟩ = some (.slice (some ⟨ib, 0, none⟩) 2 2) ∧ w'.cell? ⟨nb, q, none⟩ = some (.int .u64 (nx q)) := by
  obtain ⟨c1, c2, c3, c4⟩ := h.grown hp gr
  exact ⟨by simp [World.cell?, c1, cbv], by simp [World.cell?, c1, cbv], row_cell c3 q hq⟩

set_option linter.unusedSimpArgs false in
set_option maxRecDepth 100000 in
set_option maxHeartbeats 8000000 in
theorem cstep_putdone (h : Cg w1 w rg B base c cb pb nb ib K L t R P vo ob nx it tk iv ins) {p : Nat} (hp2 : p < 2) {d : Dir} {s : GS} (e : P p = some (d, s)) {R' : Rg} {x : Int} (er : gstep c R d s = (R', .done x)) (hK : K + 1 ≤ 100000) (more : Bool) :
    Calls Try.prog 62 #[.pointer (some ⟨cb, 0, none⟩), .int .i64 (p : Int), .bool more] w fun e w' => e = .returned (.tuple #[]) ∧ Hid (∃ L' vo' it' tk' iv', Cg w1 w' rg B base c cb pb nb ib (K + 1) L' (t + 1) R' (upd P p none) vo' ob nx it' tk' iv' (insN ins nx p x)) := by
  have hp : p < 4 := by omega
  have hp2' := Lib.hid hp2
  have p2 : (p : Int) < 2 := by omega
  have ei : insN ins nx p x = upd ins 0 (ins 0 ++ [num p (nx p)]) := if_pos hp2
  rw [ei]
  have ei' := Lib.hid ei
  clear ei
  generalize hv : num p (nx p) = v at ei' ⊢
  generalize ha : (nx p : Int) = a
  have hn1 := h.nxb p
  have hkb := h.kb
  have hvs : IntKind.u64.wrap ((p : Int) * 4294967296 + a) = v := by rw [IntKind.wrap_u64, ← hv, ← ha]; unfold num; omega
  have hw1 : IntKind.u64.wrap (p : Int) = (p : Int) := by rw [IntKind.wrap_u64]; omega
  have hw2 : IntKind.u64.wrap ((p : Int) * 4294967296) = (p : Int) * 4294967296 := by rw [IntKind.wrap_u64]; omega
  have ha' := Lib.hid ha
  obtain ⟨i0, hi0, hz0, hz1, hz2⟩ := info_parts Try.infoU64
  have hu := Try.underlying41
  have lens := Lib.hid (h.inb 0)
  have kb := Lib.hid h.kb
  have sp := Lib.hid (h.stepP hp e er)
  rw [show (osR d (GR.done x)).isO = true from rfl] at sp
  have h' := Lib.hid h
  have e' := Lib.hid e
  have er' := Lib.hid er
  have p3 : (p : Int) < 4 := by omega
  have hp' := Lib.hid hp
  obtain ⟨c0, c1, c2, c3, c4, c5⟩ := h.cw.cells
  have pc := h.pcell hp e
  clear h e er hp hn1 hkb hv ha hp2
  go_enter Try.func62, Try.ntmps62
  go_wp2_with (first
    | (go_at_call 84; (with_reducible refine (sp.out).mono ?_); rintro e w4 ⟨rfl, k4⟩; obtain ⟨L4, rl4, q4, m4⟩ := k4.out; clear c0 c1 c2 c3 c4 c5 pc; obtain ⟨c0, c1, c2, c3, c4, c5⟩ := m4.cells; obtain ⟨pc, pf⟩ := m4.pc p hp'.out; rw [upd_same] at pc; simp only [opv] at pc; obtain ⟨nc, nf⟩ := m4.nc p hp2'.out; rw [ha'.out] at nc; have oc := Lib.hid (show Calls Try.prog 85 #[.pointer (some ⟨ob p, 0, none⟩)] w4 (fun e w' => e = .returned (.int .i64 1) ∧ w4 = w') from outcomeO q4.op))
    | (go_at_call 85; (with_reducible refine (oc.out).mono ?_); rintro e w5 ⟨rfl, rfl⟩))
  have m4' := Lib.hid m4
  have hown := Lib.hid (m4.core.own 0 (by decide))
  have hbs := Lib.hid m4.core.hb
  have mA := m4.nil ((Only.refl Nil w4).alloc (.cells #[.int .u64 v] 40))
  obtain ⟨_, _, a2, a3, a4, _⟩ := mA.cells
  have an := (mA.nc p hp2'.out).1
  rw [ha'.out] at an
  clear mA
  have rl4' := Lib.hid rl4
  clear m4 q4 rl4 k4
  go_cut [82] (fun s82 wx => Hid (∃ iv' : Nat → Value, Cw w1 wx rg B base c cb pb nb ib L4 (t + 1) (upd (poG P ob) p (some (ob p, osR d (.done x)))) (fun q => (nx q : Int)) iv' (upd ins 0 (ins 0 ++ [v]))))
  case first =>
    refine wp_region_held_drew (S := fun w' => w'.cell? ⟨cb, 2, none⟩ = some (.slice (some ⟨nb, 0, none⟩) 2 2) ∧ w'.cell? ⟨nb, p, none⟩ = some (.int .u64 a)) (by kernel_rfl) ⟨c2, nc⟩ (fun hHeld => ?_)
    refine wpAnyH_take (i := 0) (v := ?v0) rfl (by kernel_rfl) (by kernel_rfl) (by kernel_rfl) (fun _ _ _ h => h) (Or.inl ⟨by kernel_rfl, ?h0⟩) (by assumption) ?r0
    case h0 => (intro w hSw; (try dsimp only at hSw); first | (go_simp; done) | (go_simp; with_reducible rfl))
    try simp only [Act.put, List.setIfInBounds_toArray, List.set_cons_zero, List.set_cons_succ]
    refine wpAnyH_take (i := 1) (v := ?v1) rfl (by kernel_rfl) (by kernel_rfl) (by kernel_rfl) (fun _ _ _ h => h) (Or.inl ⟨by kernel_rfl, ?h1⟩) (by assumption) ?r1
    case h1 => (intro w hSw; (try dsimp only at hSw); first | (go_simp; done) | (go_simp; with_reducible rfl))
    try simp only [Act.put, List.setIfInBounds_toArray, List.set_cons_zero, List.set_cons_succ]
    refine wpAnyH_take (i := 2) (v := ?v2) rfl (by kernel_rfl) (by kernel_rfl) (by kernel_rfl) (fun _ _ _ h => h) (Or.inl ⟨by kernel_rfl, ?h2⟩) (by assumption) ?r2
    case h2 => (intro w hSw; (try dsimp only at hSw); first | (go_simp; done) | (go_simp; with_reducible rfl))
    try simp only [Act.put, List.setIfInBounds_toArray, List.set_cons_zero, List.set_cons_succ]
    refine wpAnyH_take (i := 3) (v := ?v3) rfl (by kernel_rfl) (by kernel_rfl) (by kernel_rfl) (fun _ _ _ h => h) (Or.inl ⟨by kernel_rfl, ?h3⟩) (by assumption) ?r3
    case h3 => (intro w hSw; (try dsimp only at hSw); first | (go_simp; done) | (go_simp; with_reducible rfl))
    try simp only [Act.put, List.setIfInBounds_toArray, List.set_cons_zero, List.set_cons_succ]
    refine wpAnyH_take (i := 5) (v := ?v5) rfl (by kernel_rfl) (by kernel_rfl) (by kernel_rfl) (fun _ _ _ h => h) (Or.inl ⟨by kernel_rfl, ?h5⟩) (by assumption) ?r5
    case h5 => (intro w hSw; (try dsimp only at hSw); first | (go_simp; done) | (go_simp; with_reducible rfl))
    try simp only [Act.put, List.setIfInBounds_toArray, List.set_cons_zero, List.set_cons_succ]
    refine wpAnyH_take (i := 6) (v := ?v6) rfl (by kernel_rfl) (by kernel_rfl) (by kernel_rfl) (fun _ _ _ h => h) (Or.inl ⟨by kernel_rfl, ?h6⟩) (by assumption) ?r6
    case h6 => (intro w hSw; (try dsimp only at hSw); first | (go_simp; done) | (go_simp; with_reducible rfl))
    try simp only [Act.put, List.setIfInBounds_toArray, List.set_cons_zero, List.set_cons_succ]
    refine wpAnyH_take (i := 7) (v := ?v7) rfl (by kernel_rfl) (by kernel_rfl) (by kernel_rfl) (fun _ _ _ h => h) (Or.inl ⟨by kernel_rfl, ?h7⟩) (by assumption) ?r7
    case h7 => (intro w hSw; (try dsimp only at hSw); first | (go_simp; done) | (go_simp; with_reducible rfl))
    try simp only [Act.put, List.setIfInBounds_toArray, List.set_cons_zero, List.set_cons_succ]
    refine wpAnyH_take (i := 8) (v := ?v8) rfl (by kernel_rfl) (by kernel_rfl) (by kernel_rfl) (fun _ _ _ h => h) (Or.inl ⟨by kernel_rfl, ?h8⟩) (by assumption) ?r8
    case h8 => (intro w hSw; (try dsimp only at hSw); first | (go_simp; done) | (go_simp; with_reducible rfl))
    try simp only [Act.put, List.setIfInBounds_toArray, List.set_cons_zero, List.set_cons_succ]
    refine wpAnyH_take (i := 9) (v := ?v9) rfl (by kernel_rfl) (by kernel_rfl) (by kernel_rfl) (fun _ _ _ h => h) (Or.inl ⟨by kernel_rfl, ?h9⟩) (by assumption) ?r9
    case h9 => (intro w hSw; (try dsimp only at hSw); first | (go_simp; done) | (go_simp; with_reducible rfl))
    try simp only [Act.put, List.setIfInBounds_toArray, List.set_cons_zero, List.set_cons_succ]
    refine wpAnyH_take (i := 10) (v := ?v10) rfl (by kernel_rfl) (by kernel_rfl) (by kernel_rfl) (fun _ _ _ h => h) (Or.inl ⟨by kernel_rfl, ?h10⟩) (by assumption) ?r10
    case h10 => (intro w hSw; (try dsimp only at hSw); first | (go_simp; done) | (go_simp; with_reducible rfl))
    try simp only [Act.put, List.setIfInBounds_toArray, List.set_cons_zero, List.set_cons_succ]
    refine wpAnyH_take (i := 11) (v := ?v11) rfl (by kernel_rfl) (by kernel_rfl) (by kernel_rfl) (fun _ _ _ h => h) (Or.inl ⟨by kernel_rfl, ?h11⟩) (by assumption) ?r11
    case h11 => (intro w hSw; (try dsimp only at hSw); first | (go_simp; done) | (go_simp; with_reducible rfl))
    try simp only [Act.put, List.setIfInBounds_toArray, List.set_cons_zero, List.set_cons_succ]
    refine wpAnyH_take (i := 12) (v := ?v12) rfl (by kernel_rfl) (by kernel_rfl) (by kernel_rfl) (fun _ _ _ h => h) (Or.inl ⟨by kernel_rfl, ?h12⟩) (by assumption) ?r12
    case h12 => (intro w hSw; (try dsimp only at hSw); first | (go_simp; done) | (go_simp; with_reducible rfl))
    try simp only [Act.put, List.setIfInBounds_toArray, List.set_cons_zero, List.set_cons_succ]
    refine wpAnyH_take (i := 13) (v := ?v13) rfl (by kernel_rfl) (by kernel_rfl) (by kernel_rfl) (fun _ _ _ h => h) (Or.inl ⟨by kernel_rfl, ?h13⟩) (by assumption) ?r13
    case h13 => (intro w hSw; (try dsimp only at hSw); first | (go_simp; done) | (go_simp; with_reducible rfl))
    try simp only [Act.put, List.setIfInBounds_toArray, List.set_cons_zero, List.set_cons_succ]
    refine wpAnyH_take (i := 14) (v := ?v14) rfl (by kernel_rfl) (by kernel_rfl) (by kernel_rfl) (fun _ _ _ h => h) (Or.inl ⟨by kernel_rfl, ?h14⟩) (by assumption) ?r14
    case h14 => (intro w hSw; (try dsimp only at hSw); first | (go_simp; done) | (go_simp; with_reducible rfl))
    try simp only [Act.put, List.setIfInBounds_toArray, List.set_cons_zero, List.set_cons_succ]
    refine wpAnyH_take (i := 15) (v := ?v15) rfl (by kernel_rfl) (by kernel_rfl) (by kernel_rfl) (fun _ _ _ h => h) (Or.inl ⟨by kernel_rfl, ?h15⟩) (by assumption) ?r15
    case h15 => (intro w hSw; (try dsimp only at hSw); first | (go_simp; done) | (go_simp; with_reducible rfl))
    try simp only [Act.put, List.setIfInBounds_toArray, List.set_cons_zero, List.set_cons_succ]
    refine wpAnyH_ready (rs := [4, 16]) (by kernel_rfl) (by simp) ?_
    refine AllReadyH.cons rfl (fun K1 hK1 => ?_) (AllReadyH.cons rfl (fun K2 hK2 => ?_) AllReadyH.nil)
    · skip
      go_simp
      refine hK1.out _ _ ?s101 (fun hHeld1 => ?_)
      case s101 => first | exact ⟨c2, nc⟩ | go_keep
      clear hK1 K1
      try simp only [Act.put, List.setIfInBounds_toArray, List.set_cons_zero, List.set_cons_succ]
      refine wpAnyH_ready (rs := [16]) (by kernel_rfl) (by simp) ?_
      refine AllReadyH.cons rfl (fun K3 hK3 => ?_) AllReadyH.nil
      go_simp
      refine hK3.out _ _ ?s103 (fun hHeld3 => ?_)
      case s103 => first | exact ⟨a2, an⟩ | go_keep
      clear hK3 K3
      try simp only [Act.put, List.setIfInBounds_toArray, List.set_cons_zero, List.set_cons_succ]
      refine wpAnyH_ready (rs := [17]) (by kernel_rfl) (by simp) ?_
      refine AllReadyH.cons rfl (fun K4 hK4 => ?_) AllReadyH.nil
      (refine step_append_lies _ rfl (.tmp 86) (.tmp 98) 41 rfl base 40 i0 (.int .u64 0) 1 8 hu hi0 hz0 hz1 hz2 rfl (by decide) (iv 0) (ins 0).length (uv (ins 0)) rfl (own_keep (hown.out.alloc _) ((Only.refl Nil _).drew) (fun _ _ z => z)) ⟨w4.heap.size, 0, none⟩ 1 1 [.int .u64 v] rfl rfl (src_one (heap_new w4 (.cells #[.int .u64 v] 40))) (by intro u hu; simp at hu; subst hu; rfl) (by decide) (by unfold maxLen; have := lens.out; have := kb.out; omega) (by have := lens.out; have := kb.out; omega) (Nat.le_trans hbs.out (by simp [World.drew])) _ rfl ?_; intro g cap w6 own6 gr6 hat6 hlt6; obtain ⟨⟨ic6, if6⟩, m6⟩ := ((m4'.out.nil ((Only.refl Nil w4).alloc _)).nil ((Only.refl Nil _).drew)).growIn own6 gr6 hat6; obtain ⟨b26, _, n6⟩ := ((m4'.out.nil ((Only.refl Nil w4).alloc _)).nil ((Only.refl Nil _).drew)).grownS hp2'.out (by decide) gr6; rw [ha'.out] at n6)
      refine hK4.out _ _ ?s104 (fun hHeld4 => ?_)
      case s104 => first | exact ⟨b26, n6⟩ | go_keep
      clear hK4 K4
      try simp only [Act.put, List.setIfInBounds_toArray, List.set_cons_zero, List.set_cons_succ]
      refine wpAnyH_ready (rs := [18]) (by kernel_rfl) (by simp) ?_
      refine AllReadyH.cons rfl (fun K5 hK5 => ?_) AllReadyH.nil
      go_simp
      refine hK5.out _ _ ?s105 (fun hHeld5 => ?_)
      case s105 => first | exact ⟨b26, n6⟩ | go_keep
      clear hK5 K5
      try simp only [Act.put, List.setIfInBounds_toArray, List.set_cons_zero, List.set_cons_succ]
      refine wpAnyH_ready (rs := [19]) (by kernel_rfl) (by simp) ?_
      refine AllReadyH.cons rfl (fun K6 hK6 => ?_) AllReadyH.nil
      go_simp
      refine hK6.out _ _ ?s106 (fun hHeld6 => ?_)
      case s106 => first | exact ⟨b26, n6⟩ | go_keep
      clear hK6 K6
      try simp only [Act.put, List.setIfInBounds_toArray, List.set_cons_zero, List.set_cons_succ]
      refine wpAnyH_ready (rs := [20]) (by kernel_rfl) (by simp) ?_
      refine AllReadyH.cons rfl (fun K7 hK7 => ?_) AllReadyH.nil
      go_simp
      refine hK7.out _ _ ?s107 (fun hHeld7 => ?_)
      case s107 => first | exact ⟨m6.cells.2.2.1, by rw [← ha'.out]; exact (m6.nc p hp2'.out).1⟩ | go_keep
      clear hK7 K7
      try simp only [Act.put, List.setIfInBounds_toArray, List.set_cons_zero, List.set_cons_succ]
      refine wpAnyH_done (by kernel_rfl) ?_ _
      go_wp2_with fail
      go_meet
      exact Lib.hid ⟨_, m6⟩
    · skip
      go_simp
      refine hK2.out _ _ ?s102 (fun hHeld2 => ?_)
      case s102 => first | exact ⟨a2, an⟩ | go_keep
      clear hK2 K2
      try simp only [Act.put, List.setIfInBounds_toArray, List.set_cons_zero, List.set_cons_succ]
      refine wpAnyH_ready (rs := [4]) (by kernel_rfl) (by simp) ?_
      refine AllReadyH.cons rfl (fun K8 hK8 => ?_) AllReadyH.nil
      go_simp
      refine hK8.out _ _ ?s108 (fun hHeld8 => ?_)
      case s108 => first | exact ⟨a2, an⟩ | go_keep
      clear hK8 K8
      try simp only [Act.put, List.setIfInBounds_toArray, List.set_cons_zero, List.set_cons_succ]
      refine wpAnyH_ready (rs := [17]) (by kernel_rfl) (by simp) ?_
      refine AllReadyH.cons rfl (fun K9 hK9 => ?_) AllReadyH.nil
      (refine step_append_lies _ rfl (.tmp 86) (.tmp 98) 41 rfl base 40 i0 (.int .u64 0) 1 8 hu hi0 hz0 hz1 hz2 rfl (by decide) (iv 0) (ins 0).length (uv (ins 0)) rfl (own_keep (hown.out.alloc _) ((Only.refl Nil _).drew) (fun _ _ z => z)) ⟨w4.heap.size, 0, none⟩ 1 1 [.int .u64 v] rfl rfl (src_one (heap_new w4 (.cells #[.int .u64 v] 40))) (by intro u hu; simp at hu; subst hu; rfl) (by decide) (by unfold maxLen; have := lens.out; have := kb.out; omega) (by have := lens.out; have := kb.out; omega) (Nat.le_trans hbs.out (by simp [World.drew])) _ rfl ?_; intro g cap w6 own6 gr6 hat6 hlt6; obtain ⟨⟨ic6, if6⟩, m6⟩ := ((m4'.out.nil ((Only.refl Nil w4).alloc _)).nil ((Only.refl Nil _).drew)).growIn own6 gr6 hat6; obtain ⟨b26, _, n6⟩ := ((m4'.out.nil ((Only.refl Nil w4).alloc _)).nil ((Only.refl Nil _).drew)).grownS hp2'.out (by decide) gr6; rw [ha'.out] at n6)
      refine hK9.out _ _ ?s109 (fun hHeld9 => ?_)
      case s109 => first | exact ⟨b26, n6⟩ | go_keep
      clear hK9 K9
      try simp only [Act.put, List.setIfInBounds_toArray, List.set_cons_zero, List.set_cons_succ]
      refine wpAnyH_ready (rs := [18]) (by kernel_rfl) (by simp) ?_
      refine AllReadyH.cons rfl (fun K10 hK10 => ?_) AllReadyH.nil
      go_simp
      refine hK10.out _ _ ?s110 (fun hHeld10 => ?_)
      case s110 => first | exact ⟨b26, n6⟩ | go_keep
      clear hK10 K10
      try simp only [Act.put, List.setIfInBounds_toArray, List.set_cons_zero, List.set_cons_succ]
      refine wpAnyH_ready (rs := [19]) (by kernel_rfl) (by simp) ?_
      refine AllReadyH.cons rfl (fun K11 hK11 => ?_) AllReadyH.nil
      go_simp
      refine hK11.out _ _ ?s111 (fun hHeld11 => ?_)
      case s111 => first | exact ⟨b26, n6⟩ | go_keep
      clear hK11 K11
      try simp only [Act.put, List.setIfInBounds_toArray, List.set_cons_zero, List.set_cons_succ]
      refine wpAnyH_ready (rs := [20]) (by kernel_rfl) (by simp) ?_
      refine AllReadyH.cons rfl (fun K12 hK12 => ?_) AllReadyH.nil
      go_simp
      refine hK12.out _ _ ?s112 (fun hHeld12 => ?_)
      case s112 => first | exact ⟨m6.cells.2.2.1, by rw [← ha'.out]; exact (m6.nc p hp2'.out).1⟩ | go_keep
      clear hK12 K12
      try simp only [Act.put, List.setIfInBounds_toArray, List.set_cons_zero, List.set_cons_succ]
      refine wpAnyH_done (by kernel_rfl) ?_ _
      go_wp2_with fail
      go_meet
      exact Lib.hid ⟨_, m6⟩
  case rest =>
    obtain ⟨iv2, mW⟩ := hcut.out
    have mW' := Lib.hid mW
    clear c0 c1 c2 c3 c4 c5 pc pf nc nf a2 a3 a4 an hcut
    obtain ⟨c0, c1, c2, c3, c4, c5⟩ := mW.cells
    obtain ⟨pc, pf⟩ := mW.pc p hp'.out
    rw [upd_same] at pc
    simp only [opv] at pc
    clear mW
    go_wp2
    go_end0
    have m9 := mW'.out.drop p
    rw [poG_drop, ← ei'.out] at m9
    obtain ⟨vo', it', tk', z⟩ := h'.out.done hp'.out e'.out er'.out hK rl4'.out m9
    rw [ei'.out] at z
    exact ⟨rfl, Lib.hid ⟨L4, vo', it', tk', iv2, z⟩⟩
end
end Go.Proofs.Ytfhbgabblegecaa.Gt
