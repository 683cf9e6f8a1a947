/- A crowd at a gate: a step that takes, and is done. -/
import Derived.Test.YtfhbgabblegecaaGtCc
namespace Go.Proofs.Ytfhbgabblegecaa.Gt
open Go.RowKit
section
variable {w1 w w4 : World} {rg B base c cb pb nb ib K : Nat} {L : List Int} {t : Int} {R : Rg} {P : Nat → Option (Dir × GS)} {vo : Nat → Int} {ob : Nat → Nat} {nx : Nat → Nat} {it : List Nat} {tk : Nat → List Nat} {iv : Nat → Value} {ins : Nat → List Int}

theorem Cw.grownT {po : Nat → Option (Nat × OS)} {nx : Nat → Int} {w' : World} (h : Cw w1 w rg B base c cb pb nb ib L t po nx iv ins) {p q : Nat} (hq : q < 4) (hp : p < 3) (gr : w.grownBy w' (iv p).ownBlock) :
    w'.cell? ⟨cb, 1, none⟩ = some (.slice (some ⟨pb, 0, none⟩) 4 4) ∧ w'.cell? ⟨pb, q, none⟩ = some (opv (po q)) := by
  obtain ⟨c1, c2, c3, c4⟩ := h.grown hp gr
  exact ⟨by simp [World.cell?, c1, cbv], row_cell c2 q hq⟩

set_option linter.unusedSimpArgs false in
set_option maxRecDepth 100000 in
set_option maxHeartbeats 8000000 in
theorem cstep_takedone (h : Cg w1 w rg B base c cb pb nb ib K L t R P vo ob nx it tk iv ins) {p q : Nat} (hq : q < 2) (hpq : p = q + 2) {d : Dir} {s : GS} (e : P p = some (d, s)) {R' : Rg} {x : Int} (er : gstep c R d s = (R', .done x)) (hK : K + 1 ≤ 100000) (more : Bool) :
    Calls Try.prog 62 #[.pointer (some ⟨cb, 0, none⟩), .int .i64 (p : Int), .bool more] w fun e w' => e = .returned (.tuple #[]) ∧ Hid (∃ L' vo' it' tk' iv', Cg w1 w' rg B base c cb pb nb ib (K + 1) L' (t + 1) R' (upd P p none) vo' ob nx it' tk' iv' (insN ins nx p x)) := by
  have hp : p < 4 := by omega
  have hq' := Lib.hid hq
  have p2 : ¬ (p : Int) < 2 := by omega
  have q2 : (q : Int) < 2 := by omega
  have hsub : IntKind.i64.wrap ((p : Int) - 2) = (q : Int) := by rw [IntKind.wrap_i64]; omega
  have ei : insN ins nx p x = upd ins (q + 1) (ins (q + 1) ++ [x]) := by subst hpq; exact if_neg (by omega)
  rw [ei]
  have ei' := Lib.hid ei
  clear ei
  obtain ⟨i0, hi0, hz0, hz1, hz2⟩ := info_parts Try.infoU64
  have hu := Try.underlying41
  have lens := Lib.hid (h.inb (q + 1))
  have kb := Lib.hid h.kb
  have sp := Lib.hid (h.stepP hp e er)
  rw [show (osR d (GR.done x)).isO = true from rfl] at sp
  have h' := Lib.hid h
  have e' := Lib.hid e
  have er' := Lib.hid er
  have p3 : (p : Int) < 4 := by omega
  have hp' := Lib.hid hp
  obtain ⟨c0, c1, c2, c3, c4, c5⟩ := h.cw.cells
  have pc := h.pcell hp e
  clear h e er hp hpq hq
  go_enter Try.func62, Try.ntmps62
  go_wp2_with (first
    | (go_at_call 84; (with_reducible refine (sp.out).mono ?_); rintro e w4 ⟨rfl, k4⟩; obtain ⟨L4, rl4, q4, m4⟩ := k4.out; clear c0 c1 c2 c3 c4 c5 pc; obtain ⟨c0, c1, c2, c3, c4, c5⟩ := m4.cells; obtain ⟨pc, pf⟩ := m4.pc p hp'.out; rw [upd_same] at pc; simp only [opv] at pc; obtain ⟨ic, if_⟩ := m4.ic q hq'.out; have vc : Hid (∀ n, Calls Try.prog 86 #[.pointer (some ⟨ob p, 0, none⟩)] (w4.drewN n) (fun e w' => e = .returned (.int .u64 x) ∧ w4.drewN n = w')) := Lib.hid (fun n => valueO (q4.op.drewN n)); have oc := Lib.hid (show Calls Try.prog 85 #[.pointer (some ⟨ob p, 0, none⟩)] w4 (fun e w' => e = .returned (.int .i64 1) ∧ w4 = w') from outcomeO q4.op))
    | (go_at_call 85; (with_reducible refine (oc.out).mono ?_); rintro e w5 ⟨rfl, rfl⟩))
  have m4' := Lib.hid m4
  have hown := Lib.hid (m4.core.own (q + 1) (by have := hq'.out; omega))
  have hbs := Lib.hid m4.core.hb
  have mA := m4.nil ((Only.refl Nil w4).alloc (.cells #[.int .u64 x] 40))
  obtain ⟨_, a1, _, _, a4, _⟩ := mA.cells
  have ap := (mA.pc p hp'.out).1
  rw [upd_same] at ap
  simp only [opv] at ap
  have ai := (mA.ic q hq'.out).1
  have di := (((m4.drewN 1).nil ((Only.refl Nil _).alloc (.cells #[.int .u64 x] 40))).ic q hq'.out).1
  clear mA
  have rl4' := Lib.hid rl4
  clear m4 q4 rl4 k4
  go_cut [111] (fun s111 wx => Hid (∃ iv' : Nat → Value, Cw w1 wx rg B base c cb pb nb ib L4 (t + 1) (upd (poG P ob) p (some (ob p, osR d (.done x)))) (fun q => (nx q : Int)) iv' (upd ins (q + 1) (ins (q + 1) ++ [x]))))
  case first =>
    refine wp_region_held_drew (S := fun w' => w'.cell? ⟨cb, 1, none⟩ = some (.slice (some ⟨pb, 0, none⟩) 4 4) ∧ w'.cell? ⟨cb, 4, none⟩ = some (.slice (some ⟨ib, 0, none⟩) 2 2) ∧ w'.cell? ⟨pb, p, none⟩ = some (.pointer (some ⟨ob p, 0, none⟩))) (by kernel_rfl) ⟨c1, c4, pc⟩ (fun hHeld => ?_)
    refine wpAnyH_take (i := 0) (v := ?v0) rfl (by kernel_rfl) (by kernel_rfl) (by kernel_rfl) (fun _ _ _ h => h) (Or.inl ⟨by kernel_rfl, ?h0⟩) (by assumption) ?r0
    case h0 => (intro w hSw; (try dsimp only at hSw); first | (go_simp; done) | (go_simp; with_reducible rfl))
    try simp only [Act.put, List.setIfInBounds_toArray, List.set_cons_zero, List.set_cons_succ]
    refine wpAnyH_take (i := 1) (v := ?v1) rfl (by kernel_rfl) (by kernel_rfl) (by kernel_rfl) (fun _ _ _ h => h) (Or.inl ⟨by kernel_rfl, ?h1⟩) (by assumption) ?r1
    case h1 => (intro w hSw; (try dsimp only at hSw); first | (go_simp; done) | (go_simp; with_reducible rfl))
    try simp only [Act.put, List.setIfInBounds_toArray, List.set_cons_zero, List.set_cons_succ]
    refine wpAnyH_take (i := 2) (v := ?v2) rfl (by kernel_rfl) (by kernel_rfl) (by kernel_rfl) (fun _ _ _ h => h) (Or.inl ⟨by kernel_rfl, ?h2⟩) (by assumption) ?r2
    case h2 => (intro w hSw; (try dsimp only at hSw); first | (go_simp; done) | (go_simp; with_reducible rfl))
    try simp only [Act.put, List.setIfInBounds_toArray, List.set_cons_zero, List.set_cons_succ]
    refine wpAnyH_take (i := 3) (v := ?v3) rfl (by kernel_rfl) (by kernel_rfl) (by kernel_rfl) (fun _ _ _ h => h) (Or.inl ⟨by kernel_rfl, ?h3⟩) (by assumption) ?r3
    case h3 => (intro w hSw; (try dsimp only at hSw); first | (go_simp; done) | (go_simp; with_reducible rfl))
    try simp only [Act.put, List.setIfInBounds_toArray, List.set_cons_zero, List.set_cons_succ]
    refine wpAnyH_take (i := 4) (v := ?v4) rfl (by kernel_rfl) (by kernel_rfl) (by kernel_rfl) (fun _ _ _ h => h) (Or.inl ⟨by kernel_rfl, ?h4⟩) (by assumption) ?r4
    case h4 => (intro w hSw; (try dsimp only at hSw); first | (go_simp; done) | (go_simp; with_reducible rfl))
    try simp only [Act.put, List.setIfInBounds_toArray, List.set_cons_zero, List.set_cons_succ]
    refine wpAnyH_take (i := 5) (v := ?v5) rfl (by kernel_rfl) (by kernel_rfl) (by kernel_rfl) (fun _ _ _ h => h) (Or.inl ⟨by kernel_rfl, ?h5⟩) (by assumption) ?r5
    case h5 => (intro w hSw; (try dsimp only at hSw); first | (go_simp; done) | (go_simp; with_reducible rfl))
    try simp only [Act.put, List.setIfInBounds_toArray, List.set_cons_zero, List.set_cons_succ]
    refine wpAnyH_take (i := 6) (v := ?v6) rfl (by kernel_rfl) (by kernel_rfl) (by kernel_rfl) (fun _ _ _ h => h) (Or.inl ⟨by kernel_rfl, ?h6⟩) (by assumption) ?r6
    case h6 => (intro w hSw; (try dsimp only at hSw); first | (go_simp; done) | (go_simp; with_reducible rfl))
    try simp only [Act.put, List.setIfInBounds_toArray, List.set_cons_zero, List.set_cons_succ]
    refine wpAnyH_take (i := 7) (v := ?v7) rfl (by kernel_rfl) (by kernel_rfl) (by kernel_rfl) (fun _ _ _ h => h) (Or.inl ⟨by kernel_rfl, ?h7⟩) (by assumption) ?r7
    case h7 => (intro w hSw; (try dsimp only at hSw); first | (go_simp; done) | (go_simp; with_reducible rfl))
    try simp only [Act.put, List.setIfInBounds_toArray, List.set_cons_zero, List.set_cons_succ]
    refine wpAnyH_take (i := 8) (v := ?v8) rfl (by kernel_rfl) (by kernel_rfl) (by kernel_rfl) (fun _ _ _ h => h) (Or.inl ⟨by kernel_rfl, ?h8⟩) (by assumption) ?r8
    case h8 => (intro w hSw; (try dsimp only at hSw); first | (go_simp; done) | (go_simp; with_reducible rfl))
    try simp only [Act.put, List.setIfInBounds_toArray, List.set_cons_zero, List.set_cons_succ]
    refine wpAnyH_take (i := 9) (v := ?v9) rfl (by kernel_rfl) (by kernel_rfl) (by kernel_rfl) (fun _ _ _ h => h) (Or.inl ⟨by kernel_rfl, ?h9⟩) (by assumption) ?r9
    case h9 => (intro w hSw; (try dsimp only at hSw); first | (go_simp; done) | (go_simp; with_reducible rfl))
    try simp only [Act.put, List.setIfInBounds_toArray, List.set_cons_zero, List.set_cons_succ]
    refine wpAnyH_take (i := 10) (v := ?v10) rfl (by kernel_rfl) (by kernel_rfl) (by kernel_rfl) (fun _ _ _ h => h) (Or.inl ⟨by kernel_rfl, ?h10⟩) (by assumption) ?r10
    case h10 => (intro w hSw; (try dsimp only at hSw); first | (go_simp; done) | (go_simp; with_reducible rfl))
    try simp only [Act.put, List.setIfInBounds_toArray, List.set_cons_zero, List.set_cons_succ]
    refine wpAnyH_take (i := 11) (v := ?v11) rfl (by kernel_rfl) (by kernel_rfl) (by kernel_rfl) (fun _ _ _ h => h) (Or.inl ⟨by kernel_rfl, ?h11⟩) (by assumption) ?r11
    case h11 => (intro w hSw; (try dsimp only at hSw); first | (go_simp; done) | (go_simp; with_reducible rfl))
    try simp only [Act.put, List.setIfInBounds_toArray, List.set_cons_zero, List.set_cons_succ]
    refine wpAnyH_take (i := 12) (v := ?v12) rfl (by kernel_rfl) (by kernel_rfl) (by kernel_rfl) (fun _ _ _ h => h) (Or.inl ⟨by kernel_rfl, ?h12⟩) (by assumption) ?r12
    case h12 => (intro w hSw; (try dsimp only at hSw); first | (go_simp; done) | (go_simp; with_reducible rfl))
    try simp only [Act.put, List.setIfInBounds_toArray, List.set_cons_zero, List.set_cons_succ]
    refine wpAnyH_take (i := 14) (v := ?v14) rfl (by kernel_rfl) (by kernel_rfl) (by kernel_rfl) (fun _ _ _ h => h) (Or.inl ⟨by kernel_rfl, ?h14⟩) (by assumption) ?r14
    case h14 => (intro w hSw; (try dsimp only at hSw); first | (go_simp; done) | (go_simp; with_reducible rfl))
    try simp only [Act.put, List.setIfInBounds_toArray, List.set_cons_zero, List.set_cons_succ]
    refine wpAnyH_take (i := 15) (v := ?v15) rfl (by kernel_rfl) (by kernel_rfl) (by kernel_rfl) (fun _ _ _ h => h) (Or.inl ⟨by kernel_rfl, ?h15⟩) (by assumption) ?r15
    case h15 => (intro w hSw; (try dsimp only at hSw); first | (go_simp; done) | (go_simp; with_reducible rfl))
    try simp only [Act.put, List.setIfInBounds_toArray, List.set_cons_zero, List.set_cons_succ]
    refine wpAnyH_take (i := 16) (v := ?v16) rfl (by kernel_rfl) (by kernel_rfl) (by kernel_rfl) (fun _ _ _ h => h) (Or.inl ⟨by kernel_rfl, ?h16⟩) (by assumption) ?r16
    case h16 => (intro w hSw; (try dsimp only at hSw); first | (go_simp; done) | (go_simp; with_reducible rfl))
    try simp only [Act.put, List.setIfInBounds_toArray, List.set_cons_zero, List.set_cons_succ]
    refine wpAnyH_take (i := 17) (v := ?v17) rfl (by kernel_rfl) (by kernel_rfl) (by kernel_rfl) (fun _ _ _ h => h) (Or.inl ⟨by kernel_rfl, ?h17⟩) (by assumption) ?r17
    case h17 => (intro w hSw; (try dsimp only at hSw); first | (go_simp; done) | (go_simp; with_reducible rfl))
    try simp only [Act.put, List.setIfInBounds_toArray, List.set_cons_zero, List.set_cons_succ]
    refine wpAnyH_take (i := 18) (v := ?v18) rfl (by kernel_rfl) (by kernel_rfl) (by kernel_rfl) (fun _ _ _ h => h) (Or.inl ⟨by kernel_rfl, ?h18⟩) (by assumption) ?r18
    case h18 => (intro w hSw; (try dsimp only at hSw); first | (go_simp; done) | (go_simp; with_reducible rfl))
    try simp only [Act.put, List.setIfInBounds_toArray, List.set_cons_zero, List.set_cons_succ]
    refine wpAnyH_take (i := 19) (v := ?v19) rfl (by kernel_rfl) (by kernel_rfl) (by kernel_rfl) (fun _ _ _ h => h) (Or.inl ⟨by kernel_rfl, ?h19⟩) (by assumption) ?r19
    case h19 => (intro w hSw; (try dsimp only at hSw); first | (go_simp; done) | (go_simp; with_reducible rfl))
    try simp only [Act.put, List.setIfInBounds_toArray, List.set_cons_zero, List.set_cons_succ]
    refine wpAnyH_take (i := 20) (v := ?v20) rfl (by kernel_rfl) (by kernel_rfl) (by kernel_rfl) (fun _ _ _ h => h) (Or.inl ⟨by kernel_rfl, ?h20⟩) (by assumption) ?r20
    case h20 => (intro w hSw; (try dsimp only at hSw); first | (go_simp; done) | (go_simp; with_reducible rfl))
    try simp only [Act.put, List.setIfInBounds_toArray, List.set_cons_zero, List.set_cons_succ]
    refine wpAnyH_ready (rs := [13, 21]) (by kernel_rfl) (by simp) ?_
    refine AllReadyH.cons rfl (fun K1 hK1 => ?_) (AllReadyH.cons rfl (fun K2 hK2 => ?_) AllReadyH.nil)
    · skip
      go_simp
      refine hK1.out _ _ ?s101 (fun hHeld1 => ?_)
      case s101 => first | exact ⟨c1, c4, pc⟩ | go_keep
      clear hK1 K1
      try simp only [Act.put, List.setIfInBounds_toArray, List.set_cons_zero, List.set_cons_succ]
      refine wpAnyH_ready (rs := [21]) (by kernel_rfl) (by simp) ?_
      refine AllReadyH.cons rfl (fun K3 hK3 => ?_) AllReadyH.nil
      (go_simp; go_at_call 86; refine (vc.out _).mono ?_; rintro e w5 ⟨rfl, rfl⟩; go_wp2_with fail)
      refine hK3.out _ _ ?s103 (fun hHeld3 => ?_)
      case s103 => first | exact ⟨c1, c4, pc⟩ | go_keep
      clear hK3 K3
      try simp only [Act.put, List.setIfInBounds_toArray, List.set_cons_zero, List.set_cons_succ]
      refine wpAnyH_ready (rs := [22]) (by kernel_rfl) (by simp) ?_
      refine AllReadyH.cons rfl (fun K4 hK4 => ?_) AllReadyH.nil
      go_simp
      refine hK4.out _ _ ?s104 (fun hHeld4 => ?_)
      case s104 => first | exact ⟨a1, a4, ap⟩ | go_keep
      clear hK4 K4
      try simp only [Act.put, List.setIfInBounds_toArray, List.set_cons_zero, List.set_cons_succ]
      refine wpAnyH_ready (rs := [23]) (by kernel_rfl) (by simp) ?_
      refine AllReadyH.cons rfl (fun K5 hK5 => ?_) AllReadyH.nil
      (refine step_append_lies _ rfl (.tmp 124) (.tmp 133) 41 rfl base 40 i0 (.int .u64 0) 1 8 hu hi0 hz0 hz1 hz2 rfl (by decide) (iv (q + 1)) (ins (q + 1)).length (uv (ins (q + 1))) rfl (own_keep (hown.out.alloc _) ((Only.refl Nil _).drew) (fun _ _ z => z)) ⟨w4.heap.size, 0, none⟩ 1 1 [.int .u64 x] rfl rfl (src_one (heap_new w4 (.cells #[.int .u64 x] 40))) (by intro u hu; simp at hu; subst hu; rfl) (by decide) (by unfold maxLen; have := lens.out; have := kb.out; omega) (by have := lens.out; have := kb.out; omega) (Nat.le_trans hbs.out (by simp [World.drew])) _ rfl ?_; intro g cap w6 own6 gr6 hat6 hlt6; obtain ⟨⟨ic6, if6, b46⟩, m6⟩ := ((m4'.out.nil ((Only.refl Nil w4).alloc _)).nil ((Only.refl Nil _).drew)).growTk hq'.out own6 gr6 hat6; obtain ⟨b16, bp6⟩ := ((m4'.out.nil ((Only.refl Nil w4).alloc _)).nil ((Only.refl Nil _).drew)).grownT hp'.out (show q + 1 < 3 by have := hq'.out; omega) gr6; rw [upd_same] at bp6; simp only [opv] at bp6)
      refine hK5.out _ _ ?s105 (fun hHeld5 => ?_)
      case s105 => first | exact ⟨b16, b46, bp6⟩ | go_keep
      clear hK5 K5
      try simp only [Act.put, List.setIfInBounds_toArray, List.set_cons_zero, List.set_cons_succ]
      refine wpAnyH_ready (rs := [24]) (by kernel_rfl) (by simp) ?_
      refine AllReadyH.cons rfl (fun K6 hK6 => ?_) AllReadyH.nil
      go_simp
      refine hK6.out _ _ ?s106 (fun hHeld6 => ?_)
      case s106 => first | exact ⟨b16, b46, bp6⟩ | go_keep
      clear hK6 K6
      try simp only [Act.put, List.setIfInBounds_toArray, List.set_cons_zero, List.set_cons_succ]
      refine wpAnyH_ready (rs := [25]) (by kernel_rfl) (by simp) ?_
      refine AllReadyH.cons rfl (fun K7 hK7 => ?_) AllReadyH.nil
      go_simp
      refine hK7.out _ _ ?s107 (fun hHeld7 => ?_)
      case s107 => first | exact ⟨m6.cells.2.1, m6.cells.2.2.2.2.1, by have := (m6.pc p hp'.out).1; rw [upd_same] at this; simpa only [opv] using this⟩ | go_keep
      clear hK7 K7
      try simp only [Act.put, List.setIfInBounds_toArray, List.set_cons_zero, List.set_cons_succ]
      refine wpAnyH_done (by kernel_rfl) ?_ _
      go_wp2_with fail
      go_meet
      exact Lib.hid ⟨_, m6⟩
    · skip
      (go_simp; go_at_call 86; refine (vc.out _).mono ?_; rintro e w5 ⟨rfl, rfl⟩; go_wp2_with fail)
      refine hK2.out _ _ ?s102 (fun hHeld2 => ?_)
      case s102 => first | exact ⟨c1, c4, pc⟩ | go_keep
      clear hK2 K2
      try simp only [Act.put, List.setIfInBounds_toArray, List.set_cons_zero, List.set_cons_succ]
      refine wpAnyH_ready (rs := [13, 22]) (by kernel_rfl) (by simp) ?_
      refine AllReadyH.cons rfl (fun K8 hK8 => ?_) (AllReadyH.cons rfl (fun K9 hK9 => ?_) AllReadyH.nil)
      · skip
        go_simp
        refine hK8.out _ _ ?s108 (fun hHeld8 => ?_)
        case s108 => first | exact ⟨c1, c4, pc⟩ | go_keep
        clear hK8 K8
        try simp only [Act.put, List.setIfInBounds_toArray, List.set_cons_zero, List.set_cons_succ]
        refine wpAnyH_ready (rs := [22]) (by kernel_rfl) (by simp) ?_
        refine AllReadyH.cons rfl (fun K10 hK10 => ?_) AllReadyH.nil
        go_simp
        refine hK10.out _ _ ?s110 (fun hHeld10 => ?_)
        case s110 => first | exact ⟨a1, a4, ap⟩ | go_keep
        clear hK10 K10
        try simp only [Act.put, List.setIfInBounds_toArray, List.set_cons_zero, List.set_cons_succ]
        refine wpAnyH_ready (rs := [23]) (by kernel_rfl) (by simp) ?_
        refine AllReadyH.cons rfl (fun K11 hK11 => ?_) AllReadyH.nil
        (refine step_append_lies _ rfl (.tmp 124) (.tmp 133) 41 rfl base 40 i0 (.int .u64 0) 1 8 hu hi0 hz0 hz1 hz2 rfl (by decide) (iv (q + 1)) (ins (q + 1)).length (uv (ins (q + 1))) rfl (own_keep (hown.out.alloc _) ((Only.refl Nil _).drew) (fun _ _ z => z)) ⟨w4.heap.size, 0, none⟩ 1 1 [.int .u64 x] rfl rfl (src_one (heap_new w4 (.cells #[.int .u64 x] 40))) (by intro u hu; simp at hu; subst hu; rfl) (by decide) (by unfold maxLen; have := lens.out; have := kb.out; omega) (by have := lens.out; have := kb.out; omega) (Nat.le_trans hbs.out (by simp [World.drew])) _ rfl ?_; intro g cap w6 own6 gr6 hat6 hlt6; obtain ⟨⟨ic6, if6, b46⟩, m6⟩ := ((m4'.out.nil ((Only.refl Nil w4).alloc _)).nil ((Only.refl Nil _).drew)).growTk hq'.out own6 gr6 hat6; obtain ⟨b16, bp6⟩ := ((m4'.out.nil ((Only.refl Nil w4).alloc _)).nil ((Only.refl Nil _).drew)).grownT hp'.out (show q + 1 < 3 by have := hq'.out; omega) gr6; rw [upd_same] at bp6; simp only [opv] at bp6)
        refine hK11.out _ _ ?s111 (fun hHeld11 => ?_)
        case s111 => first | exact ⟨b16, b46, bp6⟩ | go_keep
        clear hK11 K11
        try simp only [Act.put, List.setIfInBounds_toArray, List.set_cons_zero, List.set_cons_succ]
        refine wpAnyH_ready (rs := [24]) (by kernel_rfl) (by simp) ?_
        refine AllReadyH.cons rfl (fun K12 hK12 => ?_) AllReadyH.nil
        go_simp
        refine hK12.out _ _ ?s112 (fun hHeld12 => ?_)
        case s112 => first | exact ⟨b16, b46, bp6⟩ | go_keep
        clear hK12 K12
        try simp only [Act.put, List.setIfInBounds_toArray, List.set_cons_zero, List.set_cons_succ]
        refine wpAnyH_ready (rs := [25]) (by kernel_rfl) (by simp) ?_
        refine AllReadyH.cons rfl (fun K13 hK13 => ?_) AllReadyH.nil
        go_simp
        refine hK13.out _ _ ?s113 (fun hHeld13 => ?_)
        case s113 => first | exact ⟨m6.cells.2.1, m6.cells.2.2.2.2.1, by have := (m6.pc p hp'.out).1; rw [upd_same] at this; simpa only [opv] using this⟩ | go_keep
        clear hK13 K13
        try simp only [Act.put, List.setIfInBounds_toArray, List.set_cons_zero, List.set_cons_succ]
        refine wpAnyH_done (by kernel_rfl) ?_ _
        go_wp2_with fail
        go_meet
        exact Lib.hid ⟨_, m6⟩
      · skip
        go_simp
        refine hK9.out _ _ ?s109 (fun hHeld9 => ?_)
        case s109 => first | exact ⟨a1, a4, ap⟩ | go_keep
        clear hK9 K9
        try simp only [Act.put, List.setIfInBounds_toArray, List.set_cons_zero, List.set_cons_succ]
        refine wpAnyH_ready (rs := [13]) (by kernel_rfl) (by simp) ?_
        refine AllReadyH.cons rfl (fun K14 hK14 => ?_) AllReadyH.nil
        go_simp
        refine hK14.out _ _ ?s114 (fun hHeld14 => ?_)
        case s114 => first | exact ⟨a1, a4, ap⟩ | go_keep
        clear hK14 K14
        try simp only [Act.put, List.setIfInBounds_toArray, List.set_cons_zero, List.set_cons_succ]
        refine wpAnyH_ready (rs := [23]) (by kernel_rfl) (by simp) ?_
        refine AllReadyH.cons rfl (fun K15 hK15 => ?_) AllReadyH.nil
        (refine step_append_lies _ rfl (.tmp 124) (.tmp 133) 41 rfl base 40 i0 (.int .u64 0) 1 8 hu hi0 hz0 hz1 hz2 rfl (by decide) (iv (q + 1)) (ins (q + 1)).length (uv (ins (q + 1))) rfl (own_keep (hown.out.alloc _) ((Only.refl Nil _).drew) (fun _ _ z => z)) ⟨w4.heap.size, 0, none⟩ 1 1 [.int .u64 x] rfl rfl (src_one (heap_new w4 (.cells #[.int .u64 x] 40))) (by intro u hu; simp at hu; subst hu; rfl) (by decide) (by unfold maxLen; have := lens.out; have := kb.out; omega) (by have := lens.out; have := kb.out; omega) (Nat.le_trans hbs.out (by simp [World.drew])) _ rfl ?_; intro g cap w6 own6 gr6 hat6 hlt6; obtain ⟨⟨ic6, if6, b46⟩, m6⟩ := ((m4'.out.nil ((Only.refl Nil w4).alloc _)).nil ((Only.refl Nil _).drew)).growTk hq'.out own6 gr6 hat6; obtain ⟨b16, bp6⟩ := ((m4'.out.nil ((Only.refl Nil w4).alloc _)).nil ((Only.refl Nil _).drew)).grownT hp'.out (show q + 1 < 3 by have := hq'.out; omega) gr6; rw [upd_same] at bp6; simp only [opv] at bp6)
        refine hK15.out _ _ ?s115 (fun hHeld15 => ?_)
        case s115 => first | exact ⟨b16, b46, bp6⟩ | go_keep
        clear hK15 K15
        try simp only [Act.put, List.setIfInBounds_toArray, List.set_cons_zero, List.set_cons_succ]
        refine wpAnyH_ready (rs := [24]) (by kernel_rfl) (by simp) ?_
        refine AllReadyH.cons rfl (fun K16 hK16 => ?_) AllReadyH.nil
        go_simp
        refine hK16.out _ _ ?s116 (fun hHeld16 => ?_)
        case s116 => first | exact ⟨b16, b46, bp6⟩ | go_keep
        clear hK16 K16
        try simp only [Act.put, List.setIfInBounds_toArray, List.set_cons_zero, List.set_cons_succ]
        refine wpAnyH_ready (rs := [25]) (by kernel_rfl) (by simp) ?_
        refine AllReadyH.cons rfl (fun K17 hK17 => ?_) AllReadyH.nil
        go_simp
        refine hK17.out _ _ ?s117 (fun hHeld17 => ?_)
        case s117 => first | exact ⟨m6.cells.2.1, m6.cells.2.2.2.2.1, by have := (m6.pc p hp'.out).1; rw [upd_same] at this; simpa only [opv] using this⟩ | go_keep
        clear hK17 K17
        try simp only [Act.put, List.setIfInBounds_toArray, List.set_cons_zero, List.set_cons_succ]
        refine wpAnyH_done (by kernel_rfl) ?_ _
        go_wp2_with fail
        go_meet
        exact Lib.hid ⟨_, m6⟩
  case rest =>
    obtain ⟨iv2, mW⟩ := hcut.out
    have mW' := Lib.hid mW
    clear c0 c1 c2 c3 c4 c5 pc pf ic if_ a1 a4 ap ai di hcut
    obtain ⟨c0, c1, c2, c3, c4, c5⟩ := mW.cells
    obtain ⟨pc, pf⟩ := mW.pc p hp'.out
    rw [upd_same] at pc
    simp only [opv] at pc
    clear mW
    go_wp2
    go_end0
    have m9 := mW'.out.drop p
    rw [poG_drop, ← ei'.out] at m9
    obtain ⟨vo', it', tk', z⟩ := h'.out.done hp'.out e'.out er'.out hK rl4'.out m9
    rw [ei'.out] at z
    exact ⟨rfl, Lib.hid ⟨L4, vo', it', tk', iv2, z⟩⟩
end
end Go.Proofs.Ytfhbgabblegecaa.Gt
