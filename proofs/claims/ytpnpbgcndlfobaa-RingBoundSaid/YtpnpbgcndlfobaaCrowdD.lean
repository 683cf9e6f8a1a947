/- A crowd: a Put that comes to be Done. -/
import Derived.Test.YtpnpbgcndlfobaaCrowdC
namespace Go.Proofs.Ytpnpbgcndlfobaa
open Go.RowKit
section
variable {w1 w w4 : World} {rg B base c cb pb nb ib K : Nat} {L : List Int} {t : Int} {R : Rg} {P : Nat → Option (PS × Int)} {T : Option TS} {ob : Nat → Nat} {tb : Nat} {nx : Nat → Int} {iv : Nat → Value} {st : Int} {ta : Value} {mo : Int} {cnt : Nat} {ins : Nat → List Int} {taken : List Int}

set_option linter.unusedSimpArgs false in
set_option maxRecDepth 100000 in
set_option maxHeartbeats 8000000 in
theorem put_done (h : Cr w1 w rg B base c cb pb nb ib K L t R P T ob tb nx iv st ta mo cnt ins taken) {p : Nat} (hp : p < 3) {s : PS} {v : Int} (e : P p = some (s, v)) {R' : Rg} {m : Nat} (er : putStep c R v s = (R', .done m)) (hK : K + 1 ≤ 100000) (more : Bool) :
    Calls Try.prog 49 #[.pointer (some ⟨cb, 0, none⟩), .int .i64 (p : Int), .bool more] w fun e w' => e = .returned (.tuple #[]) ∧ Hid (∃ (L' : List Int) (iv' : Nat → Value) (mo' : Int), Cr w1 w' rg B base c cb pb nb ib (K + 1) L' (t + 1) R' (upd P p none) T ob tb nx iv' st ta mo' (cnt + 1) (upd ins p (ins p ++ [v])) taken) := by
  have hv := (h.pv p s v e).2
  have hn1 := Lib.hid (h.nxb p hp)
  have kb := Lib.hid h.kb
  obtain ⟨i0, hi0, hz0, hz1, hz2⟩ := info_parts Try.infoU64
  have hu := Try.underlying42
  have lens := Lib.hid (Nat.le_trans (h.sys.head_le.2.2 p) h.tl)
  have hcnt := Lib.hid (Int.le_trans h.mo1 h.mo2)
  have hc8 := Lib.hid h.hc2
  have sp := Lib.hid (h.stepP hp e er)
  rw [show (osPR v (PR.done m)).isO = true from rfl] at sp
  have h' := Lib.hid h
  have e' := Lib.hid e
  have er' := Lib.hid er
  have p3 : (p : Int) < 3 := by omega
  have hp' := Lib.hid hp
  obtain ⟨c0, c1, c2, c3, c4, c5, c6, c7, c8⟩ := h.cw.cells
  have pc := h.pcell hp e
  clear h e er hp
  go_enter Try.func49, Try.ntmps49
  go_wp2_with (first
    | (go_at_call 18; (with_reducible refine (sp.out).mono ?_); rintro e w4 ⟨rfl, k4⟩; obtain ⟨L4, rl4, q4, m4⟩ := k4.out; clear c0 c1 c2 c3 c4 c5 c6 c7 c8 pc; obtain ⟨c0, c1, c2, c3, c4, c5, c6, c7, c8⟩ := m4.cells; obtain ⟨pc, pf⟩ := m4.pc p hp'.out; rw [upd_same] at pc; simp only [opv] at pc; obtain ⟨nc, nf⟩ := m4.nc p hp'.out; obtain ⟨ic, if_⟩ := m4.ic p hp'.out; have oc := Lib.hid (show Calls Try.prog 35 #[.pointer (some ⟨ob p, 0, none⟩)] w4 (fun e w' => e = .returned (.int .i64 1) ∧ w4 = w') from outcomeO q4.op))
    | (go_at_call 35; (with_reducible refine (oc.out).mono ?_); rintro e w5 ⟨rfl, rfl⟩))
  have m4' := Lib.hid m4
  have hown := Lib.hid (m4.core.own p hp'.out)
  have hbs := Lib.hid m4.core.hb
  have hvs : IntKind.u64.wrap ((p : Int) * 4294967296 + nx p) = v := by rw [hv]; have := hn1.out; have := kb.out; rw [IntKind.wrap_u64]; omega
  have hw1 : IntKind.u64.wrap (p : Int) = (p : Int) := by rw [IntKind.wrap_u64]; omega
  have hw2 : IntKind.u64.wrap ((p : Int) * 4294967296) = (p : Int) * 4294967296 := by rw [IntKind.wrap_u64]; omega
  have mA := m4.nil ((Only.refl Nil w4).alloc (.cells #[.int .u64 v] 37))
  obtain ⟨_, _, a2, a3, _, _, _, _, _⟩ := mA.cells
  have an := (mA.nc p hp'.out).1
  have ai := (mA.ic p hp'.out).1
  clear mA
  have rl4' := Lib.hid rl4
  clear m4 q4 rl4 k4 hv
  go_cut [64] (fun s64 wx => Hid (∃ iv' : Nat → Value, Cw w1 wx rg B base c cb pb nb ib L4 (t + 1) (upd (poOf P ob) p (some (ob p, osPR v (.done m)))) (toOf T tb) nx iv' st ta mo (cnt : Int) (upd ins p (ins p ++ [v])) taken))
  case first =>
    refine wp_region_held_drew (S := fun w' => w'.cell? ⟨cb, 2, none⟩ = some (.slice (some ⟨nb, 0, none⟩) 3 3) ∧ w'.cell? ⟨cb, 3, none⟩ = some (.slice (some ⟨ib, 0, none⟩) 3 3) ∧ w'.cell? ⟨nb, p, none⟩ = some (.int .u64 (nx p))) (by kernel_rfl) ⟨c2, c3, nc⟩ (fun hHeld => ?_)
    refine wpAnyH_take (i := 0) (v := ?v0) rfl (by kernel_rfl) (by kernel_rfl) (by kernel_rfl) (fun _ _ _ h => h) (Or.inl ⟨by rfl, ?h0⟩) (by assumption) ?r0
    case h0 => (intro w hSw; (try dsimp only at hSw); first | (go_simp; done) | (go_simp; with_reducible rfl))
    try simp only [Act.put, List.setIfInBounds_toArray, List.set_cons_zero, List.set_cons_succ]
    refine wpAnyH_take (i := 1) (v := ?v1) rfl (by kernel_rfl) (by kernel_rfl) (by kernel_rfl) (fun _ _ _ h => h) (Or.inl ⟨by rfl, ?h1⟩) (by assumption) ?r1
    case h1 => (intro w hSw; (try dsimp only at hSw); first | (go_simp; done) | (go_simp; with_reducible rfl))
    try simp only [Act.put, List.setIfInBounds_toArray, List.set_cons_zero, List.set_cons_succ]
    refine wpAnyH_take (i := 2) (v := ?v2) rfl (by kernel_rfl) (by kernel_rfl) (by kernel_rfl) (fun _ _ _ h => h) (Or.inl ⟨by rfl, ?h2⟩) (by assumption) ?r2
    case h2 => (intro w hSw; (try dsimp only at hSw); first | (go_simp; done) | (go_simp; with_reducible rfl))
    try simp only [Act.put, List.setIfInBounds_toArray, List.set_cons_zero, List.set_cons_succ]
    refine wpAnyH_take (i := 3) (v := ?v3) rfl (by kernel_rfl) (by kernel_rfl) (by kernel_rfl) (fun _ _ _ h => h) (Or.inl ⟨by rfl, ?h3⟩) (by assumption) ?r3
    case h3 => (intro w hSw; (try dsimp only at hSw); first | (go_simp; done) | (go_simp; with_reducible rfl))
    try simp only [Act.put, List.setIfInBounds_toArray, List.set_cons_zero, List.set_cons_succ]
    refine wpAnyH_take (i := 4) (v := ?v4) rfl (by kernel_rfl) (by kernel_rfl) (by kernel_rfl) (fun _ _ _ h => h) (Or.inl ⟨by rfl, ?h4⟩) (by assumption) ?r4
    case h4 => (intro w hSw; (try dsimp only at hSw); first | (go_simp; done) | (go_simp; with_reducible rfl))
    try simp only [Act.put, List.setIfInBounds_toArray, List.set_cons_zero, List.set_cons_succ]
    refine wpAnyH_take (i := 5) (v := ?v5) rfl (by kernel_rfl) (by kernel_rfl) (by kernel_rfl) (fun _ _ _ h => h) (Or.inl ⟨by rfl, ?h5⟩) (by assumption) ?r5
    case h5 => (intro w hSw; (try dsimp only at hSw); first | (go_simp; done) | (go_simp; with_reducible rfl))
    try simp only [Act.put, List.setIfInBounds_toArray, List.set_cons_zero, List.set_cons_succ]
    refine wpAnyH_take (i := 6) (v := ?v6) rfl (by kernel_rfl) (by kernel_rfl) (by kernel_rfl) (fun _ _ _ h => h) (Or.inl ⟨by rfl, ?h6⟩) (by assumption) ?r6
    case h6 => (intro w hSw; (try dsimp only at hSw); first | (go_simp; done) | (go_simp; with_reducible rfl))
    try simp only [Act.put, List.setIfInBounds_toArray, List.set_cons_zero, List.set_cons_succ]
    refine wpAnyH_take (i := 7) (v := ?v7) rfl (by kernel_rfl) (by kernel_rfl) (by kernel_rfl) (fun _ _ _ h => h) (Or.inl ⟨by rfl, ?h7⟩) (by assumption) ?r7
    case h7 => (intro w hSw; (try dsimp only at hSw); first | (go_simp; done) | (go_simp; with_reducible rfl))
    try simp only [Act.put, List.setIfInBounds_toArray, List.set_cons_zero, List.set_cons_succ]
    refine wpAnyH_take (i := 8) (v := ?v8) rfl (by kernel_rfl) (by kernel_rfl) (by kernel_rfl) (fun _ _ _ h => h) (Or.inl ⟨by rfl, ?h8⟩) (by assumption) ?r8
    case h8 => (intro w hSw; (try dsimp only at hSw); first | (go_simp; done) | (go_simp; with_reducible rfl))
    try simp only [Act.put, List.setIfInBounds_toArray, List.set_cons_zero, List.set_cons_succ]
    refine wpAnyH_take (i := 9) (v := ?v9) rfl (by kernel_rfl) (by kernel_rfl) (by kernel_rfl) (fun _ _ _ h => h) (Or.inl ⟨by rfl, ?h9⟩) (by assumption) ?r9
    case h9 => (intro w hSw; (try dsimp only at hSw); first | (go_simp; done) | (go_simp; with_reducible rfl))
    try simp only [Act.put, List.setIfInBounds_toArray, List.set_cons_zero, List.set_cons_succ]
    refine wpAnyH_take (i := 10) (v := ?v10) rfl (by kernel_rfl) (by kernel_rfl) (by kernel_rfl) (fun _ _ _ h => h) (Or.inl ⟨by rfl, ?h10⟩) (by assumption) ?r10
    case h10 => (intro w hSw; (try dsimp only at hSw); first | (go_simp; done) | (go_simp; with_reducible rfl))
    try simp only [Act.put, List.setIfInBounds_toArray, List.set_cons_zero, List.set_cons_succ]
    refine wpAnyH_take (i := 12) (v := ?v12) rfl (by kernel_rfl) (by kernel_rfl) (by kernel_rfl) (fun _ _ _ h => h) (Or.inl ⟨by rfl, ?h12⟩) (by assumption) ?r12
    case h12 => (intro w hSw; (try dsimp only at hSw); first | (go_simp; done) | (go_simp; with_reducible rfl))
    try simp only [Act.put, List.setIfInBounds_toArray, List.set_cons_zero, List.set_cons_succ]
    refine wpAnyH_take (i := 13) (v := ?v13) rfl (by kernel_rfl) (by kernel_rfl) (by kernel_rfl) (fun _ _ _ h => h) (Or.inl ⟨by rfl, ?h13⟩) (by assumption) ?r13
    case h13 => (intro w hSw; (try dsimp only at hSw); first | (go_simp; done) | (go_simp; with_reducible rfl))
    try simp only [Act.put, List.setIfInBounds_toArray, List.set_cons_zero, List.set_cons_succ]
    refine wpAnyH_take (i := 14) (v := ?v14) rfl (by kernel_rfl) (by kernel_rfl) (by kernel_rfl) (fun _ _ _ h => h) (Or.inl ⟨by rfl, ?h14⟩) (by assumption) ?r14
    case h14 => (intro w hSw; (try dsimp only at hSw); first | (go_simp; done) | (go_simp; with_reducible rfl))
    try simp only [Act.put, List.setIfInBounds_toArray, List.set_cons_zero, List.set_cons_succ]
    refine wpAnyH_take (i := 15) (v := ?v15) rfl (by kernel_rfl) (by kernel_rfl) (by kernel_rfl) (fun _ _ _ h => h) (Or.inl ⟨by rfl, ?h15⟩) (by assumption) ?r15
    case h15 => (intro w hSw; (try dsimp only at hSw); first | (go_simp; done) | (go_simp; with_reducible rfl))
    try simp only [Act.put, List.setIfInBounds_toArray, List.set_cons_zero, List.set_cons_succ]
    refine wpAnyH_take (i := 16) (v := ?v16) rfl (by kernel_rfl) (by kernel_rfl) (by kernel_rfl) (fun _ _ _ h => h) (Or.inl ⟨by rfl, ?h16⟩) (by assumption) ?r16
    case h16 => (intro w hSw; (try dsimp only at hSw); first | (go_simp; done) | (go_simp; with_reducible rfl))
    try simp only [Act.put, List.setIfInBounds_toArray, List.set_cons_zero, List.set_cons_succ]
    refine wpAnyH_take (i := 17) (v := ?v17) rfl (by kernel_rfl) (by kernel_rfl) (by kernel_rfl) (fun _ _ _ h => h) (Or.inl ⟨by rfl, ?h17⟩) (by assumption) ?r17
    case h17 => (intro w hSw; (try dsimp only at hSw); first | (go_simp; done) | (go_simp; with_reducible rfl))
    try simp only [Act.put, List.setIfInBounds_toArray, List.set_cons_zero, List.set_cons_succ]
    refine wpAnyH_take (i := 18) (v := ?v18) rfl (by kernel_rfl) (by kernel_rfl) (by kernel_rfl) (fun _ _ _ h => h) (Or.inl ⟨by rfl, ?h18⟩) (by assumption) ?r18
    case h18 => (intro w hSw; (try dsimp only at hSw); first | (go_simp; done) | (go_simp; with_reducible rfl))
    try simp only [Act.put, List.setIfInBounds_toArray, List.set_cons_zero, List.set_cons_succ]
    refine wpAnyH_take (i := 19) (v := ?v19) rfl (by kernel_rfl) (by kernel_rfl) (by kernel_rfl) (fun _ _ _ h => h) (Or.inl ⟨by rfl, ?h19⟩) (by assumption) ?r19
    case h19 => (intro w hSw; (try dsimp only at hSw); first | (go_simp; done) | (go_simp; with_reducible rfl))
    try simp only [Act.put, List.setIfInBounds_toArray, List.set_cons_zero, List.set_cons_succ]
    refine wpAnyH_take (i := 20) (v := ?v20) rfl (by kernel_rfl) (by kernel_rfl) (by kernel_rfl) (fun _ _ _ h => h) (Or.inl ⟨by rfl, ?h20⟩) (by assumption) ?r20
    case h20 => (intro w hSw; (try dsimp only at hSw); first | (go_simp; done) | (go_simp; with_reducible rfl))
    try simp only [Act.put, List.setIfInBounds_toArray, List.set_cons_zero, List.set_cons_succ]
    refine wpAnyH_take (i := 21) (v := ?v21) rfl (by kernel_rfl) (by kernel_rfl) (by kernel_rfl) (fun _ _ _ h => h) (Or.inl ⟨by rfl, ?h21⟩) (by assumption) ?r21
    case h21 => (intro w hSw; (try dsimp only at hSw); first | (go_simp; done) | (go_simp; with_reducible rfl))
    try simp only [Act.put, List.setIfInBounds_toArray, List.set_cons_zero, List.set_cons_succ]
    refine wpAnyH_take (i := 22) (v := ?v22) rfl (by kernel_rfl) (by kernel_rfl) (by kernel_rfl) (fun _ _ _ h => h) (Or.inl ⟨by rfl, ?h22⟩) (by assumption) ?r22
    case h22 => (intro w hSw; (try dsimp only at hSw); first | (go_simp; done) | (go_simp; with_reducible rfl))
    try simp only [Act.put, List.setIfInBounds_toArray, List.set_cons_zero, List.set_cons_succ]
    refine wpAnyH_ready (rs := [11, 23]) (by kernel_rfl) (by simp) ?_
    refine AllReadyH.cons rfl (fun K90 hK90 => ?_) (AllReadyH.cons rfl (fun K91 hK91 => ?_) AllReadyH.nil)
    · skip
      go_simp
      refine hK90.out _ _ ?s190 (fun hHeld90 => ?_)
      case s190 => first | exact ⟨c2, c3, nc⟩ | go_keep
      clear hK90 K90
      try simp only [Act.put, List.setIfInBounds_toArray, List.set_cons_zero, List.set_cons_succ]
      refine wpAnyH_ready (rs := [23]) (by kernel_rfl) (by simp) ?_
      refine AllReadyH.cons rfl (fun K1 hK1 => ?_) AllReadyH.nil
      go_simp
      refine hK1.out _ _ ?s101 (fun hHeld1 => ?_)
      case s101 => first | exact ⟨a2, a3, an⟩ | go_keep
      clear hK1 K1
      try simp only [Act.put, List.setIfInBounds_toArray, List.set_cons_zero, List.set_cons_succ]
      refine wpAnyH_ready (rs := [24]) (by kernel_rfl) (by simp) ?_
      refine AllReadyH.cons rfl (fun K2 hK2 => ?_) AllReadyH.nil
      (refine step_append_lies _ rfl (.tmp 75) (.tmp 87) 42 rfl base 37 i0 (.int .u64 0) 1 8 hu hi0 hz0 hz1 hz2 rfl (by decide) (iv p) (ins p).length (uv (ins p)) rfl (own_keep (hown.out.alloc _) ((Only.refl Nil _).drew) (fun _ _ z => z)) ⟨w4.heap.size, 0, none⟩ 1 1 [.int .u64 v] rfl rfl (src_one (heap_new w4 (.cells #[.int .u64 v] 37))) (by intro u hu; simp at hu; subst hu; rfl) (by decide) (by unfold maxLen; have := lens.out; have := kb.out; omega) (by have := lens.out; have := kb.out; omega) (Nat.le_trans hbs.out (by simp [World.drew])) _ rfl ?_; intro g cap w6 own6 gr6 hat6 hlt6; obtain ⟨⟨ic6, if6, b36, b26, n6⟩, m6⟩ := (((m4'.out.nil ((Only.refl Nil w4).alloc _)).nil ((Only.refl Nil _).drew)).grow hp'.out own6 gr6 hat6))
      refine hK2.out _ _ ?s102 (fun hHeld2 => ?_)
      case s102 => first | exact ⟨b26, b36, n6⟩ | go_keep
      clear hK2 K2
      try simp only [Act.put, List.setIfInBounds_toArray, List.set_cons_zero, List.set_cons_succ]
      refine wpAnyH_ready (rs := [25]) (by kernel_rfl) (by simp) ?_
      refine AllReadyH.cons rfl (fun K3 hK3 => ?_) AllReadyH.nil
      go_simp
      refine hK3.out _ _ ?s103 (fun hHeld3 => ?_)
      case s103 => first | exact ⟨b26, b36, n6⟩ | go_keep
      clear hK3 K3
      try simp only [Act.put, List.setIfInBounds_toArray, List.set_cons_zero, List.set_cons_succ]
      refine wpAnyH_ready (rs := [26]) (by kernel_rfl) (by simp) ?_
      refine AllReadyH.cons rfl (fun K4 hK4 => ?_) AllReadyH.nil
      go_simp
      refine hK4.out _ _ ?s104 (fun hHeld4 => ?_)
      case s104 => first | exact ⟨m6.cells.2.2.1, m6.cells.2.2.2.1, (m6.nc p hp'.out).1⟩ | go_keep
      clear hK4 K4
      try simp only [Act.put, List.setIfInBounds_toArray, List.set_cons_zero, List.set_cons_succ]
      refine wpAnyH_done (by kernel_rfl) ?_ _
      go_wp2_with fail
      go_meet
      exact Lib.hid ⟨_, m6⟩
    · skip
      go_simp
      refine hK91.out _ _ ?s191 (fun hHeld91 => ?_)
      case s191 => first | exact ⟨a2, a3, an⟩ | go_keep
      clear hK91 K91
      try simp only [Act.put, List.setIfInBounds_toArray, List.set_cons_zero, List.set_cons_succ]
      refine wpAnyH_ready (rs := [11]) (by kernel_rfl) (by simp) ?_
      refine AllReadyH.cons rfl (fun K5 hK5 => ?_) AllReadyH.nil
      go_simp
      refine hK5.out _ _ ?s105 (fun hHeld5 => ?_)
      case s105 => first | exact ⟨a2, a3, an⟩ | go_keep
      clear hK5 K5
      try simp only [Act.put, List.setIfInBounds_toArray, List.set_cons_zero, List.set_cons_succ]
      refine wpAnyH_ready (rs := [24]) (by kernel_rfl) (by simp) ?_
      refine AllReadyH.cons rfl (fun K6 hK6 => ?_) AllReadyH.nil
      (refine step_append_lies _ rfl (.tmp 75) (.tmp 87) 42 rfl base 37 i0 (.int .u64 0) 1 8 hu hi0 hz0 hz1 hz2 rfl (by decide) (iv p) (ins p).length (uv (ins p)) rfl (own_keep (hown.out.alloc _) ((Only.refl Nil _).drew) (fun _ _ z => z)) ⟨w4.heap.size, 0, none⟩ 1 1 [.int .u64 v] rfl rfl (src_one (heap_new w4 (.cells #[.int .u64 v] 37))) (by intro u hu; simp at hu; subst hu; rfl) (by decide) (by unfold maxLen; have := lens.out; have := kb.out; omega) (by have := lens.out; have := kb.out; omega) (Nat.le_trans hbs.out (by simp [World.drew])) _ rfl ?_; intro g cap w6 own6 gr6 hat6 hlt6; obtain ⟨⟨ic6, if6, b36, b26, n6⟩, m6⟩ := (((m4'.out.nil ((Only.refl Nil w4).alloc _)).nil ((Only.refl Nil _).drew)).grow hp'.out own6 gr6 hat6))
      refine hK6.out _ _ ?s106 (fun hHeld6 => ?_)
      case s106 => first | exact ⟨b26, b36, n6⟩ | go_keep
      clear hK6 K6
      try simp only [Act.put, List.setIfInBounds_toArray, List.set_cons_zero, List.set_cons_succ]
      refine wpAnyH_ready (rs := [25]) (by kernel_rfl) (by simp) ?_
      refine AllReadyH.cons rfl (fun K7 hK7 => ?_) AllReadyH.nil
      go_simp
      refine hK7.out _ _ ?s107 (fun hHeld7 => ?_)
      case s107 => first | exact ⟨b26, b36, n6⟩ | go_keep
      clear hK7 K7
      try simp only [Act.put, List.setIfInBounds_toArray, List.set_cons_zero, List.set_cons_succ]
      refine wpAnyH_ready (rs := [26]) (by kernel_rfl) (by simp) ?_
      refine AllReadyH.cons rfl (fun K8 hK8 => ?_) AllReadyH.nil
      go_simp
      refine hK8.out _ _ ?s108 (fun hHeld8 => ?_)
      case s108 => first | exact ⟨m6.cells.2.2.1, m6.cells.2.2.2.1, (m6.nc p hp'.out).1⟩ | go_keep
      clear hK8 K8
      try simp only [Act.put, List.setIfInBounds_toArray, List.set_cons_zero, List.set_cons_succ]
      refine wpAnyH_done (by kernel_rfl) ?_ _
      go_wp2_with fail
      go_meet
      exact Lib.hid ⟨_, m6⟩
  case rest =>
    obtain ⟨iv2, mW⟩ := hcut.out
    have mW' := Lib.hid mW
    clear c0 c1 c2 c3 c4 c5 c6 c7 c8 pc pf nc nf ic if_ a2 a3 an ai hcut
    have hcs : (cnt : Int) ≤ 8 := by have := hcnt.out; have := hc8.out; omega
    obtain ⟨c0, c1, c2, c3, c4, c5, c6, c7, c8⟩ := mW.cells
    obtain ⟨f4, f5, f6, f7, f8⟩ := mW.frees
    clear mW
    go_wp2
    have m7 := mW'.out.setCt ((cnt : Int) + 1)
    have m7' := Lib.hid m7
    clear c0 c1 c2 c3 c4 c5 c6 c7 c8 f4 f5 f6 f7 f8
    generalize wc.setCell { block := cb, off := 8 } (Value.int IntKind.i64 ((cnt : Int) + 1)) = w7 at m7 m7' ⊢
    obtain ⟨c0, c1, c2, c3, c4, c5, c6, c7, c8⟩ := m7.cells
    obtain ⟨f4, f5, f6, f7, f8⟩ := m7.frees
    clear m7
    go_region_with (fail)
    all_goals (
      have m8 := (m7'.out.setMo (max mo ((cnt : Int) + 1))).nil ((Only.refl Nil _).drew)
      have m8' := Lib.hid m8
      clear c0 c1 c2 c3 c4 c5 c6 c7 c8 f4 f5 f6 f7 f8
      generalize (World.drew (World.setCell w7 { block := cb, off := 7 } (Value.int IntKind.i64 (max mo ((cnt : Int) + 1))))) = w8 at m8 m8' ⊢
      obtain ⟨c0, c1, c2, c3, c4, c5, c6, c7, c8⟩ := m8.cells
      obtain ⟨pc, pf⟩ := m8.pc p hp'.out
      rw [upd_same] at pc
      simp only [opv] at pc
      clear m8
      go_wp2
      go_end0
      have m9 := m8'.out.drop p
      rw [poOf_drop2] at m9
      exact ⟨rfl, Lib.hid ⟨L4, iv2, _, h'.out.done e'.out er'.out hK rl4'.out rfl m9⟩⟩)
end
end Go.Proofs.Ytpnpbgcndlfobaa
