/- A crowd: a Take that comes to be Done. -/
import Derived.Test.YtpnpbgcndlfobaaCrowdF
import Derived.Deep.RegionHeld3
import Derived.Deep.RegionLaw
import Derived.Deep.DeepCutAuto
namespace Go.Proofs.Ytpnpbgcndlfobaa
open Go.RowKit
section
variable {w1 w w4 : World} {rg B base c cb pb nb ib K : Nat} {L : List Int} {t : Int} {R : Rg} {P : Nat → Option (PS × Int)} {T : Option TS} {ob : Nat → Nat} {tb : Nat} {nx : Nat → Int} {iv : Nat → Value} {st : Int} {ta : Value} {mo : Int} {cnt : Nat} {ins : Nat → List Int} {taken : List Int}

set_option linter.unusedSimpArgs false in
set_option maxRecDepth 100000 in
set_option maxHeartbeats 8000000 in
theorem out_done {s : TS} (h : Cr w1 w rg B base c cb pb nb ib K L t R P (some s) ob tb nx iv st ta mo cnt ins taken) {R' : Rg} {x : Int} (er : takeStep c R s = (R', .done x)) (hK : K + 1 ≤ 100000) :
    Calls Try.prog 50 #[.pointer (some ⟨cb, 0, none⟩)] w fun e w' => e = .returned (.bool false) ∧ Hid (∃ (L' : List Int) (ta' : Value), Cr w1 w' rg B base c cb pb nb ib (K + 1) L' (t + 1) R' P none ob tb nx iv (st + 1) ta' mo cnt ins (taken ++ [x])) := by
  obtain ⟨i0, hi0, hz0, hz1, hz2⟩ := info_parts Try.infoU64
  have hu := Try.underlying42
  have lens := Lib.hid (show taken.length ≤ K by have := h.sys.head_le; have := h.tl; omega)
  have kb := Lib.hid h.kb
  have h' := Lib.hid h
  have er' := Lib.hid er
  have s0 := h.st0
  have s1 := h.st1
  have sp := Lib.hid (fun w2 (k : Cw w1 w2 rg B base c cb pb nb ib L t (poOf P ob) (toOf (some s) tb) nx iv (st + 1) ta mo (cnt : Int) ins taken) => h.stepK (st + 1) w2 k er)
  rw [show (osTR (TR.done x)).isO = true from rfl] at sp
  have m1 := Lib.hid (h.cw.setSt (st + 1))
  obtain ⟨c0, c1, c2, c3, c4, c5, c6, c7, c8⟩ := h.cw.cells
  obtain ⟨f4, f5, f6, f7, f8⟩ := h.cw.frees
  simp only [toOf, opv] at c4
  have g4 := m1.out.cells.2.2.2.2.1
  have g5 := m1.out.cells.2.2.2.2.2.1
  simp only [toOf, opv] at g4
  clear h er
  go_enter Try.func50, Try.ntmps50
  go_wp2_with (first
    | (go_at_call 18; (with_reducible refine (sp.out _ m1.out).mono ?_); rintro e w4 ⟨rfl, k4⟩; obtain ⟨L4, rl4, q4, m4⟩ := k4.out; clear c0 c1 c2 c3 c4 c5 c6 c7 c8 f4 f5 f6 f7 f8 g4 g5; obtain ⟨c0, c1, c2, c3, c4, c5, c6, c7, c8⟩ := m4.cells; obtain ⟨f4, f5, f6, f7, f8⟩ := m4.frees; simp only [opv] at c4; have oc := Lib.hid (show Calls Try.prog 35 #[.pointer (some ⟨tb, 0, none⟩)] w4 (fun e w' => e = .returned (.int .i64 1) ∧ w4 = w') from outcomeO q4.op))
    | (go_at_call 35; (with_reducible refine (oc.out).mono ?_); rintro e w5 ⟨rfl, rfl⟩))
  have m4' := Lib.hid m4
  have hown := Lib.hid m4.core.ownT
  have hbs := Lib.hid m4.core.hb
  have a4 := (m4.nil ((Only.refl Nil w4).alloc (.cells #[.int .u64 x] 37))).cells.2.2.2.2.1
  have a6 := (m4.nil ((Only.refl Nil w4).alloc (.cells #[.int .u64 x] 37))).cells.2.2.2.2.2.2.1
  have d4 := ((m4.drewN 1).nil ((Only.refl Nil _).alloc (.cells #[.int .u64 x] 37))).cells.2.2.2.2.1
  have d6 := ((m4.drewN 1).nil ((Only.refl Nil _).alloc (.cells #[.int .u64 x] 37))).cells.2.2.2.2.2.2.1
  simp only [opv] at a4 d4
  have vc : Hid (∀ n, Calls Try.prog 43 #[.pointer (some ⟨tb, 0, none⟩)] (w4.drewN n) (fun e w' => e = .returned (.int .u64 x) ∧ w4.drewN n = w')) := Lib.hid (fun n => valueO (q4.op.drewN n))
  have rl4' := Lib.hid rl4
  clear m4 q4 rl4 k4
  go_cut [3] (fun s3 wx => s3 = .bool false ∧ Hid (∃ ta' : Value, Cw w1 wx rg B base c cb pb nb ib L4 (t + 1) (poOf P ob) (some (tb, osTR (.done x))) nx iv (st + 1) ta' mo (cnt : Int) ins (taken ++ [x])))
  case first =>
    refine wp_region_held_drew (S := fun w' => w'.cell? ⟨cb, 4, none⟩ = some (.pointer (some ⟨tb, 0, none⟩))) (by kernel_rfl) c4 (fun hHeld => ?_)
    refine wpAnyH_take (i := 0) (v := ?v0) rfl (by kernel_rfl) (by kernel_rfl) (by kernel_rfl) (fun _ _ _ h => h) (Or.inl ⟨by rfl, ?h0⟩) (by assumption) ?r0
    case h0 => (intro w hSw; (try dsimp only at hSw); first | (go_simp; done) | (go_simp; with_reducible rfl))
    try simp only [Act.put, List.setIfInBounds_toArray, List.set_cons_zero, List.set_cons_succ]
    refine wpAnyH_take (i := 1) (v := ?v1) rfl (by kernel_rfl) (by kernel_rfl) (by kernel_rfl) (fun _ _ _ h => h) (Or.inl ⟨by rfl, ?h1⟩) (by assumption) ?r1
    case h1 => (intro w hSw; (try dsimp only at hSw); first | (go_simp; done) | (go_simp; with_reducible rfl))
    try simp only [Act.put, List.setIfInBounds_toArray, List.set_cons_zero, List.set_cons_succ]
    refine wpAnyH_take (i := 2) (v := ?v2) rfl (by kernel_rfl) (by kernel_rfl) (by kernel_rfl) (fun _ _ _ h => h) (Or.inl ⟨by rfl, ?h2⟩) (by assumption) ?r2
    case h2 => (intro w hSw; (try dsimp only at hSw); first | (go_simp; done) | (go_simp; with_reducible rfl))
    try simp only [Act.put, List.setIfInBounds_toArray, List.set_cons_zero, List.set_cons_succ]
    refine wpAnyH_take (i := 3) (v := ?v3) rfl (by kernel_rfl) (by kernel_rfl) (by kernel_rfl) (fun _ _ _ h => h) (Or.inl ⟨by rfl, ?h3⟩) (by assumption) ?r3
    case h3 => (intro w hSw; (try dsimp only at hSw); first | (go_simp; done) | (go_simp; with_reducible rfl))
    try simp only [Act.put, List.setIfInBounds_toArray, List.set_cons_zero, List.set_cons_succ]
    refine wpAnyH_take (i := 5) (v := ?v5) rfl (by kernel_rfl) (by kernel_rfl) (by kernel_rfl) (fun _ _ _ h => h) (Or.inl ⟨by rfl, ?h5⟩) (by assumption) ?r5
    case h5 => (intro w hSw; (try dsimp only at hSw); first | (go_simp; done) | (go_simp; with_reducible rfl))
    try simp only [Act.put, List.setIfInBounds_toArray, List.set_cons_zero, List.set_cons_succ]
    refine wpAnyH_take (i := 6) (v := ?v6) rfl (by kernel_rfl) (by kernel_rfl) (by kernel_rfl) (fun _ _ _ h => h) (Or.inl ⟨by rfl, ?h6⟩) (by assumption) ?r6
    case h6 => (intro w hSw; (try dsimp only at hSw); first | (go_simp; done) | (go_simp; with_reducible rfl))
    try simp only [Act.put, List.setIfInBounds_toArray, List.set_cons_zero, List.set_cons_succ]
    refine wpAnyH_take (i := 7) (v := ?v7) rfl (by kernel_rfl) (by kernel_rfl) (by kernel_rfl) (fun _ _ _ h => h) (Or.inl ⟨by rfl, ?h7⟩) (by assumption) ?r7
    case h7 => (intro w hSw; (try dsimp only at hSw); first | (go_simp; done) | (go_simp; with_reducible rfl))
    try simp only [Act.put, List.setIfInBounds_toArray, List.set_cons_zero, List.set_cons_succ]
    refine wpAnyH_take (i := 8) (v := ?v8) rfl (by kernel_rfl) (by kernel_rfl) (by kernel_rfl) (fun _ _ _ h => h) (Or.inl ⟨by rfl, ?h8⟩) (by assumption) ?r8
    case h8 => (intro w hSw; (try dsimp only at hSw); first | (go_simp; done) | (go_simp; with_reducible rfl))
    try simp only [Act.put, List.setIfInBounds_toArray, List.set_cons_zero, List.set_cons_succ]
    refine wpAnyH_ready (rs := [4, 9]) (by kernel_rfl) (by simp) ?_
    refine AllReadyH.cons rfl (fun K90 hK90 => ?_) (AllReadyH.cons rfl (fun K91 hK91 => ?_) AllReadyH.nil)
    · skip
      go_simp
      refine hK90.out _ _ ?s190 (fun hHeld90 => ?_)
      case s190 => first | exact c4 | go_keep
      clear hK90 K90
      try simp only [Act.put, List.setIfInBounds_toArray, List.set_cons_zero, List.set_cons_succ]
      refine wpAnyH_ready (rs := [9]) (by kernel_rfl) (by simp) ?_
      refine AllReadyH.cons rfl (fun K1 hK1 => ?_) AllReadyH.nil
      (go_simp; go_at_call 43; refine (vc.out _).mono ?_; rintro e w5 ⟨rfl, rfl⟩; go_wp2_with fail)
      refine hK1.out _ _ ?s101 (fun hHeld1 => ?_)
      case s101 => first | exact c4 | go_keep
      clear hK1 K1
      try simp only [Act.put, List.setIfInBounds_toArray, List.set_cons_zero, List.set_cons_succ]
      refine wpAnyH_ready (rs := [10]) (by kernel_rfl) (by simp) ?_
      refine AllReadyH.cons rfl (fun K2 hK2 => ?_) AllReadyH.nil
      go_simp
      refine hK2.out _ _ ?s102 (fun hHeld2 => ?_)
      case s102 => first | exact a4 | go_keep
      clear hK2 K2
      try simp only [Act.put, List.setIfInBounds_toArray, List.set_cons_zero, List.set_cons_succ]
      refine wpAnyH_ready (rs := [11]) (by kernel_rfl) (by simp) ?_
      refine AllReadyH.cons rfl (fun K3 hK3 => ?_) AllReadyH.nil
      (refine step_append_lies _ rfl (.tmp 57) (.tmp 63) 42 rfl base 37 i0 (.int .u64 0) 1 8 hu hi0 hz0 hz1 hz2 rfl (by decide) ta taken.length (uv taken) rfl (own_keep (hown.out.alloc _) ((Only.refl Nil _).drew) (fun _ _ z => z)) ⟨w4.heap.size, 0, none⟩ 1 1 [.int .u64 x] rfl rfl (src_one (heap_new w4 (.cells #[.int .u64 x] 37))) (by intro u hu; simp at hu; subst hu; rfl) (by decide) (by unfold maxLen; have := lens.out; have := kb.out; omega) (by have := lens.out; have := kb.out; omega) (Nat.le_trans hbs.out (by simp [World.drew])) _ rfl ?_; intro g cap w6 own6 gr6 hat6 hlt6; obtain ⟨⟨ic6, if6, b46⟩, m6⟩ := (((m4'.out.nil ((Only.refl Nil w4).alloc _)).nil ((Only.refl Nil _).drew)).growT own6 gr6 hat6); simp only [opv] at b46)
      refine hK3.out _ _ ?s103 (fun hHeld3 => ?_)
      case s103 => first | exact b46 | go_keep
      clear hK3 K3
      try simp only [Act.put, List.setIfInBounds_toArray, List.set_cons_zero, List.set_cons_succ]
      refine wpAnyH_ready (rs := [12]) (by kernel_rfl) (by simp) ?_
      refine AllReadyH.cons rfl (fun K4 hK4 => ?_) AllReadyH.nil
      go_simp
      refine hK4.out _ _ ?s104 (fun hHeld4 => ?_)
      case s104 => first | exact b46 | go_keep
      clear hK4 K4
      try simp only [Act.put, List.setIfInBounds_toArray, List.set_cons_zero, List.set_cons_succ]
      refine wpAnyH_ready (rs := [13]) (by kernel_rfl) (by simp) ?_
      refine AllReadyH.cons rfl (fun K5 hK5 => ?_) AllReadyH.nil
      go_simp
      refine hK5.out _ _ ?s105 (fun hHeld5 => ?_)
      case s105 => first | exact b46 | go_keep
      clear hK5 K5
      try simp only [Act.put, List.setIfInBounds_toArray, List.set_cons_zero, List.set_cons_succ]
      refine wpAnyH_ready (rs := [14]) (by kernel_rfl) (by simp) ?_
      refine AllReadyH.cons rfl (fun K6 hK6 => ?_) AllReadyH.nil
      go_simp
      refine hK6.out _ _ ?s106 (fun hHeld6 => ?_)
      case s106 => first | exact (by have := m6.cells.2.2.2.2.1; simpa only [opv] using this) | go_keep
      clear hK6 K6
      try simp only [Act.put, List.setIfInBounds_toArray, List.set_cons_zero, List.set_cons_succ]
      refine wpAnyH_done (by kernel_rfl) ?_ _
      go_wp2_with fail
      go_meet
      exact ⟨rfl, Lib.hid ⟨_, m6⟩⟩
    · skip
      (go_simp; go_at_call 43; refine (vc.out _).mono ?_; rintro e w5 ⟨rfl, rfl⟩; go_wp2_with fail)
      refine hK91.out _ _ ?s191 (fun hHeld91 => ?_)
      case s191 => first | exact c4 | go_keep
      clear hK91 K91
      try simp only [Act.put, List.setIfInBounds_toArray, List.set_cons_zero, List.set_cons_succ]
      refine wpAnyH_ready (rs := [4, 10]) (by kernel_rfl) (by simp) ?_
      refine AllReadyH.cons rfl (fun K92 hK92 => ?_) (AllReadyH.cons rfl (fun K93 hK93 => ?_) AllReadyH.nil)
      · skip
        go_simp
        refine hK92.out _ _ ?s192 (fun hHeld92 => ?_)
        case s192 => first | exact c4 | go_keep
        clear hK92 K92
        try simp only [Act.put, List.setIfInBounds_toArray, List.set_cons_zero, List.set_cons_succ]
        refine wpAnyH_ready (rs := [10]) (by kernel_rfl) (by simp) ?_
        refine AllReadyH.cons rfl (fun K7 hK7 => ?_) AllReadyH.nil
        go_simp
        refine hK7.out _ _ ?s107 (fun hHeld7 => ?_)
        case s107 => first | exact a4 | go_keep
        clear hK7 K7
        try simp only [Act.put, List.setIfInBounds_toArray, List.set_cons_zero, List.set_cons_succ]
        refine wpAnyH_ready (rs := [11]) (by kernel_rfl) (by simp) ?_
        refine AllReadyH.cons rfl (fun K8 hK8 => ?_) AllReadyH.nil
        (refine step_append_lies _ rfl (.tmp 57) (.tmp 63) 42 rfl base 37 i0 (.int .u64 0) 1 8 hu hi0 hz0 hz1 hz2 rfl (by decide) ta taken.length (uv taken) rfl (own_keep (hown.out.alloc _) ((Only.refl Nil _).drew) (fun _ _ z => z)) ⟨w4.heap.size, 0, none⟩ 1 1 [.int .u64 x] rfl rfl (src_one (heap_new w4 (.cells #[.int .u64 x] 37))) (by intro u hu; simp at hu; subst hu; rfl) (by decide) (by unfold maxLen; have := lens.out; have := kb.out; omega) (by have := lens.out; have := kb.out; omega) (Nat.le_trans hbs.out (by simp [World.drew])) _ rfl ?_; intro g cap w6 own6 gr6 hat6 hlt6; obtain ⟨⟨ic6, if6, b46⟩, m6⟩ := (((m4'.out.nil ((Only.refl Nil w4).alloc _)).nil ((Only.refl Nil _).drew)).growT own6 gr6 hat6); simp only [opv] at b46)
        refine hK8.out _ _ ?s108 (fun hHeld8 => ?_)
        case s108 => first | exact b46 | go_keep
        clear hK8 K8
        try simp only [Act.put, List.setIfInBounds_toArray, List.set_cons_zero, List.set_cons_succ]
        refine wpAnyH_ready (rs := [12]) (by kernel_rfl) (by simp) ?_
        refine AllReadyH.cons rfl (fun K9 hK9 => ?_) AllReadyH.nil
        go_simp
        refine hK9.out _ _ ?s109 (fun hHeld9 => ?_)
        case s109 => first | exact b46 | go_keep
        clear hK9 K9
        try simp only [Act.put, List.setIfInBounds_toArray, List.set_cons_zero, List.set_cons_succ]
        refine wpAnyH_ready (rs := [13]) (by kernel_rfl) (by simp) ?_
        refine AllReadyH.cons rfl (fun K10 hK10 => ?_) AllReadyH.nil
        go_simp
        refine hK10.out _ _ ?s110 (fun hHeld10 => ?_)
        case s110 => first | exact b46 | go_keep
        clear hK10 K10
        try simp only [Act.put, List.setIfInBounds_toArray, List.set_cons_zero, List.set_cons_succ]
        refine wpAnyH_ready (rs := [14]) (by kernel_rfl) (by simp) ?_
        refine AllReadyH.cons rfl (fun K11 hK11 => ?_) AllReadyH.nil
        go_simp
        refine hK11.out _ _ ?s111 (fun hHeld11 => ?_)
        case s111 => first | exact (by have := m6.cells.2.2.2.2.1; simpa only [opv] using this) | go_keep
        clear hK11 K11
        try simp only [Act.put, List.setIfInBounds_toArray, List.set_cons_zero, List.set_cons_succ]
        refine wpAnyH_done (by kernel_rfl) ?_ _
        go_wp2_with fail
        go_meet
        exact ⟨rfl, Lib.hid ⟨_, m6⟩⟩
      · skip
        go_simp
        refine hK93.out _ _ ?s193 (fun hHeld93 => ?_)
        case s193 => first | exact a4 | go_keep
        clear hK93 K93
        try simp only [Act.put, List.setIfInBounds_toArray, List.set_cons_zero, List.set_cons_succ]
        refine wpAnyH_ready (rs := [4]) (by kernel_rfl) (by simp) ?_
        refine AllReadyH.cons rfl (fun K12 hK12 => ?_) AllReadyH.nil
        go_simp
        refine hK12.out _ _ ?s112 (fun hHeld12 => ?_)
        case s112 => first | exact a4 | go_keep
        clear hK12 K12
        try simp only [Act.put, List.setIfInBounds_toArray, List.set_cons_zero, List.set_cons_succ]
        refine wpAnyH_ready (rs := [11]) (by kernel_rfl) (by simp) ?_
        refine AllReadyH.cons rfl (fun K13 hK13 => ?_) AllReadyH.nil
        (refine step_append_lies _ rfl (.tmp 57) (.tmp 63) 42 rfl base 37 i0 (.int .u64 0) 1 8 hu hi0 hz0 hz1 hz2 rfl (by decide) ta taken.length (uv taken) rfl (own_keep (hown.out.alloc _) ((Only.refl Nil _).drew) (fun _ _ z => z)) ⟨w4.heap.size, 0, none⟩ 1 1 [.int .u64 x] rfl rfl (src_one (heap_new w4 (.cells #[.int .u64 x] 37))) (by intro u hu; simp at hu; subst hu; rfl) (by decide) (by unfold maxLen; have := lens.out; have := kb.out; omega) (by have := lens.out; have := kb.out; omega) (Nat.le_trans hbs.out (by simp [World.drew])) _ rfl ?_; intro g cap w6 own6 gr6 hat6 hlt6; obtain ⟨⟨ic6, if6, b46⟩, m6⟩ := (((m4'.out.nil ((Only.refl Nil w4).alloc _)).nil ((Only.refl Nil _).drew)).growT own6 gr6 hat6); simp only [opv] at b46)
        refine hK13.out _ _ ?s113 (fun hHeld13 => ?_)
        case s113 => first | exact b46 | go_keep
        clear hK13 K13
        try simp only [Act.put, List.setIfInBounds_toArray, List.set_cons_zero, List.set_cons_succ]
        refine wpAnyH_ready (rs := [12]) (by kernel_rfl) (by simp) ?_
        refine AllReadyH.cons rfl (fun K14 hK14 => ?_) AllReadyH.nil
        go_simp
        refine hK14.out _ _ ?s114 (fun hHeld14 => ?_)
        case s114 => first | exact b46 | go_keep
        clear hK14 K14
        try simp only [Act.put, List.setIfInBounds_toArray, List.set_cons_zero, List.set_cons_succ]
        refine wpAnyH_ready (rs := [13]) (by kernel_rfl) (by simp) ?_
        refine AllReadyH.cons rfl (fun K15 hK15 => ?_) AllReadyH.nil
        go_simp
        refine hK15.out _ _ ?s115 (fun hHeld15 => ?_)
        case s115 => first | exact b46 | go_keep
        clear hK15 K15
        try simp only [Act.put, List.setIfInBounds_toArray, List.set_cons_zero, List.set_cons_succ]
        refine wpAnyH_ready (rs := [14]) (by kernel_rfl) (by simp) ?_
        refine AllReadyH.cons rfl (fun K16 hK16 => ?_) AllReadyH.nil
        go_simp
        refine hK16.out _ _ ?s116 (fun hHeld16 => ?_)
        case s116 => first | exact (by have := m6.cells.2.2.2.2.1; simpa only [opv] using this) | go_keep
        clear hK16 K16
        try simp only [Act.put, List.setIfInBounds_toArray, List.set_cons_zero, List.set_cons_succ]
        refine wpAnyH_done (by kernel_rfl) ?_ _
        go_wp2_with fail
        go_meet
        exact ⟨rfl, Lib.hid ⟨_, m6⟩⟩
  case rest =>
    obtain ⟨rfl, hq⟩ := hcut
    obtain ⟨ta2, mW⟩ := hq.out
    have mW' := Lib.hid mW
    clear c0 c1 c2 c3 c4 c5 c6 c7 c8 f4 f5 f6 f7 f8 a4 a6 d4 d6
    obtain ⟨c0, c1, c2, c3, c4, c5, c6, c7, c8⟩ := mW.cells
    obtain ⟨f4, f5, f6, f7, f8⟩ := mW.frees
    simp only [opv] at c4
    clear mW hq
    go_wp2
    go_ret
    have m9 := mW'.out.dropT
    exact ⟨rfl, Lib.hid ⟨L4, ta2, h'.out.doneT er'.out hK rl4'.out m9⟩⟩
end
end Go.Proofs.Ytpnpbgcndlfobaa
