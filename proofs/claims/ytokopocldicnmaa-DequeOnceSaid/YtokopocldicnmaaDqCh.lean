/- A gang at a deque: the owner's pop that is done. -/
import Derived.Test.YtokopocldicnmaaDqCe
namespace Go.Proofs.Ytokopocldicnmaa.Dq
open Go.RowKit
section
variable {w1 w w4 : World} {rg B base c gb tb K : Nat} {L : List Int} {t : Int} {T X : Nat} {f : Nat → Int} {ow : Option OS} {th : Nat → Option OS} {ob : Nat → Nat} {psh : Bool} {nx : Nat} {iv : Nat → Value} {ins : Nat → List Int} {lost most : Int}

set_option linter.unusedSimpArgs false in
set_option maxRecDepth 100000 in
set_option maxHeartbeats 8000000 in
theorem cown_pop (h : Gg w1 w rg B base c gb tb K L t T X f ow th ob psh nx iv ins lost most) (what : Nat) (hw : what ≤ 1) {s : OS} (e : ow = some s) (hn : (stepS 0 c L s).isO = true) (ho : (stepS 0 c L s).o = 1) {x : Int} (hx : (stepS 0 c L s).x = x) (hp : psh = false) {z : Int} {I' : Nat → List Int} (hI : upd ins 1 (ins 1 ++ [x]) = I') (hz : max most (cnt I') = z) :
    Calls Try.prog 50 #[.pointer (some ⟨gb, 0, none⟩), .int .i64 (what : Int)] w fun e w' => e = .returned (.tuple #[]) ∧ Hid (∃ iv', Gw w1 w' rg B base c gb tb (stepL 0 c L s) (t + 1) (poG none th ob) psh (nx : Int) iv' I' lost z) := by
  have hz' := Lib.hid hz
  have sp := Lib.hid (h.step0 e)
  rw [hn] at sp
  have i2 : (what : Int) ≤ 1 := by omega
  have c1 := h.c1 e
  have ho' := Lib.hid ho
  have hx' := Lib.hid hx
  have hI' := Lib.hid hI
  have hp' := Lib.hid hp
  obtain ⟨i0, hi0, hz0, hz1, hz2⟩ := info_parts Try.infoU64'
  have hu := Try.underlying29
  have lens := Lib.hid (h.inb 1)
  have kb := Lib.hid h.kb
  have bI := Lib.hid (fun q => show (I' q).length ≤ 100001 by
    rw [← hI]
    have := h.inb q; have := h.kb
    by_cases g : q = 1
    · subst g; rw [upd_same, List.length_append]; simp; omega
    · rw [upd_other _ _ _ _ g]; omega)
  clear h e hw hn ho hz hI hp hx
  go_enter Try.func50, Try.ntmps50
  go_wp2_with (first
    | (go_at_call 53; (with_reducible refine (sp.out).mono ?_); rintro e w4 ⟨rfl, k4⟩; obtain ⟨q4, m4⟩ := k4.out; clear c1; obtain ⟨c1, f1⟩ := m4.cell 1 (by decide); have c2 := (m4.cell 2 (by decide)).1; obtain ⟨c5, f5⟩ := m4.cell 5 (by decide); simp only [gf, poG, Option.map_some, opv, hp'.out] at c1 c2 c5; have oc := Lib.hid (show Calls Try.prog 54 #[.pointer (some ⟨ob 0, 0, none⟩)] w4 (fun e w' => e = .returned (.int .i64 1) ∧ w4 = w') from ho'.out ▸ outcomeO q4.op); have vc : Hid (∀ n, Calls Try.prog 55 #[.pointer (some ⟨ob 0, 0, none⟩)] (w4.drewN n) (fun e w' => e = .returned (.int .u64 x) ∧ w4.drewN n = w')) := Lib.hid (fun n => hx'.out ▸ valueO ((q4.op).keep ((Only.refl Nil w4).drewN n) (fun z => z))))
    | (go_at_call 54; (with_reducible refine (oc.out).mono ?_); rintro e w5 ⟨rfl, rfl⟩))
  have m4' := Lib.hid m4
  have hown := Lib.hid (m4.core.own 1 (by decide))
  have hbs := Lib.hid m4.core.hb
  have mA := m4.nil ((Only.refl Nil w4).alloc (.cells #[.int .u64 x] 28))
  have a1 := (mA.cell 1 (by decide)).1
  have a5 := (mA.cell 5 (by decide)).1
  have d5 := (((m4.drewN 1).nil ((Only.refl Nil _).alloc (.cells #[.int .u64 x] 28))).cell 5 (by decide)).1
  simp only [gf, poG, Option.map_some, opv] at a1 a5 d5
  clear mA m4 q4 k4
  go_cut [88] (fun s88 wx => Hid (∃ iv' : Nat → Value, Gw w1 wx rg B base c gb tb (stepL 0 c L s) (t + 1) (poG (some (stepS 0 c L s)) th ob) psh (nx : Int) iv' (upd ins 1 (ins 1 ++ [x])) lost most))
  case first =>
    refine wp_region_held_drew (S := fun w' => w'.cell? ⟨gb, 1, none⟩ = some (.pointer (some ⟨ob 0, 0, none⟩))) (by kernel_rfl) c1 (fun hHeld => ?_)
    refine wpAnyH_take (i := 0) (v := ?v0) rfl (by kernel_rfl) (by kernel_rfl) (by kernel_rfl) (fun _ _ _ h => h) (Or.inl ⟨by kernel_rfl, ?h0⟩) (by assumption) ?r0
    case h0 => (intro w hSw; (try dsimp only at hSw); first | (go_simp; done) | (go_simp; with_reducible rfl))
    try simp only [Act.put, List.setIfInBounds_toArray, List.set_cons_zero, List.set_cons_succ]
    refine wpAnyH_take (i := 1) (v := ?v1) rfl (by kernel_rfl) (by kernel_rfl) (by kernel_rfl) (fun _ _ _ h => h) (Or.inl ⟨by kernel_rfl, ?h1⟩) (by assumption) ?r1
    case h1 => (intro w hSw; (try dsimp only at hSw); first | (go_simp; done) | (go_simp; with_reducible rfl))
    try simp only [Act.put, List.setIfInBounds_toArray, List.set_cons_zero, List.set_cons_succ]
    refine wpAnyH_take (i := 2) (v := ?v2) rfl (by kernel_rfl) (by kernel_rfl) (by kernel_rfl) (fun _ _ _ h => h) (Or.inl ⟨by kernel_rfl, ?h2⟩) (by assumption) ?r2
    case h2 => (intro w hSw; (try dsimp only at hSw); first | (go_simp; done) | (go_simp; with_reducible rfl))
    try simp only [Act.put, List.setIfInBounds_toArray, List.set_cons_zero, List.set_cons_succ]
    refine wpAnyH_take (i := 3) (v := ?v3) rfl (by kernel_rfl) (by kernel_rfl) (by kernel_rfl) (fun _ _ _ h => h) (Or.inl ⟨by kernel_rfl, ?h3⟩) (by assumption) ?r3
    case h3 => (intro w hSw; (try dsimp only at hSw); first | (go_simp; done) | (go_simp; with_reducible rfl))
    try simp only [Act.put, List.setIfInBounds_toArray, List.set_cons_zero, List.set_cons_succ]
    refine wpAnyH_take (i := 5) (v := ?v5) rfl (by kernel_rfl) (by kernel_rfl) (by kernel_rfl) (fun _ _ _ h => h) (Or.inl ⟨by kernel_rfl, ?h5⟩) (by assumption) ?r5
    case h5 => (intro w hSw; (try dsimp only at hSw); first | (go_simp; done) | (go_simp; with_reducible rfl))
    try simp only [Act.put, List.setIfInBounds_toArray, List.set_cons_zero, List.set_cons_succ]
    refine wpAnyH_take (i := 6) (v := ?v6) rfl (by kernel_rfl) (by kernel_rfl) (by kernel_rfl) (fun _ _ _ h => h) (Or.inl ⟨by kernel_rfl, ?h6⟩) (by assumption) ?r6
    case h6 => (intro w hSw; (try dsimp only at hSw); first | (go_simp; done) | (go_simp; with_reducible rfl))
    try simp only [Act.put, List.setIfInBounds_toArray, List.set_cons_zero, List.set_cons_succ]
    refine wpAnyH_take (i := 7) (v := ?v7) rfl (by kernel_rfl) (by kernel_rfl) (by kernel_rfl) (fun _ _ _ h => h) (Or.inl ⟨by kernel_rfl, ?h7⟩) (by assumption) ?r7
    case h7 => (intro w hSw; (try dsimp only at hSw); first | (go_simp; done) | (go_simp; with_reducible rfl))
    try simp only [Act.put, List.setIfInBounds_toArray, List.set_cons_zero, List.set_cons_succ]
    refine wpAnyH_take (i := 8) (v := ?v8) rfl (by kernel_rfl) (by kernel_rfl) (by kernel_rfl) (fun _ _ _ h => h) (Or.inl ⟨by kernel_rfl, ?h8⟩) (by assumption) ?r8
    case h8 => (intro w hSw; (try dsimp only at hSw); first | (go_simp; done) | (go_simp; with_reducible rfl))
    try simp only [Act.put, List.setIfInBounds_toArray, List.set_cons_zero, List.set_cons_succ]
    refine wpAnyH_ready (rs := [4, 9]) (by kernel_rfl) (by simp) ?_
    refine AllReadyH.cons rfl (fun K1 hK1 => ?_) (AllReadyH.cons rfl (fun K2 hK2 => ?_) AllReadyH.nil)
    · skip
      go_simp
      refine hK1.out _ _ ?s101 (fun hHeld1 => ?_)
      case s101 => first | exact c1 | go_keep
      clear hK1 K1
      try simp only [Act.put, List.setIfInBounds_toArray, List.set_cons_zero, List.set_cons_succ]
      refine wpAnyH_ready (rs := [9]) (by kernel_rfl) (by simp) ?_
      refine AllReadyH.cons rfl (fun K3 hK3 => ?_) AllReadyH.nil
      (go_simp; go_at_call 55; refine (vc.out _).mono ?_; rintro e w5 ⟨rfl, rfl⟩; go_wp2_with fail)
      refine hK3.out _ _ ?s103 (fun hHeld3 => ?_)
      case s103 => first | exact c1 | go_keep
      clear hK3 K3
      try simp only [Act.put, List.setIfInBounds_toArray, List.set_cons_zero, List.set_cons_succ]
      refine wpAnyH_ready (rs := [10]) (by kernel_rfl) (by simp) ?_
      refine AllReadyH.cons rfl (fun K4 hK4 => ?_) AllReadyH.nil
      go_simp
      refine hK4.out _ _ ?s104 (fun hHeld4 => ?_)
      case s104 => first | exact a1 | go_keep
      clear hK4 K4
      try simp only [Act.put, List.setIfInBounds_toArray, List.set_cons_zero, List.set_cons_succ]
      refine wpAnyH_ready (rs := [11]) (by kernel_rfl) (by simp) ?_
      refine AllReadyH.cons rfl (fun K5 hK5 => ?_) AllReadyH.nil
      (refine step_append_lies _ rfl (.tmp 92) (.tmp 98) 29 rfl base 28 i0 (.int .u64 0) 1 8 hu hi0 hz0 hz1 hz2 rfl (by decide) (iv 1) (ins 1).length (uv (ins 1)) rfl (own_keep (hown.out.alloc _) ((Only.refl Nil _).drew) (fun _ _ z => z)) ⟨w4.heap.size, 0, none⟩ 1 1 [.int .u64 x] rfl rfl (src_one (heap_new w4 (.cells #[.int .u64 x] 28))) (by intro u hu; simp at hu; subst hu; rfl) (by decide) (by unfold maxLen; have := lens.out; have := kb.out; omega) (by have := lens.out; have := kb.out; omega) (Nat.le_trans hbs.out (by simp [World.drew])) _ rfl ?_; intro g cap w6 own6 gr6 hat6 hlt6; obtain ⟨gc6, tc6, m6⟩ := ((m4'.out.nil ((Only.refl Nil w4).alloc _)).nil ((Only.refl Nil _).drew)).grow (r := 1) (by decide) own6 gr6 hat6; obtain ⟨ic6, if6⟩ := gc6 5 (by decide); have b16 := (gc6 1 (by decide)).1; simp only [gf, poG, Option.map_some, opv] at ic6 b16; have z16 := (m6.cell 1 (by decide)).1; simp only [gf, poG, Option.map_some, opv] at z16)
      refine hK5.out _ _ ?s105 (fun hHeld5 => ?_)
      case s105 => first | exact b16 | go_keep
      clear hK5 K5
      try simp only [Act.put, List.setIfInBounds_toArray, List.set_cons_zero, List.set_cons_succ]
      refine wpAnyH_ready (rs := [12]) (by kernel_rfl) (by simp) ?_
      refine AllReadyH.cons rfl (fun K6 hK6 => ?_) AllReadyH.nil
      go_simp
      refine hK6.out _ _ ?s106 (fun hHeld6 => ?_)
      case s106 => first | exact b16 | go_keep
      clear hK6 K6
      try simp only [Act.put, List.setIfInBounds_toArray, List.set_cons_zero, List.set_cons_succ]
      refine wpAnyH_ready (rs := [13]) (by kernel_rfl) (by simp) ?_
      refine AllReadyH.cons rfl (fun K7 hK7 => ?_) AllReadyH.nil
      go_simp
      refine hK7.out _ _ ?s107 (fun hHeld7 => ?_)
      case s107 => first | exact b16 | go_keep
      clear hK7 K7
      try simp only [Act.put, List.setIfInBounds_toArray, List.set_cons_zero, List.set_cons_succ]
      refine wpAnyH_ready (rs := [14]) (by kernel_rfl) (by simp) ?_
      refine AllReadyH.cons rfl (fun K8 hK8 => ?_) AllReadyH.nil
      go_simp
      refine hK8.out _ _ ?s108 (fun hHeld8 => ?_)
      case s108 => first | exact z16 | go_keep
      clear hK8 K8
      try simp only [Act.put, List.setIfInBounds_toArray, List.set_cons_zero, List.set_cons_succ]
      refine wpAnyH_done (by kernel_rfl) ?_ _
      go_wp2_with fail
      go_meet
      exact Lib.hid ⟨_, m6⟩
    · skip
      (go_simp; go_at_call 55; refine (vc.out _).mono ?_; rintro e w5 ⟨rfl, rfl⟩; go_wp2_with fail)
      refine hK2.out _ _ ?s102 (fun hHeld2 => ?_)
      case s102 => first | exact c1 | go_keep
      clear hK2 K2
      try simp only [Act.put, List.setIfInBounds_toArray, List.set_cons_zero, List.set_cons_succ]
      refine wpAnyH_ready (rs := [4, 10]) (by kernel_rfl) (by simp) ?_
      refine AllReadyH.cons rfl (fun K9 hK9 => ?_) (AllReadyH.cons rfl (fun K10 hK10 => ?_) AllReadyH.nil)
      · skip
        go_simp
        refine hK9.out _ _ ?s109 (fun hHeld9 => ?_)
        case s109 => first | exact c1 | go_keep
        clear hK9 K9
        try simp only [Act.put, List.setIfInBounds_toArray, List.set_cons_zero, List.set_cons_succ]
        refine wpAnyH_ready (rs := [10]) (by kernel_rfl) (by simp) ?_
        refine AllReadyH.cons rfl (fun K11 hK11 => ?_) AllReadyH.nil
        go_simp
        refine hK11.out _ _ ?s111 (fun hHeld11 => ?_)
        case s111 => first | exact a1 | go_keep
        clear hK11 K11
        try simp only [Act.put, List.setIfInBounds_toArray, List.set_cons_zero, List.set_cons_succ]
        refine wpAnyH_ready (rs := [11]) (by kernel_rfl) (by simp) ?_
        refine AllReadyH.cons rfl (fun K12 hK12 => ?_) AllReadyH.nil
        (refine step_append_lies _ rfl (.tmp 92) (.tmp 98) 29 rfl base 28 i0 (.int .u64 0) 1 8 hu hi0 hz0 hz1 hz2 rfl (by decide) (iv 1) (ins 1).length (uv (ins 1)) rfl (own_keep (hown.out.alloc _) ((Only.refl Nil _).drew) (fun _ _ z => z)) ⟨w4.heap.size, 0, none⟩ 1 1 [.int .u64 x] rfl rfl (src_one (heap_new w4 (.cells #[.int .u64 x] 28))) (by intro u hu; simp at hu; subst hu; rfl) (by decide) (by unfold maxLen; have := lens.out; have := kb.out; omega) (by have := lens.out; have := kb.out; omega) (Nat.le_trans hbs.out (by simp [World.drew])) _ rfl ?_; intro g cap w6 own6 gr6 hat6 hlt6; obtain ⟨gc6, tc6, m6⟩ := ((m4'.out.nil ((Only.refl Nil w4).alloc _)).nil ((Only.refl Nil _).drew)).grow (r := 1) (by decide) own6 gr6 hat6; obtain ⟨ic6, if6⟩ := gc6 5 (by decide); have b16 := (gc6 1 (by decide)).1; simp only [gf, poG, Option.map_some, opv] at ic6 b16; have z16 := (m6.cell 1 (by decide)).1; simp only [gf, poG, Option.map_some, opv] at z16)
        refine hK12.out _ _ ?s112 (fun hHeld12 => ?_)
        case s112 => first | exact b16 | go_keep
        clear hK12 K12
        try simp only [Act.put, List.setIfInBounds_toArray, List.set_cons_zero, List.set_cons_succ]
        refine wpAnyH_ready (rs := [12]) (by kernel_rfl) (by simp) ?_
        refine AllReadyH.cons rfl (fun K13 hK13 => ?_) AllReadyH.nil
        go_simp
        refine hK13.out _ _ ?s113 (fun hHeld13 => ?_)
        case s113 => first | exact b16 | go_keep
        clear hK13 K13
        try simp only [Act.put, List.setIfInBounds_toArray, List.set_cons_zero, List.set_cons_succ]
        refine wpAnyH_ready (rs := [13]) (by kernel_rfl) (by simp) ?_
        refine AllReadyH.cons rfl (fun K14 hK14 => ?_) AllReadyH.nil
        go_simp
        refine hK14.out _ _ ?s114 (fun hHeld14 => ?_)
        case s114 => first | exact b16 | go_keep
        clear hK14 K14
        try simp only [Act.put, List.setIfInBounds_toArray, List.set_cons_zero, List.set_cons_succ]
        refine wpAnyH_ready (rs := [14]) (by kernel_rfl) (by simp) ?_
        refine AllReadyH.cons rfl (fun K15 hK15 => ?_) AllReadyH.nil
        go_simp
        refine hK15.out _ _ ?s115 (fun hHeld15 => ?_)
        case s115 => first | exact z16 | go_keep
        clear hK15 K15
        try simp only [Act.put, List.setIfInBounds_toArray, List.set_cons_zero, List.set_cons_succ]
        refine wpAnyH_done (by kernel_rfl) ?_ _
        go_wp2_with fail
        go_meet
        exact Lib.hid ⟨_, m6⟩
      · skip
        go_simp
        refine hK10.out _ _ ?s110 (fun hHeld10 => ?_)
        case s110 => first | exact a1 | go_keep
        clear hK10 K10
        try simp only [Act.put, List.setIfInBounds_toArray, List.set_cons_zero, List.set_cons_succ]
        refine wpAnyH_ready (rs := [4]) (by kernel_rfl) (by simp) ?_
        refine AllReadyH.cons rfl (fun K16 hK16 => ?_) AllReadyH.nil
        go_simp
        refine hK16.out _ _ ?s116 (fun hHeld16 => ?_)
        case s116 => first | exact a1 | go_keep
        clear hK16 K16
        try simp only [Act.put, List.setIfInBounds_toArray, List.set_cons_zero, List.set_cons_succ]
        refine wpAnyH_ready (rs := [11]) (by kernel_rfl) (by simp) ?_
        refine AllReadyH.cons rfl (fun K17 hK17 => ?_) AllReadyH.nil
        (refine step_append_lies _ rfl (.tmp 92) (.tmp 98) 29 rfl base 28 i0 (.int .u64 0) 1 8 hu hi0 hz0 hz1 hz2 rfl (by decide) (iv 1) (ins 1).length (uv (ins 1)) rfl (own_keep (hown.out.alloc _) ((Only.refl Nil _).drew) (fun _ _ z => z)) ⟨w4.heap.size, 0, none⟩ 1 1 [.int .u64 x] rfl rfl (src_one (heap_new w4 (.cells #[.int .u64 x] 28))) (by intro u hu; simp at hu; subst hu; rfl) (by decide) (by unfold maxLen; have := lens.out; have := kb.out; omega) (by have := lens.out; have := kb.out; omega) (Nat.le_trans hbs.out (by simp [World.drew])) _ rfl ?_; intro g cap w6 own6 gr6 hat6 hlt6; obtain ⟨gc6, tc6, m6⟩ := ((m4'.out.nil ((Only.refl Nil w4).alloc _)).nil ((Only.refl Nil _).drew)).grow (r := 1) (by decide) own6 gr6 hat6; obtain ⟨ic6, if6⟩ := gc6 5 (by decide); have b16 := (gc6 1 (by decide)).1; simp only [gf, poG, Option.map_some, opv] at ic6 b16; have z16 := (m6.cell 1 (by decide)).1; simp only [gf, poG, Option.map_some, opv] at z16)
        refine hK17.out _ _ ?s117 (fun hHeld17 => ?_)
        case s117 => first | exact b16 | go_keep
        clear hK17 K17
        try simp only [Act.put, List.setIfInBounds_toArray, List.set_cons_zero, List.set_cons_succ]
        refine wpAnyH_ready (rs := [12]) (by kernel_rfl) (by simp) ?_
        refine AllReadyH.cons rfl (fun K18 hK18 => ?_) AllReadyH.nil
        go_simp
        refine hK18.out _ _ ?s118 (fun hHeld18 => ?_)
        case s118 => first | exact b16 | go_keep
        clear hK18 K18
        try simp only [Act.put, List.setIfInBounds_toArray, List.set_cons_zero, List.set_cons_succ]
        refine wpAnyH_ready (rs := [13]) (by kernel_rfl) (by simp) ?_
        refine AllReadyH.cons rfl (fun K19 hK19 => ?_) AllReadyH.nil
        go_simp
        refine hK19.out _ _ ?s119 (fun hHeld19 => ?_)
        case s119 => first | exact b16 | go_keep
        clear hK19 K19
        try simp only [Act.put, List.setIfInBounds_toArray, List.set_cons_zero, List.set_cons_succ]
        refine wpAnyH_ready (rs := [14]) (by kernel_rfl) (by simp) ?_
        refine AllReadyH.cons rfl (fun K20 hK20 => ?_) AllReadyH.nil
        go_simp
        refine hK20.out _ _ ?s120 (fun hHeld20 => ?_)
        case s120 => first | exact z16 | go_keep
        clear hK20 K20
        try simp only [Act.put, List.setIfInBounds_toArray, List.set_cons_zero, List.set_cons_succ]
        refine wpAnyH_done (by kernel_rfl) ?_ _
        go_wp2_with fail
        go_meet
        exact Lib.hid ⟨_, m6⟩
  case rest =>
    obtain ⟨iv2, mW⟩ := hcut.out
    rw [hI'.out] at mW
    clear c1 f1 c2 c5 f5 a1 a5 d5 hcut m4' hown
    obtain ⟨c1, f1⟩ := mW.cell 1 (by decide)
    simp only [gf, poG, Option.map_some, opv] at c1
    have m5 := mW.drop0
    go_wp2
    rw [show (none : Option (Nat × OS)) = ((none : Option OS).map fun s => (ob 0, s)) from rfl, poG_on0] at m5
    obtain ⟨a0, q0, e0⟩ := own_slice_n (m5.core.own 0 (by decide))
    obtain ⟨a1, q1, e1⟩ := own_slice_n (m5.core.own 1 (by decide))
    obtain ⟨a2, q2, e2⟩ := own_slice_n (m5.core.own 2 (by decide))
    have d4 := (m5.cell 4 (by decide)).1
    have d5 := (m5.cell 5 (by decide)).1
    have d7 := (m5.cell 7 (by decide)).1
    obtain ⟨d9, f9⟩ := m5.cell 9 (by decide)
    simp only [gf, e0] at d4
    simp only [gf, e1] at d5
    simp only [gf, e2] at d7
    simp only [gf] at d9
    have m7 := m5.setMost z
    have kk4 := (m7.cell 4 (by decide)).1
    have kk5 := (m7.cell 5 (by decide)).1
    have kk7 := (m7.cell 7 (by decide)).1
    simp only [gf, e0] at kk4
    simp only [gf, e1] at kk5
    simp only [gf, e2] at kk7
    have m7' := Lib.hid m7
    clear m7
    have hz := hz'.out
    unfold cnt at hz
    have g0 : (((I' 0).length : Nat) : Int) ≤ 100001 := by have := bI.out 0; omega
    have g1 : (((I' 1).length : Nat) : Int) ≤ 100001 := by have := bI.out 1; omega
    have g2 : (((I' 2).length : Nat) : Int) ≤ 100001 := by have := bI.out 2; omega
    generalize (I' 0).length = n0 at *
    generalize (I' 1).length = n1 at *
    generalize (I' 2).length = n2 at *
    have w1' : IntKind.i64.wrap ((n0 : Int) - (n1 : Int)) = (n0 : Int) - (n1 : Int) := by rw [IntKind.wrap_i64]; omega
    have w2' : IntKind.i64.wrap ((n0 : Int) - (n1 : Int) - (n2 : Int)) = (n0 : Int) - (n1 : Int) - (n2 : Int) := by rw [IntKind.wrap_i64]; omega
    clear c1 f1 m5 e0 e1 e2 mW
    generalize wc.setCell { block := gb, off := 1 } (Value.pointer none) = wa at *
    refine wp_region_held_drew (S := fun w' => w'.cell? ⟨gb, 4, none⟩ = some (.slice a0 n0 q0) ∧ w'.cell? ⟨gb, 5, none⟩ = some (.slice a1 n1 q1) ∧ w'.cell? ⟨gb, 7, none⟩ = some (.slice a2 n2 q2)) (by kernel_rfl) ⟨d4, d5, d7⟩ (fun hHeld => ?_)
    refine wpAnyH_take (i := 0) (v := ?vm0) rfl (by kernel_rfl) (by kernel_rfl) (by kernel_rfl) (fun _ _ _ h => h) (Or.inl ⟨by kernel_rfl, ?hm0⟩) (by assumption) ?rm0
    case hm0 => (intro w hSw; (try dsimp only at hSw); first | (go_simp; done) | (go_simp; with_reducible rfl))
    try simp only [Act.put, List.setIfInBounds_toArray, List.set_cons_zero, List.set_cons_succ]
    refine wpAnyH_take (i := 1) (v := ?vm1) rfl (by kernel_rfl) (by kernel_rfl) (by kernel_rfl) (fun _ _ _ h => h) (Or.inl ⟨by kernel_rfl, ?hm1⟩) (by assumption) ?rm1
    case hm1 => (intro w hSw; (try dsimp only at hSw); first | (go_simp; done) | (go_simp; with_reducible rfl))
    try simp only [Act.put, List.setIfInBounds_toArray, List.set_cons_zero, List.set_cons_succ]
    refine wpAnyH_take (i := 2) (v := ?vm2) rfl (by kernel_rfl) (by kernel_rfl) (by kernel_rfl) (fun _ _ _ h => h) (Or.inl ⟨by kernel_rfl, ?hm2⟩) (by assumption) ?rm2
    case hm2 => (intro w hSw; (try dsimp only at hSw); first | (go_simp; done) | (go_simp; with_reducible rfl))
    try simp only [Act.put, List.setIfInBounds_toArray, List.set_cons_zero, List.set_cons_succ]
    refine wpAnyH_take (i := 3) (v := ?vm3) rfl (by kernel_rfl) (by kernel_rfl) (by kernel_rfl) (fun _ _ _ h => h) (Or.inl ⟨by kernel_rfl, ?hm3⟩) (by assumption) ?rm3
    case hm3 => (intro w hSw; (try dsimp only at hSw); first | (go_simp; done) | (go_simp; with_reducible rfl))
    try simp only [Act.put, List.setIfInBounds_toArray, List.set_cons_zero, List.set_cons_succ]
    refine wpAnyH_take (i := 5) (v := ?vm5) rfl (by kernel_rfl) (by kernel_rfl) (by kernel_rfl) (fun _ _ _ h => h) (Or.inl ⟨by kernel_rfl, ?hm5⟩) (by assumption) ?rm5
    case hm5 => (intro w hSw; (try dsimp only at hSw); first | (go_simp; done) | (go_simp; with_reducible rfl))
    try simp only [Act.put, List.setIfInBounds_toArray, List.set_cons_zero, List.set_cons_succ]
    refine wpAnyH_take (i := 6) (v := ?vm6) rfl (by kernel_rfl) (by kernel_rfl) (by kernel_rfl) (fun _ _ _ h => h) (Or.inl ⟨by kernel_rfl, ?hm6⟩) (by assumption) ?rm6
    case hm6 => (intro w hSw; (try dsimp only at hSw); first | (go_simp; done) | (go_simp; with_reducible rfl))
    try simp only [Act.put, List.setIfInBounds_toArray, List.set_cons_zero, List.set_cons_succ]
    refine wpAnyH_take (i := 7) (v := ?vm7) rfl (by kernel_rfl) (by kernel_rfl) (by kernel_rfl) (fun _ _ _ h => h) (Or.inl ⟨by kernel_rfl, ?hm7⟩) (by assumption) ?rm7
    case hm7 => (intro w hSw; (try dsimp only at hSw); first | (go_simp; done) | (go_simp; with_reducible rfl))
    try simp only [Act.put, List.setIfInBounds_toArray, List.set_cons_zero, List.set_cons_succ]
    refine wpAnyH_take (i := 8) (v := ?vm8) rfl (by kernel_rfl) (by kernel_rfl) (by kernel_rfl) (fun _ _ _ h => h) (Or.inl ⟨by kernel_rfl, ?hm8⟩) (by assumption) ?rm8
    case hm8 => (intro w hSw; (try dsimp only at hSw); first | (go_simp; done) | (go_simp; with_reducible rfl))
    try simp only [Act.put, List.setIfInBounds_toArray, List.set_cons_zero, List.set_cons_succ]
    refine wpAnyH_take (i := 9) (v := ?vm9) rfl (by kernel_rfl) (by kernel_rfl) (by kernel_rfl) (fun _ _ _ h => h) (Or.inl ⟨by kernel_rfl, ?hm9⟩) (by assumption) ?rm9
    case hm9 => (intro w hSw; (try dsimp only at hSw); first | (go_simp; done) | (go_simp; with_reducible rfl))
    try simp only [Act.put, List.setIfInBounds_toArray, List.set_cons_zero, List.set_cons_succ]
    refine wpAnyH_take (i := 10) (v := ?vm10) rfl (by kernel_rfl) (by kernel_rfl) (by kernel_rfl) (fun _ _ _ h => h) (Or.inl ⟨by kernel_rfl, ?hm10⟩) (by assumption) ?rm10
    case hm10 => (intro w hSw; (try dsimp only at hSw); first | (go_simp; done) | (go_simp; with_reducible rfl))
    try simp only [Act.put, List.setIfInBounds_toArray, List.set_cons_zero, List.set_cons_succ]
    refine wpAnyH_take (i := 11) (v := ?vm11) rfl (by kernel_rfl) (by kernel_rfl) (by kernel_rfl) (fun _ _ _ h => h) (Or.inl ⟨by kernel_rfl, ?hm11⟩) (by assumption) ?rm11
    case hm11 => (intro w hSw; (try dsimp only at hSw); first | (go_simp; done) | (go_simp; with_reducible rfl))
    try simp only [Act.put, List.setIfInBounds_toArray, List.set_cons_zero, List.set_cons_succ]
    refine wpAnyH_take (i := 12) (v := ?vm12) rfl (by kernel_rfl) (by kernel_rfl) (by kernel_rfl) (fun _ _ _ h => h) (Or.inl ⟨by kernel_rfl, ?hm12⟩) (by assumption) ?rm12
    case hm12 => (intro w hSw; (try dsimp only at hSw); first | (go_simp; done) | (go_simp; with_reducible rfl))
    try simp only [Act.put, List.setIfInBounds_toArray, List.set_cons_zero, List.set_cons_succ]
    refine wpAnyH_take (i := 13) (v := ?vm13) rfl (by kernel_rfl) (by kernel_rfl) (by kernel_rfl) (fun _ _ _ h => h) (Or.inl ⟨by kernel_rfl, ?hm13⟩) (by assumption) ?rm13
    case hm13 => (intro w hSw; (try dsimp only at hSw); first | (go_simp; done) | (go_simp; with_reducible rfl))
    try simp only [Act.put, List.setIfInBounds_toArray, List.set_cons_zero, List.set_cons_succ]
    refine wpAnyH_take (i := 14) (v := ?vm14) rfl (by kernel_rfl) (by kernel_rfl) (by kernel_rfl) (fun _ _ _ h => h) (Or.inl ⟨by kernel_rfl, ?hm14⟩) (by assumption) ?rm14
    case hm14 => (intro w hSw; (try dsimp only at hSw); first | (go_simp; done) | (go_simp; with_reducible rfl))
    try simp only [Act.put, List.setIfInBounds_toArray, List.set_cons_zero, List.set_cons_succ]
    refine wpAnyH_take (i := 15) (v := ?vm15) rfl (by kernel_rfl) (by kernel_rfl) (by kernel_rfl) (fun _ _ _ h => h) (Or.inl ⟨by kernel_rfl, ?hm15⟩) (by assumption) ?rm15
    case hm15 => (intro w hSw; (try dsimp only at hSw); first | (go_simp; done) | (go_simp; with_reducible rfl))
    try simp only [Act.put, List.setIfInBounds_toArray, List.set_cons_zero, List.set_cons_succ]
    refine wpAnyH_take (i := 16) (v := ?vm16) rfl (by kernel_rfl) (by kernel_rfl) (by kernel_rfl) (fun _ _ _ h => h) (Or.inl ⟨by kernel_rfl, ?hm16⟩) (by assumption) ?rm16
    case hm16 => (intro w hSw; (try dsimp only at hSw); first | (go_simp; done) | (go_simp; with_reducible rfl))
    try simp only [Act.put, List.setIfInBounds_toArray, List.set_cons_zero, List.set_cons_succ]
    refine wpAnyH_take (i := 17) (v := ?vm17) rfl (by kernel_rfl) (by kernel_rfl) (by kernel_rfl) (fun _ _ _ h => h) (Or.inl ⟨by kernel_rfl, ?hm17⟩) (by assumption) ?rm17
    case hm17 => (intro w hSw; (try dsimp only at hSw); first | (go_simp; done) | (go_simp; with_reducible rfl))
    try simp only [Act.put, List.setIfInBounds_toArray, List.set_cons_zero, List.set_cons_succ]
    refine wpAnyH_take (i := 18) (v := ?vm18) rfl (by kernel_rfl) (by kernel_rfl) (by kernel_rfl) (fun _ _ _ h => h) (Or.inl ⟨by kernel_rfl, ?hm18⟩) (by assumption) ?rm18
    case hm18 => (intro w hSw; (try dsimp only at hSw); first | (go_simp; done) | (go_simp; with_reducible rfl))
    try simp only [Act.put, List.setIfInBounds_toArray, List.set_cons_zero, List.set_cons_succ]
    refine wpAnyH_take (i := 19) (v := ?vm19) rfl (by kernel_rfl) (by kernel_rfl) (by kernel_rfl) (fun _ _ _ h => h) (Or.inl ⟨by kernel_rfl, ?hm19⟩) (by assumption) ?rm19
    case hm19 => (intro w hSw; (try dsimp only at hSw); first | (go_simp; done) | (go_simp; with_reducible rfl))
    try simp only [Act.put, List.setIfInBounds_toArray, List.set_cons_zero, List.set_cons_succ]
    refine wpAnyH_take (i := 20) (v := ?vm20) rfl (by kernel_rfl) (by kernel_rfl) (by kernel_rfl) (fun _ _ _ h => h) (Or.inl ⟨by kernel_rfl, ?hm20⟩) (by assumption) ?rm20
    case hm20 => (intro w hSw; (try dsimp only at hSw); first | (go_simp; done) | (go_simp; with_reducible rfl))
    try simp only [Act.put, List.setIfInBounds_toArray, List.set_cons_zero, List.set_cons_succ]
    refine wpAnyH_take (i := 21) (v := ?vm21) rfl (by kernel_rfl) (by kernel_rfl) (by kernel_rfl) (fun _ _ _ h => h) (Or.inl ⟨by kernel_rfl, ?hm21⟩) (by assumption) ?rm21
    case hm21 => (intro w hSw; (try dsimp only at hSw); first | (go_simp; done) | (go_simp; with_reducible rfl))
    try simp only [Act.put, List.setIfInBounds_toArray, List.set_cons_zero, List.set_cons_succ]
    refine wpAnyH_ready (rs := [4]) (by kernel_rfl) (by simp) ?_
    refine AllReadyH.cons rfl (fun K21 hK21 => ?_) AllReadyH.nil
    go_simp
    refine hK21.out _ _ ?s121 (fun hHeld21 => ?_)
    case s121 => first | exact ⟨d4, d5, d7⟩ | go_keep
    clear hK21 K21
    try simp only [Act.put, List.setIfInBounds_toArray, List.set_cons_zero, List.set_cons_succ]
    refine wpAnyH_ready (rs := [22]) (by kernel_rfl) (by simp) ?_
    refine AllReadyH.cons rfl (fun K22 hK22 => ?_) AllReadyH.nil
    go_simp
    refine hK22.out _ _ ?s122 (fun hHeld22 => ?_)
    case s122 => first | exact ⟨d4, d5, d7⟩ | go_keep
    clear hK22 K22
    try simp only [Act.put, List.setIfInBounds_toArray, List.set_cons_zero, List.set_cons_succ]
    refine wpAnyH_ready (rs := [23]) (by kernel_rfl) (by simp) ?_
    refine AllReadyH.cons rfl (fun K23 hK23 => ?_) AllReadyH.nil
    go_simp
    refine hK23.out _ _ ?s123 (fun hHeld23 => ?_)
    case s123 => first | exact ⟨d4, d5, d7⟩ | go_keep
    clear hK23 K23
    try simp only [Act.put, List.setIfInBounds_toArray, List.set_cons_zero, List.set_cons_succ]
    refine wpAnyH_ready (rs := [24]) (by kernel_rfl) (by simp) ?_
    refine AllReadyH.cons rfl (fun K24 hK24 => ?_) AllReadyH.nil
    go_simp
    refine hK24.out _ _ ?s124 (fun hHeld24 => ?_)
    case s124 => first | exact ⟨d4, d5, d7⟩ | go_keep
    clear hK24 K24
    try simp only [Act.put, List.setIfInBounds_toArray, List.set_cons_zero, List.set_cons_succ]
    refine wpAnyH_ready (rs := [25]) (by kernel_rfl) (by simp) ?_
    refine AllReadyH.cons rfl (fun K25 hK25 => ?_) AllReadyH.nil
    go_simp
    refine hK25.out _ _ ?s125 (fun hHeld25 => ?_)
    case s125 => first | exact ⟨kk4, kk5, kk7⟩ | go_keep
    clear hK25 K25
    try simp only [Act.put, List.setIfInBounds_toArray, List.set_cons_zero, List.set_cons_succ]
    refine wpAnyH_done (by kernel_rfl) ?_ _
    go_wp2_with fail
    go_end0
    exact ⟨rfl, Lib.hid ⟨_, m7'.out.nil ((Only.refl Nil _).drew)⟩⟩
end
end Go.Proofs.Ytokopocldicnmaa.Dq
