/- A gang at a deque: a thief's step that is done. -/
import Derived.Test.YtokopocldicnmaaDqCd
namespace Go.Proofs.Ytokopocldicnmaa.Dq
open Go.RowKit
section
variable {w1 w w4 : World} {rg B base c gb tb K : Nat} {L : List Int} {t : Int} {T X : Nat} {f : Nat → Int} {ow : Option OS} {th : Nat → Option OS} {ob : Nat → Nat} {psh : Bool} {nx : Nat} {iv : Nat → Value} {ins : Nat → List Int} {lost most : Int}

set_option linter.unusedSimpArgs false in
set_option maxRecDepth 100000 in
set_option maxHeartbeats 8000000 in
theorem csteal_done (h : Gg w1 w rg B base c gb tb K L t T X f ow th ob psh nx iv ins lost most) {i : Nat} (hi : i < 2) {s : OS} (e : th i = some s) (hn : (stepS 0 c L s).isO = true) (ho : (stepS 0 c L s).o = 1) {x : Int} (hx : (stepS 0 c L s).x = x) :
    Calls Try.prog 51 #[.pointer (some ⟨gb, 0, none⟩), .int .i64 (i : Int)] w fun e w' => e = .returned (.tuple #[]) ∧ Hid (∃ iv', Gw w1 w' rg B base c gb tb (stepL 0 c L s) (t + 1) (poG ow (upd th i none) ob) psh (nx : Int) iv' (upd ins 2 (ins 2 ++ [x])) lost most) := by
  have sp := Lib.hid (h.stepT hi e)
  rw [hn] at sp
  have i2 : (i : Int) < 2 := by omega
  have hi' := Lib.hid hi
  have ho' := Lib.hid ho
  have hx' := Lib.hid hx
  obtain ⟨i0, hi0, hz0, hz1, hz2⟩ := info_parts Try.infoU64'
  have hu := Try.underlying29
  have lens := Lib.hid (h.inb 2)
  have kb := Lib.hid h.kb
  have c6 := (h.gw.cell 6 (by decide)).1
  simp only [gf] at c6
  have pc := h.tcs hi e
  clear h e hi hn ho hx
  go_enter Try.func51, Try.ntmps51
  go_wp2_with (first
    | (go_at_call 53; (with_reducible refine (sp.out).mono ?_); rintro e w4 ⟨rfl, k4⟩; obtain ⟨q4, m4⟩ := k4.out; clear c6 pc; have c6 := (m4.cell 6 (by decide)).1; obtain ⟨c7, f7⟩ := m4.cell 7 (by decide); simp only [gf] at c6 c7; obtain ⟨pc, pf⟩ := m4.tc i hi'.out; simp only [poG, upd_same, Option.map_some, opv] at pc; have oc := Lib.hid (show Calls Try.prog 54 #[.pointer (some ⟨ob (i + 1), 0, none⟩)] w4 (fun e w' => e = .returned (.int .i64 1) ∧ w4 = w') from ho'.out ▸ outcomeO q4.op); have vc : Hid (∀ n, Calls Try.prog 55 #[.pointer (some ⟨ob (i + 1), 0, none⟩)] (w4.drewN n) (fun e w' => e = .returned (.int .u64 x) ∧ w4.drewN n = w')) := Lib.hid (fun n => hx'.out ▸ valueO ((q4.op).keep ((Only.refl Nil w4).drewN n) (fun z => z))))
    | (go_at_call 54; (with_reducible refine (oc.out).mono ?_); rintro e w5 ⟨rfl, rfl⟩))
  have m4' := Lib.hid m4
  have hown := Lib.hid (m4.core.own 2 (by decide))
  have hbs := Lib.hid m4.core.hb
  have mA := m4.nil ((Only.refl Nil w4).alloc (.cells #[.int .u64 x] 28))
  have a6 := (mA.cell 6 (by decide)).1
  have a7 := (mA.cell 7 (by decide)).1
  simp only [gf] at a6 a7
  have ap := (mA.tc i hi'.out).1
  simp only [poG, upd_same, Option.map_some, opv] at ap
  have d7 := (((m4.drewN 1).nil ((Only.refl Nil _).alloc (.cells #[.int .u64 x] 28))).cell 7 (by decide)).1
  simp only [gf] at d7
  clear mA m4 q4 k4
  go_cut [41] (fun s41 wx => Hid (∃ iv' : Nat → Value, Gw w1 wx rg B base c gb tb (stepL 0 c L s) (t + 1) (poG ow (upd th i (some (stepS 0 c L s))) ob) psh (nx : Int) iv' (upd ins 2 (ins 2 ++ [x])) lost most))
  case first =>
    refine wp_region_held_drew (S := fun w' => w'.cell? ⟨gb, 6, none⟩ = some (.slice (some ⟨tb, 0, none⟩) 2 2) ∧ w'.cell? ⟨tb, i, none⟩ = some (.pointer (some ⟨ob (i + 1), 0, none⟩))) (by kernel_rfl) ⟨c6, pc⟩ (fun hHeld => ?_)
    refine wpAnyH_take (i := 0) (v := ?v0) rfl (by kernel_rfl) (by kernel_rfl) (by kernel_rfl) (fun _ _ _ h => h) (Or.inl ⟨by kernel_rfl, ?h0⟩) (by assumption) ?r0
    case h0 => (intro w hSw; (try dsimp only at hSw); first | (go_simp; done) | (go_simp; with_reducible rfl))
    try simp only [Act.put, List.setIfInBounds_toArray, List.set_cons_zero, List.set_cons_succ]
    refine wpAnyH_take (i := 1) (v := ?v1) rfl (by kernel_rfl) (by kernel_rfl) (by kernel_rfl) (fun _ _ _ h => h) (Or.inl ⟨by kernel_rfl, ?h1⟩) (by assumption) ?r1
    case h1 => (intro w hSw; (try dsimp only at hSw); first | (go_simp; done) | (go_simp; with_reducible rfl))
    try simp only [Act.put, List.setIfInBounds_toArray, List.set_cons_zero, List.set_cons_succ]
    refine wpAnyH_take (i := 2) (v := ?v2) rfl (by kernel_rfl) (by kernel_rfl) (by kernel_rfl) (fun _ _ _ h => h) (Or.inl ⟨by kernel_rfl, ?h2⟩) (by assumption) ?r2
    case h2 => (intro w hSw; (try dsimp only at hSw); first | (go_simp; done) | (go_simp; with_reducible rfl))
    try simp only [Act.put, List.setIfInBounds_toArray, List.set_cons_zero, List.set_cons_succ]
    refine wpAnyH_take (i := 3) (v := ?v3) rfl (by kernel_rfl) (by kernel_rfl) (by kernel_rfl) (fun _ _ _ h => h) (Or.inl ⟨by kernel_rfl, ?h3⟩) (by assumption) ?r3
    case h3 => (intro w hSw; (try dsimp only at hSw); first | (go_simp; done) | (go_simp; with_reducible rfl))
    try simp only [Act.put, List.setIfInBounds_toArray, List.set_cons_zero, List.set_cons_succ]
    refine wpAnyH_take (i := 5) (v := ?v5) rfl (by kernel_rfl) (by kernel_rfl) (by kernel_rfl) (fun _ _ _ h => h) (Or.inl ⟨by kernel_rfl, ?h5⟩) (by assumption) ?r5
    case h5 => (intro w hSw; (try dsimp only at hSw); first | (go_simp; done) | (go_simp; with_reducible rfl))
    try simp only [Act.put, List.setIfInBounds_toArray, List.set_cons_zero, List.set_cons_succ]
    refine wpAnyH_take (i := 6) (v := ?v6) rfl (by kernel_rfl) (by kernel_rfl) (by kernel_rfl) (fun _ _ _ h => h) (Or.inl ⟨by kernel_rfl, ?h6⟩) (by assumption) ?r6
    case h6 => (intro w hSw; (try dsimp only at hSw); first | (go_simp; done) | (go_simp; with_reducible rfl))
    try simp only [Act.put, List.setIfInBounds_toArray, List.set_cons_zero, List.set_cons_succ]
    refine wpAnyH_take (i := 7) (v := ?v7) rfl (by kernel_rfl) (by kernel_rfl) (by kernel_rfl) (fun _ _ _ h => h) (Or.inl ⟨by kernel_rfl, ?h7⟩) (by assumption) ?r7
    case h7 => (intro w hSw; (try dsimp only at hSw); first | (go_simp; done) | (go_simp; with_reducible rfl))
    try simp only [Act.put, List.setIfInBounds_toArray, List.set_cons_zero, List.set_cons_succ]
    refine wpAnyH_take (i := 8) (v := ?v8) rfl (by kernel_rfl) (by kernel_rfl) (by kernel_rfl) (fun _ _ _ h => h) (Or.inl ⟨by kernel_rfl, ?h8⟩) (by assumption) ?r8
    case h8 => (intro w hSw; (try dsimp only at hSw); first | (go_simp; done) | (go_simp; with_reducible rfl))
    try simp only [Act.put, List.setIfInBounds_toArray, List.set_cons_zero, List.set_cons_succ]
    refine wpAnyH_take (i := 9) (v := ?v9) rfl (by kernel_rfl) (by kernel_rfl) (by kernel_rfl) (fun _ _ _ h => h) (Or.inl ⟨by kernel_rfl, ?h9⟩) (by assumption) ?r9
    case h9 => (intro w hSw; (try dsimp only at hSw); first | (go_simp; done) | (go_simp; with_reducible rfl))
    try simp only [Act.put, List.setIfInBounds_toArray, List.set_cons_zero, List.set_cons_succ]
    refine wpAnyH_take (i := 10) (v := ?v10) rfl (by kernel_rfl) (by kernel_rfl) (by kernel_rfl) (fun _ _ _ h => h) (Or.inl ⟨by kernel_rfl, ?h10⟩) (by assumption) ?r10
    case h10 => (intro w hSw; (try dsimp only at hSw); first | (go_simp; done) | (go_simp; with_reducible rfl))
    try simp only [Act.put, List.setIfInBounds_toArray, List.set_cons_zero, List.set_cons_succ]
    refine wpAnyH_take (i := 11) (v := ?v11) rfl (by kernel_rfl) (by kernel_rfl) (by kernel_rfl) (fun _ _ _ h => h) (Or.inl ⟨by kernel_rfl, ?h11⟩) (by assumption) ?r11
    case h11 => (intro w hSw; (try dsimp only at hSw); first | (go_simp; done) | (go_simp; with_reducible rfl))
    try simp only [Act.put, List.setIfInBounds_toArray, List.set_cons_zero, List.set_cons_succ]
    refine wpAnyH_ready (rs := [4, 12]) (by kernel_rfl) (by simp) ?_
    refine AllReadyH.cons rfl (fun K1 hK1 => ?_) (AllReadyH.cons rfl (fun K2 hK2 => ?_) AllReadyH.nil)
    · skip
      go_simp
      refine hK1.out _ _ ?s101 (fun hHeld1 => ?_)
      case s101 => first | exact ⟨c6, pc⟩ | go_keep
      clear hK1 K1
      try simp only [Act.put, List.setIfInBounds_toArray, List.set_cons_zero, List.set_cons_succ]
      refine wpAnyH_ready (rs := [12]) (by kernel_rfl) (by simp) ?_
      refine AllReadyH.cons rfl (fun K3 hK3 => ?_) AllReadyH.nil
      (go_simp; go_at_call 55; refine (vc.out _).mono ?_; rintro e w5 ⟨rfl, rfl⟩; go_wp2_with fail)
      refine hK3.out _ _ ?s103 (fun hHeld3 => ?_)
      case s103 => first | exact ⟨c6, pc⟩ | go_keep
      clear hK3 K3
      try simp only [Act.put, List.setIfInBounds_toArray, List.set_cons_zero, List.set_cons_succ]
      refine wpAnyH_ready (rs := [13]) (by kernel_rfl) (by simp) ?_
      refine AllReadyH.cons rfl (fun K4 hK4 => ?_) AllReadyH.nil
      go_simp
      refine hK4.out _ _ ?s104 (fun hHeld4 => ?_)
      case s104 => first | exact ⟨a6, ap⟩ | go_keep
      clear hK4 K4
      try simp only [Act.put, List.setIfInBounds_toArray, List.set_cons_zero, List.set_cons_succ]
      refine wpAnyH_ready (rs := [14]) (by kernel_rfl) (by simp) ?_
      refine AllReadyH.cons rfl (fun K5 hK5 => ?_) AllReadyH.nil
      (refine step_append_lies _ rfl (.tmp 45) (.tmp 54) 29 rfl base 28 i0 (.int .u64 0) 1 8 hu hi0 hz0 hz1 hz2 rfl (by decide) (iv 2) (ins 2).length (uv (ins 2)) rfl (own_keep (hown.out.alloc _) ((Only.refl Nil _).drew) (fun _ _ z => z)) ⟨w4.heap.size, 0, none⟩ 1 1 [.int .u64 x] rfl rfl (src_one (heap_new w4 (.cells #[.int .u64 x] 28))) (by intro u hu; simp at hu; subst hu; rfl) (by decide) (by unfold maxLen; have := lens.out; have := kb.out; omega) (by have := lens.out; have := kb.out; omega) (Nat.le_trans hbs.out (by simp [World.drew])) _ rfl ?_; intro g cap w6 own6 gr6 hat6 hlt6; obtain ⟨gc6, tc6, m6⟩ := ((m4'.out.nil ((Only.refl Nil w4).alloc _)).nil ((Only.refl Nil _).drew)).grow (r := 2) (by decide) own6 gr6 hat6; obtain ⟨ic6, if6⟩ := gc6 7 (by decide); have b66 := (gc6 6 (by decide)).1; have bp6 := tc6 i hi'.out; simp only [gf] at ic6 b66; simp only [poG, upd_same, Option.map_some, opv] at bp6; have z66 := (m6.cell 6 (by decide)).1; have zp6 := (m6.tc i hi'.out).1; simp only [gf] at z66; simp only [poG, upd_same, Option.map_some, opv] at zp6)
      refine hK5.out _ _ ?s105 (fun hHeld5 => ?_)
      case s105 => first | exact ⟨b66, bp6⟩ | go_keep
      clear hK5 K5
      try simp only [Act.put, List.setIfInBounds_toArray, List.set_cons_zero, List.set_cons_succ]
      refine wpAnyH_ready (rs := [15]) (by kernel_rfl) (by simp) ?_
      refine AllReadyH.cons rfl (fun K6 hK6 => ?_) AllReadyH.nil
      go_simp
      refine hK6.out _ _ ?s106 (fun hHeld6 => ?_)
      case s106 => first | exact ⟨b66, bp6⟩ | go_keep
      clear hK6 K6
      try simp only [Act.put, List.setIfInBounds_toArray, List.set_cons_zero, List.set_cons_succ]
      refine wpAnyH_ready (rs := [16]) (by kernel_rfl) (by simp) ?_
      refine AllReadyH.cons rfl (fun K7 hK7 => ?_) AllReadyH.nil
      go_simp
      refine hK7.out _ _ ?s107 (fun hHeld7 => ?_)
      case s107 => first | exact ⟨b66, bp6⟩ | go_keep
      clear hK7 K7
      try simp only [Act.put, List.setIfInBounds_toArray, List.set_cons_zero, List.set_cons_succ]
      refine wpAnyH_ready (rs := [17]) (by kernel_rfl) (by simp) ?_
      refine AllReadyH.cons rfl (fun K8 hK8 => ?_) AllReadyH.nil
      go_simp
      refine hK8.out _ _ ?s108 (fun hHeld8 => ?_)
      case s108 => first | exact ⟨z66, zp6⟩ | go_keep
      clear hK8 K8
      try simp only [Act.put, List.setIfInBounds_toArray, List.set_cons_zero, List.set_cons_succ]
      refine wpAnyH_done (by kernel_rfl) ?_ _
      go_wp2_with fail
      go_meet
      exact Lib.hid ⟨_, m6⟩
    · skip
      (go_simp; go_at_call 55; refine (vc.out _).mono ?_; rintro e w5 ⟨rfl, rfl⟩; go_wp2_with fail)
      refine hK2.out _ _ ?s102 (fun hHeld2 => ?_)
      case s102 => first | exact ⟨c6, pc⟩ | go_keep
      clear hK2 K2
      try simp only [Act.put, List.setIfInBounds_toArray, List.set_cons_zero, List.set_cons_succ]
      refine wpAnyH_ready (rs := [4, 13]) (by kernel_rfl) (by simp) ?_
      refine AllReadyH.cons rfl (fun K9 hK9 => ?_) (AllReadyH.cons rfl (fun K10 hK10 => ?_) AllReadyH.nil)
      · skip
        go_simp
        refine hK9.out _ _ ?s109 (fun hHeld9 => ?_)
        case s109 => first | exact ⟨c6, pc⟩ | go_keep
        clear hK9 K9
        try simp only [Act.put, List.setIfInBounds_toArray, List.set_cons_zero, List.set_cons_succ]
        refine wpAnyH_ready (rs := [13]) (by kernel_rfl) (by simp) ?_
        refine AllReadyH.cons rfl (fun K11 hK11 => ?_) AllReadyH.nil
        go_simp
        refine hK11.out _ _ ?s111 (fun hHeld11 => ?_)
        case s111 => first | exact ⟨a6, ap⟩ | go_keep
        clear hK11 K11
        try simp only [Act.put, List.setIfInBounds_toArray, List.set_cons_zero, List.set_cons_succ]
        refine wpAnyH_ready (rs := [14]) (by kernel_rfl) (by simp) ?_
        refine AllReadyH.cons rfl (fun K12 hK12 => ?_) AllReadyH.nil
        (refine step_append_lies _ rfl (.tmp 45) (.tmp 54) 29 rfl base 28 i0 (.int .u64 0) 1 8 hu hi0 hz0 hz1 hz2 rfl (by decide) (iv 2) (ins 2).length (uv (ins 2)) rfl (own_keep (hown.out.alloc _) ((Only.refl Nil _).drew) (fun _ _ z => z)) ⟨w4.heap.size, 0, none⟩ 1 1 [.int .u64 x] rfl rfl (src_one (heap_new w4 (.cells #[.int .u64 x] 28))) (by intro u hu; simp at hu; subst hu; rfl) (by decide) (by unfold maxLen; have := lens.out; have := kb.out; omega) (by have := lens.out; have := kb.out; omega) (Nat.le_trans hbs.out (by simp [World.drew])) _ rfl ?_; intro g cap w6 own6 gr6 hat6 hlt6; obtain ⟨gc6, tc6, m6⟩ := ((m4'.out.nil ((Only.refl Nil w4).alloc _)).nil ((Only.refl Nil _).drew)).grow (r := 2) (by decide) own6 gr6 hat6; obtain ⟨ic6, if6⟩ := gc6 7 (by decide); have b66 := (gc6 6 (by decide)).1; have bp6 := tc6 i hi'.out; simp only [gf] at ic6 b66; simp only [poG, upd_same, Option.map_some, opv] at bp6; have z66 := (m6.cell 6 (by decide)).1; have zp6 := (m6.tc i hi'.out).1; simp only [gf] at z66; simp only [poG, upd_same, Option.map_some, opv] at zp6)
        refine hK12.out _ _ ?s112 (fun hHeld12 => ?_)
        case s112 => first | exact ⟨b66, bp6⟩ | go_keep
        clear hK12 K12
        try simp only [Act.put, List.setIfInBounds_toArray, List.set_cons_zero, List.set_cons_succ]
        refine wpAnyH_ready (rs := [15]) (by kernel_rfl) (by simp) ?_
        refine AllReadyH.cons rfl (fun K13 hK13 => ?_) AllReadyH.nil
        go_simp
        refine hK13.out _ _ ?s113 (fun hHeld13 => ?_)
        case s113 => first | exact ⟨b66, bp6⟩ | go_keep
        clear hK13 K13
        try simp only [Act.put, List.setIfInBounds_toArray, List.set_cons_zero, List.set_cons_succ]
        refine wpAnyH_ready (rs := [16]) (by kernel_rfl) (by simp) ?_
        refine AllReadyH.cons rfl (fun K14 hK14 => ?_) AllReadyH.nil
        go_simp
        refine hK14.out _ _ ?s114 (fun hHeld14 => ?_)
        case s114 => first | exact ⟨b66, bp6⟩ | go_keep
        clear hK14 K14
        try simp only [Act.put, List.setIfInBounds_toArray, List.set_cons_zero, List.set_cons_succ]
        refine wpAnyH_ready (rs := [17]) (by kernel_rfl) (by simp) ?_
        refine AllReadyH.cons rfl (fun K15 hK15 => ?_) AllReadyH.nil
        go_simp
        refine hK15.out _ _ ?s115 (fun hHeld15 => ?_)
        case s115 => first | exact ⟨z66, zp6⟩ | go_keep
        clear hK15 K15
        try simp only [Act.put, List.setIfInBounds_toArray, List.set_cons_zero, List.set_cons_succ]
        refine wpAnyH_done (by kernel_rfl) ?_ _
        go_wp2_with fail
        go_meet
        exact Lib.hid ⟨_, m6⟩
      · skip
        go_simp
        refine hK10.out _ _ ?s110 (fun hHeld10 => ?_)
        case s110 => first | exact ⟨a6, ap⟩ | go_keep
        clear hK10 K10
        try simp only [Act.put, List.setIfInBounds_toArray, List.set_cons_zero, List.set_cons_succ]
        refine wpAnyH_ready (rs := [4]) (by kernel_rfl) (by simp) ?_
        refine AllReadyH.cons rfl (fun K16 hK16 => ?_) AllReadyH.nil
        go_simp
        refine hK16.out _ _ ?s116 (fun hHeld16 => ?_)
        case s116 => first | exact ⟨a6, ap⟩ | go_keep
        clear hK16 K16
        try simp only [Act.put, List.setIfInBounds_toArray, List.set_cons_zero, List.set_cons_succ]
        refine wpAnyH_ready (rs := [14]) (by kernel_rfl) (by simp) ?_
        refine AllReadyH.cons rfl (fun K17 hK17 => ?_) AllReadyH.nil
        (refine step_append_lies _ rfl (.tmp 45) (.tmp 54) 29 rfl base 28 i0 (.int .u64 0) 1 8 hu hi0 hz0 hz1 hz2 rfl (by decide) (iv 2) (ins 2).length (uv (ins 2)) rfl (own_keep (hown.out.alloc _) ((Only.refl Nil _).drew) (fun _ _ z => z)) ⟨w4.heap.size, 0, none⟩ 1 1 [.int .u64 x] rfl rfl (src_one (heap_new w4 (.cells #[.int .u64 x] 28))) (by intro u hu; simp at hu; subst hu; rfl) (by decide) (by unfold maxLen; have := lens.out; have := kb.out; omega) (by have := lens.out; have := kb.out; omega) (Nat.le_trans hbs.out (by simp [World.drew])) _ rfl ?_; intro g cap w6 own6 gr6 hat6 hlt6; obtain ⟨gc6, tc6, m6⟩ := ((m4'.out.nil ((Only.refl Nil w4).alloc _)).nil ((Only.refl Nil _).drew)).grow (r := 2) (by decide) own6 gr6 hat6; obtain ⟨ic6, if6⟩ := gc6 7 (by decide); have b66 := (gc6 6 (by decide)).1; have bp6 := tc6 i hi'.out; simp only [gf] at ic6 b66; simp only [poG, upd_same, Option.map_some, opv] at bp6; have z66 := (m6.cell 6 (by decide)).1; have zp6 := (m6.tc i hi'.out).1; simp only [gf] at z66; simp only [poG, upd_same, Option.map_some, opv] at zp6)
        refine hK17.out _ _ ?s117 (fun hHeld17 => ?_)
        case s117 => first | exact ⟨b66, bp6⟩ | go_keep
        clear hK17 K17
        try simp only [Act.put, List.setIfInBounds_toArray, List.set_cons_zero, List.set_cons_succ]
        refine wpAnyH_ready (rs := [15]) (by kernel_rfl) (by simp) ?_
        refine AllReadyH.cons rfl (fun K18 hK18 => ?_) AllReadyH.nil
        go_simp
        refine hK18.out _ _ ?s118 (fun hHeld18 => ?_)
        case s118 => first | exact ⟨b66, bp6⟩ | go_keep
        clear hK18 K18
        try simp only [Act.put, List.setIfInBounds_toArray, List.set_cons_zero, List.set_cons_succ]
        refine wpAnyH_ready (rs := [16]) (by kernel_rfl) (by simp) ?_
        refine AllReadyH.cons rfl (fun K19 hK19 => ?_) AllReadyH.nil
        go_simp
        refine hK19.out _ _ ?s119 (fun hHeld19 => ?_)
        case s119 => first | exact ⟨b66, bp6⟩ | go_keep
        clear hK19 K19
        try simp only [Act.put, List.setIfInBounds_toArray, List.set_cons_zero, List.set_cons_succ]
        refine wpAnyH_ready (rs := [17]) (by kernel_rfl) (by simp) ?_
        refine AllReadyH.cons rfl (fun K20 hK20 => ?_) AllReadyH.nil
        go_simp
        refine hK20.out _ _ ?s120 (fun hHeld20 => ?_)
        case s120 => first | exact ⟨z66, zp6⟩ | go_keep
        clear hK20 K20
        try simp only [Act.put, List.setIfInBounds_toArray, List.set_cons_zero, List.set_cons_succ]
        refine wpAnyH_done (by kernel_rfl) ?_ _
        go_wp2_with fail
        go_meet
        exact Lib.hid ⟨_, m6⟩
  case rest =>
    obtain ⟨iv2, mW⟩ := hcut.out
    have mW' := Lib.hid mW
    clear c6 c7 f7 pc pf a6 a7 ap d7 hcut
    have c6 := (mW.cell 6 (by decide)).1
    simp only [gf] at c6
    obtain ⟨pc, pf⟩ := mW.tc i hi'.out
    simp only [poG, upd_same, Option.map_some, opv] at pc
    clear mW
    go_wp2
    go_end0
    have m9 := mW'.out.dropT i
    rw [show (none : Option (Nat × OS)) = ((none : Option OS).map fun s => (ob (i + 1), s)) from rfl, poG_onT, upd_upd] at m9
    exact ⟨rfl, Lib.hid ⟨iv2, m9⟩⟩
end
end Go.Proofs.Ytokopocldicnmaa.Dq
