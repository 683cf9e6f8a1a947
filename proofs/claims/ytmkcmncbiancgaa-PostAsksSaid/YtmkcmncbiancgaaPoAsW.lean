/- PostAsks: the walk. -/
import Derived.Test.YtmkcmncbiancgaaPoAsA
import Derived.Test.YtmkcmncbiancgaaRowA
namespace Go.Proofs.Ytmkcmncbiancgaa.Po
open Go.RowKit Go.Proofs.Ytmkcmncbiancgaa

/-- The law's own blocks: the row of its operations. -/
def RO (v : Value) (g : Nat) : Prop := some g = v.ownBlock
/-- Between two of the law's steps: X the row, st how its n operations stand. -/
structure Mid (A : BA) (w1 w : World) (v : Value) (n : Nat) (ob : Nat → Nat) (st : Nat → PS) (F : Nat → Nat → Prop) (X : List Value) (L : List Int) (N : Int) : Prop where
  row : PRow w v X
  len : X.length = n
  ptrs : ∀ j, j < n → X.getD j .nilFunc = ptr (ob j)
  crew : Crew A w1 w (RO v) (fun j => j < n) ob st F
  bx : ∃ t, Bx w A L t ∧ t ≤ N
  only : Only Nil w1 w
  rlow : ∀ g, RO v g → w1.heap.size ≤ g
  low : ∀ i, A.own i → w1.heap.size ≤ i
  rown : ∀ g, RO v g → ¬ A.own g
section
variable {A : BA} {w1 w w' : World} {v : Value} {n : Nat} {ob : Nat → Nat} {st : Nat → PS} {F : Nat → Nat → Prop} {X : List Value} {L : List Int} {N : Int}
theorem Mid.rlt (h : Mid A w1 w v n ob st F X L N) : ∀ g, RO v g → g < w.heap.size := fun _ hg => h.row.lt hg
/-- A step of the p-th operation. -/
theorem Mid.step (h : Mid A w1 w v n ob st F X L N) {p : Nat} (hp : p < n) (ok : (st p).ok) (hn : PNums A L) (hN : N < 4611686018427300000) :
    Calls Try.prog 30 #[ptr (ob p)] w fun e w' => ∃ z, e = .returned (.bool z) ∧ Hid (∃ F', Mid A w1 w' v n ob (upd st p (pstepS A L (st p))) F' X (pstepL A L (st p)) (N + 1)) := by
  obtain ⟨t, b, ht⟩ := h.bx
  refine (h.crew.step h.only.size h.rlt hp b ok hn (by omega)).mono ?_
  rintro e w' ⟨rfl, hh⟩
  obtain ⟨F', c, b', o⟩ := hh.out
  have sz := h.only.size
  have hF : ∀ x, F p x → w1.heap.size ≤ x := h.crew.low p hp
  refine ⟨_, rfl, Lib.hid ⟨F', h.row.keep o (fun g hg hs => hs.elim (fun z => h.rown g hg (.inl z)) (fun z => h.crew.out p hp g z hg)), h.len, h.ptrs, c, ⟨_, b', by unfold pstepT; split <;> omega⟩,
    h.only.then o (fun x hx hl => absurd hl (by rcases hx with z | z; (have := h.low x (.inl z); omega); (have := hF x z; omega))), h.rlow, h.low, h.rown⟩⟩
end
set_option maxRecDepth 100000 in
set_option maxHeartbeats 8000000 in
theorem asks_all (a0 : Int) (h0 : 0 ≤ a0 ∧ a0 < 256) {w : World} {a : Option Addr} {V : List Int} {c : Nat} (hV : RowK .u8 w a V) (hu : ∀ j, 0 ≤ V.getD j 0 ∧ V.getD j 0 < 256) (hr : V.length * 1 ≤ 140737488351232) :
    Calls Try.prog 6 #[.int .u8 a0, .slice a V.length c] w fun e w' => e = .returned (.bool true) ∧ Below w.heap.size w w' := by
  obtain ⟨n, hn⟩ : ∃ n : Nat, (n : Int) = 1 + a0 % 6 := ⟨(1 + a0 % 6).toNat, by omega⟩
  have n1 : 0 < n := by omega
  have n6 : n ≤ 6 := by omega
  have e0 : IntKind.i64.wrap a0 = a0 := by rw [IntKind.wrap_i64]; omega
  have e1 : Int.tmod a0 6 = (n : Int) - 1 := by rw [hn, Int.tmod_eq_emod_of_nonneg h0.1]; omega
  have e2 : IntKind.i64.wrap (1 + ((n : Int) - 1)) = (n : Int) := by rw [IntKind.wrap_i64]; omega
  have al := Lib.hid (alive_any w)
  have md := Lib.hid (fun w1 => made_any w1 2 8 (by decide) (by decide) (by decide) (by decide))
  simp only [mdA, show ((8 : Nat) : Int) = 8 from rfl, show ((2 : Nat) : Int) = 2 from rfl] at md
  have nn := Lib.hid (And.intro n1 n6)
  have gn : (n : Int) ≤ 6 := by omega
  have hV' := Lib.hid hV
  have hu' := Lib.hid hu
  have lr : (V.length : Int) ≤ 140737488351232 := by omega
  have e3 : IntKind.i64.wrap (20 * (n : Int)) = 20 * (n : Int) := by rw [IntKind.wrap_i64]; omega
  have e4 : IntKind.i64.wrap ((V.length : Int) + 20 * (n : Int)) = ((V.length + 20 * n : Nat) : Int) := by rw [IntKind.wrap_i64]; omega
  have e5 : ¬ ((n : Int) = 0) := by omega
  clear h0 hn n1 n6 hV hu hr
  go_enter Try.func6, Try.ntmps6
  go_wp2_with (first
    | (go_at_call 8; refine (al.out).mono ?_; rintro e w1 ⟨rfl, o1⟩)
    | (go_at_call 18; refine (md.out _).mono ?_; rintro e w2 ⟨bx, mg, ng, rfl, h0⟩))
  have m0 : Hid (∃ ob st F X, Mid (aA bx mg ng (w1.heap.size + 1) w1.heap.size) w1 w2 (.slice none 0 0) 0 ob st F X aL0 1000 ∧ ∀ j, j < 0 → st j = .ask (vI j)) := Lib.hid (by
    obtain ⟨⟨t, b, ht⟩, o, l⟩ := h0.out
    exact ⟨fun _ => 0, fun _ => .gone, fun _ _ => False, [], ⟨PRow.empty w2, rfl, fun j hj => by omega, ⟨fun i hi => by omega, fun i j hi => by omega, fun i hi => by omega, fun i hi => by omega⟩, ⟨t, b, ht⟩, o, fun g hg => by simp [RO, Value.ownBlock] at hg, l, fun g hg => by simp [RO, Value.ownBlock] at hg⟩, fun j hj => by omega⟩)
  have o1' := Lib.hid o1
  clear h0 al md o1
  generalize hlen : V.length = len at *
  have hlen' := Lib.hid hlen
  clear hlen
  go_loopw [8, 9] (fun s8 s9 wr => ∃ i : Nat, i ≤ n ∧ s9 = .int .i64 (i : Int) ∧ ∃ a c, s8 = .slice a i c ∧ Hid (∃ ob st F X, Mid (aA bx mg ng (w1.heap.size + 1) w1.heap.size) w1 wr (.slice a i c) i ob st F X aL0 1000 ∧ ∀ j, j < i → st j = .ask (vI j)))
    (fun _ s9 _ => n - (intOf s9).toNat)
  case atStart => exact ⟨0, Nat.zero_le _, rfl, _, _, rfl, m0⟩
  case round =>
    obtain ⟨i, hi, rfl, a2, c2, rfl, hh⟩ := hrel
    by_cases hlt : i < n
    · have hl2 : (i : Int) < (n : Int) := by omega
      have w3 : IntKind.i64.wrap (100 + (i : Int)) = 100 + (i : Int) := by rw [IntKind.wrap_i64]; omega
      have w4 : IntKind.u64.wrap (100 + (i : Int)) = 100 + (i : Int) := by rw [IntKind.wrap_u64]; omega
      have ak : Hid (Calls Try.prog 29 #[ptr bx, .int .u64 (100 + (i : Int))] wr (Bg (aA bx mg ng (w1.heap.size + 1) w1.heap.size) wr (.ask (vI i)))) := Lib.hid (by
        obtain ⟨ob, st, F, X, m, _⟩ := hh.out
        obtain ⟨t, b, ht⟩ := m.bx
        exact ask_bg (A := (aA bx mg ng (w1.heap.size + 1) w1.heap.size)) (100 + (i : Int)) b)
      have pu : Hid (∀ q wx, Bg (aA bx mg ng (w1.heap.size + 1) w1.heap.size) wr (.ask (vI i)) (.returned (ptr q)) wx → ∃ a' c' w5, (Builtin.append_ #[48, 48] 48 #[.slice a2 i c2, .slice (some ⟨wx.heap.size, 0, none⟩) 1 1]).run Try.prog (wx.alloc (.cells #[ptr q] 50)) = .ok (.slice a' (i + 1) c') w5 ∧
          Hid (∃ ob st F X, Mid (aA bx mg ng (w1.heap.size + 1) w1.heap.size) w1 w5 (.slice a' (i + 1) c') (i + 1) ob st F X aL0 1000 ∧ ∀ j, j < i + 1 → st j = .ask (vI j))) := Lib.hid (by
        rintro q wx ⟨q', e, hq, hP, ox⟩
        cases e
        obtain ⟨ob, st, F, X, m, ha⟩ := hh.out
        obtain ⟨t, b, ht⟩ := m.bx
        have rx := m.row.nil ox
        obtain ⟨a', c', w5, hrun, hk⟩ := ppush rx m.len q (by omega)
        obtain ⟨r5, o5, sn⟩ := hk.out
        have c1 := m.crew.put (p := i) ox m.only.size hP m.rlt
        have o5' : Only (RO (.slice a2 i c2)) wx w5 := o5.mono (fun x hx => by obtain ⟨y, e1, e2⟩ := hx; subst e1; rw [e2]; rfl)
        have hsn : ∀ x, RO (.slice a' (i + 1) c') x → RO (.slice a2 i c2) x ∨ wx.heap.size ≤ x := fun x hx => by
          cases a' with
          | none => simp [RO, Value.ownBlock] at hx
          | some y =>
            have hx : x = y.block := by simpa [RO, Value.ownBlock] using hx
            rcases sn y rfl with ⟨z, e1, e2⟩ | z
            · left; subst e1; simp [RO, Value.ownBlock]; omega
            · right; omega
        have c2 := c1.rows o5' hsn
        have sx := ox.size
        have s1 := m.only.size
        refine ⟨a', c', w5, hrun, Lib.hid ⟨upd ob i q, upd st i (.ask (vI i)), _, X ++ [ptr q], ⟨r5, by simp [m.len], fun j hj => ?_, { c2 with op := fun j hj => c2.op j (by omega), dj := fun j k hj hk => c2.dj j k (by omega) (by omega), out := fun j hj => c2.out j (by omega), low := fun j hj => c2.low j (by omega) }, ⟨t, ?_, ht⟩, ?_, ?_, m.low, ?_⟩, fun j hj => ?_⟩⟩
        · by_cases e : j = i
          · subst e; rw [upd_same]; simp [List.getD_eq_getElem?_getD, m.len]
          · rw [upd_other _ _ _ _ e]
            have := m.ptrs j (by omega)
            rw [← this]
            simp [List.getD_eq_getElem?_getD, List.getElem?_append_left (show j < X.length by rw [m.len]; omega)]
        · exact (b.nil ox).keep o5' (fun x hx hs => m.rown x hs hx)
        · exact (m.only.trans ox).then o5' (fun x hx hl => absurd hl (by have := m.rlow x hx; omega))
        · intro x hx
          rcases hsn x hx with z | z
          · exact m.rlow x z
          · omega
        · intro x hx ho
          rcases hsn x hx with z | z
          · exact m.rown x z ho
          · have := (b.nil ox).own_lt x ho; omega
        · by_cases e : j = i
          · subst e; rw [upd_same]
          · rw [upd_other _ _ _ _ e]; exact ha j (by omega))
      clear hh hlt
      go_wp2_with (first
        | (go_at_call 29; refine (ak.out).mono ?_; rintro e wx hb; obtain ⟨q, rfl, _⟩ := id hb; obtain ⟨a', c', w5, hrun, hk⟩ := pu.out q wx hb; have hrun' := Lib.hid hrun; have hk' := Lib.hid hk; clear hb hk hrun)
        | (at_builtin; refine Lib.wpList_append_run _ rfl (.tmp 38) (.tmp 44) 48 48 rfl _ _ rfl rfl _ _ hrun'.out ?_))
      go_roundw
      case rel => exact ⟨i + 1, by omega, by go_num, _, _, rfl, hk'.out⟩
      case measure => simp [intOf]; omega
    · obtain rfl : i = n := by omega
      have hl2 : ¬ ((i : Int) < (i : Int)) := by omega
      clear hlt hi m0
      have hp : Hid (∃ ob st F X r, Mid (aA bx mg ng (w1.heap.size + 1) w1.heap.size) w1 wr (.slice a2 i c2) i ob st F X aL0 (1000 + ((0 : Nat) : Int)) ∧ AInv (aA bx mg ng (w1.heap.size + 1) w1.heap.size) i r aL0 st ∧ ∀ j, j < i → turns i len j 0 ≤ r j) := Lib.hid (by
        obtain ⟨ob, st, F, X, m, ha⟩ := hh.out
        exact ⟨ob, st, F, X, fun _ => 0, m, .inl ⟨rfl, fun j hj => ⟨rfl, ha j hj⟩⟩, fun j _ => by rw [turns_le i len j 0 (Nat.zero_le _)]; exact Nat.le_refl _⟩)
      clear hh
      go_wp2
      go_loopw [10] (fun s10 wr => ∃ x : Nat, x ≤ len + 20 * i ∧ s10 = .int .i64 (x : Int) ∧ Hid (∃ ob st F X r L, Mid (aA bx mg ng (w1.heap.size + 1) w1.heap.size) w1 wr (.slice a2 i c2) i ob st F X L (1000 + (x : Int)) ∧ AInv (aA bx mg ng (w1.heap.size + 1) w1.heap.size) i r L st ∧ ∀ j, j < i → turns i len j x ≤ r j))
        (fun s10 _ => len + 20 * i - (intOf s10).toNat)
      case atStart =>
        refine ⟨0, Nat.zero_le _, rfl, Lib.hid ?_⟩
        obtain ⟨ob, st, F, X, r, m, h1, h2⟩ := hp.out
        exact ⟨ob, st, F, X, r, _, m, h1, h2⟩
      case round =>
        obtain ⟨x, hx, rfl, hh⟩ := hrel
        obtain ⟨n1, n6⟩ := nn.out
        by_cases hlt : x < len + 20 * i
        · have hl3 : (x : Int) < ((len + 20 * i : Nat) : Int) := by omega
          have er : Int.tmod (x : Int) (i : Int) = ((x % i : Nat) : Int) := rfl
          have hmod := Nat.mod_lt x n1
          -- the step of whichever
          have stp : Hid (∀ p : Nat, p < i → (len ≤ x → p = x % i) → ∃ g q, a2 = some ⟨g, 0, none⟩ ∧ wr.cell? ⟨g, p, none⟩ = some (ptr q) ∧ Calls Try.prog 30 #[ptr q] wr fun e w' => ∃ z, e = .returned (.bool z) ∧ Hid (∃ ob st F X r L, Mid (aA bx mg ng (w1.heap.size + 1) w1.heap.size) w1 w' (.slice a2 i c2) i ob st F X L (1000 + ((x + 1 : Nat) : Int)) ∧ AInv (aA bx mg ng (w1.heap.size + 1) w1.heap.size) i r L st ∧ ∀ j, j < i → turns i len j (x + 1) ≤ r j)) := Lib.hid (by
            intro p hp hpx
            obtain ⟨ob, st, F, X, r, L, m, h1, h2⟩ := hh.out
            obtain ⟨_, g, e, hc⟩ := m.row.cell p (by omega)
            rw [m.ptrs p hp] at hc
            refine ⟨g, ob p, e, hc, ?_⟩
            obtain ⟨k1, k2⟩ := h1.facts hp
            refine (m.step hp k1 k2 (by omega)).mono ?_
            rintro e w' ⟨z, rfl, hz⟩
            obtain ⟨F', m'⟩ := hz.out
            refine ⟨z, rfl, Lib.hid ⟨ob, _, F', X, upd r p (r p + 1), _, ?_, h1.step hp, fun j hj => ?_⟩⟩
            · have e9 : 1000 + (x : Int) + 1 = 1000 + ((x + 1 : Nat) : Int) := by omega
              rw [e9] at m'; exact m'
            · have := h2 j hj
              by_cases hlx : len ≤ x
              · have hpx := hpx hlx
                rw [turns_on i len j x n1 n6 hj hlx]
                by_cases e : j = p
                · subst e; rw [upd_same]; split <;> omega
                · rw [upd_other _ _ _ _ e, if_neg (fun z => e (z.trans hpx.symm))]; omega
              · rw [turns_le i len j (x + 1) (by omega)]; exact Nat.zero_le _)
          have hrO : Hid (Only Nil w1 wr) := Lib.hid (by obtain ⟨_, _, _, _, _, _, m, _⟩ := hh.out; exact m.only)
          clear hh
          by_cases hxl : x < len
          · have hl4 : (x : Int) < (len : Int) := by omega
            obtain ⟨gb, off, rfl, hcx⟩ : ∃ b off, a = some ⟨b, off, none⟩ ∧ wr.cell? ⟨b, off + x, none⟩ = some (.int .u8 (V.getD x 0)) := by
              obtain ⟨b, off, e, _, hc⟩ := (hV'.out.later (((o1'.out.trans hrO.out)).below (Nat.le_refl _) (fun _ h => h.elim))) x (by rw [hlen'.out]; exact hxl)
              exact ⟨b, off, e, hc x (by rw [hlen'.out]; exact hxl)⟩
            have hy := hu'.out x
            generalize V.getD x 0 = y at hcx hy
            obtain ⟨yn, rfl⟩ := Int.eq_ofNat_of_zero_le hy.1
            have ey : IntKind.i64.wrap (yn : Int) = (yn : Int) := by rw [IntKind.wrap_i64]; omega
            have em : Int.tmod (yn : Int) (i : Int) = ((yn % i : Nat) : Int) := rfl
            clear hy er hmod
            obtain ⟨g, q, rfl, hc, st⟩ := stp.out (yn % i) (Nat.mod_lt _ n1) (fun h => absurd h (by omega))
            have st' := Lib.hid st
            have hpi : (((yn % i) : Nat) : Int) < (i : Int) := by have := Nat.mod_lt yn n1; omega
            clear st stp hrO
            generalize hpp : (yn % i) = pp at *
            clear hpp
            go_wp2_with (go_at_call 30; refine (st'.out).mono ?_; rintro e w3 ⟨z, rfl, hz⟩)
            go_roundw
            case rel => exact ⟨x + 1, by omega, by go_num, hz⟩
            case measure => simp [intOf]; omega
          · have hl4 : ¬ ((x : Int) < (len : Int)) := by omega
            clear hmod
            obtain ⟨g, q, rfl, hc, st⟩ := stp.out (x % i) (Nat.mod_lt _ n1) (fun _ => rfl)
            have st' := Lib.hid st
            have hpi : (((x % i) : Nat) : Int) < (i : Int) := by have := Nat.mod_lt x n1; omega
            clear st stp hrO
            generalize hpp : (x % i) = pp at *
            clear hpp
            go_wp2_with (go_at_call 30; refine (st'.out).mono ?_; rintro e w3 ⟨z, rfl, hz⟩)
            go_roundw
            case rel => exact ⟨x + 1, by omega, by go_num, hz⟩
            case measure => simp [intOf]; omega
        · obtain rfl : x = len + 20 * i := by omega
          have hl3 : ¬ (((len + 20 * i : Nat) : Int) < ((len + 20 * i : Nat) : Int)) := by omega
          have hf : Hid (∃ u, u < i ∧ ∃ ob st F X, Mid (aA bx mg ng (w1.heap.size + 1) w1.heap.size) w1 wr (.slice a2 i c2) i ob st F X (aW (aA bx mg ng (w1.heap.size + 1) w1.heap.size) (vI u) 7).1 (1000 + ((len + 20 * i : Nat) : Int)) ∧ ∀ j, j < i → st j = if j = u then .over 7 0 else .over 4 0) := Lib.hid (by
            obtain ⟨ob, st, F, X, r, L, m, h1, h2⟩ := hh.out
            obtain ⟨u, hu, hL, hs⟩ := h1.fin n1 (fun j hj => by have := h2 j hj; rw [turns_end i len j n1 n6 hj] at this; omega)
            subst hL
            exact ⟨u, hu, ob, st, F, X, m, hs⟩)
          clear hh hp hlt
          obtain ⟨u, hui, hf2⟩ := hf.out
          have hf3 := Lib.hid hf2
          clear hf2 hf
          have htt : Hid (((len + 20 * i : Nat) : Int) ≤ 140737488361232) := Lib.hid (by omega)
          generalize ((len + 20 * i : Nat) : Int) = tt at *
          go_wp2
          go_loopw [12, 13, 14] (fun s12 s13 s14 wr => ∃ j : Nat, j ≤ i ∧ s14 = .int .i64 (j : Int) ∧ s12 = .int .i64 (if u < j then 1 else 0) ∧ s13 = .int .u64 (if u < j then vI u else 0) ∧ Hid (∃ ob st F X, Mid (aA bx mg ng (w1.heap.size + 1) w1.heap.size) w1 wr (.slice a2 i c2) i ob st F X (aW (aA bx mg ng (w1.heap.size + 1) w1.heap.size) (vI u) 7).1 (1000 + tt) ∧ ∀ j, j < i → st j = if j = u then .over 7 0 else .over 4 0))
            (fun _ _ s14 _ => i - (intOf s14).toNat)
          case atStart => exact ⟨0, Nat.zero_le _, rfl, by rw [if_neg (Nat.not_lt_zero u)], by rw [if_neg (Nat.not_lt_zero u)], hf3⟩
          case round =>
            obtain ⟨j, hj, rfl, rfl, rfl, hh⟩ := hrel
            by_cases hlt : j < i
            · have hl4 : (j : Int) < (i : Int) := by omega
              have w3 : IntKind.i64.wrap (100 + (j : Int)) = 100 + (j : Int) := by rw [IntKind.wrap_i64]; omega
              have w4 : IntKind.u64.wrap (100 + (j : Int)) = 100 + (j : Int) := by rw [IntKind.wrap_u64]; omega
              obtain ⟨g, q, rfl, hc, oc⟩ : ∃ g q, a2 = some ⟨g, 0, none⟩ ∧ wr.cell? ⟨g, j, none⟩ = some (ptr q) ∧ Hid (Calls Try.prog 31 #[ptr q] wr fun e w' => e = .returned (.int .i64 (if j = u then 7 else 4)) ∧ wr = w') := by
                obtain ⟨ob, st, F, X, m, hs⟩ := hh.out
                obtain ⟨_, g, e, hc⟩ := m.row.cell j (by omega)
                rw [m.ptrs j hlt] at hc
                refine ⟨g, ob j, e, hc, Lib.hid ?_⟩
                have := outcomeP (m.crew.op j hlt)
                rw [hs j hlt] at this
                by_cases e : j = u
                · rw [if_pos e] at this ⊢; exact this
                · rw [if_neg e] at this ⊢; exact this
              by_cases e : j = u
              · subst e
                rw [if_pos rfl] at oc
                rw [if_neg (Nat.lt_irrefl j), if_neg (Nat.lt_irrefl j)]
                clear hlt
                go_wp2_with (go_at_call 31; refine (oc.out).mono ?_; rintro e w3 ⟨rfl, rfl⟩)
                go_roundw
                case rel => exact ⟨j + 1, by omega, by go_num, by rw [if_pos (Nat.lt_succ_self j)], by rw [if_pos (Nat.lt_succ_self j)]; rfl, hh⟩
                case measure => simp [intOf]; omega
              · rw [if_neg e] at oc
                generalize hz1 : (if u < j then (1 : Int) else 0) = z1 at *
                generalize hz2 : (if u < j then vI u else 0) = z2 at *
                clear hlt
                go_wp2_with (go_at_call 31; refine (oc.out).mono ?_; rintro e w3 ⟨rfl, rfl⟩)
                go_roundw
                case rel => exact ⟨j + 1, by omega, by go_num, congrArg (Value.int .i64) (by rw [← hz1]; by_cases h : u < j; (rw [if_pos h, if_pos (by omega)]); (rw [if_neg h, if_neg (by omega)])), congrArg (Value.int .u64) (by rw [← hz2]; by_cases h : u < j; (rw [if_pos h, if_pos (by omega)]); (rw [if_neg h, if_neg (by omega)])), hh⟩
                case measure => simp [intOf]; omega
            · obtain rfl : j = i := by omega
              have hl4 : ¬ ((j : Int) < (j : Int)) := by omega
              rw [if_pos hui, if_pos hui]
              have hL : Lw w1 wr (aA bx mg ng (w1.heap.size + 1) w1.heap.size) (aW (aA bx mg ng (w1.heap.size + 1) w1.heap.size) (vI u) 7).1 (1000 + tt) := by
                obtain ⟨ob, st, F, X, m, hs⟩ := hh.out
                exact ⟨m.bx, m.only, m.low⟩
              obtain ⟨LN, LM, r1, r2⟩ := a_note bx mg ng (w1.heap.size + 1) w1.heap.size (vI u)
              have p1 := Lib.hid (hL.note r1 (by decide) (by have := htt.out; omega) (1100 + tt) (by omega) (o := 1) (x := vI u) (m := 5) rfl rfl rfl)
              have p2 := Lib.hid (fun w2 (H : Lw w1 w2 (aA bx mg ng (w1.heap.size + 1) w1.heap.size) LN (1100 + tt)) => H.note r2 (by decide) (by have := htt.out; omega) (1200 + tt) (by omega) (o := 4) (x := 0) (m := 2) rfl rfl rfl)
              generalize vI u = vu at *
              clear r1 r2 hL hh hlt hf3
              go_wp2_with (first
                | (go_at_call 28; refine (p1.out).mono ?_; rintro e y1 ⟨ob1, rfl, d1⟩)
                | (go_at_call 23; (with_reducible refine (d1.out).mono ?_); rintro e x1 ⟨rfl, h1⟩)
                | (go_at_call 28; refine (p2.out _ h1.out).mono ?_; rintro e y2 ⟨ob2, rfl, d2⟩)
                | (go_at_call 23; (with_reducible refine (d2.out).mono ?_); rintro e x2 ⟨rfl, h2⟩))
              go_ret
              exact ⟨rfl, (o1'.out.trans h2.out.only).below (Nat.le_refl _) (fun _ h => h.elim)⟩
end Go.Proofs.Ytmkcmncbiancgaa.Po
