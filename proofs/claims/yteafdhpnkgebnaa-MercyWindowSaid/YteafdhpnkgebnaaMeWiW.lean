/- mercy: MercyWindow's walk. -/
import Derived.Test.YteafdhpnkgebnaaMeI
import Derived.Test.YteafdhpnkgebnaaRowA
set_option linter.unusedSimpArgs false
set_option linter.unusedVariables false
namespace Go.Proofs.Yteafdhpnkgebnaa.Me
open Go.RowKit Go.Proofs.Yteafdhpnkgebnaa

theorem below_ofW {w w' : World} (o : Only Nil w w') : Below w.heap.size w w' := o.below (Nat.le_refl _) (fun _ h => h.elim)
/-- The row's own block. -/
def OwnB (v : Value) (q : Nat) : Prop := some q = v.ownBlock
/-- What a round of the window's law holds: the budget, and the row of all that child 3 was given. -/
structure Rw (W w : World) (H n i : Nat) (win : Int) (A : Int → List Int) (v : Value) (m : Nat) : Prop where
  st : St W (OwnB v) w H n i win A
  row : w.ownsRow 0 3 1 v (A 3).length (iv (A 3))
  new : ∀ g, OwnB v g → W.heap.size ≤ g
  few : (A 3).length ≤ i
  fit : ∀ x ∈ A 3, 0 ≤ x ∧ x ≤ (m : Int)

theorem Try.infoN : (Try.prog.info? 3).map (fun i => (i.zero, i.size, i.bytes)) = some (some (.int .i64 0), 1, 8) := by kernel_rfl
theorem push_row {W w : World} {H n N : Nat} {win : Int} {A : Int → List Int} {a : Option Addr} {p c : Nat} {X : List Int} (h : St W (OwnB (.slice a p c)) w H n N win A) (hrow : w.ownsRow 0 3 1 (.slice a p c) p (iv X)) (hnew : ∀ g, OwnB (.slice a p c) g → W.heap.size ≤ g) (few : p ≤ 65536) (t : Int) :
    ∃ a' c' w6, Hid ((Builtin.append_ #[45, 45] 45 #[.slice a p c, .slice (some ⟨w.heap.size, 0, none⟩) 1 1]).run Try.prog (w.alloc (.cells #[.int .i64 t] 3)) = .ok (.slice a' (p + 1) c') w6) ∧
      Hid (St W (OwnB (.slice a' (p + 1) c')) w6 H n N win A ∧ w6.ownsRow 0 3 1 (.slice a' (p + 1) c') (p + 1) (iv (X ++ [t])) ∧ ∀ g, OwnB (.slice a' (p + 1) c') g → W.heap.size ≤ g) := by
  have o : Only Nil w (w.alloc (.cells #[.int .i64 t] 3)) := (Only.refl Nil w).alloc _
  have h' := own_keep hrow o (fun _ _ h => h)
  obtain ⟨a', c', w6, hr, ho, hon, hsn⟩ := run_append_end (P := Try.prog) (t := 45) (ty := 45) (e := 3) (size := 1) (bytes := 8) Try.underlying45 Try.infoN rfl h' ⟨w.heap.size, 0, none⟩ [.int .i64 t] rfl (by intro v hv; simp at hv; subst hv; rfl)
    (fun j u hj => by
        rw [add_lit0, cell_of_row _ w.heap.size _ _ _ _ (heap_new w _), Nat.zero_add]
        simpa using hj) few (by decide)
  have hnew' : ∀ g, OwnB (.slice a' (p + 1) c') g → OwnB (.slice a p c) g ∨ w.heap.size ≤ g := by
    intro g hg
    cases a' with
    | none => simp [OwnB, Value.ownBlock] at hg
    | some x =>
      have e : g = x.block := by simpa [OwnB, Value.ownBlock] using hg
      rcases hsn x rfl with ⟨y, hy, e2⟩ | e2
      · refine .inl ?_
        subst hy
        rw [e, e2]; rfl
      · refine .inr ?_
        have := o.size; omega
  have hsz := h.only.size
  refine ⟨a', c', w6, Lib.hid hr, Lib.hid ⟨h.re (T := RowOf a) ((o.nilTo _).trans hon) (fun q hq => row_own hq) (fun q hq => hnew q (row_own hq)) (fun q hq => ⟨hnew' q hq, (ho.lt q hq.symm).2⟩), by rw [iv_append]; exact ho, fun g hg => ?_⟩⟩
  rcases hnew' g hg with h1 | h1
  · exact hnew g h1
  · omega

theorem iin_ofI {w : World} {a : Option Addr} {n c : Nat} {L : List Int} (h : w.ownsRow 0 3 1 (.slice a n c) L.length (iv L)) (j : Nat) (hj : j < L.length) : ∃ g, a = some ⟨g, 0, none⟩ ∧ g < w.heap.size ∧ w.cell? ⟨g, j, none⟩ = some (.int .i64 (L.getD j 0)) := by
  rcases h.2 with ⟨_, h0⟩ | ⟨g, c, cur, hv, _, hg, _⟩
  · omega
  · simp only [Value.slice.injEq] at hv
    obtain ⟨rfl, _, rfl⟩ := hv
    obtain rfl : n = L.length := by assumption
    refine ⟨g, rfl, lt_of_block hg, ?_⟩
    rw [h.cellAt _ (by omega)]
    exact iv_get L j hj

theorem tick_nat {m : Nat} (h : m ≤ 100000) : tick (m : Int) = (m : Int) := by unfold tick; omega
theorem win_end {n m k : Nat} {X : List Int} (hm : m ≤ 10000) (hk : k ≤ 20) (hX : ∀ x ∈ X, 0 ≤ x ∧ x ≤ (m : Int)) : left n (k : Int) X ((m : Int) + (k : Int)) = n := by
  unfold left
  rw [show tick ((m : Int) + (k : Int)) - (k : Int) = (m : Int) from by unfold tick; omega, gt_none (fun x hx => by have := hX x hx; omega)]
  rfl
theorem win_left {n m k : Nat} {X : List Int} (hm : m ≤ 10000) : left n (k : Int) X (m : Int) = n - gt X ((m : Int) - (k : Int)) := by
  unfold left; rw [tick_nat (by omega)]
theorem win_ask {n m k : Nat} {A : Int → List Int} (hm : m ≤ 10000) (h : gt (A 3) ((m : Int) - (k : Int)) < n) : asked n (k : Int) A 3 (m : Int) 3 = A 3 ++ [(m : Int)] := by
  unfold asked; rw [win_left hm, if_pos (by omega), setV_same, tick_nat (by omega)]
theorem win_not {n m k : Nat} {A : Int → List Int} (hm : m ≤ 10000) (h : ¬ gt (A 3) ((m : Int) - (k : Int)) < n) : asked n (k : Int) A 3 (m : Int) = A := by
  unfold asked; rw [win_left hm, if_neg (by omega)]
theorem gt_step {X : List Int} {j : Nat} {T : Int} (hj : j < X.length) : gt (X.take (j + 1)) T = gt (X.take j) T + (if T < X.getD j 0 then 1 else 0) := by
  have e : X.take (j + 1) = X.take j ++ [X.getD j 0] := by rw [List.take_succ_eq_append_getElem hj]; simp [List.getD, hj]
  rw [e, gt_snoc]

set_option maxRecDepth 100000 in
set_option maxHeartbeats 8000000 in
theorem window_all (a0 a1 : Int) (h0 : 0 ≤ a0 ∧ a0 < 256) (h1 : 0 ≤ a1 ∧ a1 < 256) {W : World} {a : Option Addr} {L : List Int} {c : Nat} (hV : RowK .u8 W a L) (hu : ∀ j, 0 ≤ L.getD j 0 ∧ L.getD j 0 < 256) (hr : L.length * 1 ≤ 140737488351232) :
    Calls Try.prog 5 #[.int .u8 a0, .int .u8 a1, .slice a L.length c] W fun e w' => e = .returned (.bool true) ∧ Below W.heap.size W w' := by
  have HA := Lib.hid (alive_any W)
  obtain ⟨n, hn⟩ : ∃ n : Nat, (n : Int) = a0 % 6 := ⟨(a0 % 6).toNat, by omega⟩
  obtain ⟨k, hk⟩ : ∃ k : Nat, (k : Int) = 1 + a1 % 20 := ⟨(1 + a1 % 20).toNat, by omega⟩
  have hkn : kn (n : Int) = n := by unfold kn; omega
  have hkw : kw (k : Int) = (k : Int) := by unfold kw; omega
  have HN := Lib.hid (fun w1 (o1 : Only Nil W w1) => st_new W w1 Nil (fun q h => h.elim) o1 (n : Int) (k : Int))
  rw [hkn, hkw] at HN
  have nle : (n : Int) ≤ 5 := by omega
  have k1 : 1 ≤ (k : Int) := by omega
  have k20 : (k : Int) ≤ 20 := by omega
  have HV := Lib.hid hV
  have HU := Lib.hid hu
  have Hn := Lib.hid hn
  have Hk := Lib.hid hk
  obtain ⟨x0, x1⟩ := h0
  obtain ⟨y0, y1⟩ := h1
  clear hkn hkw hV hu hn hk
  have hr' : (L.length : Int) ≤ 140737488351232 := by omega
  obtain ⟨len, hlen⟩ : ∃ len, len = L.length := ⟨_, rfl⟩
  rw [← hlen] at hr' hr ⊢
  have HL := Lib.hid hlen
  clear hlen hr
  go_enter Try.func5, Try.ntmps5
  go_upto_region 4 with (go_at_call 8; (with_reducible refine HA.out.mono ?_); rintro e w1 ⟨rfl, o1⟩; have O1 := Lib.hid o1; clear o1 HA)
  rw [← Hn.out, ← Hk.out]
  clear Hn Hk x0 x1 y0 y1
  go_upto_region 5 with (go_at_call 9; (with_reducible refine (HN.out _ O1.out).mono ?_); rintro e w2 ⟨rfl, h, _⟩; have k2 := Lib.hid h; clear h HN O1)
  generalize w1.heap.size + 1 = H at *
  go_wp2
  go_loopw [10, 11, 12] (fun s10 s11 s12 wr => ∃ (i m : Nat) (A : Int → List Int) (p cc : Nat) (aa : Option Addr), i ≤ len ∧ i ≤ 200 ∧ m ≤ 7 * i ∧ s10 = .int .i64 (m : Int) ∧ s11 = .slice aa p cc ∧ s12 = .int .i64 (i : Int) ∧ Hid (Rw W wr H n i (k : Int) A (.slice aa p cc) m ∧ (A 3).length = p))
    (fun _ _ s12 _ => len - (intOf s12).toNat)
  case atStart => exact ⟨0, 0, fun _ => [], 0, 0, none, Nat.zero_le _, by decide, by decide, rfl, rfl, rfl, Lib.hid ⟨⟨k2.out.re (Only.refl Nil _) (fun q h => h.elim) (fun q h => h.elim) (fun q hq => by simp [OwnB, Value.ownBlock] at hq), World.ownsRow_nil _ _ _ _, fun g hg => by simp [OwnB, Value.ownBlock] at hg, Nat.le_refl _, fun x hx => by simp at hx⟩, rfl⟩⟩
  case round =>
    obtain ⟨i, m, A, p, cc, aa, hi, hi2, hm7, rfl, rfl, rfl, K⟩ := hrel
    have hmm := Lib.hid (show m ≤ 10000 from by omega)
    have mle : (m : Int) ≤ 1400 := by omega
    by_cases hin : i < len
    · have hin' : (i : Int) < (len : Int) := by omega
      by_cases h200 : i < 200
      · have h200' : (i : Int) < 200 := by omega
        obtain ⟨b, off, rfl, hblt, hc⟩ := (HV.out.later (below_ofW K.out.1.st.only)) i (by rw [← HL.out]; exact hin)
        have xi := hc i (by rw [← HL.out]; exact hin)
        obtain ⟨y, hy⟩ : ∃ y, y = L.getD i 0 := ⟨_, rfl⟩
        obtain ⟨y0, y1⟩ := HU.out i
        rw [← hy] at xi y0 y1
        obtain ⟨m', hm'⟩ : ∃ m' : Nat, (m' : Int) = (m : Int) + y % 8 := ⟨((m : Int) + y % 8).toNat, by omega⟩
        have HM := Lib.hid (show m ≤ m' ∧ m' ≤ m + 7 from by omega)
        have HM' := Lib.hid hm'
        have hmi := Lib.hid hm7
        clear hc hy hm' hm7
        have HR := Lib.hid K.out.1
        have HP := Lib.hid K.out.2
        have R := K.out.1
        have ple : (p : Int) ≤ 200 := by have := HR.out.few; rw [HP.out] at this; omega
        go_upto_region 11 with (fail)
        rw [← HM'.out]
        clear HM' xi y0 y1
        have m'le : (m' : Int) ≤ 1407 := by have := HM.out; omega
        by_cases hok : gt (A 3) ((m' : Int) - (k : Int)) < n
        · have ASK := Lib.hid ((st_ask R.st (by omega) 3 (by decide) (m' : Int)).mono (fun e w' (h : e = .returned (.bool (decide (0 < left n (k : Int) (A 3) (m' : Int)))) ∧ _) => show e = .returned (.bool true) ∧ St W (OwnB (.slice aa p cc)) w' H n (i + 1) (k : Int) (asked n (k : Int) A 3 (m' : Int)) ∧ Only (Free W (OwnB (.slice aa p cc))) wr w' from ⟨by rw [h.1, win_left (by omega), decide_eq_true (by omega)], h.2⟩))
          have HG := Lib.hid hok
          clear hok R K
          go_upto_region 14 with (go_at_call 14; (with_reducible refine ASK.out.mono ?_); rintro e w3 ⟨rfl, h, o3⟩; have K3 := Lib.hid h; have R3 := Lib.hid (own_keep HR.out.row o3 (fun g hg hf => hf.2 hg)); clear h o3 ASK)
          go_loopw [14, 15] (fun s14 s15 wx => ∃ (j : Nat), j ≤ p ∧ s15 = .int .i64 (j : Int) ∧ s14 = .int .i64 (gt ((A 3).take j) ((m' : Int) - (k : Int)) : Nat) ∧ w3 = wx)
            (fun _ s15 _ => p - (intOf s15).toNat)
          case atStart => exact ⟨0, Nat.zero_le _, rfl, rfl, rfl⟩
          case round =>
            obtain ⟨j, hj, rfl, rfl, rfl⟩ := hrel
            by_cases hjp : j < p
            · have hjp' : (j : Int) < (p : Int) := by omega
              obtain ⟨g', rfl, hg', xj⟩ := iin_ofI R3.out j (by rw [HP.out]; exact hjp)
              obtain ⟨z, hz⟩ : ∃ z, z = (A 3).getD j 0 := ⟨_, rfl⟩
              rw [← hz] at xj
              have hs := Lib.hid (gt_step (X := A 3) (T := (m' : Int) - (k : Int)) (j := j) (by rw [HP.out]; exact hjp))
              rw [← hz] at hs
              have hq := Lib.hid (Nat.le_trans (gt_le ((A 3).take j) ((m' : Int) - (k : Int))) (by simp; omega : _ ≤ j))
              clear hz
              generalize gt ((A 3).take j) ((m' : Int) - (k : Int)) = q at *
              have q200 : (q : Int) ≤ 200 := by have := hq.out; omega
              by_cases hzz : (m' : Int) - (k : Int) < z
              · have hs2 := Lib.hid (show gt ((A 3).take (j + 1)) ((m' : Int) - (k : Int)) = q + 1 from by rw [hs.out, if_pos hzz])
                clear hs
                go_wp2
                go_roundw
                case rel => exact ⟨j + 1, by omega, by go_num, by rw [hs2.out]; go_num, trivial⟩
                case measure => simp [intOf]; omega
              · have hs2 := Lib.hid (show gt ((A 3).take (j + 1)) ((m' : Int) - (k : Int)) = q from by rw [hs.out, if_neg hzz]; rfl)
                clear hs
                go_wp2
                go_roundw
                case rel => exact ⟨j + 1, by omega, by go_num, by rw [hs2.out], trivial⟩
                case measure => simp [intOf]; omega
            · obtain rfl : j = p := by omega
              have hjj : ¬ (j : Int) < (j : Int) := by omega
              rw [show (A 3).take j = A 3 from by rw [← HP.out]; exact List.take_length]
              clear hjp
              obtain ⟨z, hz⟩ : ∃ z : Nat, (z : Int) = max 0 ((n : Int) - (gt (A 3) ((m' : Int) - (k : Int)) : Nat) - 1) := ⟨n - gt (A 3) ((m' : Int) - (k : Int)) - 1, by omega⟩
              have hA' := win_ask (A := A) (n := n) (m := m') (k := k) (by omega) HG.out
              have LF := Lib.hid ((st_left K3.out 3 (by decide) (m' : Int)).mono (fun e w' (h : e = .returned (.int .i64 (left n (k : Int) (asked n (k : Int) A 3 (m' : Int) 3) (m' : Int) : Nat)) ∧ _) => show e = .returned (.int .i64 (z : Int)) ∧ St W (OwnB (.slice aa j cc)) w' H n (i + 1) (k : Int) (asked n (k : Int) A 3 (m' : Int)) ∧ Only (Free W (OwnB (.slice aa j cc))) w3 w' from ⟨by rw [h.1, hA', win_left (by omega), gt_snoc, if_pos (by omega)]; congr 2; omega, h.2⟩))
              have HA' := Lib.hid hA'
              have gn : (gt (A 3) ((m' : Int) - (k : Int)) : Nat) < n := HG.out
              have gn' : ((gt (A 3) ((m' : Int) - (k : Int)) : Nat) : Int) < (n : Int) := by omega
              have hzr := hz.symm
              have z5 : (z : Int) ≤ 5 := by omega
              generalize gt (A 3) ((m' : Int) - (k : Int)) = g at gn gn' hzr
              clear hz hA' HG
              go_upto_region 20 with (go_at_call 11; (with_reducible refine LF.out.mono ?_); rintro e w4 ⟨rfl, h, o4⟩; have K4 := Lib.hid h; have R4 := Lib.hid (own_keep R3.out o4 (fun g hg hf => hf.2 hg)); clear h o4 LF)
              obtain ⟨a', c', w6, hr6, hs6⟩ := push_row (X := A 3) K4.out (by have := R4.out; rw [HP.out] at this; exact this) HR.out.new (by omega) (m' : Int)
              have hr6' := Lib.hid hr6.out
              clear hr6 K4 R4 K3 R3
              go_wp2_with (at_builtin; refine Lib.wpList_append_run _ rfl (.tmp 85) (.tmp 87) 45 45 rfl _ _ rfl rfl _ _ hr6'.out ?_)
              go_roundw
              case rel =>
                exact ⟨i + 1, m', asked n (k : Int) A 3 (m' : Int), j + 1, c', a', by omega, by omega, by have := HM.out; have := hmi.out; omega, rfl, rfl, by go_num, Lib.hid ⟨⟨hs6.out.1, by rw [HA'.out]; have := hs6.out.2.1; rw [List.length_append, HP.out]; exact this, hs6.out.2.2, by rw [HA'.out, List.length_append]; have := HR.out.few; simp; omega, fun x hx => by
                  rw [HA'.out] at hx
                  rcases List.mem_append.1 hx with h | h
                  · have := HR.out.fit x h; have := HM.out; omega
                  · rw [List.mem_singleton.1 h]; omega⟩, by rw [HA'.out, List.length_append, HP.out]; rfl⟩⟩
              case measure => simp [intOf]; omega
        · have ASK := Lib.hid ((st_ask R.st (by omega) 3 (by decide) (m' : Int)).mono (fun e w' (h : e = .returned (.bool (decide (0 < left n (k : Int) (A 3) (m' : Int)))) ∧ _) => show e = .returned (.bool false) ∧ St W (OwnB (.slice aa p cc)) w' H n (i + 1) (k : Int) (asked n (k : Int) A 3 (m' : Int)) ∧ Only (Free W (OwnB (.slice aa p cc))) wr w' from ⟨by rw [h.1, win_left (by omega), decide_eq_false (by omega)], h.2⟩))
          have HG := Lib.hid hok
          clear hok R K
          go_upto_region 14 with (go_at_call 14; (with_reducible refine ASK.out.mono ?_); rintro e w3 ⟨rfl, h, o3⟩; have K3 := Lib.hid h; have R3 := Lib.hid (own_keep HR.out.row o3 (fun g hg hf => hf.2 hg)); clear h o3 ASK)
          go_loopw [14, 15] (fun s14 s15 wx => ∃ (j : Nat), j ≤ p ∧ s15 = .int .i64 (j : Int) ∧ s14 = .int .i64 (gt ((A 3).take j) ((m' : Int) - (k : Int)) : Nat) ∧ w3 = wx)
            (fun _ s15 _ => p - (intOf s15).toNat)
          case atStart => exact ⟨0, Nat.zero_le _, rfl, rfl, rfl⟩
          case round =>
            obtain ⟨j, hj, rfl, rfl, rfl⟩ := hrel
            by_cases hjp : j < p
            · have hjp' : (j : Int) < (p : Int) := by omega
              obtain ⟨g', rfl, hg', xj⟩ := iin_ofI R3.out j (by rw [HP.out]; exact hjp)
              obtain ⟨z, hz⟩ : ∃ z, z = (A 3).getD j 0 := ⟨_, rfl⟩
              rw [← hz] at xj
              have hs := Lib.hid (gt_step (X := A 3) (T := (m' : Int) - (k : Int)) (j := j) (by rw [HP.out]; exact hjp))
              rw [← hz] at hs
              have hq := Lib.hid (Nat.le_trans (gt_le ((A 3).take j) ((m' : Int) - (k : Int))) (by simp; omega : _ ≤ j))
              clear hz
              generalize gt ((A 3).take j) ((m' : Int) - (k : Int)) = q at *
              have q200 : (q : Int) ≤ 200 := by have := hq.out; omega
              by_cases hzz : (m' : Int) - (k : Int) < z
              · have hs2 := Lib.hid (show gt ((A 3).take (j + 1)) ((m' : Int) - (k : Int)) = q + 1 from by rw [hs.out, if_pos hzz])
                clear hs
                go_wp2
                go_roundw
                case rel => exact ⟨j + 1, by omega, by go_num, by rw [hs2.out]; go_num, trivial⟩
                case measure => simp [intOf]; omega
              · have hs2 := Lib.hid (show gt ((A 3).take (j + 1)) ((m' : Int) - (k : Int)) = q from by rw [hs.out, if_neg hzz]; rfl)
                clear hs
                go_wp2
                go_roundw
                case rel => exact ⟨j + 1, by omega, by go_num, by rw [hs2.out], trivial⟩
                case measure => simp [intOf]; omega
            · obtain rfl : j = p := by omega
              have hjj : ¬ (j : Int) < (j : Int) := by omega
              rw [show (A 3).take j = A 3 from by rw [← HP.out]; exact List.take_length]
              clear hjp
              have LF := Lib.hid ((st_left K3.out 3 (by decide) (m' : Int)).mono (fun e w' (h : e = .returned (.int .i64 (left n (k : Int) (asked n (k : Int) A 3 (m' : Int) 3) (m' : Int) : Nat)) ∧ _) => show e = .returned (.int .i64 0) ∧ St W (OwnB (.slice aa j cc)) w' H n (i + 1) (k : Int) (asked n (k : Int) A 3 (m' : Int)) ∧ Only (Free W (OwnB (.slice aa j cc))) w3 w' from ⟨by rw [h.1, win_not (by omega) HG.out, win_left (by omega)]; congr 2; have := HG.out; omega, h.2⟩))
              have hA' := Lib.hid (win_not (A := A) (n := n) (m := m') (k := k) (by omega) HG.out)
              have gn : ¬ (gt (A 3) ((m' : Int) - (k : Int)) : Nat) < n := HG.out
              have gn' : ¬ ((gt (A 3) ((m' : Int) - (k : Int)) : Nat) : Int) < (n : Int) := by omega
              have gle : ((gt (A 3) ((m' : Int) - (k : Int)) : Nat) : Int) ≤ 200 := by have := gt_le (A 3) ((m' : Int) - (k : Int)); rw [HP.out] at this; omega
              have hzr : max 0 ((n : Int) - (gt (A 3) ((m' : Int) - (k : Int)) : Nat) - 1) = 0 := by omega
              generalize gt (A 3) ((m' : Int) - (k : Int)) = g at gn gn' gle hzr
              clear HG
              go_wp2_with (go_at_call 11; (with_reducible refine LF.out.mono ?_); rintro e w4 ⟨rfl, h, o4⟩; have K4 := Lib.hid h; have R4 := Lib.hid (own_keep R3.out o4 (fun g hg hf => hf.2 hg)); clear h o4 LF)
              go_roundw
              case rel =>
                exact ⟨i + 1, m', A, j, cc, aa, by omega, by omega, by have := HM.out; have := hmi.out; omega, rfl, rfl, by go_num, Lib.hid ⟨⟨by have := K4.out; rw [hA'.out] at this; exact this, R4.out, HR.out.new, by have := HR.out.few; omega, fun x hx => by have := HR.out.fit x hx; have := HM.out; omega⟩, HP.out⟩⟩
              case measure => simp [intOf]; omega
      · have h200' : ¬ (i : Int) < 200 := by omega
        have LE := Lib.hid ((st_left K.out.1.st 3 (by decide) ((m : Int) + (k : Int))).mono (fun e w' (h : e = .returned (.int .i64 (left n (k : Int) (A 3) ((m : Int) + (k : Int)) : Nat)) ∧ _) => show e = .returned (.int .i64 (n : Int)) ∧ Only Nil W w' from ⟨by rw [h.1, win_end hmm.out (by omega) K.out.1.fit], h.2.1.only⟩))
        clear K hmm
        go_wp2_with (go_at_call 11; (with_reducible refine LE.out.mono ?_); rintro e w3 ⟨rfl, o3⟩)
        go_ret
        exact ⟨rfl, below_ofW o3⟩
    · have hin' : ¬ (i : Int) < (len : Int) := by omega
      have LE := Lib.hid ((st_left K.out.1.st 3 (by decide) ((m : Int) + (k : Int))).mono (fun e w' (h : e = .returned (.int .i64 (left n (k : Int) (A 3) ((m : Int) + (k : Int)) : Nat)) ∧ _) => show e = .returned (.int .i64 (n : Int)) ∧ Only Nil W w' from ⟨by rw [h.1, win_end hmm.out (by omega) K.out.1.fit], h.2.1.only⟩))
      clear K hmm
      go_wp2_with (go_at_call 11; (with_reducible refine LE.out.mono ?_); rintro e w3 ⟨rfl, o3⟩)
      go_ret
      exact ⟨rfl, below_ofW o3⟩
end Go.Proofs.Yteafdhpnkgebnaa.Me
