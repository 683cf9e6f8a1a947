/- mercy: MercyPlays' walk. -/
import Derived.Test.YteafdhpnkgebnaaMeOp
set_option linter.unusedSimpArgs false
set_option linter.unusedVariables false
namespace Go.Proofs.Yteafdhpnkgebnaa.Me
open Go.RowKit Go.Proofs.Yteafdhpnkgebnaa

/-- append, as one step of a region that draws its order: whatever it runs to. -/
theorem step_append_run {P : Program} {ops : Array Oper} {o : Oper} {a : Act} {w : World} {K : Act → World → Prop} {Q : Exit → Act → World → Prop} {E : Prop}
    (hgd : o.guard = none) (s x : Operand) (t : TypeId) (hop : o.op = Op.call { callee := Callee.builtin Builtin.append, args := #[s, x], argTypes := #[t, t] })
    (v1 v2 : Value) (hs : a.eval s = v1) (hx : a.eval x = v2) (v : Value) (w' : World) (hrun : (Builtin.append_ #[t, t] o.type #[v1, v2]).run P w = .ok v w') (h : K (a.put o.dst v) w') :
    if Region.wanted o (yielded ops a.tmps) = true then Oper.wp P o a w K Q else E := by
  have hw : Region.wanted o (yielded ops a.tmps) = true := by simp [Region.wanted, hgd]
  rw [if_pos hw]
  unfold Oper.wp
  simp [execOp, hop, resolve, invoke, builtin, hs, hx, hrun, Result.andThen]
  exact h

theorem below_ofP {w w' : World} (o : Only Nil w w') : Below w.heap.size w w' := o.below (Nat.le_refl _) (fun _ h => h.elim)
def OwnP (v : Value) (q : Nat) : Prop := some q = v.ownBlock
/-- The row's block, and the operation's. -/
def Kr (v : Value) (ob q : Nat) : Prop := OwnP v q ∨ q = ob
/-- What the law holds ahead of a round: the budget, and the list of all that was given. -/
structure Pw (W w : World) (H n N : Nat) (win : Int) (X : List Gv) (v : Value) : Prop where
  st : St W (OwnP v) w H n N win (AA X)
  row : w.ownsRow 0 36 2 v X.length (gs X)
  new : ∀ g, OwnP v g → W.heap.size ≤ g
/-- .. within a round: the operation lies in a block of its own. -/
structure Pr (W w : World) (H n N ob : Nat) (win : Int) (A : Int → List Int) (X : List Gv) (v : Value) (o : Op) : Prop where
  st : St W (Kr v ob) w H n N win A
  row : w.ownsRow 0 36 2 v X.length (gs X)
  new : ∀ g, OwnP v g → W.heap.size ≤ g
  obn : W.heap.size ≤ ob
  op : w.heap[ob]? = some (.cells #[.int .u8 o.k, .int .i64 o.id, .int .i64 o.wh] 28 (0, 0))
section
variable {W w w' : World} {H n N ob : Nat} {win : Int} {A : Int → List Int} {X : List Gv} {v v' : Value} {o : Op}
theorem Pw.op (h : Pw W w H n N win X v) (o : Op) : Pr W (w.alloc (.cells #[.int .u8 o.k, .int .i64 o.id, .int .i64 o.wh] 28)) H n N w.heap.size win (AA X) X v o := by
  have on : Only Nil w (w.alloc (.cells #[.int .u8 o.k, .int .i64 o.id, .int .i64 o.wh] 28)) := (Only.refl Nil w).alloc _
  refine ⟨h.st.re on (fun q h => h.elim) (fun q h => h.elim) (fun q hq => ?_), own_keep h.row on (fun _ _ h => h), h.new, h.st.only.size, heap_new w _⟩
  rcases hq with hq | hq
  · have := (h.row.lt q hq.symm).2
    exact ⟨.inl hq, by simp; omega⟩
  · subst hq; exact ⟨.inr (Nat.le_refl _), by simp⟩
theorem Pr.nil (h : Pr W w H n N ob win A X v o) (on : Only Nil w w') : Pr W w' H n N ob win A X v o :=
  ⟨h.st.nil on, own_keep h.row on (fun _ _ h => h), h.new, h.obn, (on.block _ (lt_of_block h.op) (fun h => h)).trans h.op⟩
theorem Pr.turn {N' : Nat} {A' : Int → List Int} (h : Pr W w H n N ob win A X v o) (st : St W (Kr v ob) w' H n N' win A') (on : Only (Free W (Kr v ob)) w w') : Pr W w' H n N' ob win A' X v o :=
  ⟨st, own_keep h.row on (fun g hg hf => hf.2 (.inl hg)), h.new, h.obn, (on.block _ (lt_of_block h.op) (fun hf => hf.2 (.inr rfl))).trans h.op⟩
theorem Pr.c0 (h : Pr W w H n N ob win A X v o) : w.cell? ⟨ob, 0, none⟩ = some (.int .u8 o.k) := by simp [World.cell?, h.op]
theorem Pr.c1 (h : Pr W w H n N ob win A X v o) : w.cell? ⟨ob, 1, none⟩ = some (.int .i64 o.id) := by simp [World.cell?, h.op]
theorem Pr.c2 (h : Pr W w H n N ob win A X v o) : w.cell? ⟨ob, 2, none⟩ = some (.int .i64 o.wh) := by simp [World.cell?, h.op]
/-- The round is over: the row is as it was. -/
theorem Pr.over (h : Pr W w H n N ob win A X v o) (hA : A = AA X) : Pw W w H n N win X v :=
  ⟨hA ▸ h.st.re (Only.refl Nil w) (fun q h => h.elim) (fun q h => h.elim) (fun q hq => ⟨.inl (.inl hq), (h.row.lt q hq.symm).2⟩), h.row, h.new⟩
/-- .. the row is another one, that is new. -/
theorem Pr.fresh {Y : List Gv} (h : Pr W w H n N ob win A X v o) (hA : A = AA Y) (on : Only Nil w w') (hr : w'.ownsRow 0 36 2 v' Y.length (gs Y)) (hn : ∀ g, some g = v'.ownBlock → w.heap.size ≤ g) : Pw W w' H n N win Y v' :=
  ⟨hA ▸ h.st.re on (fun q h => h.elim) (fun q h => h.elim) (fun q hq => ⟨.inr (hn q hq), (hr.lt q hq.symm).2⟩), hr, fun g hg => by have := hn g hg; have := h.st.only.size; omega⟩
/-- .. the row has grown. -/
theorem Pr.grown {Y : List Gv} (h : Pr W w H n N ob win A X v o) (hA : A = AA Y) (G : GRow w w' v v' Y) : Pw W w' H n N win Y v' := by
  have hs := h.st.only.size
  refine ⟨hA ▸ h.st.re (T := fun q => some q = v.ownBlock) G.only (fun q hq => .inl hq) (fun q hq => h.new q hq) (fun q hq => ⟨(G.new q hq).imp (fun h => .inl h) id, (G.row.lt q hq.symm).2⟩), G.row, fun g hg => ?_⟩
  rcases G.new g hg with h1 | h1
  · exact h.new g h1
  · omega
theorem Pr.ask (h : Pr W w H n N ob win A X v o) (hN : N ≤ 65000) : Calls Try.prog 14 #[.pointer (some ⟨H, 0, none⟩), .int .i64 o.id, .int .i64 o.wh] w fun e w' => e = .returned (.bool (decide (0 < left n win (A o.id) o.wh))) ∧ Pr W w' H n (N + 1) ob win (asked n win A o.id o.wh) X v o :=
  (st_ask h.st hN o.id o.ok o.wh).mono fun e w' h2 => ⟨h2.1, h.turn h2.2.1 h2.2.2⟩
theorem Pr.left (h : Pr W w H n N ob win A X v o) : Calls Try.prog 11 #[.pointer (some ⟨H, 0, none⟩), .int .i64 o.id, .int .i64 o.wh] w fun e w' => e = .returned (.int .i64 (left n win (A o.id) o.wh : Nat)) ∧ Pr W w' H n N ob win A X v o :=
  (st_left h.st o.id o.ok o.wh).mono fun e w' h2 => ⟨h2.1, h.turn h2.2.1 h2.2.2⟩
theorem Pr.forget (h : Pr W w H n N ob win A X v o) : Calls Try.prog 12 #[.pointer (some ⟨H, 0, none⟩), .int .i64 o.id] w fun e w' => e = .returned (.tuple #[]) ∧ Pr W w' H n N ob win (setV A o.id []) X v o :=
  (st_forget h.st o.id o.ok).mono fun e w' h2 => ⟨h2.1, h.turn h2.2.1 h2.2.2⟩
end

set_option maxRecDepth 100000 in
set_option maxHeartbeats 8000000 in
theorem plays_all (a0 a1 : Int) {W : World} {a : Option Addr} {cap : Nat} {S : List Op} (hS : OpsIn W a S) (hr : S.length * 24 ≤ 140737488351232) :
    Calls Try.prog 3 #[.int .i64 a0, .int .i64 a1, .slice a S.length cap] W fun e w' => e = .returned (.bool true) ∧ Below W.heap.size W w' := by
  have HA := Lib.hid (alive_any W)
  have HN := Lib.hid (fun w1 (o1 : Only Nil W w1) => st_new W w1 Nil (fun q h => h.elim) o1 a0 a1)
  have HS := Lib.hid hS
  obtain ⟨l, hl⟩ : ∃ l, l = S.length := ⟨_, rfl⟩
  have l63 : (l : Int) ≤ 140737488351232 := by omega
  rw [← hl]
  have Hl := Lib.hid hl
  clear hS hr hl
  go_enter Try.func3, Try.ntmps3
  go_upto_region 4 with (first
    | (go_at_call 8; (with_reducible refine HA.out.mono ?_); rintro e w1 ⟨rfl, o1⟩; have O1 := Lib.hid o1; clear o1 HA)
    | (go_at_call 9; (with_reducible refine (HN.out _ O1.out).mono ?_); rintro e w2 ⟨rfl, h2, _⟩; have k2 := Lib.hid h2; clear h2 HN O1))
  generalize w1.heap.size + 1 = H at *
  obtain ⟨n, hn⟩ : ∃ n, n = kn a0 := ⟨_, rfl⟩
  obtain ⟨win, hw⟩ : ∃ win, win = kw a1 := ⟨_, rfl⟩
  rw [← hn, ← hw] at k2
  have HNW := Lib.hid (And.intro hn hw)
  have hk100 := Lib.hid (show n ≤ 100 from by rw [hn]; exact kn_le _)
  clear hn hw
  go_wp2
  go_loopw [8, 9] (fun s8 s9 wr => ∃ (i N p cc : Nat) (X : List Gv) (aa : Option Addr), i ≤ 200 ∧ i ≤ l ∧ N ≤ i ∧ p ≤ i ∧ s9 = .int .i64 (i : Int) ∧ s8 = .slice aa p cc ∧ Hid (Pw W wr H n N win X (.slice aa p cc) ∧ X.length = p))
    (fun _ s9 _ => l - (intOf s9).toNat)
  case atStart => exact ⟨0, 0, 0, 0, [], none, by decide, Nat.zero_le _, Nat.le_refl _, Nat.le_refl _, rfl, rfl, Lib.hid ⟨⟨k2.out.re (Only.refl Nil _) (fun q h => h.elim) (fun q h => h.elim) (fun q hq => by simp [OwnP, Value.ownBlock] at hq), World.ownsRow_nil _ _ _ _, fun g hg => by simp [OwnP, Value.ownBlock] at hg⟩, rfl⟩⟩
  case round =>
    obtain ⟨i, N, p, cc, X, aa, hi, hil, hN, hp, rfl, rfl, K⟩ := hrel
    have hsm : (i : Int) ≤ 200 := by omega
    by_cases hin : i < l
    · have hin' : (i : Int) < (l : Int) := by omega
      by_cases h200 : i < 200
      · have h200' : (i : Int) < 200 := by omega
        obtain ⟨b, off, rfl, hlt, hc⟩ := HS.out i (by rw [← Hl.out]; exact hin)
        obtain ⟨x0, x1, x2⟩ := hc i (by rw [← Hl.out]; exact hin)
        obtain ⟨o, ho⟩ : ∃ o, o = S.getD i default := ⟨_, rfl⟩
        rw [← ho] at x0 x1 x2
        have y0 := only_cellS K.out.1.st.only (fun h => h) x0
        have y1 := only_cellS K.out.1.st.only (fun h => h) x1
        have y2 := only_cellS K.out.1.st.only (fun h => h) x2
        have kok := o.kok
        clear hc ho x0 x1 x2 hlt
        have R := Lib.hid (K.out.1.op o)
        have HP := Lib.hid K.out.2
        obtain ⟨lf, hlf⟩ : ∃ lf, lf = left n win (AA X o.id) o.wh := ⟨_, rfl⟩
        have HLF := Lib.hid hlf
        have lf100 : (lf : Int) ≤ 100 := by have := hk100.out; unfold left at hlf; omega
        have RL := Lib.hid (fun w' (row : w'.ownsRow 0 36 2 (.slice aa p cc) X.length (gs X)) => show Calls Try.prog 10 #[.slice aa p cc, .int .i64 a0, .int .i64 a1, .int .i64 o.id, .int .i64 o.wh] w' fun e w'' => e = .returned (.int .i64 (lf : Int)) ∧ Only Nil w' w'' from by
          have := rleft_any row HP.out (by omega) a0 a1 o.id o.wh
          rw [← HNW.out.1, ← HNW.out.2, ← hlf] at this
          exact this)
        clear hlf K
        go_upto_region 9 with (fail)
        have r0 := R.out.c0
        have r1 := R.out.c1
        have r2 := R.out.c2
        generalize hW2 : wr.alloc (.cells #[.int .u8 o.k, .int .i64 o.id, .int .i64 o.wh] 28) = W2 at *
        generalize wr.heap.size = ob at *
        clear hW2 y0 y1 y2
        go_upto_region 10 with (go_at_call 10; (with_reducible refine (RL.out _ R.out.row).mono ?_); rintro e w3 ⟨rfl, o3⟩; have R3 := Lib.hid (R.out.nil o3); clear o3 RL)
        clear R r0 r1 r2
        have r0 := R3.out.c0
        have r1 := R3.out.c1
        have r2 := R3.out.c2
        by_cases hk1 : o.k % 4 = 1
        · have h1 : (o.k % 4 == 1) = true := by simp [hk1]
          have LF := Lib.hid (R3.out.left.mono (fun e w' h => show e = .returned (.int .i64 (lf : Int)) ∧ Pr W w' H n N ob win (AA X) X (.slice aa p cc) o from ⟨by rw [h.1, HLF.out], h.2⟩))
          clear hk1
          go_wp2_with (go_at_call 11; (with_reducible refine LF.out.mono ?_); rintro e w4 ⟨rfl, h4⟩; have R4 := Lib.hid h4; clear h4)
          go_roundw
          case rel => exact ⟨i + 1, N, p, cc, X, aa, by omega, by omega, by omega, by omega, by go_num, rfl, Lib.hid ⟨R4.out.over rfl, HP.out⟩⟩
          case measure => simp [intOf]; omega
        · by_cases hk2 : o.k % 4 = 2
          · have h1 : (o.k % 4 == 1) = false := by simp [hk1]
            have h2 : (o.k % 4 == 2) = true := by simp [hk2]
            have FG := Lib.hid R3.out.forget
            have HF := Lib.hid (AA_forget X o.id)
            have Hfl := Lib.hid (show (X.filter fun g => g.1 != o.id).length ≤ i from Nat.le_trans (List.length_filter_le _ _) (by rw [HP.out]; exact hp))
            clear hk1 hk2
            go_wp2_with (first
              | (go_at_call 12; (with_reducible refine FG.out.mono ?_); rintro e w4 ⟨rfl, h4⟩; have R4 := Lib.hid h4; have q1 := R4.out.c1; have RF := Lib.hid (rforget_any R4.out.row HP.out (by omega) o.id); clear h4 FG)
              | (go_at_call 13; (with_reducible refine RF.out.mono ?_); rintro e w5 ⟨hr, o5⟩; obtain ⟨v', rfl, hrow, hnew⟩ := hr.out; have O5 := Lib.hid o5; have ROW := Lib.hid hrow; have NEW := Lib.hid (fun g hg => Nat.le_trans (Nat.le_refl _) (hnew g hg)); clear hr o5 hrow hnew RF))
            obtain ⟨a', c', rfl⟩ := own_slice_n ROW.out
            go_roundw
            case rel => exact ⟨i + 1, N, (X.filter fun g => g.1 != o.id).length, c', X.filter fun g => g.1 != o.id, a', by omega, by omega, by omega, by have := Hfl.out; omega, by go_num, rfl, Lib.hid ⟨R4.out.fresh HF.out.symm O5.out ROW.out NEW.out, rfl⟩⟩
            case measure => simp [intOf]; omega
          · have h1 : (o.k % 4 == 1) = false := by simp [hk1]
            have h2 : (o.k % 4 == 2) = false := by simp [hk2]
            clear hk1 hk2
            by_cases hlp : 0 < lf
            · have hlp' : (0 : Int) < (lf : Int) := by omega
              have AK := Lib.hid ((R3.out.ask (by omega)).mono (fun e w' h => show e = .returned (.bool true) ∧ Pr W w' H n (N + 1) ob win (asked n win (AA X) o.id o.wh) X (.slice aa p cc) o from ⟨by rw [h.1, ← HLF.out, decide_eq_true hlp], h.2⟩))
              have HAe := Lib.hid (show asked n win (AA X) o.id o.wh = AA (X ++ [(o.id, tick o.wh)]) from by rw [AA_snoc]; unfold asked; rw [← HLF.out, if_pos hlp])
              have CT := Lib.hid (fun w => show Calls Try.prog 15 #[.int .i64 o.wh, .int .i64 0, .int .i64 1099511627776] w fun e w' => e = .returned (.int .i64 (tick o.wh)) ∧ w = w' from by have := clamp_any o.wh 0 1099511627776 w; rw [cl_tick] at this; exact this)
              go_upto_region 14 with (go_at_call 14; (with_reducible refine AK.out.mono ?_); rintro e w4 ⟨rfl, h4⟩; have R4 := Lib.hid h4; clear h4 AK)
              clear r0 r1 r2
              have r1 := R4.out.c1
              have r2 := R4.out.c2
              have hob : ¬ (some ob = (Value.slice aa p cc).ownBlock) := fun e => by
                rcases R4.out.row.2 with ⟨e2, _⟩ | ⟨g, k, cur, e2, _, hh, _⟩
                · rw [e2] at e; simp [Value.ownBlock] at e
                · have : ob = g := by rw [e2] at e; simpa [Value.ownBlock] using e
                  subst this
                  exact blk_ne R4.out.op hh (by decide) rfl
              obtain ⟨a', c', w6, hr6, hG⟩ := gpush (w := w4.drew) (own_keep R4.out.row (Only.refl Nil w4).drew (fun _ _ h => h)) HP.out (by omega) (o.id, tick o.wh)
              have HG := Lib.hid (show GRow w4 w6 (.slice aa p cc) (.slice a' (p + 1) c') (X ++ [(o.id, tick o.wh)]) from ⟨hG.row, ((Only.refl _ w4).drew).trans hG.only, hG.new⟩)
              have kk : w6.cell? ⟨ob, 1, none⟩ = some (.int .i64 o.id) ∧ w6.cell? ⟨ob, 2, none⟩ = some (.int .i64 o.wh) := by
                have e := (HG.out.only.block ob (lt_of_block R4.out.op) hob).trans R4.out.op
                simp [World.cell?, e]
              have kd : w4.drew.cell? ⟨ob, 1, none⟩ = some (.int .i64 o.id) ∧ w4.drew.cell? ⟨ob, 2, none⟩ = some (.int .i64 o.wh) := ⟨r1, r2⟩
              clear hG hob
              go_region_held3 (fun w' => w'.cell? ⟨ob, 1, none⟩ = some (.int .i64 o.id) ∧ w'.cell? ⟨ob, 2, none⟩ = some (.int .i64 o.wh))
                (first | exact ⟨r1, r2⟩ | exact kd | exact kk | go_keep)
                (first
                  | (refine step_append_run rfl (.tmp 53) (.tmp 60) 26 rfl _ _ rfl rfl _ _ hr6.out ?_)
                  | (go_at_call 15; go_loud ((with_reducible refine (CT.out _).mono ?_); rintro e w5 ⟨rfl, rfl⟩)))
              all_goals (
                go_wp2
                go_roundw
                case rel => exact ⟨i + 1, N + 1, p + 1, c', _, a', by omega, by omega, by omega, by omega, by go_num, rfl, Lib.hid ⟨R4.out.grown HAe.out HG.out, by rw [List.length_append, HP.out]; rfl⟩⟩
                case measure => simp [intOf]; omega)
            · have hl0 : lf = 0 := by omega
              have AK := Lib.hid ((R3.out.ask (by omega)).mono (fun e w' h => show e = .returned (.bool false) ∧ Pr W w' H n (N + 1) ob win (asked n win (AA X) o.id o.wh) X (.slice aa p cc) o from ⟨by rw [h.1, ← HLF.out, decide_eq_false hlp], h.2⟩))
              have HAe := Lib.hid (show asked n win (AA X) o.id o.wh = AA X from by unfold asked; rw [← HLF.out, if_neg hlp])
              subst hl0
              go_wp2_with (go_at_call 14; (with_reducible refine AK.out.mono ?_); rintro e w4 ⟨rfl, h4⟩; have R4 := Lib.hid h4; clear h4 AK)
              go_roundw
              case rel => exact ⟨i + 1, N + 1, p, cc, X, aa, by omega, by omega, by omega, by omega, by go_num, rfl, Lib.hid ⟨R4.out.over HAe.out, HP.out⟩⟩
              case measure => simp [intOf]; omega
      · have h200' : ¬ (i : Int) < 200 := by omega
        go_wp2
        go_ret
        exact ⟨rfl, below_ofP K.out.1.st.only⟩
    · have hin' : ¬ (i : Int) < (l : Int) := by omega
      go_wp2
      go_ret
      exact ⟨rfl, below_ofP K.out.1.st.only⟩
end Go.Proofs.Yteafdhpnkgebnaa.Me
