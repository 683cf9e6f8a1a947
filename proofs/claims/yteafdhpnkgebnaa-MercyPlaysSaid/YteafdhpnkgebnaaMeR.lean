/- mercy: the document's Clamp, Left, Forget. -/
import Derived.Test.YteafdhpnkgebnaaMeI
set_option linter.unusedSimpArgs false
set_option linter.unusedVariables false
namespace Go.Proofs.Yteafdhpnkgebnaa.Me
open Go.RowKit Go.Proofs.Yteafdhpnkgebnaa

def cl (n lo hi : Int) : Int := if n < lo then lo else if n > hi then hi else n
theorem cl_tick (now : Int) : cl now 0 1099511627776 = tick now := by unfold cl tick; split <;> (try split) <;> omega
theorem cl_kw (u : Int) : cl u 1 4095 = kw u := by unfold cl kw; split <;> (try split) <;> omega
theorem cl_kn (r : Int) : cl r 0 100 = (kn r : Int) := by rw [kn_eq]; unfold cl; split <;> (try split) <;> omega
theorem clamp_any (n lo hi : Int) (w : World) : Calls Try.prog 15 #[.int .i64 n, .int .i64 lo, .int .i64 hi] w fun e w' => e = .returned (.int .i64 (cl n lo hi)) ∧ w = w' := by
  unfold cl
  by_cases h1 : n < lo
  · rw [if_pos h1]
    go_enter Try.func15, Try.ntmps15
    go_wp2
    go_ret
    exact ⟨rfl, rfl⟩
  · rw [if_neg h1]
    by_cases h2 : n > hi
    · rw [if_pos h2]
      go_enter Try.func15, Try.ntmps15
      go_wp2
      go_ret
      exact ⟨rfl, rfl⟩
    · rw [if_neg h2]
      go_enter Try.func15, Try.ntmps15
      go_wp2
      go_ret
      exact ⟨rfl, rfl⟩

/-- Who was given one, and when. -/
abbrev Gv := Int × Int
def gc (g : Gv) : List Value := [.int .i64 g.1, .int .i64 g.2]
def gs (X : List Gv) : List Value := X.flatMap gc
theorem gs_append (X Y : List Gv) : gs (X ++ Y) = gs X ++ gs Y := by simp [gs]
theorem gs_one (g : Gv) : gs [g] = gc g := by simp [gs]
theorem gs_length (X : List Gv) : (gs X).length = X.length * 2 := by
  induction X with
  | nil => rfl
  | cons t X ih => rw [show gs (t :: X) = gc t ++ gs X from rfl, List.length_append, ih]; simp [gc]; omega
theorem gs_get (X : List Gv) (j : Nat) (hj : j < X.length) : (gs X)[j * 2]? = some (.int .i64 (X.getD j default).1) ∧ (gs X)[j * 2 + 1]? = some (.int .i64 (X.getD j default).2) := by
  have hg : X.getD j default = X[j] := by simp [List.getD, hj]
  have e0 := flat_get gc 2 (fun _ => rfl) X j 0 hj (by decide)
  have e1 := flat_get gc 2 (fun _ => rfl) X j 1 hj (by decide)
  rw [hg]
  exact ⟨e0, e1⟩
/-- All that child c was given. -/
def AA (X : List Gv) (c : Int) : List Int := (X.filter fun g => g.1 == c).map Prod.snd
theorem AA_nil (c : Int) : AA [] c = [] := rfl
theorem AA_append (X Y : List Gv) (c : Int) : AA (X ++ Y) c = AA X c ++ AA Y c := by simp [AA]
theorem AA_snoc (X : List Gv) (c t : Int) : AA (X ++ [(c, t)]) = setV (AA X) c (AA X c ++ [t]) := by
  funext d
  rw [AA_append]
  by_cases e : d = c
  · subst e; rw [setV_same]; simp [AA]
  · rw [setV_other _ _ e]
    have : ((c == d) = false) := by simp; exact fun h => e h.symm
    simp [AA, this]
theorem AA_forget (X : List Gv) (c : Int) : AA (X.filter fun g => g.1 != c) = setV (AA X) c [] := by
  funext d
  unfold AA
  rw [List.filter_filter]
  by_cases e : d = c
  · subst e
    rw [setV_same, List.map_eq_nil_iff, List.filter_eq_nil_iff]
    intro g _ h
    simp at h
  · rw [setV_other _ _ e]
    congr 1
    apply List.filter_congr
    intro g _
    by_cases h : g.1 = d
    · have : ¬ g.1 = c := fun h2 => e (h.symm.trans h2)
      simp [h]
      exact fun h2 => e h2
    · simp [h]
/-- The cells of the row, each at its index. -/
theorem gin_of {w : World} {a : Option Addr} {n c : Nat} {X : List Gv} (h : w.ownsRow 0 36 2 (.slice a n c) X.length (gs X)) (j : Nat) (hj : j < X.length) : ∃ g, a = some ⟨g, 0, none⟩ ∧ g < w.heap.size ∧ w.cell? ⟨g, j * 2, none⟩ = some (.int .i64 (X.getD j default).1) ∧ w.cell? ⟨g, j * 2 + 1, none⟩ = some (.int .i64 (X.getD j default).2) := by
  rcases h.2 with ⟨_, h0⟩ | ⟨g, c, cur, hv, _, hg, _⟩
  · omega
  · simp only [Value.slice.injEq] at hv
    obtain ⟨rfl, _, rfl⟩ := hv
    obtain rfl : n = X.length := by assumption
    obtain ⟨e0, e1⟩ := gs_get X j hj
    exact ⟨g, rfl, lt_of_block hg, by rw [h.cellAt _ (by omega)]; exact e0, by rw [h.cellAt _ (by omega)]; exact e1⟩
theorem AA_step {X : List Gv} {j : Nat} {c T : Int} (hj : j < X.length) : gt (AA (X.take (j + 1)) c) T = gt (AA (X.take j) c) T + (if (X.getD j default).1 = c ∧ T < (X.getD j default).2 then 1 else 0) := by
  have e : X.take (j + 1) = X.take j ++ [X.getD j default] := by rw [List.take_succ_eq_append_getElem hj]; simp [List.getD, hj]
  rw [e, AA_append, gt_append]
  congr 1
  generalize X.getD j default = x
  by_cases h : x.1 = c
  · have : AA [x] c = [x.2] := by simp [AA, h]
    rw [this, gt_cons, gt_nil]
    simp [h]
  · have : AA [x] c = [] := by simp [AA, h]
    rw [this, gt_nil, if_neg (fun hh => h hh.1)]

set_option maxHeartbeats 4000000 in
set_option maxRecDepth 100000 in
theorem rleft_any {w : World} {a : Option Addr} {p cc : Nat} {X : List Gv} (h : w.ownsRow 0 36 2 (.slice a p cc) X.length (gs X)) (hp : X.length = p) (few : p ≤ 65536) (r u c now : Int) :
    Calls Try.prog 10 #[.slice a p cc, .int .i64 r, .int .i64 u, .int .i64 c, .int .i64 now] w fun e w' => e = .returned (.int .i64 (left (kn r) (kw u) (AA X c) now : Nat)) ∧ Only Nil w w' := by
  have HR := Lib.hid h
  have HP := Lib.hid hp
  have p0 : (p : Int) ≤ 65536 := by omega
  have CN := Lib.hid (fun w => show Calls Try.prog 15 #[.int .i64 r, .int .i64 0, .int .i64 100] w fun e w' => e = .returned (.int .i64 (kn r : Nat)) ∧ w = w' from by have := clamp_any r 0 100 w; rw [cl_kn] at this; exact this)
  have CT := Lib.hid (fun w => show Calls Try.prog 15 #[.int .i64 now, .int .i64 0, .int .i64 1099511627776] w fun e w' => e = .returned (.int .i64 (tick now)) ∧ w = w' from by have := clamp_any now 0 1099511627776 w; rw [cl_tick] at this; exact this)
  have CW := Lib.hid (fun w => show Calls Try.prog 15 #[.int .i64 u, .int .i64 1, .int .i64 4095] w fun e w' => e = .returned (.int .i64 (kw u)) ∧ w = w' from by have := clamp_any u 1 4095 w; rw [cl_kw] at this; exact this)
  have hk := kn_le r
  have ht := tick_in now
  have hw := kw_in u
  have HL := Lib.hid (show ∀ g : Nat, g = gt (AA X c) (tick now - kw u) → left (kn r) (kw u) (AA X c) now = kn r - g from fun g hg => by unfold left; rw [← hg])
  generalize kn r = n at *
  generalize tick now = t at *
  generalize kw u = k at *
  have hT : IntKind.i64.wrap (t - k) = t - k := by rw [IntKind.wrap_i64]; omega
  obtain ⟨R, hR⟩ : ∃ R, R = left n k (AA X c) now := ⟨_, rfl⟩
  rw [← hR]
  have HRe := Lib.hid hR
  have n0 : (n : Int) ≤ 100 := by omega
  clear h hp few hk ht hw hR
  go_enter Try.func10, Try.ntmps10
  go_wp2_with (go_at_call 15; (with_reducible refine (CN.out _).mono ?_); rintro e w' ⟨rfl, rfl⟩)
  go_loopw [11, 12] (fun s11 s12 wr => ∃ (j q : Nat), j ≤ p ∧ q ≤ j ∧ s12 = .int .i64 (j : Int) ∧ s11 = .int .i64 ((n : Int) - (q : Int)) ∧ Hid (q = gt (AA (X.take j) c) (t - k)) ∧ Hid (Only Nil w wr))
    (fun _ s12 _ => p - (intOf s12).toNat)
  case atStart => exact ⟨0, 0, Nat.zero_le _, Nat.le_refl _, rfl, by simp, Lib.hid rfl, Lib.hid (Only.refl _ _)⟩
  case round =>
    obtain ⟨j, q, hj, hqj, rfl, rfl, hq, hO⟩ := hrel
    by_cases hjp : j < p
    · have hjp' : (j : Int) < (p : Int) := by omega
      obtain ⟨g, rfl, hg, x0, x1⟩ := gin_of (own_keep HR.out hO.out (fun _ _ h => h)) j (by rw [HP.out]; exact hjp)
      have hs := Lib.hid (AA_step (X := X) (j := j) (c := c) (T := t - k) (by rw [HP.out]; exact hjp))
      obtain ⟨z1, h1⟩ : ∃ z, z = (X.getD j default).1 := ⟨_, rfl⟩
      obtain ⟨z2, h2⟩ : ∃ z, z = (X.getD j default).2 := ⟨_, rfl⟩
      rw [← h1] at x0 hs
      rw [← h2] at x1 hs
      clear h1 h2
      by_cases hc : z1 = c
      · have hc' : (z1 == c) = true := by simp [hc]
        by_cases hz : t - k < z2
        · have hs2 := Lib.hid (show q + 1 = gt (AA (X.take (j + 1)) c) (t - k) from by rw [hs.out, if_pos ⟨hc, hz⟩, hq.out])
          clear hs hq
          go_upto_region 5 with (fail)
          go_quiet (first | (go_at_call 15; with_reducible exact quiet_same (CT.out _)) | (go_at_call 15; with_reducible exact quiet_same (CW.out _)))
          go_wp2
          go_roundw
          case rel => exact ⟨j + 1, q + 1, by omega, by omega, by go_num, by go_num, hs2, Lib.hid (hO.out.drewN nq)⟩
          case measure => simp [intOf]; omega
        · have hs2 := Lib.hid (show q = gt (AA (X.take (j + 1)) c) (t - k) from by rw [hs.out, if_neg (fun h => hz h.2), hq.out]; rfl)
          clear hs hq
          go_upto_region 5 with (fail)
          go_quiet (first | (go_at_call 15; with_reducible exact quiet_same (CT.out _)) | (go_at_call 15; with_reducible exact quiet_same (CW.out _)))
          go_wp2
          go_roundw
          case rel => exact ⟨j + 1, q, by omega, by omega, by go_num, rfl, hs2, Lib.hid (hO.out.drewN nq)⟩
          case measure => simp [intOf]; omega
      · have hc' : (z1 == c) = false := by simp [hc]
        have hs2 := Lib.hid (show q = gt (AA (X.take (j + 1)) c) (t - k) from by rw [hs.out, if_neg (fun h => hc h.1), hq.out]; rfl)
        clear hs hq
        go_upto_region 5 with (fail)
        go_quiet (fail)
        go_wp2
        go_roundw
        case rel => exact ⟨j + 1, q, by omega, by omega, by go_num, rfl, hs2, Lib.hid (hO.out.drewN nq)⟩
        case measure => simp [intOf]; omega
    · obtain rfl : j = p := by omega
      have hjj : ¬ (j : Int) < (j : Int) := by omega
      have CE := Lib.hid (fun w => show Calls Try.prog 15 #[.int .i64 ((n : Int) - (q : Int)), .int .i64 0, .int .i64 100] w fun e w' => e = .returned (.int .i64 (R : Nat)) ∧ w = w' from by
        have := clamp_any ((n : Int) - (q : Int)) 0 100 w
        rw [show cl ((n : Int) - (q : Int)) 0 100 = (R : Int) from by rw [HRe.out, HL.out q (by rw [hq.out, ← HP.out, List.take_length])]; unfold cl; split <;> (try split) <;> omega] at this
        exact this)
      clear hjp
      go_wp2_with (go_at_call 15; (with_reducible refine (CE.out _).mono ?_); rintro e w' ⟨rfl, rfl⟩)
      go_ret
      exact ⟨rfl, hO.out⟩

theorem Try.infoG : (Try.prog.info? 36).map (fun i => (i.zero, i.size, i.bytes)) = some (some (.agg #[.int .i64 0, .int .i64 0]), 2, 16) := by kernel_rfl
/-- A row grown by one, that was v's or is new. -/
structure GRow (w0 w : World) (u v : Value) (X : List Gv) : Prop where
  row : w.ownsRow 0 36 2 v X.length (gs X)
  only : Only (fun q => some q = u.ownBlock) w0 w
  new : ∀ g, some g = v.ownBlock → some g = u.ownBlock ∨ w0.heap.size ≤ g
/-- append of one that stands in a block of its own. -/
theorem gpush {w : World} {a : Option Addr} {p c : Nat} {X : List Gv} (hrow : w.ownsRow 0 36 2 (.slice a p c) X.length (gs X)) (hX : X.length = p) (few : p ≤ 65536) (x : Gv) :
    ∃ a' c' w6, Hid ((Builtin.append_ #[26, 26] 26 #[.slice a p c, .slice (some ⟨w.heap.size, 0, none⟩) 1 1]).run Try.prog (w.alloc (.cells #[.int .i64 x.1, .int .i64 x.2] 36)) = .ok (.slice a' (p + 1) c') w6) ∧
      GRow w w6 (.slice a p c) (.slice a' (p + 1) c') (X ++ [x]) := by
  have o : Only Nil w (w.alloc (.cells #[.int .i64 x.1, .int .i64 x.2] 36)) := (Only.refl Nil w).alloc _
  have h' := own_keep hrow o (fun _ _ h => h)
  rw [hX] at h'
  obtain ⟨a', c', w6, hr, ho, hon, hsn⟩ := run_append_end (P := Try.prog) (t := 26) (ty := 26) (e := 36) (size := 2) (bytes := 16) Try.underlying26 Try.infoG rfl h' ⟨w.heap.size, 0, none⟩ (gc x) rfl (by intro v hv; simp [gc] at hv; rcases hv with rfl | rfl <;> rfl)
    (fun j u hj => by
        rw [add_lit0, cell_of_row _ w.heap.size _ _ _ _ (heap_new w _), Nat.zero_add]
        simpa [gc] using hj) few (by decide)
  refine ⟨a', c', w6, Lib.hid hr, by rw [List.length_append, hX, gs_append, gs_one]; exact ho, (o.nilTo _).trans (hon.mono (fun q hq => row_own hq)), fun g hg => ?_⟩
  cases a' with
  | none => simp [Value.ownBlock] at hg
  | some y =>
    have e : g = y.block := by simpa [Value.ownBlock] using hg
    rcases hsn y rfl with ⟨z, hz, e2⟩ | e2
    · refine .inl ?_
      subst hz
      rw [e, e2]; rfl
    · refine .inr ?_
      have := o.size; omega

set_option maxHeartbeats 4000000 in
set_option maxRecDepth 100000 in
theorem rforget_any {w : World} {a : Option Addr} {p cc : Nat} {X : List Gv} (h : w.ownsRow 0 36 2 (.slice a p cc) X.length (gs X)) (hp : X.length = p) (few : p ≤ 65536) (c : Int) :
    Calls Try.prog 13 #[.slice a p cc, .int .i64 c] w fun e w' => Hid (∃ v', e = .returned v' ∧ w'.ownsRow 0 36 2 v' (X.filter fun g => g.1 != c).length (gs (X.filter fun g => g.1 != c)) ∧ ∀ g, some g = v'.ownBlock → w.heap.size ≤ g) ∧ Only Nil w w' := by
  have HR := Lib.hid h
  have HP := Lib.hid hp
  have p0 : (p : Int) ≤ 65536 := by omega
  have few' := Lib.hid few
  clear h hp few
  go_enter Try.func13, Try.ntmps13
  go_wp2
  go_loopw [5, 6] (fun s5 s6 wr => ∃ (j q k : Nat) (b : Option Addr), j ≤ p ∧ q ≤ j ∧ s6 = .int .i64 (j : Int) ∧ s5 = .slice b q k ∧ Hid (((X.take j).filter fun g => g.1 != c).length = q ∧ wr.ownsRow 0 36 2 (.slice b q k) ((X.take j).filter fun g => g.1 != c).length (gs ((X.take j).filter fun g => g.1 != c)) ∧ (∀ g, some g = (Value.slice b q k).ownBlock → w.heap.size ≤ g) ∧ Only Nil w wr))
    (fun _ s6 _ => p - (intOf s6).toNat)
  case atStart => exact ⟨0, 0, 0, none, Nat.zero_le _, Nat.le_refl _, rfl, rfl, Lib.hid ⟨rfl, World.ownsRow_nil _ _ _ _, fun g hg => by simp [Value.ownBlock] at hg, Only.refl _ _⟩⟩
  case round =>
    obtain ⟨j, q, k, b, hj, hqj, rfl, rfl, K⟩ := hrel
    by_cases hjp : j < p
    · have hjp' : (j : Int) < (p : Int) := by omega
      obtain ⟨g, rfl, hg, x0, x1⟩ := gin_of (own_keep HR.out K.out.2.2.2 (fun _ _ h => h)) j (by rw [HP.out]; exact hjp)
      obtain ⟨x, hx⟩ : ∃ x, x = X.getD j default := ⟨_, rfl⟩
      have hf := Lib.hid (show (X.take (j + 1)).filter (fun g => g.1 != c) = (X.take j).filter (fun g => g.1 != c) ++ (if x.1 != c then [x] else []) from by
        have e : X.take (j + 1) = X.take j ++ [X.getD j default] := by rw [List.take_succ_eq_append_getElem (by rw [HP.out]; exact hjp)]; simp [List.getD, HP.out, hjp]
        rw [e, List.filter_append, ← hx]
        by_cases h : x.1 = c <;> simp [h])
      rw [← hx] at x0 x1
      clear hx
      by_cases hc : x.1 = c
      · have hc' : (x.1 != c) = false := by simp [hc]
        have hf2 := Lib.hid (show (X.take (j + 1)).filter (fun g => g.1 != c) = (X.take j).filter (fun g => g.1 != c) from by rw [hf.out, hc']; simp)
        clear hf hc
        go_wp2
        go_roundw
        case rel => exact ⟨j + 1, q, k, b, by omega, by omega, by go_num, rfl, Lib.hid (by rw [hf2.out]; exact K.out)⟩
        case measure => simp [intOf]; omega
      · have hc' : (x.1 != c) = true := by simp [hc]
        have hf2 := Lib.hid (show (X.take (j + 1)).filter (fun g => g.1 != c) = (X.take j).filter (fun g => g.1 != c) ++ [x] from by rw [hf.out, hc']; simp)
        obtain ⟨a', c', w6, hr6, hG⟩ := gpush K.out.2.1 K.out.1 (by have := few'.out; omega) x
        have HG := Lib.hid hG
        clear hf hc hG
        go_wp2_with (at_builtin; refine Lib.wpList_append_run _ rfl (.tmp 20) (.tmp 25) 26 26 rfl _ _ rfl rfl _ _ hr6.out ?_)
        go_roundw
        case rel =>
          have e1 := K.out.1
          have e2 := K.out.2.2.1
          have e3 := K.out.2.2.2
          have e4 := e3.size
          exact ⟨j + 1, q + 1, c', a', by omega, by omega, by go_num, rfl, Lib.hid ⟨by rw [hf2.out, List.length_append, e1]; rfl, by rw [hf2.out]; exact HG.out.row, fun g hg => by
            rcases HG.out.new g hg with h | h
            · exact e2 g h
            · omega, e3.then HG.out.only (fun g hg hlt => by have := e2 g hg; omega)⟩⟩
        case measure => simp [intOf]; omega
    · obtain rfl : j = p := by omega
      have hjj : ¬ (j : Int) < (j : Int) := by omega
      have e : X.take j = X := by rw [← HP.out]; exact List.take_length
      have HE := Lib.hid e
      clear hjp e
      go_wp2
      go_ret
      exact ⟨Lib.hid ⟨_, rfl, by have := K.out.2.1; rw [HE.out] at this; exact this, K.out.2.2.1⟩, K.out.2.2.2⟩
end Go.Proofs.Yteafdhpnkgebnaa.Me
